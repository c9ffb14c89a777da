import Derived.Test.YtfcgnpchbcmdeaaGreatZrar
import Derived.Test.YtfcgnpchbcmdeaaGreatZrax
namespace Go.Proofs.YtfcgnpchbcmdeaaGreat
set_option linter.all false
set_option maxRecDepth 100000
set_option maxHeartbeats 4000000
open Go.RowKit
def Zlp:ZgP:=λva wa vl vc wl wc vz wz w h1 h2 h3 h4=>Zif va wa vl vc wl wc vz wz w h1 h2 h3 h4
def Ky(wd:Bool)(nb nw:Nat):Nat:=if wd=true then nw else nb
def Wo a g d c f b h w:C_ 169 #[.agg #[.bool a,.slice g c f,.slice d b h]] w λe w'=>e=.returned (.int .i64 (Ky a c b:Nat))/\Below w.heap.size w w':=by
 cases a
 all_goals
  go_enter Tryz.func169,Tryz.ntmps169;go_wp2;go_ret;exact⟨rfl,bA_⟩
def Yw a i f c g b j w (h:Ky a c b<=1000000):C_ 191 #[.agg #[.bool a,.slice i c g,.slice f b j]] w λe w'=>e=.returned (.int .i64 ((Ky a c b:Nat)+1))/\Below w.heap.size w w':=by
 have l:=x1_ (λW=>Wo a i f c g b j W);generalize Ky a c b=n at *;go_enter Tryz.func191,Tryz.ntmps191;go_wp2_with fail
 refine(l _).mono ?_;rintro e m ⟨rfl,k⟩;have d:=bA_.trans (k.mono s_);go_wp2;go_ret;exact⟨rfl,d⟩
def Ji a i f c g b j w (h:Ky a c b<=1000000):C_ 146 #[.agg #[.bool a,.slice i c g,.slice f b j]] w λe w'=>e=.returned (.int .i64 ((Ky a c b:Nat)+2))/\Below w.heap.size w w':=by
 have l:=x1_ (λW=>Yw _ i f _ g _ j W h);generalize Ky a c b=n at *;go_enter Tryz.func146,Tryz.ntmps146;go_wp2_with fail
 refine(l _).mono ?_;rintro e m ⟨rfl,k⟩;have d:=bA_.trans (k.mono s_);go_wp2;go_ret;exact⟨by rw[Int.add_assoc];rfl,d⟩
def Bi:List VS->List Int->List (Int×Int)
 |[],_=>[]
 |_::_,[]=>[]
 |v::L,z::ws=>if v.miss=true then Bi L ws else(v.num,z)::Bi L ws
def Co(L:List VS)(ws:List Int)(bins:Int)(size:Nat):List Int:=Bx (Dl size ((Bi L ws).map Prod.fst) ((Bi L ws).map Prod.snd)) bins
def Iw:∀(L:List VS) (ws:List Int),(Bi L ws).length<=L.length
 |[],_=>by simp[Bi]
 |_::_,[]=>by simp[Bi]
 | v::L,z::ws=>by
  have:=Iw L ws
  grind [Bi]
def Qs:∀(L:List VS) (ws:List Int),∀p∈Bi L ws,(∃v∈L,v.num=p.1)/\p.2∈ws
 |[],_=>by simp[Bi]
 |_::_,[]=>by simp[Bi]
 | v::L,z::ws=>λp hp=>by
  have ih:=Qs L ws p
  grind [Bi]
def Tp:∀(A:List VS) (ws:List Int) (v:VS) (z:Int),A.length=ws.length->Bi (A++[v]) (ws++[z])=Bi A ws++(if v.miss=true then[] else[(v.num,z)])
 |[],[],v,z,_=>by simp only[Bi,List.nil_append]
 | a::A,y::ws,v,z,h=>by
  have ih:=Tp A _ v z (by simpa using h)
  grind [Bi]
 |[],y::ws,v,z,h=>by simp at h
 |a::A,[],v,z,h=>by simp at h
def lq(L:List VS){r}(h:r<L.length):L.take (r+1)=L.take r++[L.getD r Ax]:=by grind [Qi]
def ZdR(L:List Int){r}(h:r<L.length):L.take (r+1)=L.take r++[L.getD r 0]:=by grind [Qi]
def Zi3{z}(b: -1000000000000<=z)(a:z<=1000000000000):(Lit.int .i64 z).wf=true:=by simp[Lit.wf,IntKind.min,IntKind.max,IntKind.bits,IntKind.signed];omega
theorem Ag.seen{w d v b}(h:Ag w d v b)(f:∀z∈b,-1000000000000<=z/\z<=1000000000000):∃a c,v=.slice a b.length c/\Cq w a b.length b/\b.length<=c/\(a=none->c=0):=by
 have j:=h
 rcases h.2 with⟨rfl,h0⟩|⟨g,cap,cur,rfl,_,hh,hnc,_⟩
 exact⟨none,0,by rw[h0],⟨rfl,λz hz=>Zi3 (f z hz).1 (f z hz).2,.inl h0⟩,o_,λ_=>rfl⟩;refine⟨_,cap,rfl,⟨rfl,λz hz=>Zi3 (f z hz).1 (f z hz).2,.inr ⟨g,0,rfl,(Qb hh).1,λi hi=>?_⟩⟩,hnc,λe=>by cases e⟩;rw[Nat.zero_add,World.ownsRow.cellAt j i o_]
 grind
def Zmg(w:World)(base:Nat)(v:Value)(bs:List Int):Prop:=∃vb,v=.agg #[.bool false,vb,.slice none 0 0]/\Ag w base vb bs
def Ag.mono{w b b' v L}(h:Ag w b' v L)(f:b<=b'):Ag w b v L:=by
 refine⟨h.1,?_⟩
 rcases h.2 with i|⟨g,a,c,e,d,r⟩
 exact .inl i;exact .inr ⟨g,a,c,e,Nat.le_trans f d,r⟩
def As{w:World}{base ty size n b j ty':Nat}{v u xs cur}(h:w.ownsRow base ty size v n xs)(hb:w.heap[b]? =some (.cells cur ty' (0,0)))(hne:ty≠ty'):(w.setCell (A_ b j) u).ownsRow base ty size v n xs:=
 ((Aa.refl (λk=>k=b) w).setCell (p:=(A_ b j)) (λ_=>rfl) u).row h (λ_ hk e=>Au h hk hb hne e)
def Th{size}(hs:2<=size)(hs2:size<=32):∀f Ls vs ws,Fo Ls->Bh Ls+1000*vs.length<=1000000000000->vs.length<=2097152->Fo (Dk size f Ls vs ws)/\Bh (Dk size f Ls vs ws)<=Bh Ls+1000*vs.length
 |0,Ls,vs,ws,h,ht,hl=>⟨h,by simp only[Dk];omega⟩
 | f+1,Ls,vs,ws,h,ht,hl=>by
  simp only[Dk];split
  ·grind
  have h1:=du (vs:=vs.take size) (ws:=ws.take size) t_;have hp:=Eh h.good;have hlen:(vs.take size).length+(vs.drop size).length=vs.length:=t_;have hlt:(vs.take size).length<=size:=t_;obtain⟨t1,t2⟩:=Rx (size:=(size:Int)) o_ o_ h h1.1 o_ o_;obtain⟨i1,i2⟩:=Th hs hs2 f _ (vs.drop size) (ws.drop size) t1 o_ o_
  grind
def il{size}(hs:2<=size)(hs2:size<=32):∀Ls al,Fo Ls->Bq al->al.length<=32->Ae al+Bh Ls<=1000000000000->Bq (Ff size al Ls)/\(Ff size al Ls).length<=32
 |[],al,h,g,hl,ht=>⟨g,hl⟩
 |l::r,al,h,g,hl,ht=>by have gl:=h.good l s_;have hr:Fo r:=⟨λx hx=>h.good x (by simp[hx]),λx hx=>h.len x (by simp[hx])⟩;have p1:=Eh hr.good;simp only[Bh] at ht;have gj:=Gb g gl o_;have lc:=Ia (Bp al l) hs;have tc:Ae (Do (Bp al l) size)=Ae al+Ae l:=(by rw[Fm,Er]);simp only[Ff];exact il hs hs2 r _ hr (gj.sub (Hf gj _)) o_ o_
def Qp{a}(g:2<=a)(c:a<=32) b d (h:b.length<=2097152):Bq (Dl a b d)/\(Dl a b d).length<=32:=by obtain⟨e,f⟩:=Th g c b.length [] b d Fo.nil (by simp[Bh];omega) h;exact il o_ o_ _ _ e Bq.nil s_ (by simp[Ae,Bh] at f ⊢;omega)
def Zr va wa (n y a3 d:Nat) f L b w (hv:Iq w 0 (.slice va n y) L)(hw:Cq w wa n b)(hL:L.length=n)(hn:n<=200)(hr:∀v∈L,-1000000000<=v.num/\v.num<=1000000000)(X:∀z∈b,0<=z/\z<=99)(hs:2<=d)(aB:d<=32)(aL:2<=f)(aQ:f<=16):C_ 217 #[.slice va n y,.slice wa n a3,.int .i64 f,.int .i64 d] w λe w'=>∃v,e=.returned v/\Zmg w' w.heap.size v (Co L b f d)/\Below w.heap.size w w':=by
 have HV:=x1_ hv;have HW:=x1_ hw;have r:=x2_ hL hw.1;have HR:=x2_ hr X;clear hv hw hL hr X;go_enter Tryz.func217,Tryz.ntmps217;go_wp2_with fail
 go_loopw [15,9,10] (λti tn tw wr=>∃k:Nat,ti=.int .i64 k/\k<=n/\Hid (Ag wr (w.heap.size+1) tn ((Bi (L.take k) (b.take k)).map Prod.fst)/\Ag wr (w.heap.size+1) tw ((Bi (L.take k) (b.take k)).map Prod.snd)/\Ch tn tw)/\Below (w.heap.size+1) (w.alloc (.cells #[.bool false,.slice none 0 0,.slice none 0 0] 170)) wr) (λti _ _ _=>n-(intOf ti).toNat)
 case atStart=>exact⟨0,rfl,qg_,⟨Ag.nil _ _,Ag.nil _ _,.inl rfl⟩,bz_⟩
 case round=>
  obtain⟨k,rfl,hk,o,g⟩:=hrel;have aM:=g.size;simp at aM
  by_cases hkn:k<n
  ·have a7:k<L.length:=(by rw[r.1];exact hkn);obtain⟨q,rfl,B,c0,c1,c2⟩:=HV.at a7;rcases HW.out with⟨_,_,h0|⟨b2,o2,rfl,hb2',hc2⟩⟩;omega;have s:=bA_.trans (g.mono o_);have a0:=(s.cell (p:=(A_ q (k*3))) B).trans c0;have a1:=(s.cell (p:=(A_ q (k*3+1))) B).trans c1;have a2:=(s.cell (p:=(A_ q (k*3+2))) B).trans c2;have d1:=(s.cell (p:=(A_ b2 (o2+k))) hb2').trans (hc2 k hkn);have aK:k<b.length:=o_;have j:=Tp (L.take k) (b.take k) (L.getD k Ax) (b.getD k 0) w_;rw[<- lq L a7,<- ZdR b aK] at j;have G:=Iw (L.take k) (b.take k);have aS:(Bi (L.take k) (b.take k)).length<=200:=w_;clear G hc2 c0 c1 c2;generalize L.getD k Ax=x,b.getD k 0=z at *;obtain⟨xm,u,xw⟩:=x;simp only at a0 a1 a2 j
   have aX:0<=(k:Int):=o_;have aU:k<(n:Int):=o_
   cases xm with
   | true=>
    have F:Hid (Bi (L.take (k+1)) (b.take (k+1))=Bi (L.take k) (b.take k)):=(by show _=_;rw[j];simp);clear j;have a5:=o.1.alloc (.cells #[.bool true,I_ u,.string xw] 308);have a4:=o.2.1.alloc (.cells #[.bool true,I_ u,.string xw] 308);have W:Hid (Ag (wr.alloc (.cells #[.bool true,I_ u,.string xw] 308)) (w.heap.size+1) u9 ((Bi (L.take (k+1)) (b.take (k+1))).map Prod.fst)/\Ag (wr.alloc (.cells #[.bool true,I_ u,.string xw] 308)) (w.heap.size+1) u10 ((Bi (L.take (k+1)) (b.take (k+1))).map Prod.snd)/\Ch u9 u10):=(by rw[F];exact⟨a5,a4,o.2.2⟩);clear a5 a4 o;refine rd_ ?_;exact⟨k+1,g_,o_,W,g.trans (bz_.alloc o_ _)⟩
   | false=>
    have F:Hid (Bi (L.take (k+1)) (b.take (k+1))=Bi (L.take k) (b.take k)++[(u,z)]):=(by show _=_;rw[j];simp);clear j;generalize Bi (L.take k) (b.take k)=out at *;have T:=x1_ o.1;have J:=x1_ o.2.1;have R:=x1_ o.2.2;clear o;go_wp2_with (at_builtin;refine Bu rfl (.tmp 23) _ rfl _ _ _ u rfl ((T.alloc _).alloc _) _ 1 rfl ?_ ?_ ?_ ?_)
    ·simp[go_sem]
    simp;omega;simp;omega;intro v3 w3 H3;have t:=H3.2.1;have aI:=t.size;simp at aI;have N:=x1_ H3.1;have S:=x1_ (Ag.kept ((J.alloc _).alloc _) t R.keeps)
    have l:=x1_ (Ch.moved R ((J.alloc (.cells #[.bool false,I_ u,.string xw] 308)).alloc (.cells #[I_ u] 3)) (by
     rcases H3.out.2.2 with e|e
     exact .inl e
     exact .inr (by simpa using e.1)))
    have aF:=((bz_.alloc o_ _).alloc t_ _).grown t t_ (λk hk=>(T.lt k hk).1);have d3:=(aF.cell (p:=(A_ b2 (o2+k))) (by show b2<_;omega)).trans d1;clear H3 t T J R d1 a0 a1 a2;go_wp2_with (at_builtin;refine Bu rfl (.tmp 28) _ rfl _ _ _ z rfl (S.alloc _) _ 1 rfl ?_ ?_ ?_ ?_)
    ·simp[go_sem]
    simp;omega;simp;omega;intro v5 w5 H5;have U:=H5.2.1
    have W:Hid (Ag w5 (w.heap.size+1) v3 ((Bi (L.take (k+1)) (b.take (k+1))).map Prod.fst)/\Ag w5 (w.heap.size+1) v5 ((Bi (L.take (k+1)) (b.take (k+1))).map Prod.snd)/\Ch v3 v5):=by
     rw[F];simp only[List.map_append,List.map_cons,List.map_nil];refine⟨Ag.kept (N.alloc _) U l.symm.keeps,H5.1,?_⟩
     exact(Ch.moved l.symm (N.alloc (.cells #[I_ z] 3)) (by
      rcases H5.out.2.2 with e|e
      exact .inl e
      exact .inr (by simpa using e.1))).symm
    have aJ:=(bz_.alloc o_ _).grown U t_ (λk hk=>(S.lt k hk).1);clear H5 U N S l d3;refine rd_ ?_;exact⟨k+1,g_,o_,W,g.trans (aF.trans aJ)⟩
  have aV:¬k<(n:Int):=o_;have m:Bi (L.take k) (b.take k)=Bi L b:=(by rw[List.take_of_length_le (by have:=r.out;omega),List.take_of_length_le (by have:=r.out;omega)]);rw[m] at o;have G:=Iw L b;rw[r.1] at G;obtain⟨aC,Y,_⟩:=o
  obtain⟨a1,c1,rfl,V,E,_⟩:=aC.seen (λz X=>by
   obtain⟨p,hp,rfl⟩:=List.mem_map.1 X;obtain⟨⟨v,hv,e⟩,_⟩:=Qs L b p hp
   have:=HR.1 v hv;omega)
  obtain⟨a2,c2,rfl,D,O,_⟩:=Y.seen (λz X=>by
   obtain⟨p,hp,rfl⟩:=List.mem_map.1 X;obtain⟨_,h⟩:=Qs L b p hp
   have:=HR.2 _ h;omega)
  have aA:((Bi L b).map Prod.fst).length=(Bi L b).length:=s_;have aE:((Bi L b).map Prod.snd).length=(Bi L b).length:=s_;rw[aA] at V E ⊢;rw[aE] at D O ⊢;have aH:=x1_ (yn Zlp _ _ _ _ _ _ _ _ _ V D o_ E O hs aB);have H:=Qp hs aB ((Bi L b).map Prod.fst) ((Bi L b).map Prod.snd) t_;have M:Hid (_/\_/\Co L b f d=Bx _ _):=⟨H.1,H.2,rfl⟩;clear aC Y V D E O aA aE m H;generalize Dl d ((Bi L b).map Prod.fst) ((Bi L b).map Prod.snd)=I,(Bi L b).length=nk at *;have aP:wr.cell? _=some (.bool false):=(g.cell (p:=(A_ w.heap.size 0)) w_).trans (by simp[go_sem]);go_wp2_with fail
  refine aH.mono ?_;rintro e w1 ⟨vj,rfl,a6,C⟩;have aW:=C.size;obtain⟨aj,cj,rfl,Z,aO,aG⟩:=a6.seen (by have:=M.2.1;omega);have a9:=x1_ (ZcC _ I _ _ _ Z M.1 aG aL aQ);clear a6 Z aO aG aH;generalize I.length=nI at *;go_wp2_with fail
  refine a9.mono ?_;rintro e w2 ⟨vb,rfl,aD,P⟩;have aT:=P.size;have A:=(C.mono o_).trans (P.mono o_);have W:Hid (Ag w2 w.heap.size vb (Co L b f d)):=(by rw[M.2.2];exact aD.mono o_);have a8:=bA_.trans ((g.trans A).mono o_);have i:=((g.trans A).block _ o_).trans hn_
  obtain⟨ab,cb,aN⟩:∃a c,vb=.slice a (Co L b f d).length c:=by
   rcases W.out.2 with⟨rfl,h0⟩|⟨q,p,cur,rfl,_⟩
   ·grind
   grind
  subst aN;have e0:=cR_ 0 i;have e1:=cR_ 1 i;have e2:=cR_ 2 i;have f0:=fq_ 0 _ _ i;have f1:=fq_ 1 _ _ i;have f2:=fq_ 2 _ _ i;have Q:=x1_ i;have aR:=x1_ a8;clear aD P C a9 aP i a8;generalize (Co L b f d).length=nb at *;go_wp2;refine bodyPost_ret (v:=.agg #[.bool false,.slice ab nb cb,.slice none 0 0]) (by simp[results,Tryz.results217,go_sem, *]) rfl ?_;refine⟨_,rfl,⟨_,rfl,?_⟩,?_⟩;exact((As (As (As W Q d_) (by exact ht_ _ _ _ _ Q) d_) (by exact ht_ _ _ _ _ (ht_ _ _ _ _ Q)) d_));exact((aR.setCell qa_ _).setCell qa_ _).setCell qa_ _
end Go.Proofs.YtfcgnpchbcmdeaaGreat
