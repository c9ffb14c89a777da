import Derived.Test.YtfcgnpchbcmdeaaGreatZrar
import Derived.Test.YtfcgnpchbcmdeaaGreatZrax
namespace Go.Proofs.YtfcgnpchbcmdeaaGreat
set_option linter.all false
set_option maxRecDepth 100000
set_option maxHeartbeats 4000000
open Go.RowKit
def Zlk:ZgO:=λva wa vl vc wl wc vz wz w h1 h2 h3 h4=>Zid va wa vl vc wl wc vz wz w h1 h2 h3 h4
def La(wd:Bool)(nb nw:Nat):Nat:=if wd=true then nw else nb
def Wo a g d c f b h w:C_ 169 #[.agg #[.bool a,.slice g c f,.slice d b h]] w λe w'=>e=.returned (.int .i64 (La a c b:Nat))/\Below w.heap.size w w':=by
 cases a
 all_goals
  go_enter Tryz.func169,Tryz.ntmps169;go_wp2;go_ret;exact⟨rfl,bA_⟩
def Yv b i f c g a j w (h:La b c a<=1000000):C_ 191 #[.agg #[.bool b,.slice i c g,.slice f a j]] w λe w'=>e=.returned (.int .i64 ((La b c a:Nat)+1))/\Below w.heap.size w w':=by
 have k:=x1_ (λW=>Wo b i f c g a j W);generalize La b c a=n at *;go_enter Tryz.func191,Tryz.ntmps191;go_wp2_with fail
 refine(k _).mono ?_;rintro e m ⟨rfl,l⟩;have d:=bA_.trans (l.mono s_);go_wp2;go_ret;exact⟨rfl,d⟩
def Jk b i f c g a j w (h:La b c a<=1000000):C_ 146 #[.agg #[.bool b,.slice i c g,.slice f a j]] w λe w'=>e=.returned (.int .i64 ((La b c a:Nat)+2))/\Below w.heap.size w w':=by
 have k:=x1_ (λW=>Yv _ i f _ g _ j W h);generalize La b c a=n at *;go_enter Tryz.func146,Tryz.ntmps146;go_wp2_with fail
 refine(k _).mono ?_;rintro e m ⟨rfl,l⟩;have d:=bA_.trans (l.mono s_);go_wp2;go_ret;exact⟨by rw[Int.add_assoc];rfl,d⟩
def Bi:List VS->List Int->List (Int×Int)
 |[],_=>[]
 |_::_,[]=>[]
 |v::L,z::ws=>if v.miss=true then Bi L ws else(v.num,z)::Bi L ws
def Co(L:List VS)(ws:List Int)(bins:Int)(size:Nat):List Int:=Bx (Dm size ((Bi L ws).map Prod.fst) ((Bi L ws).map Prod.snd)) bins
def Ix:∀(L:List VS) (ws:List Int),(Bi L ws).length<=L.length
 |[],_=>by simp[Bi]
 |_::_,[]=>by simp[Bi]
 | v::L,z::ws=>by
  have:=Ix L ws
  grind [Bi]
def Qs:∀(L:List VS) (ws:List Int),∀p∈Bi L ws,(∃v∈L,v.num=p.1)/\p.2∈ws
 |[],_=>by simp[Bi]
 |_::_,[]=>by simp[Bi]
 | v::L,z::ws=>λp hp=>by
  have ih:=Qs L ws p
  grind [Bi]
def Ts:∀(A:List VS) (ws:List Int) (v:VS) (z:Int),A.length=ws.length->Bi (A++[v]) (ws++[z])=Bi A ws++(if v.miss=true then[] else[(v.num,z)])
 |[],[],v,z,_=>by simp only[Bi,List.nil_append]
 | a::A,y::ws,v,z,h=>by
  have ih:=Ts A _ v z (by simpa using h)
  grind [Bi]
 |[],y::ws,v,z,h=>by simp at h
 |a::A,[],v,z,h=>by simp at h
def lp(L:List VS){r}(h:r<L.length):L.take (r+1)=L.take r++[L.getD r Ax]:=by grind [Qi]
def ZdR(L:List Int){r}(h:r<L.length):L.take (r+1)=L.take r++[L.getD r 0]:=by grind [Qi]
def Zi1{z}(b: -1000000000000<=z)(a:z<=1000000000000):(Lit.int .i64 z).wf=true:=by simp[Lit.wf,IntKind.min,IntKind.max,IntKind.bits,IntKind.signed];omega
def Ag.seen{w d v b}(h:Ag w d v b)(f:∀z∈b,-1000000000000<=z/\z<=1000000000000):∃a c,v=.slice a b.length c/\Cq w a b.length b/\b.length<=c/\(a=none->c=0):=by
 have j:=h
 rcases h.2 with⟨rfl,h0⟩|⟨g,cap,cur,rfl,_,hh,hnc,_⟩
 exact⟨none,0,by rw[h0],⟨rfl,λz hz=>Zi1 (f z hz).1 (f z hz).2,.inl h0⟩,o_,λ_=>rfl⟩;refine⟨_,cap,rfl,⟨rfl,λz hz=>Zi1 (f z hz).1 (f z hz).2,.inr ⟨g,0,rfl,(Qb hh).1,λi hi=>?_⟩⟩,hnc,λe=>by cases e⟩;rw[Nat.zero_add,World.ownsRow.cellAt j i o_]
 grind
def Zma(w:World)(base:Nat)(v:Value)(bs:List Int):Prop:=∃vb,v=.agg #[.bool false,vb,.slice none 0 0]/\Ag w base vb bs
def Ag.mono{w b b' v L}(h:Ag w b' v L)(d:b<=b'):Ag w b v L:=by
 refine⟨h.1,?_⟩
 rcases h.2 with i|⟨g,c,a,e,f,r⟩
 exact .inl i;exact .inr ⟨g,c,a,e,Nat.le_trans d f,r⟩
def As{w:World}{base ty size n b j ty':Nat}{v u xs cur}(h:w.ownsRow base ty size v n xs)(hb:w.heap[b]? =some (.cells cur ty' (0,0)))(hne:ty≠ty'):(w.setCell (A_ b j) u).ownsRow base ty size v n xs:=
 ((Aa.refl (λk=>k=b) w).setCell (p:=(A_ b j)) (λ_=>rfl) u).row h (λ_ hk e=>Au h hk hb hne e)
def Tj{size}(hs:2<=size)(hs2:size<=32):∀f Ls vs ws,Fo Ls->Bh Ls+1000*vs.length<=1000000000000->vs.length<=2097152->Fo (Dl size f Ls vs ws)/\Bh (Dl size f Ls vs ws)<=Bh Ls+1000*vs.length
 |0,Ls,vs,ws,h,ht,hl=>⟨h,by simp only[Dl];omega⟩
 | f+1,Ls,vs,ws,h,ht,hl=>by
  simp only[Dl];split
  ·grind
  have h1:=dj (vs:=vs.take size) (ws:=ws.take size) t_;have hp:=Eh h.good;have hlen:(vs.take size).length+(vs.drop size).length=vs.length:=t_;have hlt:(vs.take size).length<=size:=t_;obtain⟨t1,t2⟩:=Rz (size:=(size:Int)) o_ o_ h h1.1 o_ o_;obtain⟨i1,i2⟩:=Tj hs hs2 f _ (vs.drop size) (ws.drop size) t1 o_ o_
  grind
def ij{size}(hs:2<=size)(hs2:size<=32):∀Ls al,Fo Ls->Bo al->al.length<=32->Ae al+Bh Ls<=1000000000000->Bo (Ff size al Ls)/\(Ff size al Ls).length<=32
 |[],al,h,g,hl,ht=>⟨g,hl⟩
 |l::r,al,h,g,hl,ht=>by have gl:=h.good l s_;have hr:Fo r:=⟨λx hx=>h.good x (by simp[hx]),λx hx=>h.len x (by simp[hx])⟩;have p1:=Eh hr.good;simp only[Bh] at ht;have gj:=Gb g gl o_;have lc:=Ia (Bq al l) hs;have tc:Ae (Dp (Bq al l) size)=Ae al+Ae l:=(by rw[Fm,Er]);simp only[Ff];exact ij hs hs2 r _ hr (gj.sub (Hf gj _)) o_ o_
def Qp{a}(h:2<=a)(d:a<=32) b c (g:b.length<=2097152):Bo (Dm a b c)/\(Dm a b c).length<=32:=by obtain⟨e,f⟩:=Tj h d b.length [] b c Fo.nil (by simp[Bh];omega) g;exact ij o_ o_ _ _ e Bo.nil s_ (by simp[Ae,Bh] at f ⊢;omega)
def Zq va wa (n u Z d:Nat) f L b w (hv:Ir w 0 (.slice va n u) L)(hw:Cq w wa n b)(hL:L.length=n)(hn:n<=200)(hr:∀v∈L,-1000000000<=v.num/\v.num<=1000000000)(X:∀z∈b,0<=z/\z<=99)(hs:2<=d)(aC:d<=32)(aQ:2<=f)(aL:f<=16):C_ 217 #[.slice va n u,.slice wa n Z,.int .i64 f,.int .i64 d] w λe w'=>∃v,e=.returned v/\Zma w' w.heap.size v (Co L b f d)/\Below w.heap.size w w':=by
 have HV:=x1_ hv;have HW:=x1_ hw;have t:=x2_ hL hw.1;have HR:=x2_ hr X;clear hv hw hL hr X;go_enter Tryz.func217,Tryz.ntmps217;go_wp2_with fail
 go_loopw [15,9,10] (λti tn tw wr=>∃k:Nat,ti=.int .i64 k/\k<=n/\Hid (Ag wr (w.heap.size+1) tn ((Bi (L.take k) (b.take k)).map Prod.fst)/\Ag wr (w.heap.size+1) tw ((Bi (L.take k) (b.take k)).map Prod.snd)/\Ch tn tw)/\Below (w.heap.size+1) (w.alloc (.cells #[.bool false,.slice none 0 0,.slice none 0 0] 170)) wr) (λti _ _ _=>n-(intOf ti).toNat)
 case atStart=>exact⟨0,rfl,qg_,⟨Ag.nil _ _,Ag.nil _ _,.inl rfl⟩,bz_⟩
 case round=>
  obtain⟨k,rfl,hk,o,g⟩:=hrel;have aN:=g.size;simp at aN
  by_cases hkn:k<n
  ·have aB:k<L.length:=(by rw[t.1];exact hkn);obtain⟨q,rfl,E,c0,c1,c2⟩:=HV.at aB;rcases HW.out with⟨_,_,h0|⟨b2,o2,rfl,hb2',hc2⟩⟩;omega;have s:=bA_.trans (g.mono o_);have a0:=(s.cell (p:=(A_ q (k*3))) E).trans c0;have a1:=(s.cell (p:=(A_ q (k*3+1))) E).trans c1;have a2:=(s.cell (p:=(A_ q (k*3+2))) E).trans c2;have d1:=(s.cell (p:=(A_ b2 (o2+k))) hb2').trans (hc2 k hkn);have aJ:k<b.length:=o_;have j:=Ts (L.take k) (b.take k) (L.getD k Ax) (b.getD k 0) w_;rw[<- lp L aB,<- ZdR b aJ] at j;have C:=Ix (L.take k) (b.take k);have aT:(Bi (L.take k) (b.take k)).length<=200:=w_;clear C hc2 c0 c1 c2;generalize L.getD k Ax=x,b.getD k 0=z at *;obtain⟨xm,y,xw⟩:=x;simp only at a0 a1 a2 j
   have aV:0<=(k:Int):=o_;have aU:k<(n:Int):=o_
   cases xm with
   | true=>
    have B:Hid (Bi (L.take (k+1)) (b.take (k+1))=Bi (L.take k) (b.take k)):=(by show _=_;rw[j];simp);clear j;have aH:=o.1.alloc (.cells #[.bool true,I_ y,.string xw] 308);have aD:=o.2.1.alloc (.cells #[.bool true,I_ y,.string xw] 308);have W:Hid (Ag (wr.alloc (.cells #[.bool true,I_ y,.string xw] 308)) (w.heap.size+1) u9 ((Bi (L.take (k+1)) (b.take (k+1))).map Prod.fst)/\Ag (wr.alloc (.cells #[.bool true,I_ y,.string xw] 308)) (w.heap.size+1) u10 ((Bi (L.take (k+1)) (b.take (k+1))).map Prod.snd)/\Ch u9 u10):=(by rw[B];exact⟨aH,aD,o.2.2⟩);clear aH aD o;refine rd_ ?_;exact⟨k+1,g_,o_,W,g.trans (bz_.alloc o_ _)⟩
   | false=>
    have B:Hid (Bi (L.take (k+1)) (b.take (k+1))=Bi (L.take k) (b.take k)++[(y,z)]):=(by show _=_;rw[j];simp);clear j;generalize Bi (L.take k) (b.take k)=out at *;have U:=x1_ o.1;have O:=x1_ o.2.1;have P:=x1_ o.2.2;clear o;go_wp2_with (at_builtin;refine Bu rfl (.tmp 23) _ rfl _ _ _ y rfl ((U.alloc _).alloc _) _ 1 rfl ?_ ?_ ?_ ?_)
    ·simp[go_sem]
    simp;omega;simp;omega;intro v3 w3 H3;have r:=H3.2.1;have aG:=r.size;simp at aG;have Q:=x1_ H3.1;have V:=x1_ (Ag.kept ((O.alloc _).alloc _) r P.keeps)
    have l:=x1_ (Ch.moved P ((O.alloc (.cells #[.bool false,I_ y,.string xw] 308)).alloc (.cells #[I_ y] 3)) (by
     rcases H3.out.2.2 with e|e
     exact .inl e
     exact .inr (by simpa using e.1)))
    have a3:=((bz_.alloc o_ _).alloc t_ _).grown r t_ (λk hk=>(U.lt k hk).1);have d3:=(a3.cell (p:=(A_ b2 (o2+k))) (by show b2<_;omega)).trans d1;clear H3 r U O P d1 a0 a1 a2;go_wp2_with (at_builtin;refine Bu rfl (.tmp 28) _ rfl _ _ _ z rfl (V.alloc _) _ 1 rfl ?_ ?_ ?_ ?_)
    ·simp[go_sem]
    simp;omega;simp;omega;intro v5 w5 H5;have J:=H5.2.1
    have W:Hid (Ag w5 (w.heap.size+1) v3 ((Bi (L.take (k+1)) (b.take (k+1))).map Prod.fst)/\Ag w5 (w.heap.size+1) v5 ((Bi (L.take (k+1)) (b.take (k+1))).map Prod.snd)/\Ch v3 v5):=by
     rw[B];simp only[List.map_append,List.map_cons,List.map_nil];refine⟨Ag.kept (Q.alloc _) J l.symm.keeps,H5.1,?_⟩
     exact(Ch.moved l.symm (Q.alloc (.cells #[I_ z] 3)) (by
      rcases H5.out.2.2 with e|e
      exact .inl e
      exact .inr (by simpa using e.1))).symm
    have aO:=(bz_.alloc o_ _).grown J t_ (λk hk=>(V.lt k hk).1);clear H5 J Q V l d3;refine rd_ ?_;exact⟨k+1,g_,o_,W,g.trans (a3.trans aO)⟩
  have aX:¬k<(n:Int):=o_;have m:Bi (L.take k) (b.take k)=Bi L b:=(by rw[List.take_of_length_le (by have:=t.out;omega),List.take_of_length_le (by have:=t.out;omega)]);rw[m] at o;have C:=Ix L b;rw[t.1] at C;obtain⟨aI,aF,_⟩:=o
  obtain⟨a1,c1,rfl,N,D,_⟩:=aI.seen (λz X=>by
   obtain⟨p,hp,rfl⟩:=List.mem_map.1 X;obtain⟨⟨v,hv,e⟩,_⟩:=Qs L b p hp
   have:=HR.1 v hv;omega)
  obtain⟨a2,c2,rfl,G,S,_⟩:=aF.seen (λz X=>by
   obtain⟨p,hp,rfl⟩:=List.mem_map.1 X;obtain⟨_,h⟩:=Qs L b p hp
   have:=HR.2 _ h;omega)
  have a6:((Bi L b).map Prod.fst).length=(Bi L b).length:=s_;have a9:((Bi L b).map Prod.snd).length=(Bi L b).length:=s_;rw[a6] at N D ⊢;rw[a9] at G S ⊢;have a4:=x1_ (ym Zlk _ _ _ _ _ _ _ _ _ N G o_ D S hs aC);have R:=Qp hs aC ((Bi L b).map Prod.fst) ((Bi L b).map Prod.snd) t_;have F:Hid (_/\_/\Co L b f d=Bx _ _):=⟨R.1,R.2,rfl⟩;clear aI aF N G D S a6 a9 m R;generalize Dm d ((Bi L b).map Prod.fst) ((Bi L b).map Prod.snd)=I,(Bi L b).length=nk at *;have aP:wr.cell? _=some (.bool false):=(g.cell (p:=(A_ w.heap.size 0)) w_).trans (by simp[go_sem]);go_wp2_with fail
  refine a4.mono ?_;rintro e w1 ⟨vj,rfl,aA,H⟩;have aW:=H.size;obtain⟨aj,cj,rfl,a7,aR,aE⟩:=aA.seen (by have:=F.2.1;omega);have Y:=x1_ (ZcC _ I _ _ _ a7 F.1 aE aQ aL);clear aA a7 aR aE a4;generalize I.length=nI at *;go_wp2_with fail
  refine Y.mono ?_;rintro e w2 ⟨vb,rfl,a8,M⟩;have aS:=M.size;have A:=(H.mono o_).trans (M.mono o_);have W:Hid (Ag w2 w.heap.size vb (Co L b f d)):=(by rw[F.2.2];exact a8.mono o_);have a5:=bA_.trans ((g.trans A).mono o_);have i:=((g.trans A).block _ o_).trans hn_
  obtain⟨ab,cb,aM⟩:∃a c,vb=.slice a (Co L b f d).length c:=by
   rcases W.out.2 with⟨rfl,h0⟩|⟨q,p,cur,rfl,_⟩
   ·grind
   grind
  subst aM;have e0:=cR_ 0 i;have e1:=cR_ 1 i;have e2:=cR_ 2 i;have f0:=fq_ 0 _ _ i;have f1:=fq_ 1 _ _ i;have f2:=fq_ 2 _ _ i;have T:=x1_ i;have aK:=x1_ a5;clear a8 M H Y aP i a5;generalize (Co L b f d).length=nb at *;go_wp2;refine bodyPost_ret (v:=.agg #[.bool false,.slice ab nb cb,.slice none 0 0]) (by simp[results,Tryz.results217,go_sem, *]) rfl ?_;refine⟨_,rfl,⟨_,rfl,?_⟩,?_⟩;exact((As (As (As W T d_) (by exact ht_ _ _ _ _ T) d_) (by exact ht_ _ _ _ _ (ht_ _ _ _ _ T)) d_));exact((aK.setCell qa_ _).setCell qa_ _).setCell qa_ _
end Go.Proofs.YtfcgnpchbcmdeaaGreat
