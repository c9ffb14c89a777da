import Derived.Test.YtfcgnpchbcmdeaaGreatZrbj
import Derived.Test.YtfcgnpchbcmdeaaGreatZrbe
namespace Go.Proofs.YtfcgnpchbcmdeaaGreat
set_option linter.all false
set_option maxRecDepth 100000
set_option maxHeartbeats 8000000
open Go.RowKit
def Bn(L:List (Int×List VS))(i:Nat):List VS:=L.map (λr=>r.2.getD i Ax)
def Fr(L:List (Int×List VS)):List Int:=L.map Prod.fst
def Yj(L:List (Int×List VS)):Prop:=∀r∈L,(1<=r.1/\r.1<=99)/\∀v∈r.2,(-1000000000<=v.num/\v.num<=1000000000)/\v.word.size<=8
def Zdc{L:List (Int×List VS)}{r i}(h:r<L.length):Bi (Bn (L.take (r+1)) i) (Fr (L.take (r+1)))=Bi (Bn (L.take r) i) (Fr (L.take r))++(if((L.getD r Sf).2.getD i Ax).miss=true then[] else[(((L.getD r Sf).2.getD i Ax).num,(L.getD r Sf).1)]):=by have e:L.getD r Sf=L[r]:=w_;unfold Bn Fr;rw[Qi h,List.map_append,List.map_append,e];exact Tp _ _ _ _ s_
def ZjL{l:List VS}{i}{Q:VS->Prop}(h:∀v∈l,Q v)(a:Q Ax):Q (l.getD i Ax):=w_
def ZjD{L}(h:Yj L) i:∀v∈Bn L i,(-1000000000<=v.num/\v.num<=1000000000)/\v.word.size<=8:=λv hv=>by obtain⟨r,hr,rfl⟩:=List.mem_map.1 hv;exact ZjL (Q:=λv=>(-1000000000<=v.num/\v.num<=1000000000)/\v.word.size<=8) (h r hr).2 d_
def Zlz{L}(h:Yj L):∀z∈Fr L,1<=z/\z<=99:=λz hz=>by obtain⟨r,hr,rfl⟩:=List.mem_map.1 hz;exact(h r hr).1
def Aa.set4 w b x0 x1 x2 x3:Aa (λk=>k=b) w ((((w.setCell (A_ b 0) x0).setCell (A_ b 1) x1).setCell (A_ b 2) x2).setCell (A_ b 3) x3):=
 ((((Aa.refl (λk=>k=b) w).setCell (p:=(A_ b 0)) (λ_=>rfl) _).setCell (p:=(A_ b 1)) (λ_=>rfl) _).setCell (p:=(A_ b 2)) (λ_=>rfl) _).setCell (p:=(A_ b 3)) (λ_=>rfl) _
def zn a (J nf c i b:Nat) f x3 vf nv cv L w (h:Sn w a J nf L)(hi:i<nf)(s:Yj L)(hn:J<=200)(hs:2<=b)(aG:b<=32)(aP:2<=f)(aL:f<=16):C_ 237 #[.agg #[.slice vf nv cv,.int .i64 f,.int .i64 b,.int .i64 x3],.slice a J c,.int .i64 i] w λe w'=>∃av cb,e=.returned (.agg #[.bool false,.slice av (Co (Bn L i) (Fr L) f b).length cb,.slice none 0 0,.int .i64 0])/\Ag w' w.heap.size (.slice av (Co (Bn L i) (Fr L) f b).length cb) (Co (Bn L i) (Fr L) f b)/\Below w.heap.size w w':=by
 have HV:=x1_ h;have aM:=x1_ s;obtain⟨B,hB⟩:=ez_ (Co (Bn L i) (Fr L) f b);rw[hB.out];obtain⟨H,u⟩:=ex_ ((w.alloc (.cells #[.slice vf nv cv,I_ f,I_ b,I_ x3] 37)).alloc (.cells #[.bool false,.slice none 0 0,.slice none 0 0,I_ 0] 227));have aH:E_ w H:=(by rw[u];exact bA_.alloc s_ _);have aR:w.heap.size+2<=H.heap.size:=by rw[u];simp
 have r1:H.heap[w.heap.size]? =some (.cells #[.slice vf nv cv,I_ f,I_ b,I_ x3] 37 (0,0)):=(by rw[u];exact(hc_ s_).trans hn_);have r2:H.heap[w.heap.size+1]? =some (.cells #[.bool false,.slice none 0 0,.slice none 0 0,I_ 0] 227 (0,0)):=by have e:=ha_ (w.alloc (.cells #[.slice vf nv cv,I_ f,I_ b,I_ x3] 37)) (.cells #[.bool false,.slice none 0 0,.slice none 0 0,I_ 0] 227);rw[show(w.alloc (.cells #[.slice vf nv cv,I_ f,I_ b,I_ x3] 37)).heap.size=w.heap.size+1 by simp,<- u] at e;exact e
 have A:=x3_ aH r1 r2;have a9:=x1_ u;clear h s u aH r1 r2;go_enter Tryz.func237,Tryz.ntmps237;go_upto_region 4 with fail;rw[<- a9];clear a9;go_loopw [7,8,9] (λtn tw ti wr=>∃r:Nat,ti=.int .i64 r/\r<=J/\Hid (Ag wr H.heap.size tn ((Bi (Bn (L.take r) i) (Fr (L.take r))).map Prod.fst)/\Ag wr H.heap.size tw ((Bi (Bn (L.take r) i) (Fr (L.take r))).map Prod.snd)/\Ch tn tw)/\E_ H wr) (λ_ _ ti _=>J-(intOf ti).toNat)
 case atStart=>exact⟨0,rfl,qg_,⟨Ag.nil _ _,Ag.nil _ _,.inl rfl⟩,bz_⟩
 case round=>
  obtain⟨k,rfl,Y,N,l⟩:=hrel;have aO:=l.size
  by_cases hkn:k<J
  ·have aK:k<L.length:=(by rw[HV.1];exact hkn);have aN:=A.1.trans (l.mono o_)
   rcases(HV.below aN).2 with h0|⟨q,rfl,hq⟩
   omega;obtain⟨a0,g,cc,a1,_,hC⟩:=hq k hkn;obtain⟨a2,a3,_⟩:=hC i hi;have y:=Zdc (i:=i) aK;have n:=Iw (Bn (L.take k) i) (Fr (L.take k));have aA:(Bi (Bn (L.take k) i) (Fr (L.take k))).length<=200:=(by unfold Bn at n ⊢;rw[List.length_map,List.length_take] at n;omega);clear n hq hC;generalize (L.getD k Sf).2.getD i Ax=x at *;generalize (L.getD k Sf).1=z at *;obtain⟨xm,xn,xw⟩:=x;simp only at a2 a3 y;have aW:0<=(k:Int):=o_;have aT:k<(J:Int):=o_;have aQ:0<=(i:Int):=o_;have aS:i<(nf:Int):=o_
   cases xm with
   | true=>
    have W:Hid (Bi (Bn (L.take (k+1)) i) (Fr (L.take (k+1)))=Bi (Bn (L.take k) i) (Fr (L.take k))):=(by show _=_;rw[y];simp);clear y;go_wp2;go_roundw;case rel=>exact⟨k+1,g_,o_,by rw[W];exact N,l⟩
    case measure=>exact z_
   | false=>
    have W:Hid (Bi (Bn (L.take (k+1)) i) (Fr (L.take (k+1)))=Bi (Bn (L.take k) i) (Fr (L.take k))++[(xn,z)]):=(by show _=_;rw[y];simp);clear y;generalize Bi (Bn (L.take k) i) (Fr (L.take k))=out at *;have P:=x1_ N.1;have Q:=x1_ N.2.1;have T:=x1_ N.2.2;clear N;go_wp2_with (at_builtin;refine Bu rfl (.tmp 26) _ rfl _ _ _ xn rfl (P.alloc _) _ 1 rfl ?_ ?_ ?_ ?_)
    omega;omega;intro v3 w3 H3;have G:=H3.2.1;have aC:=G.size;simp at aC;have O:=x1_ H3.1;have Z:=x1_ (Ag.kept (Q.alloc _) G T.keeps)
    have D:=x1_ (Ch.moved T (Q.alloc (.cells #[I_ xn] 3)) (by
     rcases H3.out.2.2 with e|e
     exact .inl e
     exact .inr (by simpa using e.1)))
    have aJ:=(bz_.alloc aO _).grown G t_ (λk Y=>(P.lt k Y).1)
    have d0:w3.cell? (A_ q (k*2))=some (I_ z):=by
     rcases HV.out.2 with h0|⟨q',e,hq⟩
     omega;injection e with e;injection e with e1;subst e1;have:=World.block_lt_of_cell? _ _ (hq k hkn).1;exact(aJ.cell (p:=(A_ q (k*2))) (by show q<_;simp at this;omega)).trans a0
    clear H3 G P Q T a0 a1 a2 a3;go_wp2_with (at_builtin;refine Bu rfl (.tmp 38) _ rfl _ _ _ z rfl (Z.alloc _) _ 1 rfl ?_ ?_ ?_ ?_)
    ·simp[go_sem]
    simp;omega;simp;omega;intro v5 w5 H5;have U:=H5.2.1
    have M:Hid (Ag w5 H.heap.size v3 ((Bi (Bn (L.take (k+1)) i) (Fr (L.take (k+1)))).map Prod.fst)/\Ag w5 H.heap.size v5 ((Bi (Bn (L.take (k+1)) i) (Fr (L.take (k+1)))).map Prod.snd)/\Ch v3 v5):=by
     rw[W];simp only[List.map_append,List.map_cons,List.map_nil];refine⟨Ag.kept (O.alloc _) U D.symm.keeps,H5.1,?_⟩
     exact(Ch.moved D.symm (O.alloc (.cells #[I_ z] 3)) (by
      rcases H5.out.2.2 with e|e
      exact .inl e
      exact .inr (by simpa using e.1))).symm
    have o:=(bz_.alloc o_ _).grown U t_ (λk Y=>(Z.lt k Y).1);clear H5 U O Z D d0;go_wp2;go_roundw;case rel=>exact⟨k+1,g_,o_,M,l.trans (aJ.trans o)⟩
    case measure=>exact z_
  have aU:¬k<(J:Int):=o_;have C:L.take k=L:=List.take_of_length_le (by have:=HV.1;omega);rw[C] at N;have n:=Iw (Bn L i) (Fr L);have aA:(Bi (Bn L i) (Fr L)).length<=200:=(by unfold Bn at n ⊢;rw[List.length_map,HV.1] at n;omega);obtain⟨aB,aE,_⟩:=N;have s:=aM.out
  obtain⟨a1,c1,rfl,a4,X,_⟩:=aB.seen (λz hz=>by
   obtain⟨p,hp,rfl⟩:=List.mem_map.1 hz;obtain⟨⟨v,hv,e⟩,_⟩:=Qs _ _ p hp
   have:=ZjD s i v hv;omega)
  obtain⟨a2,c2,rfl,V,S,_⟩:=aE.seen (λz hz=>by
   obtain⟨p,hp,rfl⟩:=List.mem_map.1 hz;obtain⟨_,h⟩:=Qs _ _ p hp
   have:=Zlz s _ h;omega)
  have aD:((Bi (Bn L i) (Fr L)).map Prod.fst).length=(Bi (Bn L i) (Fr L)).length:=s_;have a8:((Bi (Bn L i) (Fr L)).map Prod.snd).length=(Bi (Bn L i) (Fr L)).length:=s_;rw[aD] at a4 X ⊢;rw[a8] at V S ⊢;have aF:Hid (∀d,C_ 289 _ (wr.drewN d) λe w'=>∃v,e=.returned v/\Aj w' wr.heap.size v _/\E_ wr w'):=λd=>(ZbM a1 a2 _ c1 c2 _ _ _ _ (a4.below (below_drewN bz_ d)) (V.below (below_drewN bz_ d)) o_ X S hs aG).mono (λe w' ⟨v,h1,h2,h3⟩=>⟨v,h1,h2,(below_drewN bz_ d).trans h3⟩);have F:=Qp hs aG ((Bi (Bn L i) (Fr L)).map Prod.fst) ((Bi (Bn L i) (Fr L)).map Prod.snd) t_;have E:Hid (_/\_/\B=Bx _ _):=⟨F.1,F.2,hB.out.symm⟩
  have m:=x3_ ((l.block _ o_).trans A.2.1) ((l.block _ o_).trans A.2.2) (A.1.trans (l.mono o_));clear aB aE a4 V X S aD a8 C s F n hB A;generalize Dl b ((Bi (Bn L i) (Fr L)).map Prod.fst) ((Bi (Bn L i) (Fr L)).map Prod.snd)=I at *;generalize (Bi (Bn L i) (Fr L)).length=nk at *;have y1:=cR_ 1 m.1;have y2:=cR_ 2 m.1;go_upto_region 9 with fail;refine Al (λw'=>w'.cell? _=some _/\w'.cell? _=some _) 9 k_ ⟨y1,y2⟩ (λhHeld=>?_);refine Ah 0 ?_;refine Ah 1 ?_;refine Ah 2 ?_;refine Ah 3 ?_;refine Ah 5 ?_;refine Ah 6 ?_;refine Af (i:=4) k_ rfl (λKK hK=>?_);go_simp;refine(aF 1).mono ?_;rintro e w1 ⟨vj,rfl,a7,t⟩;obtain⟨aj,cj,rfl,a6,_,_⟩:=a7.seen (by have:=E.2.1;omega)
  have a5:Hid (C_ 288 #[.slice aj I.length cj,.int .i64 f] w1 λe w'=>∃v,e=.returned v/\Ag w' w1.heap.size v B/\E_ w1 w'):=(by rw[E.2.2];exact ZbC _ I _ _ _ a6 E.1 aP aL);have z1:=Ac t y1;have z2:=Ac t y2;clear a7 a6 aF;generalize I.length=ni at *;go_simp;refine hK _ _ ⟨z1,z2⟩ (λhHeld=>?_);clear hK KK;try simp only[Act.put,tA,tB,tC]
  refine Af (i:=7) k_ rfl (λKK hK=>?_);go_simp;refine a5.mono ?_;rintro e w5 ⟨vb,rfl,R,aI⟩;obtain⟨ab,cb,rfl⟩:=R.shape;have o:=t.trans (aI.mono t.size);have j:=(o.block _ o_).trans m.2.1;have aV:=t.size;have M:Hid (_/\Ag _ w.heap.size _ B/\_):=⟨j,R.mono o_,m.out.2.2.trans (o.mono o_)⟩;have t0:=cq_ 0 _ _ _ j;have t1:=cq_ 1 _ _ _ j;have t2:=cq_ 2 _ _ _ j;have t3:=cq_ 3 _ _ _ j;have p0:=fq_ 0 _ _ j;have p1:=fq_ 1 _ _ j;have p2:=fq_ 2 _ _ j;have p3:=fq_ 3 _ _ j;have z3:=Ac o y1;have z4:=Ac o y2;simp only[List.getElem?_toArray,List.getElem?_cons_zero,List.getElem?_cons_succ] at t0 t1 t2 t3
  clear R aI t o a5 j z1 z2 y1 y2 m;generalize hnb:B.length=nb at *;go_simp;refine hK _ _ ⟨z3,z4⟩ (λhHeld=>?_);clear hK KK;try simp only[Act.put,tA,tB,tC]
  refine Ah 8 ?_;refine Ai (i:=9) k_ rfl k_ (λKK hK=>?_);go_simp;refine hK _ _ ?_;clear hK KK;try simp only[Act.put,tA,tB,tC]
  refine Ak k_ ?_ _;go_wp2;refine bodyPost_ret (v:=.agg #[.bool false,.slice ab nb cb,.slice none 0 0,I_ 0]) (by simp[results,Tryz.results237,go_sem, *]) rfl ?_;have tt:=Aa.set4 w5 (w.heap.size+1) (.bool false) (.slice ab nb cb) (.slice none 0 0) (I_ 0);exact⟨ab,cb,rfl,tt.row M.2.1 (λk Y e=>Au M.2.1 Y M.1 d_ e),M.2.2.trans (tt.to_below M.2.2.size (λk Y=>o_))⟩
end Go.Proofs.YtfcgnpchbcmdeaaGreat
