import Derived.Test.YtfcgnpchbcmdeaaGreatZrbj
import Derived.Test.YtfcgnpchbcmdeaaGreatZrbe
namespace Go.Proofs.YtfcgnpchbcmdeaaGreat
set_option linter.all false
set_option maxRecDepth 100000
set_option maxHeartbeats 8000000
open Go.RowKit
def Bn(L:List (Int×List VS))(i:Nat):List VS:=L.map (λr=>r.2.getD i Ax)
def Fr(L:List (Int×List VS)):List Int:=L.map Prod.fst
def Yj(L:List (Int×List VS)):Prop:=∀r∈L,(1<=r.1/\r.1<=99)/\∀v∈r.2,(-1000000000<=v.num/\v.num<=1000000000)/\v.word.size<=8
def Zdc{L:List (Int×List VS)}{r i}(h:r<L.length):Bi (Bn (L.take (r+1)) i) (Fr (L.take (r+1)))=Bi (Bn (L.take r) i) (Fr (L.take r))++(if((L.getD r Sf).2.getD i Ax).miss=true then[] else[(((L.getD r Sf).2.getD i Ax).num,(L.getD r Sf).1)]):=by have e:L.getD r Sf=L[r]:=w_;unfold Bn Fr;rw[Qi h,List.map_append,List.map_append,e];exact Tp _ _ _ _ s_
def ZjK{l:List VS}{i}{Q:VS->Prop}(h:∀v∈l,Q v)(a:Q Ax):Q (l.getD i Ax):=w_
def ZjC{L}(h:Yj L) i:∀v∈Bn L i,(-1000000000<=v.num/\v.num<=1000000000)/\v.word.size<=8:=λv hv=>by obtain⟨r,hr,rfl⟩:=List.mem_map.1 hv;exact ZjK (Q:=λv=>(-1000000000<=v.num/\v.num<=1000000000)/\v.word.size<=8) (h r hr).2 d_
def ZlA{L}(h:Yj L):∀z∈Fr L,1<=z/\z<=99:=λz hz=>by obtain⟨r,hr,rfl⟩:=List.mem_map.1 hz;exact(h r hr).1
def Aa.set4 w b x0 x1 x2 x3:Aa (λk=>k=b) w ((((w.setCell (A_ b 0) x0).setCell (A_ b 1) x1).setCell (A_ b 2) x2).setCell (A_ b 3) x3):=
 ((((Aa.refl (λk=>k=b) w).setCell (p:=(A_ b 0)) (λ_=>rfl) _).setCell (p:=(A_ b 1)) (λ_=>rfl) _).setCell (p:=(A_ b 2)) (λ_=>rfl) _).setCell (p:=(A_ b 3)) (λ_=>rfl) _
def zn a (J nf c i b:Nat) f x3 vf nv cv L w (h:Sn w a J nf L)(hi:i<nf)(t:Yj L)(hn:J<=200)(hs:2<=b)(aC:b<=32)(aK:2<=f)(aP:f<=16):C_ 237 #[.agg #[.slice vf nv cv,.int .i64 f,.int .i64 b,.int .i64 x3],.slice a J c,.int .i64 i] w λe w'=>∃av cb,e=.returned (.agg #[.bool false,.slice av (Co (Bn L i) (Fr L) f b).length cb,.slice none 0 0,.int .i64 0])/\Ag w' w.heap.size (.slice av (Co (Bn L i) (Fr L) f b).length cb) (Co (Bn L i) (Fr L) f b)/\Below w.heap.size w w':=by
 have HV:=x1_ h;have aN:=x1_ t;obtain⟨B,hB⟩:=ez_ (Co (Bn L i) (Fr L) f b);rw[hB.out];obtain⟨G,u⟩:=ex_ ((w.alloc (.cells #[.slice vf nv cv,I_ f,I_ b,I_ x3] 37)).alloc (.cells #[.bool false,.slice none 0 0,.slice none 0 0,I_ 0] 227));have aH:E_ w G:=(by rw[u];exact bA_.alloc s_ _);have aV:w.heap.size+2<=G.heap.size:=by rw[u];simp
 have r1:G.heap[w.heap.size]? =some (.cells #[.slice vf nv cv,I_ f,I_ b,I_ x3] 37 (0,0)):=(by rw[u];exact(hc_ s_).trans hn_);have r2:G.heap[w.heap.size+1]? =some (.cells #[.bool false,.slice none 0 0,.slice none 0 0,I_ 0] 227 (0,0)):=by have e:=ha_ (w.alloc (.cells #[.slice vf nv cv,I_ f,I_ b,I_ x3] 37)) (.cells #[.bool false,.slice none 0 0,.slice none 0 0,I_ 0] 227);rw[show(w.alloc (.cells #[.slice vf nv cv,I_ f,I_ b,I_ x3] 37)).heap.size=w.heap.size+1 by simp,<- u] at e;exact e
 have y:=x3_ aH r1 r2;have a9:=x1_ u;clear h t u aH r1 r2;go_enter Tryz.func237,Tryz.ntmps237;go_upto_region 4 with fail;rw[<- a9];clear a9;go_loopw [7,8,9] (λtn tw ti wr=>∃r:Nat,ti=.int .i64 r/\r<=J/\Hid (Ag wr G.heap.size tn ((Bi (Bn (L.take r) i) (Fr (L.take r))).map Prod.fst)/\Ag wr G.heap.size tw ((Bi (Bn (L.take r) i) (Fr (L.take r))).map Prod.snd)/\Ch tn tw)/\E_ G wr) (λ_ _ ti _=>J-(intOf ti).toNat)
 case atStart=>exact⟨0,rfl,qg_,⟨Ag.nil _ _,Ag.nil _ _,.inl rfl⟩,bz_⟩
 case round=>
  obtain⟨k,rfl,P,V,l⟩:=hrel;have aL:=l.size
  by_cases hkn:k<J
  ·have aM:k<L.length:=(by rw[HV.1];exact hkn);have aO:=y.1.trans (l.mono o_)
   rcases(HV.below aO).2 with h0|⟨q,rfl,hq⟩
   omega;obtain⟨a0,g,cc,a1,_,hC⟩:=hq k hkn;obtain⟨a2,a3,_⟩:=hC i hi;have C:=Zdc (i:=i) aM;have o:=Iw (Bn (L.take k) i) (Fr (L.take k));have a8:(Bi (Bn (L.take k) i) (Fr (L.take k))).length<=200:=(by unfold Bn at o ⊢;rw[List.length_map,List.length_take] at o;omega);clear o hq hC;generalize (L.getD k Sf).2.getD i Ax=x at *;generalize (L.getD k Sf).1=z at *;obtain⟨xm,xn,xw⟩:=x;simp only at a2 a3 C;have aT:0<=(k:Int):=o_;have aR:k<(J:Int):=o_;have aW:0<=(i:Int):=o_;have aU:i<(nf:Int):=o_
   cases xm with
   | true=>
    have O:Hid (Bi (Bn (L.take (k+1)) i) (Fr (L.take (k+1)))=Bi (Bn (L.take k) i) (Fr (L.take k))):=(by show _=_;rw[C];simp);clear C;go_wp2;go_roundw;case rel=>exact⟨k+1,g_,o_,by rw[O];exact V,l⟩
    case measure=>exact z_
   | false=>
    have O:Hid (Bi (Bn (L.take (k+1)) i) (Fr (L.take (k+1)))=Bi (Bn (L.take k) i) (Fr (L.take k))++[(xn,z)]):=(by show _=_;rw[C];simp);clear C;generalize Bi (Bn (L.take k) i) (Fr (L.take k))=out at *;have Y:=x1_ V.1;have Q:=x1_ V.2.1;have W:=x1_ V.2.2;clear V;go_wp2_with (at_builtin;refine Bu rfl (.tmp 26) _ rfl _ _ _ xn rfl (Y.alloc _) _ 1 rfl ?_ ?_ ?_ ?_)
    omega;omega;intro v3 w3 H3;have H:=H3.2.1;have aJ:=H.size;simp at aJ;have S:=x1_ H3.1;have X:=x1_ (Ag.kept (Q.alloc _) H W.keeps)
    have A:=x1_ (Ch.moved W (Q.alloc (.cells #[I_ xn] 3)) (by
     rcases H3.out.2.2 with e|e
     exact .inl e
     exact .inr (by simpa using e.1)))
    have aF:=(bz_.alloc aL _).grown H t_ (λk P=>(Y.lt k P).1)
    have d0:w3.cell? (A_ q (k*2))=some (I_ z):=by
     rcases HV.out.2 with h0|⟨q',e,hq⟩
     omega;injection e with e;injection e with e1;subst e1;have:=World.block_lt_of_cell? _ _ (hq k hkn).1;exact(aF.cell (p:=(A_ q (k*2))) (by show q<_;simp at this;omega)).trans a0
    clear H3 H Y Q W a0 a1 a2 a3;go_wp2_with (at_builtin;refine Bu rfl (.tmp 38) _ rfl _ _ _ z rfl (X.alloc _) _ 1 rfl ?_ ?_ ?_ ?_)
    ·simp[go_sem]
    simp;omega;simp;omega;intro v5 w5 H5;have Z:=H5.2.1
    have R:Hid (Ag w5 G.heap.size v3 ((Bi (Bn (L.take (k+1)) i) (Fr (L.take (k+1)))).map Prod.fst)/\Ag w5 G.heap.size v5 ((Bi (Bn (L.take (k+1)) i) (Fr (L.take (k+1)))).map Prod.snd)/\Ch v3 v5):=by
     rw[O];simp only[List.map_append,List.map_cons,List.map_nil];refine⟨Ag.kept (S.alloc _) Z A.symm.keeps,H5.1,?_⟩
     exact(Ch.moved A.symm (S.alloc (.cells #[I_ z] 3)) (by
      rcases H5.out.2.2 with e|e
      exact .inl e
      exact .inr (by simpa using e.1))).symm
    have n:=(bz_.alloc o_ _).grown Z t_ (λk P=>(X.lt k P).1);clear H5 Z S X A d0;go_wp2;go_roundw;case rel=>exact⟨k+1,g_,o_,R,l.trans (aF.trans n)⟩
    case measure=>exact z_
  have aS:¬k<(J:Int):=o_;have E:L.take k=L:=List.take_of_length_le (by have:=HV.1;omega);rw[E] at V;have o:=Iw (Bn L i) (Fr L);have a8:(Bi (Bn L i) (Fr L)).length<=200:=(by unfold Bn at o ⊢;rw[List.length_map,HV.1] at o;omega);obtain⟨aD,a5,_⟩:=V;have t:=aN.out
  obtain⟨a1,c1,rfl,a4,N,_⟩:=aD.seen (λz hz=>by
   obtain⟨p,hp,rfl⟩:=List.mem_map.1 hz;obtain⟨⟨v,hv,e⟩,_⟩:=Qs _ _ p hp
   have:=ZjC t i v hv;omega)
  obtain⟨a2,c2,rfl,M,T,_⟩:=a5.seen (λz hz=>by
   obtain⟨p,hp,rfl⟩:=List.mem_map.1 hz;obtain⟨_,h⟩:=Qs _ _ p hp
   have:=ZlA t _ h;omega)
  have aB:((Bi (Bn L i) (Fr L)).map Prod.fst).length=(Bi (Bn L i) (Fr L)).length:=s_;have aE:((Bi (Bn L i) (Fr L)).map Prod.snd).length=(Bi (Bn L i) (Fr L)).length:=s_;rw[aB] at a4 N ⊢;rw[aE] at M T ⊢;have aI:Hid (∀d,C_ 289 _ (wr.drewN d) λe w'=>∃v,e=.returned v/\Aj w' wr.heap.size v _/\E_ wr w'):=λd=>(ZbM a1 a2 _ c1 c2 _ _ _ _ (a4.below (below_drewN bz_ d)) (M.below (below_drewN bz_ d)) o_ N T hs aC).mono (λe w' ⟨v,h1,h2,h3⟩=>⟨v,h1,h2,(below_drewN bz_ d).trans h3⟩);have F:=Qp hs aC ((Bi (Bn L i) (Fr L)).map Prod.fst) ((Bi (Bn L i) (Fr L)).map Prod.snd) t_;have D:Hid (_/\_/\B=Bx _ _):=⟨F.1,F.2,hB.out.symm⟩
  have m:=x3_ ((l.block _ o_).trans y.2.1) ((l.block _ o_).trans y.2.2) (y.1.trans (l.mono o_));clear aD a5 a4 M N T aB aE E t F o hB y;generalize Dl b ((Bi (Bn L i) (Fr L)).map Prod.fst) ((Bi (Bn L i) (Fr L)).map Prod.snd)=I at *;generalize (Bi (Bn L i) (Fr L)).length=nk at *;have y1:=cR_ 1 m.1;have y2:=cR_ 2 m.1;go_upto_region 9 with fail;refine Al (λw'=>w'.cell? _=some _/\w'.cell? _=some _) 9 k_ ⟨y1,y2⟩ (λhHeld=>?_);refine Ah 0 ?_;refine Ah 1 ?_;refine Ah 2 ?_;refine Ah 3 ?_;refine Ah 5 ?_;refine Ah 6 ?_;refine Af (i:=4) k_ rfl (λKK hK=>?_);go_simp;refine(aI 1).mono ?_;rintro e w1 ⟨vj,rfl,a7,s⟩;obtain⟨aj,cj,rfl,a6,_,_⟩:=a7.seen (by have:=D.2.1;omega)
  have aA:Hid (C_ 288 #[.slice aj I.length cj,.int .i64 f] w1 λe w'=>∃v,e=.returned v/\Ag w' w1.heap.size v B/\E_ w1 w'):=(by rw[D.2.2];exact ZbC _ I _ _ _ a6 D.1 aK aP);have z1:=Ac s y1;have z2:=Ac s y2;clear a7 a6 aI;generalize I.length=ni at *;go_simp;refine hK _ _ ⟨z1,z2⟩ (λhHeld=>?_);clear hK KK;try simp only[Act.put,tA,tB,tC]
  refine Af (i:=7) k_ rfl (λKK hK=>?_);go_simp;refine aA.mono ?_;rintro e w5 ⟨vb,rfl,U,aG⟩;obtain⟨ab,cb,rfl⟩:=U.shape;have n:=s.trans (aG.mono s.size);have j:=(n.block _ o_).trans m.2.1;have aQ:=s.size;have R:Hid (_/\Ag _ w.heap.size _ B/\_):=⟨j,U.mono o_,m.out.2.2.trans (n.mono o_)⟩;have t0:=cq_ 0 _ _ _ j;have t1:=cq_ 1 _ _ _ j;have t2:=cq_ 2 _ _ _ j;have t3:=cq_ 3 _ _ _ j;have p0:=fq_ 0 _ _ j;have p1:=fq_ 1 _ _ j;have p2:=fq_ 2 _ _ j;have p3:=fq_ 3 _ _ j;have z3:=Ac n y1;have z4:=Ac n y2;simp only[List.getElem?_toArray,List.getElem?_cons_zero,List.getElem?_cons_succ] at t0 t1 t2 t3
  clear U aG s n aA j z1 z2 y1 y2 m;generalize hnb:B.length=nb at *;go_simp;refine hK _ _ ⟨z3,z4⟩ (λhHeld=>?_);clear hK KK;try simp only[Act.put,tA,tB,tC]
  refine Ah 8 ?_;refine Ai (i:=9) k_ rfl k_ (λKK hK=>?_);go_simp;refine hK _ _ ?_;clear hK KK;try simp only[Act.put,tA,tB,tC]
  refine Ak k_ ?_ _;go_wp2;refine bodyPost_ret (v:=.agg #[.bool false,.slice ab nb cb,.slice none 0 0,I_ 0]) (by simp[results,Tryz.results237,go_sem, *]) rfl ?_;have tt:=Aa.set4 w5 (w.heap.size+1) (.bool false) (.slice ab nb cb) (.slice none 0 0) (I_ 0);exact⟨ab,cb,rfl,tt.row R.2.1 (λk P e=>Au R.2.1 P R.1 d_ e),R.2.2.trans (tt.to_below R.2.2.size (λk P=>o_))⟩
end Go.Proofs.YtfcgnpchbcmdeaaGreat
