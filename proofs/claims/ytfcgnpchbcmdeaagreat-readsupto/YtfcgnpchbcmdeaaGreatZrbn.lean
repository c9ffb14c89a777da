import Derived.Test.YtfcgnpchbcmdeaaGreatZrbm
import Derived.Sort.KeysCollected
namespace Go.Proofs.YtfcgnpchbcmdeaaGreat
set_option linter.all false
set_option maxRecDepth 100000
set_option maxHeartbeats 8000000
open Go.RowKit Go.Maps
def Qo(v:VS)(x:List UInt8):Bool:=!v.miss&&decide (v.word.data.toList=x)
def Jq(ps:List (VS×Int))(x:List UInt8):Int:=(ps.map λp=>if Qo p.1 x=true then p.2 else 0).sum
def Sh(ps:List (VS×Int))(x:List UInt8):Bool:=ps.any λp=>Qo p.1 x
def mh a p x:Jq (a++[p]) x=Jq a x+(if Qo p.1 x=true then p.2 else 0):=by simp[Jq]
def uw a p x:Sh (a++[p]) x=(Sh a x||Qo p.1 x):=by simp[Sh]
def Zi3{ps}(h:∀p∈ps,0<=p.2/\p.2<=99) x:0<=Jq ps x/\Jq ps x<=99*ps.length:=by
 induction ps with
 |nil=>simp[Jq]
 | cons p r ih=>
  have a:=ih (λq hq=>h q (by simp[hq]))
  grind [Jq]
def Lq(D:DataW Unit)(ps:List (VS×Int)):Prop:=IsMap D/\∀x,has D (.string x)=Sh ps x/\D.atKey (.string x) (.lit (.int .i64 0))=.lit (.int .i64 (Jq ps x))
def Lq.start:Lq (.map []) []:=⟨isMap_empty,λ_=>⟨rfl,rfl⟩⟩
def Lq.miss{D a}(h:Lq D a){v:VS} z (b:v.miss=true):Lq D (a++[(v,z)]):=by refine⟨h.1,λx=>?_⟩;have e:Qo v x=false:=(by simp[Qo,b]);rw[uw,mh];simp[e,(h.2 x).1,(h.2 x).2]
def Lq.put{D a}(h:Lq D a){v:VS}{z}(b:v.miss=false):Lq (D.put (.string v.word.data.toList) (.lit (.int .i64 (Jq a v.word.data.toList+z)))) (a++[(v,z)]):=by
 refine⟨h.1.put _ _,λx=>?_⟩;rw[uw,mh]
 by_cases hx:v.word.data.toList=x
 have e:Qo v x=true:=(by simp[Qo,b,hx]);subst hx;rw[has_put_same h.1 (show WideAt.IsKeyLit (.string _) from trivial),atKey_put_same h.1 (show WideAt.IsKeyLit (.string _) from trivial)];simp[e];have e:Qo v x=false:=(by simp[Qo,b,hx]);rw[has_put_other w_,atKey_put_other w_];simp[e,(h.2 x).1,(h.2 x).2]
def Vd:List (VS×Int)->List ByteArray
  |[]=>[]
  |p::r=>if p.1.miss=true then Vd r else if Sh r p.1.word.data.toList=true then Vd r else p.1.word::Vd r
theorem Rs b:∀ps,b∈Vd ps↔Sh ps b.data.toList=true
 |[]=>by simp[Vd,Sh]
 | p ::r=>by
  have ih:=Rs b r;have e:Sh (p::r) b.data.toList=(Qo p.1 b.data.toList||Sh r b.data.toList):=by simp[Sh]
  have a:p.1.word.data.toList=b.data.toList↔b=p.1.word:=by
   constructor
   ·intro h
    cases b;cases hw:p.1.word
    rw[hw] at h;simp at h;rw[h]
   intro h;rw[h]
  grind [Vd,Qo]
theorem Lz:∀ps,(Vd ps).Nodup
 |[]=>List.nodup_nil
 |p::r=>by unfold Vd;split;exact Lz r;split;exact Lz r;rename_i h;exact List.nodup_cons.2 ⟨λh2=>h ((Rs _ r).1 h2),Lz r⟩
def Le(ps:List (VS×Int))(ct:Int):List WS:=((Vd ps).map λb=>⟨b,Jq ps b.data.toList⟩).filter λx=>decide (ct<=x.wt)
def Mb(L:List VS)(ws:List Int)(ct bins:Int):ES:=⟨true,[],(((Le (L.zip ws) ct).mergeSort λx y=>decide (leW x y)).take bins.toNat).map WS.wd⟩
def Tv a b x:x∈Le a b↔Sh a x.wd.data.toList=true/\x.wt=Jq a x.wd.data.toList/\b<=x.wt:=by
 unfold Le;rw[List.mem_filter,List.mem_map];constructor
 ·grind [Rs]
 rintro⟨d,e,c⟩;refine⟨⟨x.wd,(Rs _ _).2 d,?_⟩,by simpa using c⟩;rw[<- e]
def Vb b a:(Le b a).Nodup:=by grind [Le,Lz]
def sq{x y z}(a:leW x y)(b:leW y z):leW x z:=w_
theorem Ve{x y}(a:leW x y)(b:leW y x):x=y:=by
 unfold leW at *;simp only[not_or,not_and] at a b;have e:x.wt=y.wt:=o_;have c:=Zhw (b.2 e) (a.2 e.symm)
 cases x;cases y
 grind
def ZdG{d e H D}(j:H.Nodup)(k:∀x,x∈H↔Sh d x.wd.data.toList=true/\x.wt=Jq d x.wd.data.toList/\e<=x.wt)(f:D.Perm H)(i:D.Pairwise leW):D=(Le d e).mergeSort λx y=>decide (leW x y):=by
 have g:=(List.perm_ext_iff_of_nodup j (Vb _ _)).2 λx=>by rw[k,Tv]
 have l:=List.pairwise_mergeSort (le:=λx y=>decide (leW x y)) (λa b c h1 h2=>decide_eq_true (sq (of_decide_eq_true h1) (of_decide_eq_true h2))) (λa b=>w_) (Le d e);refine List.Perm.eq_of_pairwise (le:=leW) (λa b _ _ h1 h2=>Ve h1 h2) i (l.imp λh=>of_decide_eq_true h) ((f.trans g).trans (List.mergeSort_perm _ _).symm)
structure Np(D:DataW Unit)(left:Lit->Bool)(ct)(Hs:List WS):Prop where
 nd:Hs.Nodup
 mem:∀x:WS,x∈Hs↔(has D (.string x.wd.data.toList)=true/\left (.string x.wd.data.toList)=false/\D.atKey (.string x.wd.data.toList) (.lit (.int .i64 0))=.lit (.int .i64 x.wt)/\ct<=x.wt)
def Np.start D ct:Np D (has D) ct []:=⟨List.nodup_nil,λx=>w_⟩
def ZiH a b:(Lit.string a).sameKey (.string b)=decide (a=b):=by
 by_cases h:a=b
 subst h;simp[Lit.sameKey]
 grind [sameKey_ne]
def Np.step{D d f j}(h:Np D d f j){x c}(r:d (.string x)=true)(g:∀zd,D.atKey (.string x) zd=.lit (.int .i64 c)):Np D (λz=>d z&&!z.sameKey (.string x)) f (if f<=c then j++[⟨⟨x.toArray⟩,c⟩] else j):=by
 have i:=has_true_of_atKey g
 have k:∀y:WS,(has D (.string y.wd.data.toList)=true/\(d (.string y.wd.data.toList)&&!(Lit.string y.wd.data.toList).sameKey (.string x))=false/\D.atKey (.string y.wd.data.toList) (.lit (.int .i64 0))=.lit (.int .i64 y.wt)/\f<=y.wt)↔(y∈j∨(y.wd.data.toList=x/\y.wt=c/\f<=c)):=by
  intro y;rw[ZiH]
  by_cases hy:y.wd.data.toList=x
  ·rw[hy];simp only[i,g,decide_true,Bool.not_true,Bool.and_false,true_and]
   have o:y ∉ j:=λl=>by
    have:=((h.mem y).1 l).2.1
    grind
   grind
  simp only[hy,decide_false,Bool.not_false,Bool.and_true,false_and,or_false];exact(h.mem y).symm
 by_cases hc:f<=c
 ·rw[if_pos hc];refine⟨?_,λy=>?_⟩
  ·refine List.nodup_append.2 ⟨h.nd,s_,λa ha b hb e=>?_⟩;simp only[List.mem_singleton] at hb;have:=((h.mem a).1 ha).2.1
   grind
  rw[k y,List.mem_append,List.mem_singleton];constructor
  ·grind
  rintro(l|⟨m,n,_⟩);exact .inl l;right;obtain⟨⟨q⟩,p⟩:=y;simp only at m n;rw[<- m,n]
 rw[if_neg hc];refine⟨h.nd,λy=>?_⟩
 grind
def Np.end_{D a e c b}(h:Np D a e c)(d:Lq D b)(f:∀kl,a kl=false) x:x∈c↔Sh b x.wd.data.toList=true/\x.wt=Jq b x.wd.data.toList/\e<=x.wt:=by
 rw[h.mem x,f,(d.2 _).1,(d.2 _).2]
 grind
def zi{w:World}{b n D}{R:Value->Option (DataW Unit×List MemPlace)}(h:w.ownsMap Tryz.prog 9 R b n D):Maps.size D<=n:=by
 obtain⟨d,a,_,_,c,rfl⟩:=h;show(List.foldr DataW.insert [] _).length<=n;rw[length_sorted]
 simpa using c
def ZbT{w:World}{b r n f a e c m:Nat}{D d}{R:Value->Option (DataW Unit×List MemPlace)}{v j}(h:w.ranges Tryz.prog 9 R b r n D d f)(t:w.ownsRow a e c v m j):v.ownBlock≠some r/\v.ownBlock≠some b:=by
 obtain⟨l,i,g,seen,p,q,F,s,k,o,rest⟩:=h
 grind [Ad]
def Fw.more{w a v L}{x:WS}(h:w.ownsRow a 358 2 v (L.length+1) (Hl L++[.string x.wd,I_ x.wt])):Fw w a v (L++[x]):=by grind [Fw,pg,Hl,Pi]
def Fw.shape{w b v L}(h:Fw w b v L):∃a c,v=.slice a L.length c/\((a=none/\L.length=0/\c=0)∨∃g,a=some ⟨g,0,none⟩/\L.length<=c):=by
 rcases h.2 with⟨rfl,h0⟩|⟨g,cap,cur,rfl,_,hh,hnc,_⟩
 ·grind
 grind
def Fw.cells{w a g n c L}(h:Fw w a (L_ g n c) L){i}(b:i<L.length):g<w.heap.size/\w.cell? (A_ g (i*2))=some (.string (L.getD i w0W).wd)/\w.cell? (A_ g (i*2+1))=some (I_ (L.getD i w0W).wt):=by
 have d:=h
 rcases h.2 with⟨e,_⟩|⟨g',cap,cur,e,_,hh,_⟩
 ·cases e
 simp only[Value.slice.injEq,Option.some.injEq,Addr.mk.injEq,and_true] at e;obtain⟨rfl,rfl,rfl⟩:=e;refine⟨(Qb hh).1,?_,?_⟩;rw[World.ownsRow.cellAt d (i*2) o_];have:=Tn L i 0 b o_;rw[Nat.add_zero] at this;rw[this];rfl;rw[World.ownsRow.cellAt d (i*2+1) o_,Tn L i 1 b o_];rfl
def Zc8:(Tryz.prog.info? 9).map (λi=>(i.zero,i.size,i.bytes))=some (some (.string ⟨#[]⟩),1,16):=k_
def Cc.shapeW{w b v L}(h:Cc w b v L):∃a c,v=.slice a L.length c:=by
 rcases h.2 with⟨rfl,h0⟩|⟨g,cap,cur,rfl,_⟩
 ·grind
 grind
def ZdS(L:List WS){r}(h:r<L.length):L.take (r+1)=L.take r++[L.getD r w0W]:=by grind [Qi]
def Cc.monoW{w b d v L}(h:Cc w d v L)(k:b<=d):Cc w b v L:=by
 obtain⟨f,i⟩:=h;refine⟨f,?_⟩
 rcases i with h|⟨g,c,a,e,j,rest⟩
 exact .inl h;exact .inr ⟨g,c,a,e,o_,rest⟩
def Zj0:(Tryz.prog.info? 358).map (λi=>(i.zero,i.size,i.bytes))=some (some (.agg #[.string ⟨#[]⟩,I_ 0]),2,24):=k_
def Zj5:Keyed Tryz.prog 9:=string_keyed Tryz.underlying9
def Zl0 w:(zeroValue 3).run Tryz.prog w=.ok (I_ 0) w:=k_
def Zmt{α β:Type}(L:List α) a {k}(d:k<L.length)(e:k<a.length) b (c:β):(L.zip a).take (k+1)=(L.zip a).take k++[(L.getD k b,a.getD k c)]:=by grind [Qi]
def iw va wa n aL bZ ct a L r w (hv:Iq w 0 (.slice va n aL) L)(hw:Cq w wa n r)(hL:L.length=n)(hn:n<=200)(hz:∀z∈r,0<=z/\z<=99)(bN:∀v∈L,v.word.size<=8)(dY:2<=a)(f8:a<=16):C_ 211 #[.slice va n aL,.slice wa n bZ,.int .i64 ct,.int .i64 a] w λe w'=>∃v,e=.returned v/\Sz w' w.heap.size v (Mb L r ct a)/\Below w.heap.size w w':=by
 have HV:=x1_ hv;have HW:=x1_ hw;have aC:=x2_ hL hw.1;have HZ:=x1_ hz;have dE:=x1_ bN;clear hv hw hL hz bN;have dT:= @run_makeMap Tryz.prog;obtain⟨b,b8⟩:=ex_ (w.alloc (.cells #[.bool false,.slice none 0 0,.slice none 0 0] 170));have aJ:b.heap.size=w.heap.size+1:=(by rw[b8];simp);have aA:=x1_ aJ;have a3:=x1_ b8;clear aJ b8;go_enter Tryz.func211,Tryz.ntmps211;go_wp2_with fail
 go_loopw [21] (λti wr=>∃(k:Nat) (D:DataW Unit),ti=.int .i64 k/\k<=n/\Hid (wr.ownsMap Tryz.prog 9 (plainElem Tryz.prog 3) (w.heap.size+1) k D/\Lq D ((L.zip r).take k))/\Hid (E_ b wr)) (λti _=>n-(intOf ti).toNat)
 case atStart=>
  refine⟨0,.map _,rfl,qg_,⟨?_,Lq.start⟩,?_⟩;have:=World.ownsMap_made (H:=Unit) b Tryz.prog 9 (plainElem Tryz.prog 3);rw[aA,a3] at this;exact this;rw[a3];exact bA_
 case round=>
  obtain⟨k,D,rfl,hk,HO,d⟩:=hrel;have aD:=d.size
  by_cases hkn:k<n
  ·have c8:k<L.length:=(by rw[aC.out.1];exact hkn);have dA:k<r.length:=(by rw[aC.2];exact hkn);obtain⟨q,rfl,bG,c0,c1,c2⟩:=HV.at c8;rcases HW.out with⟨_,_,h0|⟨b2,o2,rfl,hb2',hc2⟩⟩;omega;have s:E_ w wr:=by have A:E_ w b:=(by rw[a3];exact bA_);exact A.trans (d.mono (by have:=aA.out;omega))
   have a0:=(s.cell (p:=(A_ q (k*3))) bG).trans c0;have a1:=(s.cell (p:=(A_ q (k*3+1))) bG).trans c1;have a2:=(s.cell (p:=(A_ q (k*3+2))) bG).trans c2;have d1:=(s.cell (p:=(A_ b2 (o2+k))) hb2').trans (hc2 k hkn);have c6:b2<wr.heap.size:=(by have:=s.size;omega);have b7:=x1_ (Zmt L _ c8 dA Ax 0);have cW:Hid ((L.getD k Ax).word.size<=8):=dE _ w_;have dI:Hid (0<=r.getD k 0/\_):=HZ _ w_;clear hc2 c0 c1 c2 s;generalize L.getD k Ax=x,r.getD k 0=z at *;obtain⟨xm,xn,o⟩:=x;simp only at a0 a1 a2;have f3:0<=(k:Int):=o_;have dX:k<(n:Int):=o_
   cases xm with
   | true=>
    have HF:Hid ((wr.alloc (.cells #[.bool true,I_ xn,.string o] 308)).ownsMap Tryz.prog 9 (plainElem Tryz.prog 3) (w.heap.size+1) (k+1) D/\Lq D ((L.zip r).take (k+1))):=(by rw[b7];exact⟨(HO.1.alloc _).mono o_,HO.2.miss _ rfl⟩);refine rd_ ?_;exact⟨k+1,D,g_,o_,HF,d.trans (bz_.alloc o_ _)⟩
   | false=>
    go_upto_region 6 with fail;have d6:o.size<=8:=cW.out;have f:keyOf _ 9 (.string o)=_:=WideMaps.keyOf_string_mk Tryz.underlying9 m_;obtain⟨w2,W⟩:=ex_ (wr.alloc (.cells #[.bool false,I_ xn,.string o] 308));have bE:w2.ownsMap Tryz.prog 9 (plainElem Tryz.prog 3) (w.heap.size+1) k D:=(by rw[W];exact HO.1.alloc _);have e2:w2.cell? (A_ wr.heap.size 2)=some (.string o):=(by rw[W];exact cq_ 2 _ _ _ hn_);have R:E_ wr w2:=(by rw[W];exact bA_);have d2:=(R.cell (p:=(A_ b2 (o2+k))) c6).trans d1;rw[<- W];obtain⟨c,cB,aE,_⟩:=(show w2.drew.ownsMap Tryz.prog 9 (plainElem Tryz.prog 3) (w.heap.size+1) k D from bE).lookup_int Zj5 Tryz.underlying355 Tryz.underlying3 (Zl0 _) f
    have hc:c=Jq ((L.zip r).take k) o.data.toList:=by
     have A:=(HO.2.2 o.data.toList).2
     grind
    have cA:=Zi3 (ps:=(L.zip _).take k) (λp hp=>HZ _ (List.of_mem_zip (List.mem_of_mem_take hp)).2) o.data.toList;rw[<- hc] at cA;have cS:((L.zip r).take k).length<=200:=w_;have dL:=dI.out;have q1:_=c+z:=Cb o_ o_;obtain⟨w3,hU,c9,cM⟩:=(show w2.drew.ownsMap Tryz.prog 9 (plainElem Tryz.prog 3) (w.heap.size+1) k D from bE).update Zj5 Tryz.underlying355 m_ f (plainElem_int (H:=Unit) Tryz.underlying3 (show(Lit.int .i64 (c+z)).wf=true by simp[Lit.wf,IntKind.min,IntKind.max,IntKind.bits,IntKind.signed];omega))
    have HF:Hid (w3.ownsMap Tryz.prog 9 (plainElem Tryz.prog 3) (w.heap.size+1) (k+1) (D.put (.string o.data.toList) (.lit (.int .i64 (c+z))))/\Lq (D.put (.string o.data.toList) (.lit (.int .i64 (c+z)))) ((L.zip r).take (k+1))):=(by refine⟨c9,?_⟩;rw[b7,hc];exact HO.2.put (v:=⟨false,xn,o⟩) rfl);have dZ:Hid (E_ b w3):=(by have A:=d.trans (R.mono aD);have h2:=A.drew;exact h2.grown cM h2.size (λj hj=>by injection hj with hj;have:=aA.out;omega));clear bE c9 cM hc cA cS dL aE f W R HO d b7 d6;refine Al (λw'=>w'.cell? _=some _/\w'.cell? _=some _/\(Instr.lookup 355 _ _ _).run _ w'=.ok _ w') 9 k_ ⟨e2,d2,cB⟩ (λhHeld=>?_);refine Ah 0 ?_;refine Ah 1 ?_;refine Tx [3,8,9] 2 (v:=?_) ?_ ?_
    rotate_left
    ·intro w U;try obtain⟨_,_,_⟩:=U
     go_simp;try with_reducible rfl
    try simp only[Act.put,sA,sB,sC]
    refine Tx [8,9] 3 (v:=?_) ?_ ?_
    rotate_left
    ·intro w U;obtain⟨_,_,_⟩:=U;go_simp;try with_reducible rfl
    try simp only[Act.put,sA,sB,sC]
    refine Ah 4 ?_;refine Ah 5 ?_;refine Ah 6 ?_;refine Tx [8,9] 7 (v:=?_) ?_ ?_
    rotate_left
    ·intro w U;try obtain⟨_,_,_⟩:=U
     go_simp;try with_reducible rfl
    try simp only[Act.put,sA,sB,sC]
    refine Ah 8 ?_;refine Ai (i:=9) k_ rfl k_ (λKK hK=>?_);go_simp;refine hK _ _ ?_;clear hK KK;try simp only[Act.put,sA,sB,sC]
    refine Ak k_ ?_ _;go_wp2;go_roundw;case rel=>grind
    case measure=>exact z_
  have d5:k=n:=o_;subst d5;have dV:¬k<(k:Int):=o_;have eT:(L.zip r).take k=_:=List.take_of_length_le (by rw[List.length_zip,aC.1,aC.2];omega);have aZ:=x1_ HO.1;have cL:Hid (Lq D (L.zip r)):=(by have:=HO.2;rwa [eT] at this);clear HO eT aD;generalize wr=wl at *;obtain⟨i0,bT,d9,dP,d8⟩:=info_parts Zj0;go_wp2_with (first|(at_range;refine wpList_range_own _ rfl _ _ rfl 9 3 Zj5 Tryz.underlying355 _ _ k D rfl aZ ?_;intro wq aR bO aJ)|go_in)
  try go_frame
  have aK:=x1_ aR;have bP:=x1_ (d.grown bO d.size (λj hj=>by cases hj));have dB:=x1_ (zi aZ);have f6:=d.size;clear aR bO aJ d aZ;go_loopw [12] (λth wr=>∃(Z:Lit->Bool) (aX:Nat) (Hs:List WS),Hid (wr.ranges Tryz.prog 9 (plainElem Tryz.prog 3) (w.heap.size+1) wl.heap.size k D Z aX)/\Hid (Fw wr b.heap.size th Hs)/\Hid (Np D Z ct Hs)/\Hs.length+aX<=k/\Hid (E_ b wr)) (λ_ wr=>wr.rangeLeft (w.heap.size+1) wl.heap.size)
  case atStart=>exact⟨_,_,[],aK,rn_,Np.start D _,by simpa using dB.out,bP⟩
  case round=>
   clear aK bP;obtain⟨Z,aX,Hs,Q,M,HC,cN,d⟩:=hrel;go_wp2_with (first|(at_next;refine wpList_next_ranges _ rfl _ rfl 9 Zj5 _ _ _ (λkey kl hk=>by obtain⟨x,hx,_⟩:=Maps.keyOf_str Tryz.underlying9 hk;exact⟨x,hx⟩) (λv y hv=>by obtain⟨c,rfl,_⟩:=plainElem_int_inv Tryz.underlying3 hv;exact⟨c,rfl⟩) _ _ k D _ _ rfl Q ?_ ?_)|go_in)
   ·intro dG aB;have bL:=x1_ (λx=>HC.end_ cL aB x);have c7:=x1_ HC.nd;have dM:Hs.length<=200:=o_;obtain⟨ua,uc,rfl,cD⟩:=M.shape;have bW:=x1_ cD;have aY:=ZbW _ _ _ _ M o_;have b6:=x1_ (λj hj=>(rl_ M j hj).1);obtain⟨hl,a8⟩:=ex_ Hs.length;have dO:=x1_ a8;rw[<- a8] at bW aY b6 dM cN;clear dG aB HC Q cL M cD;rw[<- a8];clear a8;go_wp2_with fail
    refine aY.mono ?_;rintro e w5 ⟨rfl,⟨B,bA,cC,bQ⟩,bY⟩;have cG:=x1_ (ZdG c7 bL bA cC);have c3:Hid (B.length=hl):=(by show _=_;rw[bA.length_eq,dO]);have bR:=x1_ bQ;have aI:=x1_ (d.grown bY d.size b6);clear bA cC bQ bY aY d bL c7 b6;obtain⟨m,hm⟩:∃m:Nat,m=min hl a.toNat:=⟨_,rfl⟩;have HM:=x1_ hm;clear hm;have bD:Hid (m<=hl/\m<=a/\m<=200):=⟨by have:=HM.out;omega,by have:=HM.out;omega,by have:=HM.out;omega⟩;obtain⟨w6,P⟩:=ex_ (w5.alloc (.cells #[.bool true,.slice none 0 0,.slice none 0 0] 170));have aT:Hid (w6.heap[w5.heap.size]? =some (.cells #[.bool true,.slice none 0 0,.slice none 0 0] 170 (0,0))):=by show _=_;rw[P];exact hn_
    have cP:Hid (Fw w6 b.heap.size (.slice ua hl uc) B):=(by show Fw _ _ _ _;rw[P];exact ra_ bR _);have cQ:Hid (E_ b w6):=(by show Below _ _ _;rw[P];exact aI.alloc aI.size _);have aQ:=aI.size;go_upto_region 16 with fail;rw[<- P];clear P bR aI;go_cut [63,64,65] (λv l t0 wx=>t0=.int .i64 0/\∃sa sc,v=.slice sa m sc/\l=.int .i64 (m:Nat)/\Hid (0<m->∃g,sa=some ⟨g,0,none⟩/\ua=some ⟨g,0,none⟩)/\wx=w6)
    case first=>
     rcases bW.out with⟨rfl,h0,rfl⟩|⟨g,rfl,hgc⟩
     ·subst h0;have cY:m=0:=(by have:=bD.out;omega);subst cY;have bb:¬a<0:=o_;have f9:0<=a:=o_;have bm:min 0 a=0:=o_;go_wp2;go_meet
      grind
     by_cases hlb:(hl:Int)<=a
     ·have a7:m=hl:=(by have:=HM.out;omega);subst a7;have bb:¬a<m:=o_;have bm:min (m:Int) a=m:=o_;have b0:0<=(m:Int):=o_;have b1:m<=(uc:Int):=o_;go_wp2;go_meet
      exact⟨rfl,_,_,rfl,rfl,λ_=>⟨g,rfl,rfl⟩,rfl⟩
     have a7:m=a:=(by have:=HM.out;omega);have fB:=x1_ a7;have bm:min (hl:Int) a=m:=o_;have bb:a<hl:=o_;have b0:0<=(m:Int):=o_;have b1:m<=(uc:Int):=o_;subst a7;go_wp2;go_meet
     exact⟨rfl,_,_,rfl,rfl,λ_=>⟨g,rfl,rfl⟩,rfl⟩
    case rest=>
     obtain⟨rfl,sa,sc,rfl,rfl,cT,cJ⟩:=hcut;obtain rfl:=cJ.symm;clear cJ;obtain⟨i9,bI,dN,cZ,dJ⟩:=info_parts Zc8;have dF:Hid (b.heap[w.heap.size]? =some (.cells #[.bool false,.slice none 0 0,.slice none 0 0] 170 (0,0))):=(by show _=_;rw[a3];exact ha_ w _);have aB:w.heap.size<b.heap.size:=(by have:=aA.out;omega);obtain⟨eb,bH⟩:=ex_ w5.heap.size;rw[<- bH] at aT aQ ⊢;clear bH;go_wp2_with fail
     go_loopw [65] (λtj wr=>∃(j:Nat) (vw:Value),tj=.int .i64 j/\j<=m/\Hid (wr.heap[eb]? =some (.cells #[.bool true,.slice none 0 0,vw] 170 (0,0)))/\Hid (Cc wr b.heap.size vw ((B.take j).map WS.wd))/\Hid (Fw wr b.heap.size (.slice ua hl uc) B)/\Hid (E_ b wr)) (λtj _=>m-(intOf tj).toNat)
     case atStart=>exact⟨0,_,rfl,qg_,aT,rn_,cP,cQ⟩
     case round=>
      clear aT cP cQ;obtain⟨j,vw,rfl,hj,HE,a9,aG,d⟩:=hrel;have aD:=d.size;have aM:=(Qb HE).1
      by_cases hjm:j<m
      ·obtain⟨g,rfl,rfl⟩:=cT o_;have cF:j<B.length:=(by rw[c3];have:=bD.out;omega);obtain⟨f7,x0,x1⟩:=aG.cells cF;have N:((B.take j).map WS.wd).length=j:=w_;obtain⟨av,cv,rfl⟩:=a9.shapeW;have O:=x1_ a9;have bS:=x1_ (ZdS _ cF);have e2:=cR_ 2 HE;rw[N] at O e2;generalize B.getD j w0W=x at *;obtain⟨o,xt⟩:=x;simp only at x0 x1;have b0:0<=(j:Int):=o_;have b1:j<(m:Int):=o_;have fC:j<=200:=(by have:=bD.out;omega);obtain⟨w7,X⟩:=ex_ (wr.alloc (.cells #[.string o,I_ xt] 358));have I:E_ wr w7:=(by rw[X];exact bA_);have k0:w7.cell? (A_ wr.heap.size 0)=some (.string o):=(by rw[X];exact cq_ 0 _ _ _ hn_);have e7:=(I.cell (p:=(A_ eb 2)) aM).trans e2
       have bK:Hid (w7.heap[eb]? =some (.cells #[.bool true,.slice none 0 0,.slice av j cv] 170 (0,0))):=(by have:=HE.out;rw[N] at this;exact(I.block _ aM).trans this);have aP:Hid (Cc w7 b.heap.size (.slice av j cv) ((B.take j).map WS.wd)):=(by have A:=O.out;exact A.below I);have aO:Hid (Fw _ _ _ _):=(Aa.of_below (S:=λ_=>False) I).row aG (λ_ _=>id);have b3:=x1_ (d.trans (I.mono aD));have dW:wr.heap.size<w7.heap.size:=(by rw[X];simp);go_upto_region 19 with fail;rw[<- X];clear X I x0 x1 e2 HE O a9 aG d;have c5:=b3.size
       have Y:w7.ownsRow b.heap.size 9 1 (.slice av j cv) j (((B.take j).map WS.wd).map Value.string):=by
        have A:=aP.out;unfold Cc at A
        grind
       obtain⟨Wj,b9⟩:=ex_ ((B.take j).map WS.wd);have cU:Hid ((B.take (j+1)).map WS.wd=Wj++[o]):=(by show _=_;rw[bS,List.map_append,b9];rfl);rw[<- b9] at Y N;have dK:=x1_ N;have V:=x1_ Y;clear Y N b9 bS aP;go_wp2_with (at_builtin;refine Ab rfl (.tmp 70) (.tmp 73) 47 rfl b.heap.size 9 i9 (.string ⟨#[]⟩) 1 16 Tryz.underlying47 bI dN cZ dJ rfl d_ (.slice av j cv) j (Wj.map Value.string) rfl (ra_ V _) (A_ w7.heap.size 0) 1 1 [.string o] rfl rfl ?_ ?_ ?_ ?_ ?_ ?_ ?_)
       exact Am _ _ 9;intro u hu;simp at hu;subst hu;rfl;decide;unfold maxLen;omega;omega;simp;omega;intro v4 w4 H4;obtain⟨r4,g4,d4,_,_⟩:=H4;have aH:Cc w4 b.heap.size v4 (Wj++[o]):=by unfold Cc;rw[Qe,dK,List.map_append];exact r4
       obtain⟨a4,c4,rfl⟩:=aH.shapeW;obtain⟨n4,cI⟩:=ex_ ((Wj++[o]).length);rw[<- cI] at r4 d4 aH ⊢;clear cI;obtain⟨w8,bC⟩:=ex_ (w7.alloc (.cells #[.string o] 9));rw[<- bC] at g4 d4;have F:E_ w7 w8:=(by rw[bC];exact bA_);have cV:=F.size;have T:=(Aa.refl _ _).grown g4 (λk hk _=>hk);have bF:=(F.block _ o_).trans bK;have aF:=(Aa.of_below (S:=λ_=>False) F).row V (λ_ _=>id);have b5:Fw _ _ _ _:=(Aa.of_below (S:=λ_=>False) F).row aO (λ_ _=>id);have J:=T.at_ bF (λe=>Au aF e bF d_ rfl)
       have bM:Fw w4 b.heap.size (L_ g hl uc) B:=T.row b5 (λq hq e=>by
        obtain⟨fA,hc⟩:=Ad b5 hq
        exact Au aF e hc d_ rfl)
       have f4:=cR_ 2 J;have z4:=fq_ 2 _ _ J;have dQ:Hid ((w4.setCell _ _).heap[eb]? =some (.cells #[_,_,(.slice a4 n4 c4)] 170 _)):=ht_ 2 _ _ _ J;have dS:Hid (Cc (w4.setCell (A_ eb 2) (.slice a4 n4 c4)) b.heap.size (.slice a4 n4 c4) ((B.take (j+1)).map WS.wd)):=(by rw[cU];exact As aH J d_);have dR:Hid (Fw (w4.setCell ⟨_,2,_⟩ (.slice a4 n4 c4)) _ _ _):=As bM J d_;have bU:Hid (E_ b (w4.setCell (A_ eb 2) (.slice a4 n4 c4))):=by have A:=b3.trans (F.mono c5);exact(A.grown g4 A.size (λq hq=>(rl_ aF q hq).1)).setCell aQ _
       clear r4 g4 d4 bC F cV T bF aF b5 J bM V aO bK b3 aH;go_wp2;go_roundw;case rel=>grind
       case measure=>exact z_
      have bX:j=m:=o_;subst bX;have bj:¬j<(j:Int):=o_
      have dC:(B.take j).map WS.wd=(Mb L r ct a).ww:=by
       show _=(((Le (L.zip r) ct).mergeSort λx y=>decide (leW x y)).take a.toNat).map WS.wd;rw[<- cG];congr 1;have A:=HM.out;have h2:=c3.out
       grind
      have bV:Hid (Cc wr b.heap.size vw (Mb L r ct a).ww):=w_;obtain⟨av,cv,rfl⟩:=bV.shapeW;have hE:=HE.out;have e0:=cR_ 0 hE;have e1:=cR_ 1 hE;have e2:=cR_ 2 hE;have t:=(d.block _ aB).trans dF;have aW:=x1_ t;have r0:=cR_ 0 t;have r1:=cR_ 1 t;have r2:=cR_ 2 t;have z0:=fq_ 0 _ _ t;have z1:=fq_ 1 _ _ t;have z2:=fq_ 2 _ _ t;clear hE t dC a9 aG HE HM cG;generalize hnw:(Mb L r ct a).ww.length=nw at *;have fD:=x1_ hnw;clear hnw;go_wp2;refine bodyPost_ret (v:=.agg #[.bool true,.slice none 0 0,.slice av nw cv]) (by simp[results,Tryz.results211,go_sem, *]) rfl ?_;have s:E_ w wr:=by have A:E_ w b:=(by rw[a3];exact bA_);exact A.trans (d.mono o_)
      refine⟨_,rfl,⟨.slice none 0 0,.slice av nw cv,rfl,rn_,?_⟩,((s.setCell qa_ _).setCell qa_ _).setCell qa_ _⟩;have A:Cc _ w.heap.size _ _:=bV.monoW o_;exact As (As (As A aW d_) (by exact ht_ _ _ _ _ aW) d_) (by exact ht_ _ _ _ _ (ht_ _ _ _ _ aW)) d_
   intro x c kl yd yp w2 aS f cO hv aE aN cE bB cX dD;obtain⟨x',ex,rfl,dU⟩:=Maps.keyOf_str Tryz.underlying9 f;obtain rfl:x=x':=encStr_inj ex;obtain⟨c',ec,cR,_⟩:=plainElem_int_inv Tryz.underlying3 hv;obtain rfl:c=c':=(by injection ec);have dH:yd=.lit (.int .i64 c):=(by injection cR);subst dH;have G:=HC.step cO aE;have E:=x1_ aN;have C:Hid (Fw _ _ _ _):=World.ownsRow.kept M bB (.inr (ZbT Q M).1);have a5:=x1_ (d.grown bB d.size (λj hj=>w_));have a6:=x1_ cE;clear cX aN bB f hv aE cO ex ec cR cE
   by_cases hct:ct<=c
   ·rw[if_pos hct] at G;have aU:=x1_ G;clear G;go_wp2_with (at_builtin;refine Ab rfl (.tmp 49) (.tmp 53) 356 rfl b.heap.size 358 i0 _ 2 24 Tryz.underlying356 bT d9 dP d8 rfl d_ u12 Hs.length (Hl Hs) rfl (ra_ C _) (A_ w2.heap.size 0) 1 1 [encStr x,I_ c] rfl rfl ?_ ?_ ?_ ?_ ?_ ?_ ?_)
    exact Am _ _ _
    ·intro u hu;simp at hu;rcases hu with rfl|rfl<;>rfl
    decide;unfold maxLen;omega;omega;have:=a5.size;simp;omega;intro v4 w4 H4;obtain⟨r4,g4,d4,_,_⟩:=H4;have d7:Hid (Fw _ _ _ (_++[⟨_,c⟩])):=Fw.more r4;have aV:=ZbT E C;have cH:=x1_ ((E.alloc _).kept g4 (λe=>aV.2 e.symm) (λe=>aV.1 e.symm));have bU:=x1_ ((a5.alloc a5.size _).grown g4 (by have:=a5.size;simp;omega) (λj hj=>(rl_ C j hj).1));clear r4 g4 d4 aV dD;go_wp2;go_roundw;case rel=>exact⟨_,aS,_,cH,d7,aU,by rw[Qe];have:=a6.out;simp;omega,bU⟩
    case measure=>rw[cH.left_eq,Q.left_eq];exact a6
   rw[if_neg hct] at G;have aU:=x1_ G;clear G;go_wp2;go_roundw;case rel=>exact⟨_,aS,Hs,E,C,aU,by have:=a6.out;omega,a5⟩
   case measure=>rw[E.left_eq,Q.left_eq];exact a6
end Go.Proofs.YtfcgnpchbcmdeaaGreat
