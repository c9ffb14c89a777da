import Derived.Test.YtfcgnpchbcmdeaaGreatZrbm
import Derived.Sort.KeysCollected
namespace Go.Proofs.YtfcgnpchbcmdeaaGreat
set_option linter.all false
set_option maxRecDepth 100000
set_option maxHeartbeats 8000000
open Go.RowKit Go.Maps
def Qo(v:VS)(x:List UInt8):Bool:=!v.miss&&decide (v.word.data.toList=x)
def Jq(ps:List (VS×Int))(x:List UInt8):Int:=(ps.map λp=>if Qo p.1 x=true then p.2 else 0).sum
def Sh(ps:List (VS×Int))(x:List UInt8):Bool:=ps.any λp=>Qo p.1 x
def mh a p x:Jq (a++[p]) x=Jq a x+(if Qo p.1 x=true then p.2 else 0):=by simp[Jq]
def uw a p x:Sh (a++[p]) x=(Sh a x||Qo p.1 x):=by simp[Sh]
def Zi2{ps}(h:∀p∈ps,0<=p.2/\p.2<=99) x:0<=Jq ps x/\Jq ps x<=99*ps.length:=by
 induction ps with
 |nil=>simp[Jq]
 | cons p r ih=>
  have a:=ih (λq hq=>h q (by simp[hq]))
  grind [Jq]
def Lq(D:DataW Unit)(ps:List (VS×Int)):Prop:=IsMap D/\∀x,has D (.string x)=Sh ps x/\D.atKey (.string x) (.lit (.int .i64 0))=.lit (.int .i64 (Jq ps x))
def Lq.start:Lq (.map []) []:=⟨isMap_empty,λ_=>⟨rfl,rfl⟩⟩
def Lq.miss{D a}(h:Lq D a){v:VS} z (b:v.miss=true):Lq D (a++[(v,z)]):=by refine⟨h.1,λx=>?_⟩;have e:Qo v x=false:=(by simp[Qo,b]);rw[uw,mh];simp[e,(h.2 x).1,(h.2 x).2]
def Lq.put{D a}(h:Lq D a){v:VS}{z}(b:v.miss=false):Lq (D.put (.string v.word.data.toList) (.lit (.int .i64 (Jq a v.word.data.toList+z)))) (a++[(v,z)]):=by
 refine⟨h.1.put _ _,λx=>?_⟩;rw[uw,mh]
 by_cases hx:v.word.data.toList=x
 have e:Qo v x=true:=(by simp[Qo,b,hx]);subst hx;rw[has_put_same h.1 (show WideAt.IsKeyLit (.string _) from trivial),atKey_put_same h.1 (show WideAt.IsKeyLit (.string _) from trivial)];simp[e];have e:Qo v x=false:=(by simp[Qo,b,hx]);rw[has_put_other w_,atKey_put_other w_];simp[e,(h.2 x).1,(h.2 x).2]
def Vd:List (VS×Int)->List ByteArray
  |[]=>[]
  |p::r=>if p.1.miss=true then Vd r else if Sh r p.1.word.data.toList=true then Vd r else p.1.word::Vd r
theorem Rs b:∀ps,b∈Vd ps↔Sh ps b.data.toList=true
 |[]=>by simp[Vd,Sh]
 | p ::r=>by
  have ih:=Rs b r;have e:Sh (p::r) b.data.toList=(Qo p.1 b.data.toList||Sh r b.data.toList):=by simp[Sh]
  have a:p.1.word.data.toList=b.data.toList↔b=p.1.word:=by
   constructor
   ·intro h
    cases b;cases hw:p.1.word
    rw[hw] at h;simp at h;rw[h]
   intro h;rw[h]
  grind [Vd,Qo]
theorem Lz:∀ps,(Vd ps).Nodup
 |[]=>List.nodup_nil
 |p::r=>by unfold Vd;split;exact Lz r;split;exact Lz r;rename_i h;exact List.nodup_cons.2 ⟨λh2=>h ((Rs _ r).1 h2),Lz r⟩
def Le(ps:List (VS×Int))(ct:Int):List WS:=((Vd ps).map λb=>⟨b,Jq ps b.data.toList⟩).filter λx=>decide (ct<=x.wt)
def Mb(L:List VS)(ws:List Int)(ct bins:Int):ES:=⟨true,[],(((Le (L.zip ws) ct).mergeSort λx y=>decide (leW x y)).take bins.toNat).map WS.wd⟩
def Tv a b x:x∈Le a b↔Sh a x.wd.data.toList=true/\x.wt=Jq a x.wd.data.toList/\b<=x.wt:=by
 unfold Le;rw[List.mem_filter,List.mem_map];constructor
 ·grind [Rs]
 rintro⟨e,c,d⟩;refine⟨⟨x.wd,(Rs _ _).2 e,?_⟩,by simpa using d⟩;rw[<- c]
def Vb a b:(Le a b).Nodup:=by grind [Le,Lz]
def sq{x y z}(b:leW x y)(a:leW y z):leW x z:=w_
theorem Ve{x y}(b:leW x y)(a:leW y x):x=y:=by
 unfold leW at *;simp only[not_or,not_and] at b a;have e:x.wt=y.wt:=o_;have c:=Zhw (a.2 e) (b.2 e.symm)
 cases x;cases y
 grind
def ZdG{d e H D}(k:H.Nodup)(j:∀x,x∈H↔Sh d x.wd.data.toList=true/\x.wt=Jq d x.wd.data.toList/\e<=x.wt)(g:D.Perm H)(l:D.Pairwise leW):D=(Le d e).mergeSort λx y=>decide (leW x y):=by
 have i:=(List.perm_ext_iff_of_nodup k (Vb _ _)).2 λx=>by rw[j,Tv]
 have f:=List.pairwise_mergeSort (le:=λx y=>decide (leW x y)) (λa b c h1 h2=>decide_eq_true (sq (of_decide_eq_true h1) (of_decide_eq_true h2))) (λa b=>w_) (Le d e);refine List.Perm.eq_of_pairwise (le:=leW) (λa b _ _ h1 h2=>Ve h1 h2) l (f.imp λh=>of_decide_eq_true h) ((g.trans i).trans (List.mergeSort_perm _ _).symm)
structure Np(D:DataW Unit)(left:Lit->Bool)(ct)(Hs:List WS):Prop where
 nd:Hs.Nodup
 mem:∀x:WS,x∈Hs↔(has D (.string x.wd.data.toList)=true/\left (.string x.wd.data.toList)=false/\D.atKey (.string x.wd.data.toList) (.lit (.int .i64 0))=.lit (.int .i64 x.wt)/\ct<=x.wt)
def Np.start D ct:Np D (has D) ct []:=⟨List.nodup_nil,λx=>w_⟩
def ZiG a b:(Lit.string a).sameKey (.string b)=decide (a=b):=by
 by_cases h:a=b
 subst h;simp[Lit.sameKey]
 grind [sameKey_ne]
def Np.step{D d f i}(h:Np D d f i){x c}(q:d (.string x)=true)(g:∀zd,D.atKey (.string x) zd=.lit (.int .i64 c)):Np D (λz=>d z&&!z.sameKey (.string x)) f (if f<=c then i++[⟨⟨x.toArray⟩,c⟩] else i):=by
 have j:=has_true_of_atKey g
 have l:∀y:WS,(has D (.string y.wd.data.toList)=true/\(d (.string y.wd.data.toList)&&!(Lit.string y.wd.data.toList).sameKey (.string x))=false/\D.atKey (.string y.wd.data.toList) (.lit (.int .i64 0))=.lit (.int .i64 y.wt)/\f<=y.wt)↔(y∈i∨(y.wd.data.toList=x/\y.wt=c/\f<=c)):=by
  intro y;rw[ZiG]
  by_cases hy:y.wd.data.toList=x
  ·rw[hy];simp only[j,g,decide_true,Bool.not_true,Bool.and_false,true_and]
   have o:y ∉ i:=λk=>by
    have:=((h.mem y).1 k).2.1
    grind
   grind
  simp only[hy,decide_false,Bool.not_false,Bool.and_true,false_and,or_false];exact(h.mem y).symm
 by_cases hc:f<=c
 ·rw[if_pos hc];refine⟨?_,λy=>?_⟩
  ·refine List.nodup_append.2 ⟨h.nd,s_,λa ha b hb e=>?_⟩;simp only[List.mem_singleton] at hb;have:=((h.mem a).1 ha).2.1
   grind
  rw[l y,List.mem_append,List.mem_singleton];constructor
  ·grind
  rintro(k|⟨m,n,_⟩);exact .inl k;right;obtain⟨⟨r⟩,p⟩:=y;simp only at m n;rw[<- m,n]
 rw[if_neg hc];refine⟨h.nd,λy=>?_⟩
 grind
def Np.end_{D a c d b}(h:Np D a c d)(e:Lq D b)(f:∀kl,a kl=false) x:x∈d↔Sh b x.wd.data.toList=true/\x.wt=Jq b x.wd.data.toList/\c<=x.wt:=by
 rw[h.mem x,f,(e.2 _).1,(e.2 _).2]
 grind
def zi{w:World}{b n D}{R:Value->Option (DataW Unit×List MemPlace)}(h:w.ownsMap Tryz.prog 9 R b n D):Maps.size D<=n:=by
 obtain⟨d,a,_,_,c,rfl⟩:=h;show(List.foldr DataW.insert [] _).length<=n;rw[length_sorted]
 simpa using c
def ZbT{w:World}{b r n g c e d m:Nat}{D a}{R:Value->Option (DataW Unit×List MemPlace)}{v j}(h:w.ranges Tryz.prog 9 R b r n D a g)(s:w.ownsRow c e d v m j):v.ownBlock≠some r/\v.ownBlock≠some b:=by
 obtain⟨t,f,i,seen,q,l,F,k,o,p,rest⟩:=h
 grind [Ad]
def Fw.more{w a v L}{x:WS}(h:w.ownsRow a 358 2 v (L.length+1) (Hl L++[.string x.wd,I_ x.wt])):Fw w a v (L++[x]):=by grind [Fw,pg,Hl,Pi]
def Fw.shape{w b v L}(h:Fw w b v L):∃a c,v=.slice a L.length c/\((a=none/\L.length=0/\c=0)∨∃g,a=some ⟨g,0,none⟩/\L.length<=c):=by
 rcases h.2 with⟨rfl,h0⟩|⟨g,cap,cur,rfl,_,hh,hnc,_⟩
 ·grind
 grind
def Fw.cells{w a g n c L}(h:Fw w a (L_ g n c) L){i}(b:i<L.length):g<w.heap.size/\w.cell? (A_ g (i*2))=some (.string (L.getD i w0W).wd)/\w.cell? (A_ g (i*2+1))=some (I_ (L.getD i w0W).wt):=by
 have d:=h
 rcases h.2 with⟨e,_⟩|⟨g',cap,cur,e,_,hh,_⟩
 ·cases e
 simp only[Value.slice.injEq,Option.some.injEq,Addr.mk.injEq,and_true] at e;obtain⟨rfl,rfl,rfl⟩:=e;refine⟨(Qb hh).1,?_,?_⟩;rw[World.ownsRow.cellAt d (i*2) o_];have:=Tn L i 0 b o_;rw[Nat.add_zero] at this;rw[this];rfl;rw[World.ownsRow.cellAt d (i*2+1) o_,Tn L i 1 b o_];rfl
def Zc8:(Tryz.prog.info? 9).map (λi=>(i.zero,i.size,i.bytes))=some (some (.string ⟨#[]⟩),1,16):=k_
def Cc.shapeW{w b v L}(h:Cc w b v L):∃a c,v=.slice a L.length c:=by
 rcases h.2 with⟨rfl,h0⟩|⟨g,cap,cur,rfl,_⟩
 ·grind
 grind
def ZdS(L:List WS){r}(h:r<L.length):L.take (r+1)=L.take r++[L.getD r w0W]:=by grind [Qi]
def Cc.monoW{w b d v L}(h:Cc w d v L)(k:b<=d):Cc w b v L:=by
 obtain⟨i,f⟩:=h;refine⟨i,?_⟩
 rcases f with h|⟨g,a,c,e,j,rest⟩
 exact .inl h;exact .inr ⟨g,a,c,e,o_,rest⟩
def ZjZ:(Tryz.prog.info? 358).map (λi=>(i.zero,i.size,i.bytes))=some (some (.agg #[.string ⟨#[]⟩,I_ 0]),2,24):=k_
def Zj5:Keyed Tryz.prog 9:=string_keyed Tryz.underlying9
def Zl2 w:(zeroValue 3).run Tryz.prog w=.ok (I_ 0) w:=k_
def Zmv{α β:Type}(L:List α) a {k}(e:k<L.length)(d:k<a.length) b (c:β):(L.zip a).take (k+1)=(L.zip a).take k++[(L.getD k b,a.getD k c)]:=by grind [Qi]
def iw va wa n aM bI ct a L r w (hv:Iq w 0 (.slice va n aM) L)(hw:Cq w wa n r)(hL:L.length=n)(hn:n<=200)(hz:∀z∈r,0<=z/\z<=99)(cC:∀v∈L,v.word.size<=8)(fA:2<=a)(f6:a<=16):C_ 211 #[.slice va n aM,.slice wa n bI,.int .i64 ct,.int .i64 a] w λe w'=>∃v,e=.returned v/\Sz w' w.heap.size v (Mb L r ct a)/\Below w.heap.size w w':=by
 have HV:=x1_ hv;have HW:=x1_ hw;have a7:=x2_ hL hw.1;have HZ:=x1_ hz;have cW:=x1_ cC;clear hv hw hL hz cC;have dW:= @run_makeMap Tryz.prog;obtain⟨b,b7⟩:=ex_ (w.alloc (.cells #[.bool false,.slice none 0 0,.slice none 0 0] 170));have aC:b.heap.size=w.heap.size+1:=(by rw[b7];simp);have aB:=x1_ aC;have V:=x1_ b7;clear aC b7;go_enter Tryz.func211,Tryz.ntmps211;go_wp2_with fail
 go_loopw [21] (λti wr=>∃(k:Nat) (D:DataW Unit),ti=.int .i64 k/\k<=n/\Hid (wr.ownsMap Tryz.prog 9 (plainElem Tryz.prog 3) (w.heap.size+1) k D/\Lq D ((L.zip r).take k))/\Hid (E_ b wr)) (λti _=>n-(intOf ti).toNat)
 case atStart=>
  refine⟨0,.map _,rfl,qg_,⟨?_,Lq.start⟩,?_⟩;have:=World.ownsMap_made (H:=Unit) b Tryz.prog 9 (plainElem Tryz.prog 3);rw[aB,V] at this;exact this;rw[V];exact bA_
 case round=>
  obtain⟨k,D,rfl,hk,HO,d⟩:=hrel;have a8:=d.size
  by_cases hkn:k<n
  ·have cN:k<L.length:=(by rw[a7.out.1];exact hkn);have cU:k<r.length:=(by rw[a7.2];exact hkn);obtain⟨q,rfl,aT,c0,c1,c2⟩:=HV.at cN;rcases HW.out with⟨_,_,h0|⟨b2,o2,rfl,hb2',hc2⟩⟩;omega;have s:E_ w wr:=by have A:E_ w b:=(by rw[V];exact bA_);exact A.trans (d.mono (by have:=aB.out;omega))
   have a0:=(s.cell (p:=(A_ q (k*3))) aT).trans c0;have a1:=(s.cell (p:=(A_ q (k*3+1))) aT).trans c1;have a2:=(s.cell (p:=(A_ q (k*3+2))) aT).trans c2;have d1:=(s.cell (p:=(A_ b2 (o2+k))) hb2').trans (hc2 k hkn);have c8:b2<wr.heap.size:=(by have:=s.size;omega);have bC:=x1_ (Zmv L _ cN cU Ax 0);have dK:Hid ((L.getD k Ax).word.size<=8):=cW _ w_;have dN:Hid (0<=r.getD k 0/\_):=HZ _ w_;clear hc2 c0 c1 c2 s;generalize L.getD k Ax=x,r.getD k 0=z at *;obtain⟨xm,xn,o⟩:=x;simp only at a0 a1 a2;have fD:0<=(k:Int):=o_;have f8:k<(n:Int):=o_
   cases xm with
   | true=>
    have HF:Hid ((wr.alloc (.cells #[.bool true,I_ xn,.string o] 308)).ownsMap Tryz.prog 9 (plainElem Tryz.prog 3) (w.heap.size+1) (k+1) D/\Lq D ((L.zip r).take (k+1))):=(by rw[bC];exact⟨(HO.1.alloc _).mono o_,HO.2.miss _ rfl⟩);refine rd_ ?_;exact⟨k+1,D,g_,o_,HF,d.trans (bz_.alloc o_ _)⟩
   | false=>
    go_upto_region 6 with fail;have dH:o.size<=8:=dK.out;have f:keyOf _ 9 (.string o)=_:=WideMaps.keyOf_string_mk Tryz.underlying9 m_;obtain⟨w2,Z⟩:=ex_ (wr.alloc (.cells #[.bool false,I_ xn,.string o] 308));have aZ:w2.ownsMap Tryz.prog 9 (plainElem Tryz.prog 3) (w.heap.size+1) k D:=(by rw[Z];exact HO.1.alloc _);have e2:w2.cell? (A_ wr.heap.size 2)=some (.string o):=(by rw[Z];exact cq_ 2 _ _ _ hn_);have a5:E_ wr w2:=(by rw[Z];exact bA_);have d2:=(a5.cell (p:=(A_ b2 (o2+k))) c8).trans d1;rw[<- Z];obtain⟨c,bZ,aI,_⟩:=(show w2.drew.ownsMap Tryz.prog 9 (plainElem Tryz.prog 3) (w.heap.size+1) k D from aZ).lookup_int Zj5 Tryz.underlying355 Tryz.underlying3 (Zl2 _) f
    have hc:c=Jq ((L.zip r).take k) o.data.toList:=by
     have A:=(HO.2.2 o.data.toList).2
     grind
    have cP:=Zi2 (ps:=(L.zip _).take k) (λp hp=>HZ _ (List.of_mem_zip (List.mem_of_mem_take hp)).2) o.data.toList;rw[<- hc] at cP;have d9:((L.zip r).take k).length<=200:=w_;have cX:=dN.out;have q1:_=c+z:=Cb o_ o_;obtain⟨w3,hU,cQ,bT⟩:=(show w2.drew.ownsMap Tryz.prog 9 (plainElem Tryz.prog 3) (w.heap.size+1) k D from aZ).update Zj5 Tryz.underlying355 m_ f (plainElem_int (H:=Unit) Tryz.underlying3 (show(Lit.int .i64 (c+z)).wf=true by simp[Lit.wf,IntKind.min,IntKind.max,IntKind.bits,IntKind.signed];omega))
    have HF:Hid (w3.ownsMap Tryz.prog 9 (plainElem Tryz.prog 3) (w.heap.size+1) (k+1) (D.put (.string o.data.toList) (.lit (.int .i64 (c+z))))/\Lq (D.put (.string o.data.toList) (.lit (.int .i64 (c+z)))) ((L.zip r).take (k+1))):=(by refine⟨cQ,?_⟩;rw[bC,hc];exact HO.2.put (v:=⟨false,xn,o⟩) rfl);have f3:Hid (E_ b w3):=(by have A:=d.trans (a5.mono a8);have h2:=A.drew;exact h2.grown bT h2.size (λj hj=>by injection hj with hj;have:=aB.out;omega));clear aZ cQ bT hc cP d9 cX aI f Z a5 HO d bC dH;refine Al (λw'=>w'.cell? _=some _/\w'.cell? _=some _/\(Instr.lookup 355 _ _ _).run _ w'=.ok _ w') 9 k_ ⟨e2,d2,bZ⟩ (λhHeld=>?_);refine Ah 0 ?_;refine Ah 1 ?_;refine Tx [3,8,9] 2 (v:=?_) ?_ ?_
    rotate_left
    ·intro w O;try obtain⟨_,_,_⟩:=O
     go_simp;try with_reducible rfl
    try simp only[Act.put,sA,sB,sC]
    refine Tx [8,9] 3 (v:=?_) ?_ ?_
    rotate_left
    ·intro w O;obtain⟨_,_,_⟩:=O;go_simp;try with_reducible rfl
    try simp only[Act.put,sA,sB,sC]
    refine Ah 4 ?_;refine Ah 5 ?_;refine Ah 6 ?_;refine Tx [8,9] 7 (v:=?_) ?_ ?_
    rotate_left
    ·intro w O;try obtain⟨_,_,_⟩:=O
     go_simp;try with_reducible rfl
    try simp only[Act.put,sA,sB,sC]
    refine Ah 8 ?_;refine Ai (i:=9) k_ rfl k_ (λKK hK=>?_);go_simp;refine hK _ _ ?_;clear hK KK;try simp only[Act.put,sA,sB,sC]
    refine Ak k_ ?_ _;go_wp2;go_roundw;case rel=>grind
    case measure=>exact z_
  have dI:k=n:=o_;subst dI;have dZ:¬k<(k:Int):=o_;have eT:(L.zip r).take k=_:=List.take_of_length_le (by rw[List.length_zip,a7.1,a7.2];omega);have aU:=x1_ HO.1;have cR:Hid (Lq D (L.zip r)):=(by have:=HO.2;rwa [eT] at this);clear HO eT a8;generalize wr=wl at *;obtain⟨i0,cE,dP,dM,d7⟩:=info_parts ZjZ;go_wp2_with (first|(at_range;refine wpList_range_own _ rfl _ _ rfl 9 3 Zj5 Tryz.underlying355 _ _ k D rfl aU ?_;intro wq aN cG aC)|go_in)
  try go_frame
  have aL:=x1_ aN;have cB:=x1_ (d.grown cG d.size (λj hj=>by cases hj));have cS:=x1_ (zi aU);have dX:=d.size;clear aN cG aC d aU;go_loopw [12] (λth wr=>∃(Q:Lit->Bool) (b8:Nat) (Hs:List WS),Hid (wr.ranges Tryz.prog 9 (plainElem Tryz.prog 3) (w.heap.size+1) wl.heap.size k D Q b8)/\Hid (Fw wr b.heap.size th Hs)/\Hid (Np D Q ct Hs)/\Hs.length+b8<=k/\Hid (E_ b wr)) (λ_ wr=>wr.rangeLeft (w.heap.size+1) wl.heap.size)
  case atStart=>exact⟨_,_,[],aL,rn_,Np.start D _,by simpa using cS.out,cB⟩
  case round=>
   clear aL cB;obtain⟨Q,b8,Hs,X,G,HC,bS,d⟩:=hrel;go_wp2_with (first|(at_next;refine wpList_next_ranges _ rfl _ rfl 9 Zj5 _ _ _ (λkey kl hk=>by obtain⟨x,hx,_⟩:=Maps.keyOf_str Tryz.underlying9 hk;exact⟨x,hx⟩) (λv y hv=>by obtain⟨c,rfl,_⟩:=plainElem_int_inv Tryz.underlying3 hv;exact⟨c,rfl⟩) _ _ k D _ _ rfl X ?_ ?_)|go_in)
   ·intro dO aH;have bP:=x1_ (λx=>HC.end_ cR aH x);have cM:=x1_ HC.nd;have d6:Hs.length<=200:=o_;obtain⟨ua,uc,rfl,bO⟩:=G.shape;have bV:=x1_ bO;have bB:=ZbW _ _ _ _ G o_;have b5:=x1_ (λj hj=>(rl_ G j hj).1);obtain⟨hl,aD⟩:=ex_ Hs.length;have dD:=x1_ aD;rw[<- aD] at bV bB b5 d6 bS;clear dO aH HC X cR G bO;rw[<- aD];clear aD;go_wp2_with fail
    refine bB.mono ?_;rintro e w5 ⟨rfl,⟨E,aX,cH,c9⟩,c7⟩;have bY:=x1_ (ZdG cM bP aX cH);have bQ:Hid (E.length=hl):=(by show _=_;rw[aX.length_eq,dD]);have c5:=x1_ c9;have a9:=x1_ (d.grown c7 d.size b5);clear aX cH c9 c7 bB d bP cM b5;obtain⟨m,hm⟩:∃m:Nat,m=min hl a.toNat:=⟨_,rfl⟩;have HM:=x1_ hm;clear hm;have aY:Hid (m<=hl/\m<=a/\m<=200):=⟨by have:=HM.out;omega,by have:=HM.out;omega,by have:=HM.out;omega⟩;obtain⟨w6,a3⟩:=ex_ (w5.alloc (.cells #[.bool true,.slice none 0 0,.slice none 0 0] 170));have b3:Hid (w6.heap[w5.heap.size]? =some (.cells #[.bool true,.slice none 0 0,.slice none 0 0] 170 (0,0))):=by show _=_;rw[a3];exact hn_
    have c3:Hid (Fw w6 b.heap.size (.slice ua hl uc) E):=(by show Fw _ _ _ _;rw[a3];exact ra_ c5 _);have cL:Hid (E_ b w6):=(by show Below _ _ _;rw[a3];exact a9.alloc a9.size _);have aS:=a9.size;go_upto_region 16 with fail;rw[<- a3];clear a3 c5 a9;go_cut [63,64,65] (λv l t0 wx=>t0=.int .i64 0/\∃sa sc,v=.slice sa m sc/\l=.int .i64 (m:Nat)/\Hid (0<m->∃g,sa=some ⟨g,0,none⟩/\ua=some ⟨g,0,none⟩)/\wx=w6)
    case first=>
     rcases bV.out with⟨rfl,h0,rfl⟩|⟨g,rfl,hgc⟩
     ·subst h0;have dF:m=0:=(by have:=aY.out;omega);subst dF;have bb:¬a<0:=o_;have f9:0<=a:=o_;have bm:min 0 a=0:=o_;go_wp2;go_meet
      grind
     by_cases hlb:(hl:Int)<=a
     ·have a6:m=hl:=(by have:=HM.out;omega);subst a6;have bb:¬a<m:=o_;have bm:min (m:Int) a=m:=o_;have b0:0<=(m:Int):=o_;have b1:m<=(uc:Int):=o_;go_wp2;go_meet
      exact⟨rfl,_,_,rfl,rfl,λ_=>⟨g,rfl,rfl⟩,rfl⟩
     have a6:m=a:=(by have:=HM.out;omega);have dY:=x1_ a6;have bm:min (hl:Int) a=m:=o_;have bb:a<hl:=o_;have b0:0<=(m:Int):=o_;have b1:m<=(uc:Int):=o_;subst a6;go_wp2;go_meet
     exact⟨rfl,_,_,rfl,rfl,λ_=>⟨g,rfl,rfl⟩,rfl⟩
    case rest=>
     obtain⟨rfl,sa,sc,rfl,rfl,dB,bX⟩:=hcut;obtain rfl:=bX.symm;clear bX;obtain⟨i9,bL,dE,d8,d5⟩:=info_parts Zc8;have cT:Hid (b.heap[w.heap.size]? =some (.cells #[.bool false,.slice none 0 0,.slice none 0 0] 170 (0,0))):=(by show _=_;rw[V];exact ha_ w _);have aH:w.heap.size<b.heap.size:=(by have:=aB.out;omega);obtain⟨eb,cA⟩:=ex_ w5.heap.size;rw[<- cA] at b3 aS ⊢;clear cA;go_wp2_with fail
     go_loopw [65] (λtj wr=>∃(j:Nat) (vw:Value),tj=.int .i64 j/\j<=m/\Hid (wr.heap[eb]? =some (.cells #[.bool true,.slice none 0 0,vw] 170 (0,0)))/\Hid (Cc wr b.heap.size vw ((E.take j).map WS.wd))/\Hid (Fw wr b.heap.size (.slice ua hl uc) E)/\Hid (E_ b wr)) (λtj _=>m-(intOf tj).toNat)
     case atStart=>exact⟨0,_,rfl,qg_,b3,rn_,c3,cL⟩
     case round=>
      clear b3 c3 cL;obtain⟨j,vw,rfl,hj,HE,aA,aF,d⟩:=hrel;have a8:=d.size;have aR:=(Qb HE).1
      by_cases hjm:j<m
      ·obtain⟨g,rfl,rfl⟩:=dB o_;have bN:j<E.length:=(by rw[bQ];have:=aY.out;omega);obtain⟨f7,x0,x1⟩:=aF.cells bN;have Y:((E.take j).map WS.wd).length=j:=w_;obtain⟨av,cv,rfl⟩:=aA.shapeW;have R:=x1_ aA;have bM:=x1_ (ZdS _ bN);have e2:=cR_ 2 HE;rw[Y] at R e2;generalize E.getD j w0W=x at *;obtain⟨o,xt⟩:=x;simp only at x0 x1;have b0:0<=(j:Int):=o_;have b1:j<(m:Int):=o_;have fB:j<=200:=(by have:=aY.out;omega);obtain⟨w7,U⟩:=ex_ (wr.alloc (.cells #[.string o,I_ xt] 358));have F:E_ wr w7:=(by rw[U];exact bA_);have k0:w7.cell? (A_ wr.heap.size 0)=some (.string o):=(by rw[U];exact cq_ 0 _ _ _ hn_);have e7:=(F.cell (p:=(A_ eb 2)) aR).trans e2
       have bH:Hid (w7.heap[eb]? =some (.cells #[.bool true,.slice none 0 0,.slice av j cv] 170 (0,0))):=(by have:=HE.out;rw[Y] at this;exact(F.block _ aR).trans this);have aK:Hid (Cc w7 b.heap.size (.slice av j cv) ((E.take j).map WS.wd)):=(by have A:=R.out;exact A.below F);have aQ:Hid (Fw _ _ _ _):=(Aa.of_below (S:=λ_=>False) F).row aF (λ_ _=>id);have aW:=x1_ (d.trans (F.mono a8));have dU:wr.heap.size<w7.heap.size:=(by rw[U];simp);go_upto_region 19 with fail;rw[<- U];clear U F x0 x1 e2 HE R aA aF d;have bR:=aW.size
       have N:w7.ownsRow b.heap.size 9 1 (.slice av j cv) j (((E.take j).map WS.wd).map Value.string):=by
        have A:=aK.out;unfold Cc at A
        grind
       obtain⟨Wj,aV⟩:=ex_ ((E.take j).map WS.wd);have cY:Hid ((E.take (j+1)).map WS.wd=Wj++[o]):=(by show _=_;rw[bM,List.map_append,aV];rfl);rw[<- aV] at N Y;have cV:=x1_ Y;have P:=x1_ N;clear N Y aV bM aK;go_wp2_with (at_builtin;refine Ab rfl (.tmp 70) (.tmp 73) 47 rfl b.heap.size 9 i9 (.string ⟨#[]⟩) 1 16 Tryz.underlying47 bL dE d8 d5 rfl d_ (.slice av j cv) j (Wj.map Value.string) rfl (ra_ P _) (A_ w7.heap.size 0) 1 1 [.string o] rfl rfl ?_ ?_ ?_ ?_ ?_ ?_ ?_)
       exact Am _ _ 9;intro u hu;simp at hu;subst hu;rfl;decide;unfold maxLen;omega;omega;simp;omega;intro v4 w4 H4;obtain⟨r4,g4,d4,_,_⟩:=H4;have aE:Cc w4 b.heap.size v4 (Wj++[o]):=by unfold Cc;rw[Qe,cV,List.map_append];exact r4
       obtain⟨a4,c4,rfl⟩:=aE.shapeW;obtain⟨n4,cJ⟩:=ex_ ((Wj++[o]).length);rw[<- cJ] at r4 d4 aE ⊢;clear cJ;obtain⟨w8,bA⟩:=ex_ (w7.alloc (.cells #[.string o] 9));rw[<- bA] at g4 d4;have M:E_ w7 w8:=(by rw[bA];exact bA_);have dA:=M.size;have T:=(Aa.refl _ _).grown g4 (λk hk _=>hk);have b6:=(M.block _ o_).trans bH;have aJ:=(Aa.of_below (S:=λ_=>False) M).row P (λ_ _=>id);have b9:Fw _ _ _ _:=(Aa.of_below (S:=λ_=>False) M).row aQ (λ_ _=>id);have I:=T.at_ b6 (λe=>Au aJ e b6 d_ rfl)
       have bW:Fw w4 b.heap.size (L_ g hl uc) E:=T.row b9 (λq hq e=>by
        obtain⟨dV,hc⟩:=Ad b9 hq
        exact Au aJ e hc d_ rfl)
       have f4:=cR_ 2 I;have z4:=fq_ 2 _ _ I;have dQ:Hid ((w4.setCell _ _).heap[eb]? =some (.cells #[_,_,(.slice a4 n4 c4)] 170 _)):=ht_ 2 _ _ _ I;have dS:Hid (Cc (w4.setCell (A_ eb 2) (.slice a4 n4 c4)) b.heap.size (.slice a4 n4 c4) ((E.take (j+1)).map WS.wd)):=(by rw[cY];exact As aE I d_);have dR:Hid (Fw (w4.setCell ⟨_,2,_⟩ (.slice a4 n4 c4)) _ _ _):=As bW I d_;have cO:Hid (E_ b (w4.setCell (A_ eb 2) (.slice a4 n4 c4))):=by have A:=aW.trans (M.mono bR);exact(A.grown g4 A.size (λq hq=>(rl_ aJ q hq).1)).setCell aS _
       clear r4 g4 d4 bA M dA T b6 aJ b9 I bW P aQ bH aW aE;go_wp2;go_roundw;case rel=>grind
       case measure=>exact z_
      have cD:j=m:=o_;subst cD;have bj:¬j<(j:Int):=o_
      have cZ:(E.take j).map WS.wd=(Mb L r ct a).ww:=by
       show _=(((Le (L.zip r) ct).mergeSort λx y=>decide (leW x y)).take a.toNat).map WS.wd;rw[<- bY];congr 1;have A:=HM.out;have h2:=bQ.out
       grind
      have cI:Hid (Cc wr b.heap.size vw (Mb L r ct a).ww):=w_;obtain⟨av,cv,rfl⟩:=cI.shapeW;have hE:=HE.out;have e0:=cR_ 0 hE;have e1:=cR_ 1 hE;have e2:=cR_ 2 hE;have t:=(d.block _ aH).trans cT;have bF:=x1_ t;have r0:=cR_ 0 t;have r1:=cR_ 1 t;have r2:=cR_ 2 t;have z0:=fq_ 0 _ _ t;have z1:=fq_ 1 _ _ t;have z2:=fq_ 2 _ _ t;clear hE t cZ aA aF HE HM bY;generalize hnw:(Mb L r ct a).ww.length=nw at *;have dT:=x1_ hnw;clear hnw;go_wp2;refine bodyPost_ret (v:=.agg #[.bool true,.slice none 0 0,.slice av nw cv]) (by simp[results,Tryz.results211,go_sem, *]) rfl ?_;have s:E_ w wr:=by have A:E_ w b:=(by rw[V];exact bA_);exact A.trans (d.mono o_)
      refine⟨_,rfl,⟨.slice none 0 0,.slice av nw cv,rfl,rn_,?_⟩,((s.setCell qa_ _).setCell qa_ _).setCell qa_ _⟩;have A:Cc _ w.heap.size _ _:=cI.monoW o_;exact As (As (As A bF d_) (by exact ht_ _ _ _ _ bF) d_) (by exact ht_ _ _ _ _ (ht_ _ _ _ _ bF)) d_
   intro x c kl yd yp w2 aO f c6 hv aI aP bU bE dG dJ;obtain⟨x',ex,rfl,fC⟩:=Maps.keyOf_str Tryz.underlying9 f;obtain rfl:x=x':=encStr_inj ex;obtain⟨c',ec,cF,_⟩:=plainElem_int_inv Tryz.underlying3 hv;obtain rfl:c=c':=(by injection ec);have dL:yd=.lit (.int .i64 c):=(by injection cF);subst dL;have J:=HC.step c6 aI;have C:=x1_ aP;have B:Hid (Fw _ _ _ _):=World.ownsRow.kept G bE (.inr (ZbT X G).1);have W:=x1_ (d.grown bE d.size (λj hj=>w_));have aG:=x1_ bU;clear dG aP bE f hv aI c6 ex ec cF bU
   by_cases hct:ct<=c
   ·rw[if_pos hct] at J;have bD:=x1_ J;clear J;go_wp2_with (at_builtin;refine Ab rfl (.tmp 49) (.tmp 53) 356 rfl b.heap.size 358 i0 _ 2 24 Tryz.underlying356 cE dP dM d7 rfl d_ u12 Hs.length (Hl Hs) rfl (ra_ B _) (A_ w2.heap.size 0) 1 1 [encStr x,I_ c] rfl rfl ?_ ?_ ?_ ?_ ?_ ?_ ?_)
    exact Am _ _ _
    ·intro u hu;simp at hu;rcases hu with rfl|rfl<;>rfl
    decide;unfold maxLen;omega;omega;have:=W.size;simp;omega;intro v4 w4 H4;obtain⟨r4,g4,d4,_,_⟩:=H4;have dC:Hid (Fw _ _ _ (_++[⟨_,c⟩])):=Fw.more r4;have bG:=ZbT C B;have bK:=x1_ ((C.alloc _).kept g4 (λe=>bG.2 e.symm) (λe=>bG.1 e.symm));have cO:=x1_ ((W.alloc W.size _).grown g4 (by have:=W.size;simp;omega) (λj hj=>(rl_ B j hj).1));clear r4 g4 d4 bG dJ;go_wp2;go_roundw;case rel=>exact⟨_,aO,_,bK,dC,bD,by rw[Qe];have:=aG.out;simp;omega,cO⟩
    case measure=>rw[bK.left_eq,X.left_eq];exact aG
   rw[if_neg hct] at J;have bD:=x1_ J;clear J;go_wp2;go_roundw;case rel=>exact⟨_,aO,Hs,C,B,bD,by have:=aG.out;omega,W⟩
   case measure=>rw[C.left_eq,X.left_eq];exact aG
end Go.Proofs.YtfcgnpchbcmdeaaGreat
