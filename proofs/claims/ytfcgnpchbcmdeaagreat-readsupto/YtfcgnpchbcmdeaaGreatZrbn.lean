import Derived.Test.YtfcgnpchbcmdeaaGreatZrbm
import Derived.Sort.KeysCollected
namespace Go.Proofs.YtfcgnpchbcmdeaaGreat
set_option linter.all false
set_option maxRecDepth 100000
set_option maxHeartbeats 8000000
open Go.RowKit Go.Maps
def Qo(v:VS)(x:List UInt8):Bool:=!v.miss&&decide (v.word.data.toList=x)
def Jq(ps:List (VS×Int))(x:List UInt8):Int:=(ps.map λp=>if Qo p.1 x=true then p.2 else 0).sum
def Sh(ps:List (VS×Int))(x:List UInt8):Bool:=ps.any λp=>Qo p.1 x
def mh a p x:Jq (a++[p]) x=Jq a x+(if Qo p.1 x=true then p.2 else 0):=by simp[Jq]
def uw a p x:Sh (a++[p]) x=(Sh a x||Qo p.1 x):=by simp[Sh]
def Zi3{ps}(h:∀p∈ps,0<=p.2/\p.2<=99) x:0<=Jq ps x/\Jq ps x<=99*ps.length:=by
 induction ps with
 |nil=>simp[Jq]
 | cons p r ih=>
  have a:=ih (λq hq=>h q (by simp[hq]))
  grind [Jq]
def Lq(D:DataW Unit)(ps:List (VS×Int)):Prop:=IsMap D/\∀x,has D (.string x)=Sh ps x/\D.atKey (.string x) (.lit (.int .i64 0))=.lit (.int .i64 (Jq ps x))
def Lq.start:Lq (.map []) []:=⟨isMap_empty,λ_=>⟨rfl,rfl⟩⟩
def Lq.miss{D a}(h:Lq D a){v:VS} z (b:v.miss=true):Lq D (a++[(v,z)]):=by refine⟨h.1,λx=>?_⟩;have e:Qo v x=false:=(by simp[Qo,b]);rw[uw,mh];simp[e,(h.2 x).1,(h.2 x).2]
def Lq.put{D a}(h:Lq D a){v:VS}{z}(b:v.miss=false):Lq (D.put (.string v.word.data.toList) (.lit (.int .i64 (Jq a v.word.data.toList+z)))) (a++[(v,z)]):=by
 refine⟨h.1.put _ _,λx=>?_⟩;rw[uw,mh]
 by_cases hx:v.word.data.toList=x
 have e:Qo v x=true:=(by simp[Qo,b,hx]);subst hx;rw[has_put_same h.1 (show WideAt.IsKeyLit (.string _) from trivial),atKey_put_same h.1 (show WideAt.IsKeyLit (.string _) from trivial)];simp[e];have e:Qo v x=false:=(by simp[Qo,b,hx]);rw[has_put_other w_,atKey_put_other w_];simp[e,(h.2 x).1,(h.2 x).2]
def Vd:List (VS×Int)->List ByteArray
  |[]=>[]
  |p::r=>if p.1.miss=true then Vd r else if Sh r p.1.word.data.toList=true then Vd r else p.1.word::Vd r
theorem Rs b:∀ps,b∈Vd ps↔Sh ps b.data.toList=true
 |[]=>by simp[Vd,Sh]
 | p ::r=>by
  have ih:=Rs b r;have e:Sh (p::r) b.data.toList=(Qo p.1 b.data.toList||Sh r b.data.toList):=by simp[Sh]
  have a:p.1.word.data.toList=b.data.toList↔b=p.1.word:=by
   constructor
   ·intro h
    cases b;cases hw:p.1.word
    rw[hw] at h;simp at h;rw[h]
   intro h;rw[h]
  grind [Vd,Qo]
theorem Lz:∀ps,(Vd ps).Nodup
 |[]=>List.nodup_nil
 |p::r=>by unfold Vd;split;exact Lz r;split;exact Lz r;rename_i h;exact List.nodup_cons.2 ⟨λh2=>h ((Rs _ r).1 h2),Lz r⟩
def Le(ps:List (VS×Int))(ct:Int):List WS:=((Vd ps).map λb=>⟨b,Jq ps b.data.toList⟩).filter λx=>decide (ct<=x.wt)
def Mb(L:List VS)(ws:List Int)(ct bins:Int):ES:=⟨true,[],(((Le (L.zip ws) ct).mergeSort λx y=>decide (leW x y)).take bins.toNat).map WS.wd⟩
def Tv a b x:x∈Le a b↔Sh a x.wd.data.toList=true/\x.wt=Jq a x.wd.data.toList/\b<=x.wt:=by
 unfold Le;rw[List.mem_filter,List.mem_map];constructor
 ·grind [Rs]
 rintro⟨d,e,c⟩;refine⟨⟨x.wd,(Rs _ _).2 d,?_⟩,by simpa using c⟩;rw[<- e]
def Vb b a:(Le b a).Nodup:=by grind [Le,Lz]
def sq{x y z}(a:leW x y)(b:leW y z):leW x z:=w_
theorem Ve{x y}(a:leW x y)(b:leW y x):x=y:=by
 unfold leW at *;simp only[not_or,not_and] at a b;have e:x.wt=y.wt:=o_;have c:=Zhw (b.2 e) (a.2 e.symm)
 cases x;cases y
 grind
def ZdG{d e H D}(i:H.Nodup)(j:∀x,x∈H↔Sh d x.wd.data.toList=true/\x.wt=Jq d x.wd.data.toList/\e<=x.wt)(k:D.Perm H)(l:D.Pairwise leW):D=(Le d e).mergeSort λx y=>decide (leW x y):=by
 have g:=(List.perm_ext_iff_of_nodup i (Vb _ _)).2 λx=>by rw[j,Tv]
 have f:=List.pairwise_mergeSort (le:=λx y=>decide (leW x y)) (λa b c h1 h2=>decide_eq_true (sq (of_decide_eq_true h1) (of_decide_eq_true h2))) (λa b=>w_) (Le d e);refine List.Perm.eq_of_pairwise (le:=leW) (λa b _ _ h1 h2=>Ve h1 h2) l (f.imp λh=>of_decide_eq_true h) ((k.trans g).trans (List.mergeSort_perm _ _).symm)
structure Np(D:DataW Unit)(left:Lit->Bool)(ct)(Hs:List WS):Prop where
 nd:Hs.Nodup
 mem:∀x:WS,x∈Hs↔(has D (.string x.wd.data.toList)=true/\left (.string x.wd.data.toList)=false/\D.atKey (.string x.wd.data.toList) (.lit (.int .i64 0))=.lit (.int .i64 x.wt)/\ct<=x.wt)
def Np.start D ct:Np D (has D) ct []:=⟨List.nodup_nil,λx=>w_⟩
def ZiH a b:(Lit.string a).sameKey (.string b)=decide (a=b):=by
 by_cases h:a=b
 subst h;simp[Lit.sameKey]
 grind [sameKey_ne]
def Np.step{D d f g}(h:Np D d f g){x c}(q:d (.string x)=true)(j:∀zd,D.atKey (.string x) zd=.lit (.int .i64 c)):Np D (λz=>d z&&!z.sameKey (.string x)) f (if f<=c then g++[⟨⟨x.toArray⟩,c⟩] else g):=by
 have i:=has_true_of_atKey j
 have l:∀y:WS,(has D (.string y.wd.data.toList)=true/\(d (.string y.wd.data.toList)&&!(Lit.string y.wd.data.toList).sameKey (.string x))=false/\D.atKey (.string y.wd.data.toList) (.lit (.int .i64 0))=.lit (.int .i64 y.wt)/\f<=y.wt)↔(y∈g∨(y.wd.data.toList=x/\y.wt=c/\f<=c)):=by
  intro y;rw[ZiH]
  by_cases hy:y.wd.data.toList=x
  ·rw[hy];simp only[i,j,decide_true,Bool.not_true,Bool.and_false,true_and]
   have o:y ∉ g:=λk=>by
    have:=((h.mem y).1 k).2.1
    grind
   grind
  simp only[hy,decide_false,Bool.not_false,Bool.and_true,false_and,or_false];exact(h.mem y).symm
 by_cases hc:f<=c
 ·rw[if_pos hc];refine⟨?_,λy=>?_⟩
  ·refine List.nodup_append.2 ⟨h.nd,s_,λa ha b hb e=>?_⟩;simp only[List.mem_singleton] at hb;have:=((h.mem a).1 ha).2.1
   grind
  rw[l y,List.mem_append,List.mem_singleton];constructor
  ·grind
  rintro(k|⟨n,m,_⟩);exact .inl k;right;obtain⟨⟨p⟩,r⟩:=y;simp only at n m;rw[<- n,m]
 rw[if_neg hc];refine⟨h.nd,λy=>?_⟩
 grind
def Np.end_{D a e d b}(h:Np D a e d)(c:Lq D b)(f:∀kl,a kl=false) x:x∈d↔Sh b x.wd.data.toList=true/\x.wt=Jq b x.wd.data.toList/\e<=x.wt:=by
 rw[h.mem x,f,(c.2 _).1,(c.2 _).2]
 grind
def zi{w:World}{b n D}{R:Value->Option (DataW Unit×List MemPlace)}(h:w.ownsMap Tryz.prog 9 R b n D):Maps.size D<=n:=by
 obtain⟨d,a,_,_,c,rfl⟩:=h;show(List.foldr DataW.insert [] _).length<=n;rw[length_sorted]
 simpa using c
def ZbT{w:World}{b r n f c e d m:Nat}{D a}{R:Value->Option (DataW Unit×List MemPlace)}{v j}(h:w.ranges Tryz.prog 9 R b r n D a f)(t:w.ownsRow c e d v m j):v.ownBlock≠some r/\v.ownBlock≠some b:=by
 obtain⟨q,i,g,seen,s,o,F,l,k,p,rest⟩:=h
 grind [Ad]
def Fw.more{w a v L}{x:WS}(h:w.ownsRow a 358 2 v (L.length+1) (Hl L++[.string x.wd,I_ x.wt])):Fw w a v (L++[x]):=by grind [Fw,pg,Hl,Pi]
def Fw.shape{w b v L}(h:Fw w b v L):∃a c,v=.slice a L.length c/\((a=none/\L.length=0/\c=0)∨∃g,a=some ⟨g,0,none⟩/\L.length<=c):=by
 rcases h.2 with⟨rfl,h0⟩|⟨g,cap,cur,rfl,_,hh,hnc,_⟩
 ·grind
 grind
def Fw.cells{w a g n c L}(h:Fw w a (L_ g n c) L){i}(d:i<L.length):g<w.heap.size/\w.cell? (A_ g (i*2))=some (.string (L.getD i w0W).wd)/\w.cell? (A_ g (i*2+1))=some (I_ (L.getD i w0W).wt):=by
 have b:=h
 rcases h.2 with⟨e,_⟩|⟨g',cap,cur,e,_,hh,_⟩
 ·cases e
 simp only[Value.slice.injEq,Option.some.injEq,Addr.mk.injEq,and_true] at e;obtain⟨rfl,rfl,rfl⟩:=e;refine⟨(Qb hh).1,?_,?_⟩;rw[World.ownsRow.cellAt b (i*2) o_];have:=Tn L i 0 d o_;rw[Nat.add_zero] at this;rw[this];rfl;rw[World.ownsRow.cellAt b (i*2+1) o_,Tn L i 1 d o_];rfl
def Zc8:(Tryz.prog.info? 9).map (λi=>(i.zero,i.size,i.bytes))=some (some (.string ⟨#[]⟩),1,16):=k_
def Cc.shapeW{w b v L}(h:Cc w b v L):∃a c,v=.slice a L.length c:=by
 rcases h.2 with⟨rfl,h0⟩|⟨g,cap,cur,rfl,_⟩
 ·grind
 grind
def ZdS(L:List WS){r}(h:r<L.length):L.take (r+1)=L.take r++[L.getD r w0W]:=by grind [Qi]
def Cc.monoW{w b d v L}(h:Cc w d v L)(k:b<=d):Cc w b v L:=by
 obtain⟨f,i⟩:=h;refine⟨f,?_⟩
 rcases i with h|⟨g,c,a,e,j,rest⟩
 exact .inl h;exact .inr ⟨g,c,a,e,o_,rest⟩
def Zj0:(Tryz.prog.info? 358).map (λi=>(i.zero,i.size,i.bytes))=some (some (.agg #[.string ⟨#[]⟩,I_ 0]),2,24):=k_
def Zj5:Keyed Tryz.prog 9:=string_keyed Tryz.underlying9
def Zl0 w:(zeroValue 3).run Tryz.prog w=.ok (I_ 0) w:=k_
def Zmt{α β:Type}(L:List α) a {k}(d:k<L.length)(e:k<a.length) b (c:β):(L.zip a).take (k+1)=(L.zip a).take k++[(L.getD k b,a.getD k c)]:=by grind [Qi]
def iw va wa n aP cE ct a L t w (hv:Iq w 0 (.slice va n aP) L)(hw:Cq w wa n t)(hL:L.length=n)(hn:n<=200)(hz:∀z∈t,0<=z/\z<=99)(cL:∀v∈L,v.word.size<=8)(f8:2<=a)(dZ:a<=16):C_ 211 #[.slice va n aP,.slice wa n cE,.int .i64 ct,.int .i64 a] w λe w'=>∃v,e=.returned v/\Sz w' w.heap.size v (Mb L t ct a)/\Below w.heap.size w w':=by
 have HV:=x1_ hv;have HW:=x1_ hw;have a9:=x2_ hL hw.1;have HZ:=x1_ hz;have dK:=x1_ cL;clear hv hw hL hz cL;have fA:= @run_makeMap Tryz.prog;obtain⟨b,b3⟩:=ex_ (w.alloc (.cells #[.bool false,.slice none 0 0,.slice none 0 0] 170));have a7:b.heap.size=w.heap.size+1:=(by rw[b3];simp);have aH:=x1_ a7;have R:=x1_ b3;clear a7 b3;go_enter Tryz.func211,Tryz.ntmps211;go_wp2_with fail
 go_loopw [21] (λti wr=>∃(k:Nat) (D:DataW Unit),ti=.int .i64 k/\k<=n/\Hid (wr.ownsMap Tryz.prog 9 (plainElem Tryz.prog 3) (w.heap.size+1) k D/\Lq D ((L.zip t).take k))/\Hid (E_ b wr)) (λti _=>n-(intOf ti).toNat)
 case atStart=>
  refine⟨0,.map _,rfl,qg_,⟨?_,Lq.start⟩,?_⟩;have:=World.ownsMap_made (H:=Unit) b Tryz.prog 9 (plainElem Tryz.prog 3);rw[aH,R] at this;exact this;rw[R];exact bA_
 case round=>
  obtain⟨k,D,rfl,hk,HO,d⟩:=hrel;have aD:=d.size
  by_cases hkn:k<n
  ·have bK:k<L.length:=(by rw[a9.out.1];exact hkn);have cY:k<t.length:=(by rw[a9.2];exact hkn);obtain⟨q,rfl,bB,c0,c1,c2⟩:=HV.at bK;rcases HW.out with⟨_,_,h0|⟨b2,o2,rfl,hb2',hc2⟩⟩;omega;have r:E_ w wr:=by have A:E_ w b:=(by rw[R];exact bA_);exact A.trans (d.mono (by have:=aH.out;omega))
   have a0:=(r.cell (p:=(A_ q (k*3))) bB).trans c0;have a1:=(r.cell (p:=(A_ q (k*3+1))) bB).trans c1;have a2:=(r.cell (p:=(A_ q (k*3+2))) bB).trans c2;have d1:=(r.cell (p:=(A_ b2 (o2+k))) hb2').trans (hc2 k hkn);have bN:b2<wr.heap.size:=(by have:=r.size;omega);have aZ:=x1_ (Zmt L _ bK cY Ax 0);have d6:Hid ((L.getD k Ax).word.size<=8):=dK _ w_;have cS:Hid (0<=t.getD k 0/\_):=HZ _ w_;clear hc2 c0 c1 c2 r;generalize L.getD k Ax=x,t.getD k 0=z at *;obtain⟨xm,xn,o⟩:=x;simp only at a0 a1 a2;have dW:0<=(k:Int):=o_;have f3:k<(n:Int):=o_
   cases xm with
   | true=>
    have HF:Hid ((wr.alloc (.cells #[.bool true,I_ xn,.string o] 308)).ownsMap Tryz.prog 9 (plainElem Tryz.prog 3) (w.heap.size+1) (k+1) D/\Lq D ((L.zip t).take (k+1))):=(by rw[aZ];exact⟨(HO.1.alloc _).mono o_,HO.2.miss _ rfl⟩);refine rd_ ?_;exact⟨k+1,D,g_,o_,HF,d.trans (bz_.alloc o_ _)⟩
   | false=>
    go_upto_region 6 with fail;have dG:o.size<=8:=d6.out;have f:keyOf _ 9 (.string o)=_:=WideMaps.keyOf_string_mk Tryz.underlying9 m_;obtain⟨w2,P⟩:=ex_ (wr.alloc (.cells #[.bool false,I_ xn,.string o] 308));have bC:w2.ownsMap Tryz.prog 9 (plainElem Tryz.prog 3) (w.heap.size+1) k D:=(by rw[P];exact HO.1.alloc _);have e2:w2.cell? (A_ wr.heap.size 2)=some (.string o):=(by rw[P];exact cq_ 2 _ _ _ hn_);have Y:E_ wr w2:=(by rw[P];exact bA_);have d2:=(Y.cell (p:=(A_ b2 (o2+k))) bN).trans d1;rw[<- P];obtain⟨c,bL,a6,_⟩:=(show w2.drew.ownsMap Tryz.prog 9 (plainElem Tryz.prog 3) (w.heap.size+1) k D from bC).lookup_int Zj5 Tryz.underlying355 Tryz.underlying3 (Zl0 _) f
    have hc:c=Jq ((L.zip t).take k) o.data.toList:=by
     have A:=(HO.2.2 o.data.toList).2
     grind
    have bQ:=Zi3 (ps:=(L.zip _).take k) (λp hp=>HZ _ (List.of_mem_zip (List.mem_of_mem_take hp)).2) o.data.toList;rw[<- hc] at bQ;have d8:((L.zip t).take k).length<=200:=w_;have dA:=cS.out;have q1:_=c+z:=Cb o_ o_;obtain⟨w3,hU,cN,bZ⟩:=(show w2.drew.ownsMap Tryz.prog 9 (plainElem Tryz.prog 3) (w.heap.size+1) k D from bC).update Zj5 Tryz.underlying355 m_ f (plainElem_int (H:=Unit) Tryz.underlying3 (show(Lit.int .i64 (c+z)).wf=true by simp[Lit.wf,IntKind.min,IntKind.max,IntKind.bits,IntKind.signed];omega))
    have HF:Hid (w3.ownsMap Tryz.prog 9 (plainElem Tryz.prog 3) (w.heap.size+1) (k+1) (D.put (.string o.data.toList) (.lit (.int .i64 (c+z))))/\Lq (D.put (.string o.data.toList) (.lit (.int .i64 (c+z)))) ((L.zip t).take (k+1))):=(by refine⟨cN,?_⟩;rw[aZ,hc];exact HO.2.put (v:=⟨false,xn,o⟩) rfl);have f9:Hid (E_ b w3):=(by have A:=d.trans (Y.mono aD);have h2:=A.drew;exact h2.grown bZ h2.size (λj hj=>by injection hj with hj;have:=aH.out;omega));clear bC cN bZ hc bQ d8 dA a6 f P Y HO d aZ dG;refine Al (λw'=>w'.cell? _=some _/\w'.cell? _=some _/\(Instr.lookup 355 _ _ _).run _ w'=.ok _ w') 9 k_ ⟨e2,d2,bL⟩ (λhHeld=>?_);refine Ah 0 ?_;refine Ah 1 ?_;refine Tx [3,8,9] 2 (v:=?_) ?_ ?_
    rotate_left
    ·intro w U;try obtain⟨_,_,_⟩:=U
     go_simp;try with_reducible rfl
    try simp only[Act.put,sA,sB,sC]
    refine Tx [8,9] 3 (v:=?_) ?_ ?_
    rotate_left
    ·intro w U;obtain⟨_,_,_⟩:=U;go_simp;try with_reducible rfl
    try simp only[Act.put,sA,sB,sC]
    refine Ah 4 ?_;refine Ah 5 ?_;refine Ah 6 ?_;refine Tx [8,9] 7 (v:=?_) ?_ ?_
    rotate_left
    ·intro w U;try obtain⟨_,_,_⟩:=U
     go_simp;try with_reducible rfl
    try simp only[Act.put,sA,sB,sC]
    refine Ah 8 ?_;refine Ai (i:=9) k_ rfl k_ (λKK hK=>?_);go_simp;refine hK _ _ ?_;clear hK KK;try simp only[Act.put,sA,sB,sC]
    refine Ak k_ ?_ _;go_wp2;go_roundw;case rel=>grind
    case measure=>exact z_
  have cZ:k=n:=o_;subst cZ;have dU:¬k<(k:Int):=o_;have eT:(L.zip t).take k=_:=List.take_of_length_le (by rw[List.length_zip,a9.1,a9.2];omega);have b5:=x1_ HO.1;have bY:Hid (Lq D (L.zip t)):=(by have:=HO.2;rwa [eT] at this);clear HO eT aD;generalize wr=wl at *;obtain⟨i0,cQ,dC,d7,dL⟩:=info_parts Zj0;go_wp2_with (first|(at_range;refine wpList_range_own _ rfl _ _ rfl 9 3 Zj5 Tryz.underlying355 _ _ k D rfl b5 ?_;intro wq aQ bS a7)|go_in)
  try go_frame
  have aM:=x1_ aQ;have bR:=x1_ (d.grown bS d.size (λj hj=>by cases hj));have dD:=x1_ (zi b5);have fC:=d.size;clear aQ bS a7 d b5;go_loopw [12] (λth wr=>∃(V:Lit->Bool) (aU:Nat) (Hs:List WS),Hid (wr.ranges Tryz.prog 9 (plainElem Tryz.prog 3) (w.heap.size+1) wl.heap.size k D V aU)/\Hid (Fw wr b.heap.size th Hs)/\Hid (Np D V ct Hs)/\Hs.length+aU<=k/\Hid (E_ b wr)) (λ_ wr=>wr.rangeLeft (w.heap.size+1) wl.heap.size)
  case atStart=>exact⟨_,_,[],aM,rn_,Np.start D _,by simpa using dD.out,bR⟩
  case round=>
   clear aM bR;obtain⟨V,aU,Hs,Z,I,HC,c5,d⟩:=hrel;go_wp2_with (first|(at_next;refine wpList_next_ranges _ rfl _ rfl 9 Zj5 _ _ _ (λkey kl hk=>by obtain⟨x,hx,_⟩:=Maps.keyOf_str Tryz.underlying9 hk;exact⟨x,hx⟩) (λv y hv=>by obtain⟨c,rfl,_⟩:=plainElem_int_inv Tryz.underlying3 hv;exact⟨c,rfl⟩) _ _ k D _ _ rfl Z ?_ ?_)|go_in)
   ·intro d5 a8;have cB:=x1_ (λx=>HC.end_ bY a8 x);have bH:=x1_ HC.nd;have cW:Hs.length<=200:=o_;obtain⟨ua,uc,rfl,bV⟩:=I.shape;have cG:=x1_ bV;have aV:=ZbW _ _ _ _ I o_;have aY:=x1_ (λj hj=>(rl_ I j hj).1);obtain⟨hl,aF⟩:=ex_ Hs.length;have cT:=x1_ aF;rw[<- aF] at cG aV aY cW c5;clear d5 a8 HC Z bY I bV;rw[<- aF];clear aF;go_wp2_with fail
    refine aV.mono ?_;rintro e w5 ⟨rfl,⟨C,bD,bO,cO⟩,bI⟩;have cD:=x1_ (ZdG bH cB bD bO);have bX:Hid (C.length=hl):=(by show _=_;rw[bD.length_eq,cT]);have c9:=x1_ cO;have aB:=x1_ (d.grown bI d.size aY);clear bD bO cO bI aV d cB bH aY;obtain⟨m,hm⟩:∃m:Nat,m=min hl a.toNat:=⟨_,rfl⟩;have HM:=x1_ hm;clear hm;have aX:Hid (m<=hl/\m<=a/\m<=200):=⟨by have:=HM.out;omega,by have:=HM.out;omega,by have:=HM.out;omega⟩;obtain⟨w6,a5⟩:=ex_ (w5.alloc (.cells #[.bool true,.slice none 0 0,.slice none 0 0] 170));have bE:Hid (w6.heap[w5.heap.size]? =some (.cells #[.bool true,.slice none 0 0,.slice none 0 0] 170 (0,0))):=by show _=_;rw[a5];exact hn_
    have cR:Hid (Fw w6 b.heap.size (.slice ua hl uc) C):=(by show Fw _ _ _ _;rw[a5];exact ra_ c9 _);have bP:Hid (E_ b w6):=(by show Below _ _ _;rw[a5];exact aB.alloc aB.size _);have aL:=aB.size;go_upto_region 16 with fail;rw[<- a5];clear a5 c9 aB;go_cut [63,64,65] (λv l t0 wx=>t0=.int .i64 0/\∃sa sc,v=.slice sa m sc/\l=.int .i64 (m:Nat)/\Hid (0<m->∃g,sa=some ⟨g,0,none⟩/\ua=some ⟨g,0,none⟩)/\wx=w6)
    case first=>
     rcases cG.out with⟨rfl,h0,rfl⟩|⟨g,rfl,hgc⟩
     ·subst h0;have dM:m=0:=(by have:=aX.out;omega);subst dM;have bb:¬a<0:=o_;have dV:0<=a:=o_;have bm:min 0 a=0:=o_;go_wp2;go_meet
      grind
     by_cases hlb:(hl:Int)<=a
     ·have aE:m=hl:=(by have:=HM.out;omega);subst aE;have bb:¬a<m:=o_;have bm:min (m:Int) a=m:=o_;have b0:0<=(m:Int):=o_;have b1:m<=(uc:Int):=o_;go_wp2;go_meet
      exact⟨rfl,_,_,rfl,rfl,λ_=>⟨g,rfl,rfl⟩,rfl⟩
     have aE:m=a:=(by have:=HM.out;omega);have fD:=x1_ aE;have bm:min (hl:Int) a=m:=o_;have bb:a<hl:=o_;have b0:0<=(m:Int):=o_;have b1:m<=(uc:Int):=o_;subst aE;go_wp2;go_meet
     exact⟨rfl,_,_,rfl,rfl,λ_=>⟨g,rfl,rfl⟩,rfl⟩
    case rest=>
     obtain⟨rfl,sa,sc,rfl,rfl,dH,cI⟩:=hcut;obtain rfl:=cI.symm;clear cI;obtain⟨i9,bW,dN,cV,cU⟩:=info_parts Zc8;have dE:Hid (b.heap[w.heap.size]? =some (.cells #[.bool false,.slice none 0 0,.slice none 0 0] 170 (0,0))):=(by show _=_;rw[R];exact ha_ w _);have a8:w.heap.size<b.heap.size:=(by have:=aH.out;omega);obtain⟨eb,cA⟩:=ex_ w5.heap.size;rw[<- cA] at bE aL ⊢;clear cA;go_wp2_with fail
     go_loopw [65] (λtj wr=>∃(j:Nat) (vw:Value),tj=.int .i64 j/\j<=m/\Hid (wr.heap[eb]? =some (.cells #[.bool true,.slice none 0 0,vw] 170 (0,0)))/\Hid (Cc wr b.heap.size vw ((C.take j).map WS.wd))/\Hid (Fw wr b.heap.size (.slice ua hl uc) C)/\Hid (E_ b wr)) (λtj _=>m-(intOf tj).toNat)
     case atStart=>exact⟨0,_,rfl,qg_,bE,rn_,cR,bP⟩
     case round=>
      clear bE cR bP;obtain⟨j,vw,rfl,hj,HE,aJ,aI,d⟩:=hrel;have aD:=d.size;have aR:=(Qb HE).1
      by_cases hjm:j<m
      ·obtain⟨g,rfl,rfl⟩:=dH o_;have bM:j<C.length:=(by rw[bX];have:=aX.out;omega);obtain⟨dY,x0,x1⟩:=aI.cells bM;have N:((C.take j).map WS.wd).length=j:=w_;obtain⟨av,cv,rfl⟩:=aJ.shapeW;have a3:=x1_ aJ;have c8:=x1_ (ZdS _ bM);have e2:=cR_ 2 HE;rw[N] at a3 e2;generalize C.getD j w0W=x at *;obtain⟨o,xt⟩:=x;simp only at x0 x1;have b0:0<=(j:Int):=o_;have b1:j<(m:Int):=o_;have dT:j<=200:=(by have:=aX.out;omega);obtain⟨w7,Q⟩:=ex_ (wr.alloc (.cells #[.string o,I_ xt] 358));have F:E_ wr w7:=(by rw[Q];exact bA_);have k0:w7.cell? (A_ wr.heap.size 0)=some (.string o):=(by rw[Q];exact cq_ 0 _ _ _ hn_);have e7:=(F.cell (p:=(A_ eb 2)) aR).trans e2
       have cH:Hid (w7.heap[eb]? =some (.cells #[.bool true,.slice none 0 0,.slice av j cv] 170 (0,0))):=(by have:=HE.out;rw[N] at this;exact(F.block _ aR).trans this);have aN:Hid (Cc w7 b.heap.size (.slice av j cv) ((C.take j).map WS.wd)):=(by have A:=a3.out;exact A.below F);have aK:Hid (Fw _ _ _ _):=(Aa.of_below (S:=λ_=>False) F).row aI (λ_ _=>id);have b8:=x1_ (d.trans (F.mono aD));have f6:wr.heap.size<w7.heap.size:=(by rw[Q];simp);go_upto_region 19 with fail;rw[<- Q];clear Q F x0 x1 e2 HE a3 aJ aI d;have c7:=b8.size
       have X:w7.ownsRow b.heap.size 9 1 (.slice av j cv) j (((C.take j).map WS.wd).map Value.string):=by
        have A:=aN.out;unfold Cc at A
        grind
       obtain⟨Wj,bA⟩:=ex_ ((C.take j).map WS.wd);have dI:Hid ((C.take (j+1)).map WS.wd=Wj++[o]):=(by show _=_;rw[c8,List.map_append,bA];rfl);rw[<- bA] at X N;have dF:=x1_ N;have O:=x1_ X;clear X N bA c8 aN;go_wp2_with (at_builtin;refine Ab rfl (.tmp 70) (.tmp 73) 47 rfl b.heap.size 9 i9 (.string ⟨#[]⟩) 1 16 Tryz.underlying47 bW dN cV cU rfl d_ (.slice av j cv) j (Wj.map Value.string) rfl (ra_ O _) (A_ w7.heap.size 0) 1 1 [.string o] rfl rfl ?_ ?_ ?_ ?_ ?_ ?_ ?_)
       exact Am _ _ 9;intro u hu;simp at hu;subst hu;rfl;decide;unfold maxLen;omega;omega;simp;omega;intro v4 w4 H4;obtain⟨r4,g4,d4,_,_⟩:=H4;have aG:Cc w4 b.heap.size v4 (Wj++[o]):=by unfold Cc;rw[Qe,dF,List.map_append];exact r4
       obtain⟨a4,c4,rfl⟩:=aG.shapeW;obtain⟨n4,c3⟩:=ex_ ((Wj++[o]).length);rw[<- c3] at r4 d4 aG ⊢;clear c3;obtain⟨w8,b7⟩:=ex_ (w7.alloc (.cells #[.string o] 9));rw[<- b7] at g4 d4;have J:E_ w7 w8:=(by rw[b7];exact bA_);have dO:=J.size;have T:=(Aa.refl _ _).grown g4 (λk hk _=>hk);have b9:=(J.block _ o_).trans cH;have aC:=(Aa.of_below (S:=λ_=>False) J).row O (λ_ _=>id);have bF:Fw _ _ _ _:=(Aa.of_below (S:=λ_=>False) J).row aK (λ_ _=>id);have G:=T.at_ b9 (λe=>Au aC e b9 d_ rfl)
       have bU:Fw w4 b.heap.size (L_ g hl uc) C:=T.row bF (λq hq e=>by
        obtain⟨dX,hc⟩:=Ad bF hq
        exact Au aC e hc d_ rfl)
       have f4:=cR_ 2 G;have z4:=fq_ 2 _ _ G;have dS:Hid ((w4.setCell _ _).heap[eb]? =some (.cells #[_,_,(.slice a4 n4 c4)] 170 _)):=ht_ 2 _ _ _ G;have dQ:Hid (Cc (w4.setCell (A_ eb 2) (.slice a4 n4 c4)) b.heap.size (.slice a4 n4 c4) ((C.take (j+1)).map WS.wd)):=(by rw[dI];exact As aG G d_);have dR:Hid (Fw (w4.setCell ⟨_,2,_⟩ (.slice a4 n4 c4)) _ _ _):=As bU G d_;have cP:Hid (E_ b (w4.setCell (A_ eb 2) (.slice a4 n4 c4))):=by have A:=b8.trans (J.mono c7);exact(A.grown g4 A.size (λq hq=>(rl_ aC q hq).1)).setCell aL _
       clear r4 g4 d4 b7 J dO T b9 aC bF G bU O aK cH b8 aG;go_wp2;go_roundw;case rel=>grind
       case measure=>exact z_
      have cC:j=m:=o_;subst cC;have bj:¬j<(j:Int):=o_
      have dJ:(C.take j).map WS.wd=(Mb L t ct a).ww:=by
       show _=(((Le (L.zip t) ct).mergeSort λx y=>decide (leW x y)).take a.toNat).map WS.wd;rw[<- cD];congr 1;have A:=HM.out;have h2:=bX.out
       grind
      have cJ:Hid (Cc wr b.heap.size vw (Mb L t ct a).ww):=w_;obtain⟨av,cv,rfl⟩:=cJ.shapeW;have hE:=HE.out;have e0:=cR_ 0 hE;have e1:=cR_ 1 hE;have e2:=cR_ 2 hE;have s:=(d.block _ a8).trans dE;have aW:=x1_ s;have r0:=cR_ 0 s;have r1:=cR_ 1 s;have r2:=cR_ 2 s;have z0:=fq_ 0 _ _ s;have z1:=fq_ 1 _ _ s;have z2:=fq_ 2 _ _ s;clear hE s dJ aJ aI HE HM cD;generalize hnw:(Mb L t ct a).ww.length=nw at *;have fB:=x1_ hnw;clear hnw;go_wp2;refine bodyPost_ret (v:=.agg #[.bool true,.slice none 0 0,.slice av nw cv]) (by simp[results,Tryz.results211,go_sem, *]) rfl ?_;have r:E_ w wr:=by have A:E_ w b:=(by rw[R];exact bA_);exact A.trans (d.mono o_)
      refine⟨_,rfl,⟨.slice none 0 0,.slice av nw cv,rfl,rn_,?_⟩,((r.setCell qa_ _).setCell qa_ _).setCell qa_ _⟩;have A:Cc _ w.heap.size _ _:=cJ.monoW o_;exact As (As (As A aW d_) (by exact ht_ _ _ _ _ aW) d_) (by exact ht_ _ _ _ _ (ht_ _ _ _ _ aW)) d_
   intro x c kl yd yp w2 aS f cM hv a6 aO cF bG d9 dP;obtain⟨x',ex,rfl,f7⟩:=Maps.keyOf_str Tryz.underlying9 f;obtain rfl:x=x':=encStr_inj ex;obtain⟨c',ec,c6,_⟩:=plainElem_int_inv Tryz.underlying3 hv;obtain rfl:c=c':=(by injection ec);have cX:yd=.lit (.int .i64 c):=(by injection c6);subst cX;have M:=HC.step cM a6;have B:=x1_ aO;have E:Hid (Fw _ _ _ _):=World.ownsRow.kept I bG (.inr (ZbT Z I).1);have W:=x1_ (d.grown bG d.size (λj hj=>w_));have aA:=x1_ cF;clear d9 aO bG f hv a6 cM ex ec c6 cF
   by_cases hct:ct<=c
   ·rw[if_pos hct] at M;have aT:=x1_ M;clear M;go_wp2_with (at_builtin;refine Ab rfl (.tmp 49) (.tmp 53) 356 rfl b.heap.size 358 i0 _ 2 24 Tryz.underlying356 cQ dC d7 dL rfl d_ u12 Hs.length (Hl Hs) rfl (ra_ E _) (A_ w2.heap.size 0) 1 1 [encStr x,I_ c] rfl rfl ?_ ?_ ?_ ?_ ?_ ?_ ?_)
    exact Am _ _ _
    ·intro u hu;simp at hu;rcases hu with rfl|rfl<;>rfl
    decide;unfold maxLen;omega;omega;have:=W.size;simp;omega;intro v4 w4 H4;obtain⟨r4,g4,d4,_,_⟩:=H4;have dB:Hid (Fw _ _ _ (_++[⟨_,c⟩])):=Fw.more r4;have b6:=ZbT B E;have bT:=x1_ ((B.alloc _).kept g4 (λe=>b6.2 e.symm) (λe=>b6.1 e.symm));have cP:=x1_ ((W.alloc W.size _).grown g4 (by have:=W.size;simp;omega) (λj hj=>(rl_ E j hj).1));clear r4 g4 d4 b6 dP;go_wp2;go_roundw;case rel=>exact⟨_,aS,_,bT,dB,aT,by rw[Qe];have:=aA.out;simp;omega,cP⟩
    case measure=>rw[bT.left_eq,Z.left_eq];exact aA
   rw[if_neg hct] at M;have aT:=x1_ M;clear M;go_wp2;go_roundw;case rel=>exact⟨_,aS,Hs,B,E,aT,by have:=aA.out;omega,W⟩
   case measure=>rw[B.left_eq,Z.left_eq];exact aA
end Go.Proofs.YtfcgnpchbcmdeaaGreat
