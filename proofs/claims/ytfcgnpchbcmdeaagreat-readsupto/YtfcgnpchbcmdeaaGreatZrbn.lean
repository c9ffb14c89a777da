import Derived.Test.YtfcgnpchbcmdeaaGreatZrbm
import Derived.Sort.KeysCollected
namespace Go.Proofs.YtfcgnpchbcmdeaaGreat
set_option linter.all false
set_option maxRecDepth 100000
set_option maxHeartbeats 8000000
open Go.RowKit Go.Maps
def Qo(v:VS)(x:List UInt8):Bool:=!v.miss&&decide (v.word.data.toList=x)
def Js(ps:List (VS×Int))(x:List UInt8):Int:=(ps.map λp=>if Qo p.1 x=true then p.2 else 0).sum
def Sj(ps:List (VS×Int))(x:List UInt8):Bool:=ps.any λp=>Qo p.1 x
def mg a p x:Js (a++[p]) x=Js a x+(if Qo p.1 x=true then p.2 else 0):=by simp[Js]
def uv a p x:Sj (a++[p]) x=(Sj a x||Qo p.1 x):=by simp[Sj]
def Zi0{ps}(h:∀p∈ps,0<=p.2/\p.2<=99) x:0<=Js ps x/\Js ps x<=99*ps.length:=by
 induction ps with
 |nil=>simp[Js]
 | cons p r ih=>
  have a:=ih (λq hq=>h q (by simp[hq]))
  grind [Js]
def Lr(D:DataW Unit)(ps:List (VS×Int)):Prop:=IsMap D/\∀x,has D (.string x)=Sj ps x/\D.atKey (.string x) (.lit (.int .i64 0))=.lit (.int .i64 (Js ps x))
def Lr.start:Lr (.map []) []:=⟨isMap_empty,λ_=>⟨rfl,rfl⟩⟩
def Lr.miss{D a}(h:Lr D a){v:VS} z (b:v.miss=true):Lr D (a++[(v,z)]):=by refine⟨h.1,λx=>?_⟩;have e:Qo v x=false:=(by simp[Qo,b]);rw[uv,mg];simp[e,(h.2 x).1,(h.2 x).2]
def Lr.put{D a}(h:Lr D a){v:VS}{z}(b:v.miss=false):Lr (D.put (.string v.word.data.toList) (.lit (.int .i64 (Js a v.word.data.toList+z)))) (a++[(v,z)]):=by
 refine⟨h.1.put _ _,λx=>?_⟩;rw[uv,mg]
 by_cases hx:v.word.data.toList=x
 have e:Qo v x=true:=(by simp[Qo,b,hx]);subst hx;rw[has_put_same h.1 (show WideAt.IsKeyLit (.string _) from trivial),atKey_put_same h.1 (show WideAt.IsKeyLit (.string _) from trivial)];simp[e];have e:Qo v x=false:=(by simp[Qo,b,hx]);rw[has_put_other w_,atKey_put_other w_];simp[e,(h.2 x).1,(h.2 x).2]
def Vf:List (VS×Int)->List ByteArray
  |[]=>[]
  |p::r=>if p.1.miss=true then Vf r else if Sj r p.1.word.data.toList=true then Vf r else p.1.word::Vf r
def Ru b:∀ps,b∈Vf ps↔Sj ps b.data.toList=true
 |[]=>by simp[Vf,Sj]
 | p ::r=>by
  have ih:=Ru b r;have e:Sj (p::r) b.data.toList=(Qo p.1 b.data.toList||Sj r b.data.toList):=by simp[Sj]
  have a:p.1.word.data.toList=b.data.toList↔b=p.1.word:=by
   constructor
   ·intro h
    cases b;cases hw:p.1.word
    rw[hw] at h;simp at h;rw[h]
   intro h;rw[h]
  grind [Vf,Qo]
def Ma:∀ps,(Vf ps).Nodup
 |[]=>List.nodup_nil
 |p::r=>by unfold Vf;split;exact Ma r;split;exact Ma r;rename_i h;exact List.nodup_cons.2 ⟨λh2=>h ((Ru _ r).1 h2),Ma r⟩
def Lg(ps:List (VS×Int))(ct:Int):List WS:=((Vf ps).map λb=>⟨b,Js ps b.data.toList⟩).filter λx=>decide (ct<=x.wt)
def Mc(L:List VS)(ws:List Int)(ct bins:Int):ES:=⟨true,[],(((Lg (L.zip ws) ct).mergeSort λx y=>decide (leW x y)).take bins.toNat).map WS.wd⟩
def Ty a b x:x∈Lg a b↔Sj a x.wd.data.toList=true/\x.wt=Js a x.wd.data.toList/\b<=x.wt:=by
 unfold Lg;rw[List.mem_filter,List.mem_map];constructor
 ·grind [Ru]
 rintro⟨d,c,e⟩;refine⟨⟨x.wd,(Ru _ _).2 d,?_⟩,by simpa using e⟩;rw[<- c]
def Vd b a:(Lg b a).Nodup:=by grind [Lg,Ma]
def sj{x y z}(b:leW x y)(a:leW y z):leW x z:=w_
def Vg{x y}(b:leW x y)(a:leW y x):x=y:=by
 unfold leW at *;simp only[not_or,not_and] at b a;have e:x.wt=y.wt:=o_;have c:=Zhu (a.2 e) (b.2 e.symm)
 cases x;cases y
 grind
def ZdG{d e H D}(k:H.Nodup)(f:∀x,x∈H↔Sj d x.wd.data.toList=true/\x.wt=Js d x.wd.data.toList/\e<=x.wt)(g:D.Perm H)(l:D.Pairwise leW):D=(Lg d e).mergeSort λx y=>decide (leW x y):=by
 have j:=(List.perm_ext_iff_of_nodup k (Vd _ _)).2 λx=>by rw[f,Ty]
 have i:=List.pairwise_mergeSort (le:=λx y=>decide (leW x y)) (λa b c h1 h2=>decide_eq_true (sj (of_decide_eq_true h1) (of_decide_eq_true h2))) (λa b=>w_) (Lg d e);refine List.Perm.eq_of_pairwise (le:=leW) (λa b _ _ h1 h2=>Vg h1 h2) l (i.imp λh=>of_decide_eq_true h) ((g.trans j).trans (List.mergeSort_perm _ _).symm)
structure Np(D:DataW Unit)(left:Lit->Bool)(ct)(Hs:List WS):Prop where
 nd:Hs.Nodup
 mem:∀x:WS,x∈Hs↔(has D (.string x.wd.data.toList)=true/\left (.string x.wd.data.toList)=false/\D.atKey (.string x.wd.data.toList) (.lit (.int .i64 0))=.lit (.int .i64 x.wt)/\ct<=x.wt)
def Np.start D ct:Np D (has D) ct []:=⟨List.nodup_nil,λx=>w_⟩
def ZiE a b:(Lit.string a).sameKey (.string b)=decide (a=b):=by
 by_cases h:a=b
 subst h;simp[Lit.sameKey]
 grind [sameKey_ne]
def Np.step{D d f i}(h:Np D d f i){x c}(r:d (.string x)=true)(j:∀zd,D.atKey (.string x) zd=.lit (.int .i64 c)):Np D (λz=>d z&&!z.sameKey (.string x)) f (if f<=c then i++[⟨⟨x.toArray⟩,c⟩] else i):=by
 have g:=has_true_of_atKey j
 have l:∀y:WS,(has D (.string y.wd.data.toList)=true/\(d (.string y.wd.data.toList)&&!(Lit.string y.wd.data.toList).sameKey (.string x))=false/\D.atKey (.string y.wd.data.toList) (.lit (.int .i64 0))=.lit (.int .i64 y.wt)/\f<=y.wt)↔(y∈i∨(y.wd.data.toList=x/\y.wt=c/\f<=c)):=by
  intro y;rw[ZiE]
  by_cases hy:y.wd.data.toList=x
  ·rw[hy];simp only[g,j,decide_true,Bool.not_true,Bool.and_false,true_and]
   have o:y ∉ i:=λk=>by
    have:=((h.mem y).1 k).2.1
    grind
   grind
  simp only[hy,decide_false,Bool.not_false,Bool.and_true,false_and,or_false];exact(h.mem y).symm
 by_cases hc:f<=c
 ·rw[if_pos hc];refine⟨?_,λy=>?_⟩
  ·refine List.nodup_append.2 ⟨h.nd,s_,λa ha b hb e=>?_⟩;simp only[List.mem_singleton] at hb;have:=((h.mem a).1 ha).2.1
   grind
  rw[l y,List.mem_append,List.mem_singleton];constructor
  ·grind
  rintro(k|⟨n,m,_⟩);exact .inl k;right;obtain⟨⟨q⟩,p⟩:=y;simp only at n m;rw[<- n,m]
 rw[if_neg hc];refine⟨h.nd,λy=>?_⟩
 grind
def Np.end_{D a d c b}(h:Np D a d c)(e:Lr D b)(f:∀kl,a kl=false) x:x∈c↔Sj b x.wd.data.toList=true/\x.wt=Js b x.wd.data.toList/\d<=x.wt:=by
 rw[h.mem x,f,(e.2 _).1,(e.2 _).2]
 grind
def zh{w:World}{b n D}{R:Value->Option (DataW Unit×List MemPlace)}(h:w.ownsMap Tryz.prog 9 R b n D):Maps.size D<=n:=by
 obtain⟨d,a,_,_,c,rfl⟩:=h;show(List.foldr DataW.insert [] _).length<=n;rw[length_sorted]
 simpa using c
def ZbT{w:World}{b r n g a e d m:Nat}{D c}{R:Value->Option (DataW Unit×List MemPlace)}{v j}(h:w.ranges Tryz.prog 9 R b r n D c g)(o:w.ownsRow a e d v m j):v.ownBlock≠some r/\v.ownBlock≠some b:=by
 obtain⟨s,i,f,seen,k,l,F,t,p,q,rest⟩:=h
 grind [Ad]
def Fw.more{w a v L}{x:WS}(h:w.ownsRow a 358 2 v (L.length+1) (Hl L++[.string x.wd,I_ x.wt])):Fw w a v (L++[x]):=by grind [Fw,pe,Hl,Pi]
def Fw.shape{w b v L}(h:Fw w b v L):∃a c,v=.slice a L.length c/\((a=none/\L.length=0/\c=0)∨∃g,a=some ⟨g,0,none⟩/\L.length<=c):=by
 rcases h.2 with⟨rfl,h0⟩|⟨g,cap,cur,rfl,_,hh,hnc,_⟩
 ·grind
 grind
def Fw.cells{w a g n c L}(h:Fw w a (L_ g n c) L){i}(d:i<L.length):g<w.heap.size/\w.cell? (A_ g (i*2))=some (.string (L.getD i w0W).wd)/\w.cell? (A_ g (i*2+1))=some (I_ (L.getD i w0W).wt):=by
 have b:=h
 rcases h.2 with⟨e,_⟩|⟨g',cap,cur,e,_,hh,_⟩
 ·cases e
 simp only[Value.slice.injEq,Option.some.injEq,Addr.mk.injEq,and_true] at e;obtain⟨rfl,rfl,rfl⟩:=e;refine⟨(Qb hh).1,?_,?_⟩;rw[World.ownsRow.cellAt b (i*2) o_];have:=Tp L i 0 d o_;rw[Nat.add_zero] at this;rw[this];rfl;rw[World.ownsRow.cellAt b (i*2+1) o_,Tp L i 1 d o_];rfl
def Zc8:(Tryz.prog.info? 9).map (λi=>(i.zero,i.size,i.bytes))=some (some (.string ⟨#[]⟩),1,16):=k_
def Cc.shapeW{w b v L}(h:Cc w b v L):∃a c,v=.slice a L.length c:=by
 rcases h.2 with⟨rfl,h0⟩|⟨g,cap,cur,rfl,_⟩
 ·grind
 grind
def ZdS(L:List WS){r}(h:r<L.length):L.take (r+1)=L.take r++[L.getD r w0W]:=by grind [Qi]
def Cc.monoW{w b d v L}(h:Cc w d v L)(j:b<=d):Cc w b v L:=by
 obtain⟨f,i⟩:=h;refine⟨f,?_⟩
 rcases i with h|⟨g,c,a,e,k,rest⟩
 exact .inl h;exact .inr ⟨g,c,a,e,o_,rest⟩
def ZjX:(Tryz.prog.info? 358).map (λi=>(i.zero,i.size,i.bytes))=some (some (.agg #[.string ⟨#[]⟩,I_ 0]),2,24):=k_
def Zj2:Keyed Tryz.prog 9:=string_keyed Tryz.underlying9
def ZlW w:(zeroValue 3).run Tryz.prog w=.ok (I_ 0) w:=k_
def Zmn{α β:Type}(L:List α) a {k}(e:k<L.length)(d:k<a.length) c (b:β):(L.zip a).take (k+1)=(L.zip a).take k++[(L.getD k c,a.getD k b)]:=by grind [Qi]
def iv va wa n aO bH ct a L t w (hv:Ir w 0 (.slice va n aO) L)(hw:Cq w wa n t)(hL:L.length=n)(hn:n<=200)(hz:∀z∈t,0<=z/\z<=99)(cI:∀v∈L,v.word.size<=8)(dY:2<=a)(dZ:a<=16):C_ 211 #[.slice va n aO,.slice wa n bH,.int .i64 ct,.int .i64 a] w λe w'=>∃v,e=.returned v/\Tb w' w.heap.size v (Mc L t ct a)/\Below w.heap.size w w':=by
 have HV:=x1_ hv;have HW:=x1_ hw;have a7:=x2_ hL hw.1;have HZ:=x1_ hz;have d9:=x1_ cI;clear hv hw hL hz cI;have dW:= @run_makeMap Tryz.prog;obtain⟨b,aU⟩:=ex_ (w.alloc (.cells #[.bool false,.slice none 0 0,.slice none 0 0] 170));have aD:b.heap.size=w.heap.size+1:=(by rw[aU];simp);have aH:=x1_ aD;have N:=x1_ aU;clear aD aU;go_enter Tryz.func211,Tryz.ntmps211;go_wp2_with fail
 go_loopw [21] (λti wr=>∃(k:Nat) (D:DataW Unit),ti=.int .i64 k/\k<=n/\Hid (wr.ownsMap Tryz.prog 9 (plainElem Tryz.prog 3) (w.heap.size+1) k D/\Lr D ((L.zip t).take k))/\Hid (E_ b wr)) (λti _=>n-(intOf ti).toNat)
 case atStart=>
  refine⟨0,.map _,rfl,qg_,⟨?_,Lr.start⟩,?_⟩;have:=World.ownsMap_made (H:=Unit) b Tryz.prog 9 (plainElem Tryz.prog 3);rw[aH,N] at this;exact this;rw[N];exact bA_
 case round=>
  obtain⟨k,D,rfl,hk,HO,d⟩:=hrel;have a9:=d.size
  by_cases hkn:k<n
  ·have cF:k<L.length:=(by rw[a7.out.1];exact hkn);have dE:k<t.length:=(by rw[a7.2];exact hkn);obtain⟨q,rfl,aT,c0,c1,c2⟩:=HV.at cF;rcases HW.out with⟨_,_,h0|⟨b2,o2,rfl,hb2',hc2⟩⟩;omega;have s:E_ w wr:=by have A:E_ w b:=(by rw[N];exact bA_);exact A.trans (d.mono (by have:=aH.out;omega))
   have a0:=(s.cell (p:=(A_ q (k*3))) aT).trans c0;have a1:=(s.cell (p:=(A_ q (k*3+1))) aT).trans c1;have a2:=(s.cell (p:=(A_ q (k*3+2))) aT).trans c2;have d1:=(s.cell (p:=(A_ b2 (o2+k))) hb2').trans (hc2 k hkn);have bX:b2<wr.heap.size:=(by have:=s.size;omega);have bG:=x1_ (Zmn L _ cF dE Ax 0);have dI:Hid ((L.getD k Ax).word.size<=8):=d9 _ w_;have dL:Hid (0<=t.getD k 0/\_):=HZ _ w_;clear hc2 c0 c1 c2 s;generalize L.getD k Ax=x,t.getD k 0=z at *;obtain⟨xm,xn,o⟩:=x;simp only at a0 a1 a2;have dT:0<=(k:Int):=o_;have fA:k<(n:Int):=o_
   cases xm with
   | true=>
    have HF:Hid ((wr.alloc (.cells #[.bool true,I_ xn,.string o] 308)).ownsMap Tryz.prog 9 (plainElem Tryz.prog 3) (w.heap.size+1) (k+1) D/\Lr D ((L.zip t).take (k+1))):=(by rw[bG];exact⟨(HO.1.alloc _).mono o_,HO.2.miss _ rfl⟩);refine rd_ ?_;exact⟨k+1,D,g_,o_,HF,d.trans (bz_.alloc o_ _)⟩
   | false=>
    go_upto_region 6 with fail;have cT:o.size<=8:=dI.out;have f:keyOf _ 9 (.string o)=_:=WideMaps.keyOf_string_mk Tryz.underlying9 m_;obtain⟨w2,X⟩:=ex_ (wr.alloc (.cells #[.bool false,I_ xn,.string o] 308));have bF:w2.ownsMap Tryz.prog 9 (plainElem Tryz.prog 3) (w.heap.size+1) k D:=(by rw[X];exact HO.1.alloc _);have e2:w2.cell? (A_ wr.heap.size 2)=some (.string o):=(by rw[X];exact cq_ 2 _ _ _ hn_);have R:E_ wr w2:=(by rw[X];exact bA_);have d2:=(R.cell (p:=(A_ b2 (o2+k))) bX).trans d1;rw[<- X];obtain⟨c,bS,aJ,_⟩:=(show w2.drew.ownsMap Tryz.prog 9 (plainElem Tryz.prog 3) (w.heap.size+1) k D from bF).lookup_int Zj2 Tryz.underlying355 Tryz.underlying3 (ZlW _) f
    have hc:c=Js ((L.zip t).take k) o.data.toList:=by
     have A:=(HO.2.2 o.data.toList).2
     grind
    have c9:=Zi0 (ps:=(L.zip _).take k) (λp hp=>HZ _ (List.of_mem_zip (List.mem_of_mem_take hp)).2) o.data.toList;rw[<- hc] at c9;have cW:((L.zip t).take k).length<=200:=w_;have dH:=dL.out;have q1:_=c+z:=Cb o_ o_;obtain⟨w3,hU,bP,bO⟩:=(show w2.drew.ownsMap Tryz.prog 9 (plainElem Tryz.prog 3) (w.heap.size+1) k D from bF).update Zj2 Tryz.underlying355 m_ f (plainElem_int (H:=Unit) Tryz.underlying3 (show(Lit.int .i64 (c+z)).wf=true by simp[Lit.wf,IntKind.min,IntKind.max,IntKind.bits,IntKind.signed];omega))
    have HF:Hid (w3.ownsMap Tryz.prog 9 (plainElem Tryz.prog 3) (w.heap.size+1) (k+1) (D.put (.string o.data.toList) (.lit (.int .i64 (c+z))))/\Lr (D.put (.string o.data.toList) (.lit (.int .i64 (c+z)))) ((L.zip t).take (k+1))):=(by refine⟨bP,?_⟩;rw[bG,hc];exact HO.2.put (v:=⟨false,xn,o⟩) rfl);have dX:Hid (E_ b w3):=(by have A:=d.trans (R.mono a9);have h2:=A.drew;exact h2.grown bO h2.size (λj hj=>by injection hj with hj;have:=aH.out;omega));clear bF bP bO hc c9 cW dH aJ f X R HO d bG cT;refine Al (λw'=>w'.cell? _=some _/\w'.cell? _=some _/\(Instr.lookup 355 _ _ _).run _ w'=.ok _ w') 9 k_ ⟨e2,d2,bS⟩ (λhHeld=>?_);refine Ah 0 ?_;refine Ah 1 ?_;refine Ua [3,8,9] 2 (v:=?_) ?_ ?_
    rotate_left
    ·intro w P;try obtain⟨_,_,_⟩:=P
     go_simp;try with_reducible rfl
    try simp only[Act.put,sA,sB,sC]
    refine Ua [8,9] 3 (v:=?_) ?_ ?_
    rotate_left
    ·intro w P;obtain⟨_,_,_⟩:=P;go_simp;try with_reducible rfl
    try simp only[Act.put,sA,sB,sC]
    refine Ah 4 ?_;refine Ah 5 ?_;refine Ah 6 ?_;refine Ua [8,9] 7 (v:=?_) ?_ ?_
    rotate_left
    ·intro w P;try obtain⟨_,_,_⟩:=P
     go_simp;try with_reducible rfl
    try simp only[Act.put,sA,sB,sC]
    refine Ah 8 ?_;refine Ai (i:=9) k_ rfl k_ (λKK hK=>?_);go_simp;refine hK _ _ ?_;clear hK KK;try simp only[Act.put,sA,sB,sC]
    refine Ak k_ ?_ _;go_wp2;go_roundw;case rel=>grind
    case measure=>exact z_
  have dO:k=n:=o_;subst dO;have fB:¬k<(k:Int):=o_;have eT:(L.zip t).take k=_:=List.take_of_length_le (by rw[List.length_zip,a7.1,a7.2];omega);have bA:=x1_ HO.1;have cL:Hid (Lr D (L.zip t)):=(by have:=HO.2;rwa [eT] at this);clear HO eT a9;generalize wr=wl at *;obtain⟨i0,cE,dA,d6,dD⟩:=info_parts ZjX;go_wp2_with (first|(at_range;refine wpList_range_own _ rfl _ _ rfl 9 3 Zj2 Tryz.underlying355 _ _ k D rfl bA ?_;intro wq aR bY aD)|go_in)
  try go_frame
  have aM:=x1_ aR;have cG:=x1_ (d.grown bY d.size (λj hj=>by cases hj));have dM:=x1_ (zh bA);have f3:=d.size;clear aR bY aD d bA;go_loopw [12] (λth wr=>∃(a3:Lit->Bool) (bC:Nat) (Hs:List WS),Hid (wr.ranges Tryz.prog 9 (plainElem Tryz.prog 3) (w.heap.size+1) wl.heap.size k D a3 bC)/\Hid (Fw wr b.heap.size th Hs)/\Hid (Np D a3 ct Hs)/\Hs.length+bC<=k/\Hid (E_ b wr)) (λ_ wr=>wr.rangeLeft (w.heap.size+1) wl.heap.size)
  case atStart=>exact⟨_,_,[],aM,rn_,Np.start D _,by simpa using dM.out,cG⟩
  case round=>
   clear aM cG;obtain⟨a3,bC,Hs,V,J,HC,c5,d⟩:=hrel;go_wp2_with (first|(at_next;refine wpList_next_ranges _ rfl _ rfl 9 Zj2 _ _ _ (λkey kl hk=>by obtain⟨x,hx,_⟩:=Maps.keyOf_str Tryz.underlying9 hk;exact⟨x,hx⟩) (λv y hv=>by obtain⟨c,rfl,_⟩:=plainElem_int_inv Tryz.underlying3 hv;exact⟨c,rfl⟩) _ _ k D _ _ rfl V ?_ ?_)|go_in)
   ·intro dB a8;have cA:=x1_ (λx=>HC.end_ cL a8 x);have cQ:=x1_ HC.nd;have dJ:Hs.length<=200:=o_;obtain⟨ua,uc,rfl,cD⟩:=J.shape;have bN:=x1_ cD;have b5:=ZbW _ _ _ _ J o_;have b3:=x1_ (λj hj=>(rl_ J j hj).1);obtain⟨hl,aF⟩:=ex_ Hs.length;have cY:=x1_ aF;rw[<- aF] at bN b5 b3 dJ c5;clear dB a8 HC V cL J cD;rw[<- aF];clear aF;go_wp2_with fail
    refine b5.mono ?_;rintro e w5 ⟨rfl,⟨B,aX,c8,bI⟩,bT⟩;have bR:=x1_ (ZdG cQ cA aX c8);have c3:Hid (B.length=hl):=(by show _=_;rw[aX.length_eq,cY]);have c6:=x1_ bI;have aB:=x1_ (d.grown bT d.size b3);clear aX c8 bI bT b5 d cA cQ b3;obtain⟨m,hm⟩:∃m:Nat,m=min hl a.toNat:=⟨_,rfl⟩;have HM:=x1_ hm;clear hm;have bE:Hid (m<=hl/\m<=a/\m<=200):=⟨by have:=HM.out;omega,by have:=HM.out;omega,by have:=HM.out;omega⟩;obtain⟨w6,a5⟩:=ex_ (w5.alloc (.cells #[.bool true,.slice none 0 0,.slice none 0 0] 170));have aV:Hid (w6.heap[w5.heap.size]? =some (.cells #[.bool true,.slice none 0 0,.slice none 0 0] 170 (0,0))):=by show _=_;rw[a5];exact hn_
    have bM:Hid (Fw w6 b.heap.size (.slice ua hl uc) B):=(by show Fw _ _ _ _;rw[a5];exact ra_ c6 _);have cJ:Hid (E_ b w6):=(by show Below _ _ _;rw[a5];exact aB.alloc aB.size _);have aP:=aB.size;go_upto_region 16 with fail;rw[<- a5];clear a5 c6 aB;go_cut [63,64,65] (λv l t0 wx=>t0=.int .i64 0/\∃sa sc,v=.slice sa m sc/\l=.int .i64 (m:Nat)/\Hid (0<m->∃g,sa=some ⟨g,0,none⟩/\ua=some ⟨g,0,none⟩)/\wx=w6)
    case first=>
     rcases bN.out with⟨rfl,h0,rfl⟩|⟨g,rfl,hgc⟩
     ·subst h0;have d7:m=0:=(by have:=bE.out;omega);subst d7;have bb:¬a<0:=o_;have fD:0<=a:=o_;have bm:min 0 a=0:=o_;go_wp2;go_meet
      grind
     by_cases hlb:(hl:Int)<=a
     ·have a6:m=hl:=(by have:=HM.out;omega);subst a6;have bb:¬a<m:=o_;have bm:min (m:Int) a=m:=o_;have b0:0<=(m:Int):=o_;have b1:m<=(uc:Int):=o_;go_wp2;go_meet
      exact⟨rfl,_,_,rfl,rfl,λ_=>⟨g,rfl,rfl⟩,rfl⟩
     have a6:m=a:=(by have:=HM.out;omega);have dU:=x1_ a6;have bm:min (hl:Int) a=m:=o_;have bb:a<hl:=o_;have b0:0<=(m:Int):=o_;have b1:m<=(uc:Int):=o_;subst a6;go_wp2;go_meet
     exact⟨rfl,_,_,rfl,rfl,λ_=>⟨g,rfl,rfl⟩,rfl⟩
    case rest=>
     obtain⟨rfl,sa,sc,rfl,rfl,dF,cM⟩:=hcut;obtain rfl:=cM.symm;clear cM;obtain⟨i9,cC,dG,dP,dN⟩:=info_parts Zc8;have cZ:Hid (b.heap[w.heap.size]? =some (.cells #[.bool false,.slice none 0 0,.slice none 0 0] 170 (0,0))):=(by show _=_;rw[N];exact ha_ w _);have a8:w.heap.size<b.heap.size:=(by have:=aH.out;omega);obtain⟨eb,bK⟩:=ex_ w5.heap.size;rw[<- bK] at aV aP ⊢;clear bK;go_wp2_with fail
     go_loopw [65] (λtj wr=>∃(j:Nat) (vw:Value),tj=.int .i64 j/\j<=m/\Hid (wr.heap[eb]? =some (.cells #[.bool true,.slice none 0 0,vw] 170 (0,0)))/\Hid (Cc wr b.heap.size vw ((B.take j).map WS.wd))/\Hid (Fw wr b.heap.size (.slice ua hl uc) B)/\Hid (E_ b wr)) (λtj _=>m-(intOf tj).toNat)
     case atStart=>exact⟨0,_,rfl,qg_,aV,rn_,bM,cJ⟩
     case round=>
      clear aV bM cJ;obtain⟨j,vw,rfl,hj,HE,aA,aE,d⟩:=hrel;have a9:=d.size;have aS:=(Qb HE).1
      by_cases hjm:j<m
      ·obtain⟨g,rfl,rfl⟩:=dF o_;have cR:j<B.length:=(by rw[c3];have:=bE.out;omega);obtain⟨f6,x0,x1⟩:=aE.cells cR;have U:((B.take j).map WS.wd).length=j:=w_;obtain⟨av,cv,rfl⟩:=aA.shapeW;have Z:=x1_ aA;have cH:=x1_ (ZdS _ cR);have e2:=cR_ 2 HE;rw[U] at Z e2;generalize B.getD j w0W=x at *;obtain⟨o,xt⟩:=x;simp only at x0 x1;have b0:0<=(j:Int):=o_;have b1:j<(m:Int):=o_;have fC:j<=200:=(by have:=bE.out;omega);obtain⟨w7,Y⟩:=ex_ (wr.alloc (.cells #[.string o,I_ xt] 358));have M:E_ wr w7:=(by rw[Y];exact bA_);have k0:w7.cell? (A_ wr.heap.size 0)=some (.string o):=(by rw[Y];exact cq_ 0 _ _ _ hn_);have e7:=(M.cell (p:=(A_ eb 2)) aS).trans e2
       have cN:Hid (w7.heap[eb]? =some (.cells #[.bool true,.slice none 0 0,.slice av j cv] 170 (0,0))):=(by have:=HE.out;rw[U] at this;exact(M.block _ aS).trans this);have aQ:Hid (Cc w7 b.heap.size (.slice av j cv) ((B.take j).map WS.wd)):=(by have A:=Z.out;exact A.below M);have aL:Hid (Fw _ _ _ _):=(Aa.of_below (S:=λ_=>False) M).row aE (λ_ _=>id);have b6:=x1_ (d.trans (M.mono a9));have dV:wr.heap.size<w7.heap.size:=(by rw[Y];simp);go_upto_region 19 with fail;rw[<- Y];clear Y M x0 x1 e2 HE Z aA aE d;have cP:=b6.size
       have W:w7.ownsRow b.heap.size 9 1 (.slice av j cv) j (((B.take j).map WS.wd).map Value.string):=by
        have A:=aQ.out;unfold Cc at A
        grind
       obtain⟨Wj,b7⟩:=ex_ ((B.take j).map WS.wd);have cU:Hid ((B.take (j+1)).map WS.wd=Wj++[o]):=(by show _=_;rw[cH,List.map_append,b7];rfl);rw[<- b7] at W U;have dC:=x1_ U;have O:=x1_ W;clear W U b7 cH aQ;go_wp2_with (at_builtin;refine Ab rfl (.tmp 70) (.tmp 73) 47 rfl b.heap.size 9 i9 (.string ⟨#[]⟩) 1 16 Tryz.underlying47 cC dG dP dN rfl d_ (.slice av j cv) j (Wj.map Value.string) rfl (ra_ O _) (A_ w7.heap.size 0) 1 1 [.string o] rfl rfl ?_ ?_ ?_ ?_ ?_ ?_ ?_)
       exact Am _ _ 9;intro u hu;simp at hu;subst hu;rfl;decide;unfold maxLen;omega;omega;simp;omega;intro v4 w4 H4;obtain⟨r4,g4,d4,_,_⟩:=H4;have aI:Cc w4 b.heap.size v4 (Wj++[o]):=by unfold Cc;rw[Qe,dC,List.map_append];exact r4
       obtain⟨a4,c4,rfl⟩:=aI.shapeW;obtain⟨n4,cO⟩:=ex_ ((Wj++[o]).length);rw[<- cO] at r4 d4 aI ⊢;clear cO;obtain⟨w8,bD⟩:=ex_ (w7.alloc (.cells #[.string o] 9));rw[<- bD] at g4 d4;have I:E_ w7 w8:=(by rw[bD];exact bA_);have cX:=I.size;have T:=(Aa.refl _ _).grown g4 (λk hk _=>hk);have bB:=(I.block _ o_).trans cN;have aG:=(Aa.of_below (S:=λ_=>False) I).row O (λ_ _=>id);have aW:Fw _ _ _ _:=(Aa.of_below (S:=λ_=>False) I).row aL (λ_ _=>id);have G:=T.at_ bB (λe=>Au aG e bB d_ rfl)
       have c7:Fw w4 b.heap.size (L_ g hl uc) B:=T.row aW (λq hq e=>by
        obtain⟨f8,hc⟩:=Ad aW hq
        exact Au aG e hc d_ rfl)
       have f4:=cR_ 2 G;have z4:=fq_ 2 _ _ G;have dS:Hid ((w4.setCell _ _).heap[eb]? =some (.cells #[_,_,(.slice a4 n4 c4)] 170 _)):=ht_ 2 _ _ _ G;have dR:Hid (Cc (w4.setCell (A_ eb 2) (.slice a4 n4 c4)) b.heap.size (.slice a4 n4 c4) ((B.take (j+1)).map WS.wd)):=(by rw[cU];exact As aI G d_);have dQ:Hid (Fw (w4.setCell ⟨_,2,_⟩ (.slice a4 n4 c4)) _ _ _):=As c7 G d_;have bL:Hid (E_ b (w4.setCell (A_ eb 2) (.slice a4 n4 c4))):=by have A:=b6.trans (I.mono cP);exact(A.grown g4 A.size (λq hq=>(rl_ aG q hq).1)).setCell aP _
       clear r4 g4 d4 bD I cX T bB aG aW G c7 O aL cN b6 aI;go_wp2;go_roundw;case rel=>grind
       case measure=>exact z_
      have cB:j=m:=o_;subst cB;have bj:¬j<(j:Int):=o_
      have d5:(B.take j).map WS.wd=(Mc L t ct a).ww:=by
       show _=(((Lg (L.zip t) ct).mergeSort λx y=>decide (leW x y)).take a.toNat).map WS.wd;rw[<- bR];congr 1;have A:=HM.out;have h2:=c3.out
       grind
      have bQ:Hid (Cc wr b.heap.size vw (Mc L t ct a).ww):=w_;obtain⟨av,cv,rfl⟩:=bQ.shapeW;have hE:=HE.out;have e0:=cR_ 0 hE;have e1:=cR_ 1 hE;have e2:=cR_ 2 hE;have r:=(d.block _ a8).trans cZ;have aY:=x1_ r;have r0:=cR_ 0 r;have r1:=cR_ 1 r;have r2:=cR_ 2 r;have z0:=fq_ 0 _ _ r;have z1:=fq_ 1 _ _ r;have z2:=fq_ 2 _ _ r;clear hE r d5 aA aE HE HM bR;generalize hnw:(Mc L t ct a).ww.length=nw at *;have f9:=x1_ hnw;clear hnw;go_wp2;refine bodyPost_ret (v:=.agg #[.bool true,.slice none 0 0,.slice av nw cv]) (by simp[results,Tryz.results211,go_sem, *]) rfl ?_;have s:E_ w wr:=by have A:E_ w b:=(by rw[N];exact bA_);exact A.trans (d.mono o_)
      refine⟨_,rfl,⟨.slice none 0 0,.slice av nw cv,rfl,rn_,?_⟩,((s.setCell qa_ _).setCell qa_ _).setCell qa_ _⟩;have A:Cc _ w.heap.size _ _:=bQ.monoW o_;exact As (As (As A aY d_) (by exact ht_ _ _ _ _ aY) d_) (by exact ht_ _ _ _ _ (ht_ _ _ _ _ aY)) d_
   intro x c kl yd yp w2 aK f bZ hv aJ aN bU b9 dK cS;obtain⟨x',ex,rfl,f7⟩:=Maps.keyOf_str Tryz.underlying9 f;obtain rfl:x=x':=encStr_inj ex;obtain⟨c',ec,bW,_⟩:=plainElem_int_inv Tryz.underlying3 hv;obtain rfl:c=c':=(by injection ec);have d8:yd=.lit (.int .i64 c):=(by injection bW);subst d8;have F:=HC.step bZ aJ;have C:=x1_ aN;have E:Hid (Fw _ _ _ _):=World.ownsRow.kept J b9 (.inr (ZbT V J).1);have Q:=x1_ (d.grown b9 d.size (λj hj=>w_));have aC:=x1_ bU;clear dK aN b9 f hv aJ bZ ex ec bW bU
   by_cases hct:ct<=c
   ·rw[if_pos hct] at F;have b8:=x1_ F;clear F;go_wp2_with (at_builtin;refine Ab rfl (.tmp 49) (.tmp 53) 356 rfl b.heap.size 358 i0 _ 2 24 Tryz.underlying356 cE dA d6 dD rfl d_ u12 Hs.length (Hl Hs) rfl (ra_ E _) (A_ w2.heap.size 0) 1 1 [encStr x,I_ c] rfl rfl ?_ ?_ ?_ ?_ ?_ ?_ ?_)
    exact Am _ _ _
    ·intro u hu;simp at hu;rcases hu with rfl|rfl<;>rfl
    decide;unfold maxLen;omega;omega;have:=Q.size;simp;omega;intro v4 w4 H4;obtain⟨r4,g4,d4,_,_⟩:=H4;have cV:Hid (Fw _ _ _ (_++[⟨_,c⟩])):=Fw.more r4;have aZ:=ZbT C E;have bV:=x1_ ((C.alloc _).kept g4 (λe=>aZ.2 e.symm) (λe=>aZ.1 e.symm));have bL:=x1_ ((Q.alloc Q.size _).grown g4 (by have:=Q.size;simp;omega) (λj hj=>(rl_ E j hj).1));clear r4 g4 d4 aZ cS;go_wp2;go_roundw;case rel=>exact⟨_,aK,_,bV,cV,b8,by rw[Qe];have:=aC.out;simp;omega,bL⟩
    case measure=>rw[bV.left_eq,V.left_eq];exact aC
   rw[if_neg hct] at F;have b8:=x1_ F;clear F;go_wp2;go_roundw;case rel=>exact⟨_,aK,Hs,C,E,b8,by have:=aC.out;omega,Q⟩
   case measure=>rw[C.left_eq,V.left_eq];exact aC
end Go.Proofs.YtfcgnpchbcmdeaaGreat
