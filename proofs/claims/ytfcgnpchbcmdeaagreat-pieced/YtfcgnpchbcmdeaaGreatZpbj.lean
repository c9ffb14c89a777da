import Derived.Test.YtfcgnpchbcmdeaaGreatZpba
import Derived.Sort.Walk0
namespace Go.Proofs.YtfcgnpchbcmdeaaGreat
set_option linter.unusedSimpArgs false
set_option maxRecDepth 100000
set_option maxHeartbeats 4000000
open Go.RowKit Go.Lib Go.Sort
structure WS where
 wd:ByteArray
 wt:Int
abbrev Zbh(a b:ByteArray):Prop:=a.data.toList<b.data.toList
def ZeI(a b:ByteArray):Int:=if Zbh a b then -1 else if Zbh b a then 1 else 0
theorem Zjk(x:ByteArray)(w:World):Calls Tryz.prog 343 #[.string x] w fun e w'=>e=.returned (.bool false)/\w'=w:=by go_enter Tryz.func343,Tryz.ntmps343;go_wp2;go_ret;exact⟨by simp,rfl⟩
theorem ZnA(a b:ByteArray):Op.bytesLess a.toList b.toList=decide (Zbh a b):=by rw[bytesLess_eq,Lib.toList_data,Lib.toList_data];try rfl
theorem Zmh{a b:ByteArray}(h1:¬Zbh a b)(h2:¬Zbh b a):a=b:=by
 unfold Zbh at h1 h2;have:=List.le_antisymm (List.not_lt.1 h2) (List.not_lt.1 h1)
 cases a;cases b
 simp at this;rw[this]
theorem ZgR(a b:ByteArray)(w:World):Calls Tryz.prog 314 #[.string a,.string b] w fun e w'=>e=.returned (.int .i64 (ZeI a b))/\w'=w:=by
 have HL:=ZnA a b;have HN:∀(x:ByteArray) (w:World),Calls Tryz.prog 343 #[.string x] w fun e w'=>e=.returned (.bool false)/\w'=w:=Zjk
 by_cases h1:Zbh a b
 ·have HC:Hid (ZeI a b= -1):=if_pos h1;have q1:Op.bytesLess a.toList b.toList=true:=(by rw[HL];exact decide_eq_true h1);clear HL;go_enter Tryz.func314,Tryz.ntmps314;go_wp2_with (go_at_call 343;refine(HN _ _).mono ?_;rintro e w' ⟨rfl,rfl⟩)
  go_ret;exact⟨by rw[HC.out];rfl,rfl⟩
 have q1:Op.bytesLess a.toList b.toList=false:=(by rw[HL];exact decide_eq_false h1);clear HL
 by_cases h2:Zbh b a
 ·have HC:Hid (ZeI a b=1):=(by show _=_;unfold ZeI;rw[if_neg h1,if_pos h2]);have q2:(a.toList==b.toList)=false:=(by rw[beq_eq_false_iff_ne];intro e;rw[Lib.toList_data,Lib.toList_data] at e;unfold Zbh at h2;rw[e] at h2;exact List.lt_irrefl _ h2);go_enter Tryz.func314,Tryz.ntmps314;go_wp2_with (go_at_call 343;refine(HN _ _).mono ?_;rintro e w' ⟨rfl,rfl⟩)
  go_ret;exact⟨by rw[HC.out];rfl,rfl⟩
 obtain rfl:=Zmh h1 h2;have HC:Hid (ZeI a a=0):=(by show _=_;unfold ZeI;rw[if_neg h1,if_neg h1]);have q2:(a.toList==a.toList)=true:=beq_self_eq_true _;go_enter Tryz.func314,Tryz.ntmps314;go_wp2_with (go_at_call 343;refine(HN _ _).mono ?_;rintro e w' ⟨rfl,rfl⟩)
 go_ret;exact⟨by rw[HC.out];rfl,rfl⟩
def ZgQ(x y:WS):Int:=orI (Lib.compareInt y.wt x.wt) (ZeI x.wd y.wd)
theorem Zc3(x y:WS)(W:World):Calls Tryz.prog 265 #[.agg #[.string x.wd,.int .i64 x.wt],.agg #[.string y.wd,.int .i64 y.wt]] W fun e w'=>e=.returned (.int .i64 (ZgQ x y))/\Gr W w':=by
 have HC:Hid (ZgQ x y=orI (Lib.compareInt y.wt x.wt) (ZeI x.wd y.wd)):=rfl;have H1:Hid (∀w:World,Calls Tryz.prog 151 #[.int .i64 y.wt,.int .i64 x.wt] w fun e w'=>e=.returned (.int .i64 (Lib.compareInt y.wt x.wt))/\w'=w):=fun w=>Tryz.cmp_Compare_int _ _ w;have H2:Hid (∀w:World,Calls Tryz.prog 314 #[.string x.wd,.string y.wd] w fun e w'=>e=.returned (.int .i64 (ZeI x.wd y.wd))/\w'=w):=fun w=>ZgR _ _ w;obtain⟨x1,x2⟩:=x;obtain⟨y1,y2⟩:=y;simp only at HC H1 H2 ⊢;generalize ZgQ ⟨x1,x2⟩ ⟨y1,y2⟩=r at *;generalize Lib.compareInt y2 x2=c1 at *;generalize ZeI x1 y1=c2 at *;go_enter Tryz.func265,Tryz.ntmps265;go_upto_region 1 with fail;generalize hw0:(W.alloc (.cells #[.string x1,.int .i64 x2] 358)).alloc (.cells #[.string y1,.int .i64 y2] 358)=w0;have hs0:w0.heap.size=W.heap.size+1+1:=by rw[<- hw0];simp
 have HG0:Hid (Gr W w0):=(by show Gr _ _;rw[<- hw0];exact((Gr.refl W).alloc _).alloc _);have a0:w0.cell? ⟨W.heap.size,0,none⟩=some (.string x1):=(by rw[<- hw0];simp[go_sem]);have a1:w0.cell? ⟨W.heap.size,1,none⟩=some (.int .i64 x2):=(by rw[<- hw0];simp[go_sem]);have b0:w0.cell? ⟨W.heap.size+1,0,none⟩=some (.string y1):=(by rw[<- hw0];simp[go_sem]);have b1:w0.cell? ⟨W.heap.size+1,1,none⟩=some (.int .i64 y2):=(by rw[<- hw0];simp[go_sem]);have l0:W.heap.size<w0.heap.size:=(by omega);have l1:W.heap.size+1<w0.heap.size:=(by omega);clear hw0 hs0
 have H3:Hid (∀w:World,w.cell? ⟨w0.heap.size,0,none⟩=some (.int .i64 c1)->w.cell? ⟨w0.heap.size,1,none⟩=some (.int .i64 c2)->Calls Tryz.prog 192 #[.slice (some ⟨w0.heap.size,0,none⟩) 2 2] w fun e w'=>e=.returned (.int .i64 r)/\w'=w):=fun w h0 h1=>by rw[HC.out];exact ZmH w0.heap.size 2 c1 c2 w h0 h1
 go_region_held3 (fun w'=>w'.cell? ⟨W.heap.size,0,none⟩=some (.string x1)/\w'.cell? ⟨W.heap.size,1,none⟩=some (.int .i64 x2)/\w'.cell? ⟨W.heap.size+1,0,none⟩=some (.string y1)/\w'.cell? ⟨W.heap.size+1,1,none⟩=some (.int .i64 y2)) (exact⟨(Below.cell (B:=w0.heap.size) (w:=w0) (p:=⟨W.heap.size,0,none⟩) (by repeat(first|with_reducible exact Below.refl _ _|with_reducible apply Below.drew|(refine Below.alloc ?_ (by first|omega|(simp;omega)|simp) _))) l0).trans a0,(Below.cell (B:=w0.heap.size) (w:=w0) (p:=⟨W.heap.size,1,none⟩) (by repeat(first|with_reducible exact Below.refl _ _|with_reducible apply Below.drew|(refine Below.alloc ?_ (by first|omega|(simp;omega)|simp) _))) l0).trans a1,(Below.cell (B:=w0.heap.size) (w:=w0) (p:=⟨W.heap.size+1,0,none⟩) (by repeat(first|with_reducible exact Below.refl _ _|with_reducible apply Below.drew|(refine Below.alloc ?_ (by first|omega|(simp;omega)|simp) _))) l1).trans b0,(Below.cell (B:=w0.heap.size) (w:=w0) (p:=⟨W.heap.size+1,1,none⟩) (by repeat(first|with_reducible exact Below.refl _ _|with_reducible apply Below.drew|(refine Below.alloc ?_ (by first|omega|(simp;omega)|simp) _))) l1).trans b1⟩) (first|(go_at_call 151;refine(H1.out _).mono ?_;rintro e w' ⟨rfl,rfl⟩)|(go_at_call 314;refine(H2.out _).mono ?_;rintro e w' ⟨rfl,rfl⟩)|(go_at_call 192;refine(H3.out _ (by simp[go_sem]) (by simp[go_sem])).mono ?_;rintro e w' ⟨rfl,rfl⟩))
 go_wp2;go_ret;exact⟨rfl,(HG0.out.alloc _).drew⟩
def ZaL(x:WS):List Value:=[.string x.wd,.int .i64 x.wt]
def w0W:WS:=⟨⟨#[]⟩,0⟩
theorem ltW(x y:WS):ltOf ZgQ x y=decide (y.wt<x.wt∨x.wt=y.wt/\Zbh x.wd y.wd):=by
 obtain⟨x1,x2⟩:=x;obtain⟨y1,y2⟩:=y;unfold ltOf ZgQ orI Lib.compareInt ZeI;simp only
 by_cases h1:y2<x2
 simp[h1]
 by_cases h2:x2<y2
 have:¬x2=y2:=(by omega);simp[h1,h2,this];have e:x2=y2:=(by omega);subst e
 by_cases h3:Zbh x1 y1
 simp[h3]
 by_cases h4:Zbh y1 x1<;>simp[h3,h4]
theorem ZoN:SWO (ltOf ZgQ) where
  irrefl x:=by rw[ltW];simp
  trans x y z h1 h2:=by
    rw[ltW] at *;simp only[decide_eq_true_eq] at *
    rcases h1 with h1|⟨h1,g1⟩<;>rcases h2 with h2|⟨h2,g2⟩
    left;omega;left;omega;left;omega;right;exact⟨by omega,List.lt_trans g1 g2⟩
  ntrans x y z h1 h2:=by rw[ltW] at *;simp only[decide_eq_false_iff_not,not_or,not_and] at *;refine⟨by omega,fun e=>?_⟩;have g1:=h1.2 (by omega);have g2:=h2.2 (by omega);exact List.not_lt.2 (List.le_trans (List.not_lt.1 g2) (List.not_lt.1 g1))
section
set_option linter.unusedSectionVars false
variable [Inhabited WS]
theorem Zl9(blk off size:Nat)(w:World):CmpLays Tryz.prog 265 #[] ZaL 2 ZgQ blk off size w:=
 fun _ _ _ _ x y=>Zc3 x y _
theorem ZlD(blk cap:Nat)(d:Array WS)(w:World)(hH:HoldsK ZaL 2 w blk 0 d)(hblk:blk<w.heap.size)(hsz:d.size<4611686018427387904):Calls Tryz.prog 264 #[.slice (some ⟨blk,0,none⟩) d.size cap,.func (.func 265) #[] #[]] w fun e w'=>e=.returned (.tuple #[])/\∃(d':Array WS) (n:Nat) (os:Array Obj),PermIn 0 d.size d d'/\SortedIn (ltOf ZgQ) 0 d.size d'/\w'=sortWorldK ZaL 2 w blk 0 n d' os:=by have eg:∀args w,(callFunc 265 args).run Tryz.prog w=.ok (.enter 265 args) w:=enters_of Tryz.func265 (by kernel_rfl) rfl;exact AnyQ.slices_SortFunc Tryz.sortW 2 Tryz.isAgg358 Tryz.sizeOf358 ZaL (fun _=>rfl) (fun x v hv=>by simp[ZaL] at hv;rcases hv with rfl|rfl<;>rfl) ZgQ ZoN 265 #[] blk 0 cap d w eg (Zl9 blk 0 d.size w) hH hblk hsz
theorem ZjI(p:Option Addr)(cap:Nat)(w:World):Calls Tryz.prog 264 #[.slice p 0 cap,.func (.func 265) #[] #[]] w fun e w'=>e=.returned (.tuple #[])/\w'=w:=AnyF.slices_SortFunc_none {Tryz.sortW with} p cap _ w
end
def Qx:List WS->List Value
 |[]=>[]
 |x::L=>ZaL x++Qx L
theorem ZeY(L:List WS):(Qx L).length=L.length*2:=by
 induction L with
 |nil=>rfl
 |cons x L ih=>simp[Qx,ZaL,ih];omega
theorem ZfV(A B:List WS):Qx (A++B)=Qx A++Qx B:=by
 induction A with
 |nil=>rfl
 |cons x A ih=>simp[Qx,ih]
def YY(w:World)(base:Nat)(v:Value)(L:List WS):Prop:=w.ownsRow base 358 2 v L.length (Qx L)
theorem ZcJ(L:List WS):∀(i r:Nat),i<L.length->r<2->(Qx L)[i*2+r]? =(ZaL (L.getD i w0W))[r]?:=by
 induction L with
 |nil=>intro i r hi;simp at hi
 | cons e L ih=>
  intro i r hi hr
  cases i with
  |zero=>simp only[Qx,Nat.zero_mul,Nat.zero_add,List.getD_cons_zero];rw[List.getElem?_append_left (by simpa [ZaL] using hr)]
  | succ i=>
   simp only[Qx,List.getD_cons_succ];rw[List.getElem?_append_right (by simp[ZaL];omega)];have:=ih i r (by simpa using hi) hr;rw[<- this];congr 1;simp[ZaL];omega
section
set_option linter.unusedSectionVars false
variable [Inhabited WS]
theorem Zkm(d:List WS):(Go.Sort.flatK ZaL 2 d.toArray).toList=Qx d:=by
 apply List.ext_getElem?;intro t
 by_cases ht:t<d.length*2
 ·have hk:=ZcJ d (t/2) (t%2) (by omega) (by omega);rw[show t/2*2+t%2=t by omega] at hk;rw[hk,Array.getElem?_toList];have hd:t/2<d.length:=(by omega);simp only[Go.Sort.flatK];rw[Array.getElem?_map];simp[ht,hd,ZaL,List.getD]
  rcases(show t%2=0∨t%2=1 by omega) with e|e<;>simp[e]
 rw[List.getElem?_eq_none (by simp;omega),List.getElem?_eq_none (by rw[ZeY];omega)]
theorem Zio{w:World}{base g cap m:Nat}{os:Array Obj}{P D:List WS}(hl:D.length=P.length)(h:YY w base (.slice (some ⟨g,0,none⟩) P.length cap) P):YY (Go.Proofs.sortWorldK ZaL 2 w g 0 m D.toArray os) base (.slice (some ⟨g,0,none⟩) P.length cap) D/\w.grownBy (Go.Proofs.sortWorldK ZaL 2 w g 0 m D.toArray os) (some g):=by
 rcases h.2 with⟨e,_⟩|⟨g',cap',cur,e,hb,hg,hnc,hcm,hcs,htake⟩
 simp at e;simp only[Value.slice.injEq,Option.some.injEq,Addr.mk.injEq,and_true,true_and] at e;obtain⟨rfl,rfl⟩:=e;have hgl:g<w.heap.size:=(Qb hg).1;have hF:(Go.Sort.flatK ZaL 2 D.toArray).size=P.length*2:=by simp[hl]
 have hh:(Go.Proofs.sortWorldK ZaL 2 w g 0 m D.toArray os).heap[g]? =some (.cells (Go.Sort.putCells id 0 (Go.Sort.flatK ZaL 2 D.toArray) cur) 358 (0,0)):=(by unfold Go.Proofs.sortWorldK Go.Sort.putRowK;rw[Go.Sort.heap_grow_old _ _ (by simpa using hgl)];simp[Go.Sort.putRow,Go.Sort.mapBlock,Go.Sort.ahead,Array.getElem?_modify,hg,Go.Sort.onCells]);refine⟨⟨by rw[ZeY],.inr ⟨g,cap,_,by simp[hl],hb,hh,by simpa [hl] using hnc,hcm,by simp[Go.Sort.putCells,hcs],?_⟩⟩,⟨rfl,rfl,rfl,?_,fun k hk hne=>?_⟩⟩;rw[<- Zkm,show D.length*2=(Go.Sort.flatK ZaL 2 D.toArray).size by simp];exact ZfB cur _ (by rw[hF,hcs];exact Nat.mul_le_mul_right _ hnc);unfold Go.Proofs.sortWorldK Go.Sort.putRowK;simp
 unfold Go.Proofs.sortWorldK Go.Sort.putRowK;rw[Go.Sort.heap_grow_old _ _ (by simpa using hk)];have:g≠k:=fun e=>hne (by rw[e]);simp[Go.Sort.putRow,Go.Sort.mapBlock,Go.Sort.ahead,Array.getElem?_modify,this]
theorem Zjy{w:World}{base g cap:Nat}{P:List WS}(h:YY w base (.slice (some ⟨g,0,none⟩) P.length cap) P):Go.Sort.HoldsK ZaL 2 w g 0 P.toArray:=by
 intro j hj
 have hj':j<P.length*2:=by simpa using hj
 refine⟨?_,?_⟩;rw[Nat.zero_add,World.ownsRow.cellAt h j hj',<- Zkm];have:j<(Go.Sort.flatK ZaL 2 P.toArray).size:=hj;rw[Array.getElem?_toList,Array.getElem?_eq_getElem this,getElem!_pos _ j this];rfl;rw[Nat.zero_add];exact World.ownsRow.frozenAt h j
end
abbrev leW(x y:WS):Prop:=¬(x.wt<y.wt∨y.wt=x.wt/\Zbh y.wd x.wd)
theorem Ziz(v:Value)(xs:List WS)(base:Nat)(w:World)(h:YY w base v xs)(hl:xs.length<=1000000):Calls Tryz.prog 264 #[v,.func (.func 265) #[] #[]] w fun e w'=>e=.returned (.tuple #[])/\(∃D:List WS,D.Perm xs/\D.Pairwise leW/\YY w' base v D)/\w.grownBy w' v.ownBlock:=by
 haveI:Inhabited WS:=⟨w0W⟩
 have h':=h
 rcases h.2 with⟨rfl,h0⟩|⟨g,cap,cur,rfl,_,hh,_⟩
 have e:xs=[]:=List.length_eq_zero_iff.1 h0;subst e;refine(ZjI none 0 w).mono ?_;rintro e w' ⟨rfl,rfl⟩;exact⟨rfl,⟨[],List.Perm.refl _,List.Pairwise.nil,h⟩,Zp _ _⟩;have hs:=ZlD g cap xs.toArray w (Zjy h') (Qb hh).1 (by simp;omega);rw[show xs.toArray.size=xs.length by simp] at hs;refine hs.mono ?_;rintro e w' ⟨rfl,d',m,os,hperm,hsort,rfl⟩;obtain⟨hps,_,hpp⟩:=hperm;have hds:d'.size=xs.length:=(by rw[hps];simp);have hD:d'.toList.length=xs.length:=(by rw[Array.length_toList,hds]);have ho:=Zio (m:=m) (os:=os) hD h';rw[show d'.toList.toArray=d' by simp] at ho;refine⟨rfl,⟨d'.toList,?_,?_,?_⟩,ho.2⟩;have e1:d'.extract 0 xs.length=d':=(by rw[<- hds];simp);have e2:xs.toArray.extract 0 xs.length=xs.toArray:=(by simp);rw[e1,e2] at hpp;exact hpp
 rw[List.pairwise_iff_getElem];intro i j hi hj hij;simp at hi hj;have:=hsort i j (Qg _) hij (by omega);rw[ltW] at this;simp only[decide_eq_false_iff_not,getElem!_pos,hi,hj] at this;simp only[Array.getElem_toList];exact this;have:=ho.1
 rwa [show Value.slice (some ⟨g,0,none⟩) xs.length cap=.slice (some ⟨g,0,none⟩) xs.length cap from rfl] at this
end Go.Proofs.YtfcgnpchbcmdeaaGreat
