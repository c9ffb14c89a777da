import Derived.Test.YtfcgnpchbcmdeaaGreatZfax
import Derived.Test.YtfcgnpchbcmdeaaGreatZfaz
import Derived.Test.YtfcgnpchbcmdeaaGreatZfaq
import Derived.Test.YtfcgnpchbcmdeaaGreatZfaf
import Derived.Deep.RegionHeld3
import Derived.Test.YtfcgnpchbcmdeaaGreatZfbb
import Derived.Test.YtfcgnpchbcmdeaaGreatZfaw
namespace Go.Proofs.YtfcgnpchbcmdeaaGreat
set_option linter.unusedSimpArgs false
set_option maxRecDepth 100000
set_option maxHeartbeats 8000000
open Go.RowKit Go.Lib Go.Sort
def orI(a b:Int):Int:=if a=0 then b else a
theorem Znh(q c:Nat)(a b:Int)(w:World)(h0:w.cell? ⟨q,0,none⟩=some (.int .i64 a))(h1:w.cell? ⟨q,1,none⟩=some (.int .i64 b)):Calls Tryz.prog 192 #[.slice (some ⟨q,0,none⟩) 2 c] w fun e w'=>e=.returned (.int .i64 (orI a b))/\w'=w:=by
 have HO:Hid (orI a b=if a=0 then b else a):=rfl;generalize orI a b=r at *;go_enter Tryz.func192,Tryz.ntmps192;go_wp2_with fail
 go_loop [8] (fun ti=>∃k:Nat,ti=.int .i64 k/\k<=2/\(1<=k->Hid (a=0))/\(2<=k->Hid (b=0))) (fun ti=>2-(intOf ti).toNat)
 case atStart=>exact⟨0,rfl,by omega,fun h=>by omega,fun h=>by omega⟩
 case round=>
  obtain⟨k,rfl,hk,ha,hb⟩:=hrel
  rcases(show k=0∨k=1∨k=2 by omega) with rfl|rfl|rfl
  ·clear ha hb
   by_cases ea:a=0
   ·have eb:(a !=0)=false:=(by simp[ea]);have HA:Hid (a=0):=ea;clear ea;go_wp2;go_roundw;case rel=>exact⟨1,rfl,by omega,fun _=>HA,fun h=>by omega⟩
    case measure=>simp[intOf]
   have eb:(a !=0)=true:=by simpa using ea
   have HR:Hid (r=a):=(by show _=_;rw[HO.out,if_neg ea]);clear ea HO;go_wp2;go_ret;exact⟨by rw[HR.out];rfl,rfl⟩
  ·have HA:=ha (by omega);clear ha hb
   by_cases ea:b=0
   ·have eb:(b !=0)=false:=(by simp[ea]);have HB:Hid (b=0):=ea;clear ea;go_wp2;go_roundw;case rel=>exact⟨2,rfl,by omega,fun _=>HA,fun _=>HB⟩
    case measure=>simp[intOf]
   have eb:(b !=0)=true:=by simpa using ea
   have HR:Hid (r=b):=(by show _=_;rw[HO.out,if_pos HA.out]);clear ea HO;go_wp2;go_ret;exact⟨by rw[HR.out];rfl,rfl⟩
  have HA:=ha (by omega);have HB:=hb (by omega);have HR:Hid (r=0):=(by show _=_;rw[HO.out,if_pos HA.out,HB.out]);clear ha hb HO;go_wp2;go_ret;exact⟨by rw[HR.out];rfl,rfl⟩
def Gr(W w':World):Prop:=∃q os,w'=grow (W.drewN q) os
theorem Gr.refl(W:World):Gr W W:=⟨0,#[],by simp;rfl⟩
theorem Gr.alloc{W w':World}(h:Gr W w')(o:Obj):Gr W (w'.alloc o):=by obtain⟨q,os,rfl⟩:=h;exact⟨q,os++#[o],by rw[alloc_eq_grow,grow_grow]⟩
theorem Gr.drew{W w':World}(h:Gr W w'):Gr W w'.drew:=by obtain⟨q,os,rfl⟩:=h;exact⟨q+1,os,rfl⟩
theorem Gr.below{W w':World}(h:Gr W w'):Below W.heap.size W w':=by obtain⟨q,os,rfl⟩:=h;refine⟨rfl,rfl,rfl,by simp[grow],fun k hk=>?_⟩;rw[Go.Sort.heap_grow_old _ _ (by simpa using hk)];rfl
def Zb1(x y:XS):Int:=orI (Lib.compareInt (x.row:Nat) (y.row:Nat)) (Lib.compareInt (x.f:Nat) (y.f:Nat))
theorem Zaq(x y:XS)(W:World):Calls Tryz.prog 148 #[.agg #[.int .i64 (x.row:Nat),.int .i64 (x.f:Nat),.int .i64 (x.bin:Nat)],.agg #[.int .i64 (y.row:Nat),.int .i64 (y.f:Nat),.int .i64 (y.bin:Nat)]] W fun e w'=>e=.returned (.int .i64 (Zb1 x y))/\Gr W w':=by
 have HC:Hid (Zb1 x y=orI (Lib.compareInt (x.row:Nat) (y.row:Nat)) (Lib.compareInt (x.f:Nat) (y.f:Nat))):=rfl;have H1:Hid (∀w:World,Calls Tryz.prog 151 #[.int .i64 (x.row:Nat),.int .i64 (y.row:Nat)] w fun e w'=>e=.returned (.int .i64 (Lib.compareInt (x.row:Nat) (y.row:Nat)))/\w'=w):=fun w=>Tryz.cmp_Compare_int _ _ w;have H2:Hid (∀w:World,Calls Tryz.prog 151 #[.int .i64 (x.f:Nat),.int .i64 (y.f:Nat)] w fun e w'=>e=.returned (.int .i64 (Lib.compareInt (x.f:Nat) (y.f:Nat)))/\w'=w):=fun w=>Tryz.cmp_Compare_int _ _ w;obtain⟨x1,x2,x3⟩:=x;obtain⟨y1,y2,y3⟩:=y;simp only at HC H1 H2 ⊢;generalize Zb1 ⟨x1,x2,x3⟩ ⟨y1,y2,y3⟩=r at *;generalize Lib.compareInt (x1:Nat) (y1:Nat)=c1 at *;generalize Lib.compareInt (x2:Nat) (y2:Nat)=c2 at *;go_enter Tryz.func148,Tryz.ntmps148;go_upto_region 1 with fail
 generalize hw0:(W.alloc (.cells #[.int .i64 (x1:Nat),.int .i64 (x2:Nat),.int .i64 (x3:Nat)] 184)).alloc (.cells #[.int .i64 (y1:Nat),.int .i64 (y2:Nat),.int .i64 (y3:Nat)] 184)=w0;have hs0:w0.heap.size=W.heap.size+1+1:=(by rw[<- hw0];simp);have HG0:Hid (Gr W w0):=(by show Gr _ _;rw[<- hw0];exact((Gr.refl W).alloc _).alloc _);have a0:w0.cell? ⟨W.heap.size,0,none⟩=some (.int .i64 (x1:Nat)):=(by rw[<- hw0];simp[go_sem]);have a1:w0.cell? ⟨W.heap.size,1,none⟩=some (.int .i64 (x2:Nat)):=(by rw[<- hw0];simp[go_sem]);have b0:w0.cell? ⟨W.heap.size+1,0,none⟩=some (.int .i64 (y1:Nat)):=(by rw[<- hw0];simp[go_sem]);have b1:w0.cell? ⟨W.heap.size+1,1,none⟩=some (.int .i64 (y2:Nat)):=(by rw[<- hw0];simp[go_sem]);have l0:W.heap.size<w0.heap.size:=by omega
 have l1:W.heap.size+1<w0.heap.size:=(by omega);clear hw0 hs0
 have H3:Hid (∀w:World,w.cell? ⟨w0.heap.size,0,none⟩=some (.int .i64 c1)->w.cell? ⟨w0.heap.size,1,none⟩=some (.int .i64 c2)->Calls Tryz.prog 192 #[.slice (some ⟨w0.heap.size,0,none⟩) 2 2] w fun e w'=>e=.returned (.int .i64 r)/\w'=w):=fun w h0 h1=>by rw[HC.out];exact Znh w0.heap.size 2 c1 c2 w h0 h1
 go_region_held3 (fun w'=>w'.cell? ⟨W.heap.size,0,none⟩=some (.int .i64 (x1:Nat))/\w'.cell? ⟨W.heap.size,1,none⟩=some (.int .i64 (x2:Nat))/\w'.cell? ⟨W.heap.size+1,0,none⟩=some (.int .i64 (y1:Nat))/\w'.cell? ⟨W.heap.size+1,1,none⟩=some (.int .i64 (y2:Nat))) (exact⟨(Below.cell (B:=w0.heap.size) (w:=w0) (p:=⟨W.heap.size,0,none⟩) (by repeat(first|with_reducible exact Below.refl _ _|with_reducible apply Below.drew|(refine Below.alloc ?_ (by first|omega|(simp;omega)|simp) _))) l0).trans a0,(Below.cell (B:=w0.heap.size) (w:=w0) (p:=⟨W.heap.size,1,none⟩) (by repeat(first|with_reducible exact Below.refl _ _|with_reducible apply Below.drew|(refine Below.alloc ?_ (by first|omega|(simp;omega)|simp) _))) l0).trans a1,(Below.cell (B:=w0.heap.size) (w:=w0) (p:=⟨W.heap.size+1,0,none⟩) (by repeat(first|with_reducible exact Below.refl _ _|with_reducible apply Below.drew|(refine Below.alloc ?_ (by first|omega|(simp;omega)|simp) _))) l1).trans b0,(Below.cell (B:=w0.heap.size) (w:=w0) (p:=⟨W.heap.size+1,1,none⟩) (by repeat(first|with_reducible exact Below.refl _ _|with_reducible apply Below.drew|(refine Below.alloc ?_ (by first|omega|(simp;omega)|simp) _))) l1).trans b1⟩) (first|(go_at_call_of 151 (x1);refine(H1.out _).mono ?_;rintro e w' ⟨rfl,rfl⟩)|(go_at_call_of 151 (x2);refine(H2.out _).mono ?_;rintro e w' ⟨rfl,rfl⟩)|(go_at_call 192;refine(H3.out _ (by simp[go_sem]) (by simp[go_sem])).mono ?_;rintro e w' ⟨rfl,rfl⟩))
 go_wp2;go_ret;exact⟨rfl,(HG0.out.alloc _).drew⟩
def Zc0(x:XS):List Value:=Qs x
theorem ltX(x y:XS):ltOf Zb1 x y=decide (x.row<y.row∨x.row=y.row/\x.f<y.f):=by
 obtain⟨x1,x2,x3⟩:=x;obtain⟨y1,y2,y3⟩:=y;unfold ltOf Zb1 orI Lib.compareInt;simp only
 by_cases h1:x1<y1
 simp[h1]
 by_cases h2:y1<x1
 have:¬x1=y1:=(by omega);simp[h1,h2,this];have e:x1=y1:=(by omega);subst e
 by_cases h3:x2<y2
 simp[h3]
 by_cases h4:y2<x2<;>simp[h3,h4]
theorem ZpO:SWO (ltOf Zb1) where
  irrefl x:=by rw[ltX];simp
  trans x y z h1 h2:=by rw[ltX] at *;simp at *;omega
  ntrans x y z h1 h2:=by rw[ltX] at *;simp at *;omega
section
set_option linter.unusedSectionVars false
variable [Inhabited XS]
theorem ZmM(blk off size:Nat)(w:World):CmpLays Tryz.prog 148 #[] Zc0 3 Zb1 blk off size w:=
 fun _ _ _ _ x y=>Zaq x y _
theorem Zmi(blk cap:Nat)(d:Array XS)(w:World)(hH:HoldsK Zc0 3 w blk 0 d)(hblk:blk<w.heap.size)(hsz:d.size<4611686018427387904):Calls Tryz.prog 208 #[.slice (some ⟨blk,0,none⟩) d.size cap,.func (.func 148) #[] #[]] w fun e w'=>e=.returned (.tuple #[])/\∃(d':Array XS) (n:Nat) (os:Array Obj),PermIn 0 d.size d d'/\SortedIn (ltOf Zb1) 0 d.size d'/\w'=sortWorldK Zc0 3 w blk 0 n d' os:=by have eg:∀args w,(callFunc 148 args).run Tryz.prog w=.ok (.enter 148 args) w:=enters_of Tryz.func148 (by kernel_rfl) rfl;exact AnyQ.slices_SortFunc Tryz.sortX 3 Tryz.isAgg184 Tryz.sizeOf184 Zc0 (fun _=>rfl) (fun x v hv=>by simp[Zc0,Qs] at hv;rcases hv with rfl|rfl|rfl<;>rfl) Zb1 ZpO 148 #[] blk 0 cap d w eg (ZmM blk 0 d.size w) hH hblk hsz
theorem Zki(p:Option Addr)(cap:Nat)(w:World):Calls Tryz.prog 208 #[.slice p 0 cap,.func (.func 148) #[] #[]] w fun e w'=>e=.returned (.tuple #[])/\w'=w:=AnyF.slices_SortFunc_none {Tryz.sortX with} p cap _ w
theorem ZlI(L:List XS):∀(i r:Nat),i<L.length->r<3->(QN L)[i*3+r]? =(Qs (L.getD i ⟨0,0,0⟩))[r]?:=by
 induction L with
 |nil=>intro i r hi;simp at hi
 | cons e L ih=>
  intro i r hi hr
  cases i with
  |zero=>simp only[QN,Nat.zero_mul,Nat.zero_add,List.getD_cons_zero];rw[List.getElem?_append_left (by simpa [Qs] using hr)]
  | succ i=>
   simp only[QN,List.getD_cons_succ];rw[List.getElem?_append_right (by simp[Qs];omega)];have:=ih i r (by simpa using hi) hr;rw[<- this];congr 1;simp[Qs];omega
theorem ZkY(d:List XS):(Go.Sort.flatK Zc0 3 d.toArray).toList=QN d:=by
 apply List.ext_getElem?;intro t
 by_cases ht:t<d.length*3
 ·have hk:=ZlI d (t/3) (t%3) (by omega) (by omega);rw[show t/3*3+t%3=t by omega] at hk;rw[hk,Array.getElem?_toList];have hd:t/3<d.length:=(by omega);simp only[Go.Sort.flatK];rw[Array.getElem?_map];simp[ht,hd,Zc0,Qs,List.getD]
  rcases(show t%3=0∨t%3=1∨t%3=2 by omega) with e|e|e<;>simp[e]
 rw[List.getElem?_eq_none (by simp;omega),List.getElem?_eq_none (by rw[ZgB];omega)]
theorem ZiW{w:World}{base g cap m:Nat}{os:Array Obj}{P D:List XS}(hl:D.length=P.length)(h:ZaC w base (.slice (some ⟨g,0,none⟩) P.length cap) P):ZaC (Go.Proofs.sortWorldK Zc0 3 w g 0 m D.toArray os) base (.slice (some ⟨g,0,none⟩) P.length cap) D/\w.grownBy (Go.Proofs.sortWorldK Zc0 3 w g 0 m D.toArray os) (some g):=by
 rcases h.2 with⟨e,_⟩|⟨g',cap',cur,e,hb,hg,hnc,hcm,hcs,htake⟩
 simp at e;simp only[Value.slice.injEq,Option.some.injEq,Addr.mk.injEq,and_true,true_and] at e;obtain⟨rfl,rfl⟩:=e;have hgl:g<w.heap.size:=(Qb hg).1;have hF:(Go.Sort.flatK Zc0 3 D.toArray).size=P.length*3:=by simp[hl]
 have hh:(Go.Proofs.sortWorldK Zc0 3 w g 0 m D.toArray os).heap[g]? =some (.cells (Go.Sort.putCells id 0 (Go.Sort.flatK Zc0 3 D.toArray) cur) 184 (0,0)):=(by unfold Go.Proofs.sortWorldK Go.Sort.putRowK;rw[Go.Sort.heap_grow_old _ _ (by simpa using hgl)];simp[Go.Sort.putRow,Go.Sort.mapBlock,Go.Sort.ahead,Array.getElem?_modify,hg,Go.Sort.onCells]);refine⟨⟨by rw[ZgB],.inr ⟨g,cap,_,by simp[hl],hb,hh,by simpa [hl] using hnc,hcm,by simp[Go.Sort.putCells,hcs],?_⟩⟩,⟨rfl,rfl,rfl,?_,fun k hk hne=>?_⟩⟩;rw[<- ZkY,show D.length*3=(Go.Sort.flatK Zc0 3 D.toArray).size by simp];exact ZfR cur _ (by rw[hF,hcs];exact Nat.mul_le_mul_right _ hnc);unfold Go.Proofs.sortWorldK Go.Sort.putRowK;simp
 unfold Go.Proofs.sortWorldK Go.Sort.putRowK;rw[Go.Sort.heap_grow_old _ _ (by simpa using hk)];have:g≠k:=fun e=>hne (by rw[e]);simp[Go.Sort.putRow,Go.Sort.mapBlock,Go.Sort.ahead,Array.getElem?_modify,this]
theorem Zj8{w:World}{base g cap:Nat}{P:List XS}(h:ZaC w base (.slice (some ⟨g,0,none⟩) P.length cap) P):Go.Sort.HoldsK Zc0 3 w g 0 P.toArray:=by
 intro j hj
 have hj':j<P.length*3:=by simpa using hj
 refine⟨?_,?_⟩;rw[Nat.zero_add,World.ownsRow.cellAt h j hj',<- ZkY];have:j<(Go.Sort.flatK Zc0 3 P.toArray).size:=hj;rw[Array.getElem?_toList,Array.getElem?_eq_getElem this,getElem!_pos _ j this];rfl;rw[Nat.zero_add];exact World.ownsRow.frozenAt h j
end
def Zda(D:List XS):Prop:=D.Pairwise fun x y=>x.row<y.row∨x.row=y.row/\x.f<=y.f
theorem Zkk(v:Value)(xs:List XS)(w:World)(h:ZaC w 0 v xs)(hl:xs.length<=1000000):Calls Tryz.prog 208 #[v,.func (.func 148) #[] #[]] w fun e w'=>e=.returned (.tuple #[])/\(∃D:List XS,D.Perm xs/\Zda D/\ZaC w' 0 v D)/\w.grownBy w' v.ownBlock:=by
 haveI:Inhabited XS:=⟨⟨0,0,0⟩⟩
 have h':=h
 rcases h.2 with⟨rfl,h0⟩|⟨g,cap,cur,rfl,_,hh,_⟩
 have e:xs=[]:=List.length_eq_zero_iff.1 h0;subst e;refine(Zki none 0 w).mono ?_;rintro e w' ⟨rfl,rfl⟩;exact⟨rfl,⟨[],List.Perm.refl _,List.Pairwise.nil,h⟩,Zq _ _⟩;have hs:=Zmi g cap xs.toArray w (Zj8 h') (Qb hh).1 (by simp;omega);rw[show xs.toArray.size=xs.length by simp] at hs;refine hs.mono ?_;rintro e w' ⟨rfl,d',m,os,hperm,hsort,rfl⟩;obtain⟨hps,_,hpp⟩:=hperm;have hds:d'.size=xs.length:=(by rw[hps];simp);have hD:d'.toList.length=xs.length:=(by rw[Array.length_toList,hds]);have ho:=ZiW (m:=m) (os:=os) hD h';rw[show d'.toList.toArray=d' by simp] at ho;refine⟨rfl,⟨d'.toList,?_,?_,ho.1⟩,ho.2⟩;have e1:d'.extract 0 xs.length=d':=(by rw[<- hds];simp);have e2:xs.toArray.extract 0 xs.length=xs.toArray:=(by simp);rw[e1,e2] at hpp;exact hpp
 unfold Zda;rw[List.pairwise_iff_getElem];intro i j hi hj hij;simp at hi hj;have:=hsort i j (Qg _) hij (by omega);rw[ltX] at this;simp[hi,hj] at this;simp only[Array.getElem_toList];omega
end Go.Proofs.YtfcgnpchbcmdeaaGreat
namespace Go.Proofs.YtfcgnpchbcmdeaaGreat
set_option linter.unusedSimpArgs false
set_option maxRecDepth 100000
set_option maxHeartbeats 8000000
open Go.RowKit
theorem Ziv:∀(zs:List Int) (x:Int) (i:Nat),x∈zs->0<=Lib.idxFrom zs x i/\Lib.idxFrom zs x i<(i+zs.length:Nat)
 |[],x,i,h=>by simp at h
 | z ::zs,x,i,h=>by
  simp only[Lib.idxFrom];split;simp;omega;rename_i hne
  have hm:x∈zs:=by
   rcases List.mem_cons.1 h with e|e
   exact absurd e.symm hne;exact e
  have:=Ziv zs x (i+1) hm;simp only[List.length_cons];omega
theorem ZcO:∀(zs:List Int) (a:Int),zs.foldl max a=a∨zs.foldl max a∈zs
 |[],a=>.inl rfl
 | z ::zs,a=>by
  simp only[List.foldl_cons]
  rcases ZcO zs (max a z) with h|h
  ·by_cases e:a<=z
   have:max a z=z:=(by omega);rw[this] at h;right;rw[this,h];simp;have:max a z=a:=(by omega);rw[this] at h;left;rw[this];exact h
  right;simp[h]
theorem ZlW{zs:List Int}(h:0<zs.length):Lib.maxOf zs∈zs:=by
 cases zs with
 |nil=>simp at h
 | cons z zs=>
  have hm:Lib.maxOf (z::zs)=List.foldl max z zs:=by first|rfl|(simp[Lib.maxOf])|(simp[Lib.maxOf,Int.max_def])
  rw[hm]
  rcases ZcO zs z with e|e
  rw[e];simp;simp[e]
theorem ZiK(B:List Nat){h:Nat}(h0:0<h):0<=Zfx B h/\Zfx B h<h:=by have:=Ziv (ZS B h) (Lib.maxOf (ZS B h)) 0 (ZlW (by rw[Yl];exact h0));rw[Yl] at this;unfold Zfx Lib.idxOf;omega
def Zhl(e:ES)(B:List Nat):Nat:=(Zfx B (e.cnt+2)).toNat
theorem ZkV(e:ES)(B:List Nat):Zfx B (e.cnt+2)=((Zhl e B:Nat):Int):=by have:=ZiK B (show 0<e.cnt+2 by omega);unfold Zhl;omega
def kF(es:List ES)(Bb:List (List Nat))(k:Nat):KS:=⟨es.getD k e0S,Zhl (es.getD k e0S) (Bb.getD k [])⟩
def oF(es:List ES)(Bb:List (List Nat))(k:Nat):List Bool:=ZbF (Bb.getD k []) (Zhl (es.getD k e0S) (Bb.getD k []))
def YN(es:List ES)(Bb:List (List Nat))(k:Nat):List KS:=(List.range k).map (kF es Bb)
def QZ(es:List ES)(Bb:List (List Nat))(k:Nat):List (List Bool):=(List.range k).map (oF es Bb)
theorem YK(es:List ES)(Bb:List (List Nat))(k:Nat):(YN es Bb k).length=k:=by simp[YN]
theorem ZeL(es:List ES)(Bb:List (List Nat))(k:Nat):(QZ es Bb k).length=k:=by simp[QZ]
theorem Zm5(es:List ES)(Bb:List (List Nat))(k:Nat):YN es Bb (k+1)=YN es Bb k++[kF es Bb k]:=by simp[YN,List.range_succ]
theorem QT(es:List ES)(Bb:List (List Nat)){n i:Nat}(h:i<n):(YN es Bb n).getD i ZK=kF es Bb i:=by simp[YN,List.getD,h]
theorem Zdv(es:List ES)(Bb:List (List Nat)){n i:Nat}(h:i<n):(QZ es Bb n).getD i []=oF es Bb i:=by simp[QZ,List.getD,h]
theorem ZcN:∀(A B:List KS) (u v:List (Value×Value)),u.length=A.length->Qu (A++B) (u++v)=Qu A u++Qu B v
 | [],B,u,v,h=>by
  cases u with
  |nil=>simp[Qu]
  |cons x u=>simp at h
 | a ::A,B,u,v,h=>by
  cases u with
  |nil=>simp at h
  | cons x u=>
   simp only[List.cons_append,Qu,List.append_assoc];rw[ZcN A B u v (by simpa using h)]
theorem ZnU:(Tryz.prog.info? 101).map (fun i=>(i.zero,i.size,i.bytes))=some (some (.slice none 0 0),1,24):=by kernel_rfl
theorem ZlV(n:Nat)(hn:n<=1000000)(W:World):(Instr.makeSlice 309 (.int .i64 (n:Int)) (.int .i64 (n:Int))).run Tryz.prog W=.ok (.slice (some ⟨W.heap.size,0,none⟩) n n) (W.alloc (.cells (madeCells #[.slice none 0 0] n) 101)):=by obtain⟨i0,hinf,hz0,hz1,hz2⟩:=info_parts ZnU;have:=run_make (P:=Tryz.prog) W 309 101 i0 _ Tryz.underlying309 hinf hz0 .i64 .i64 (n:Int) (n:Int) (by omega) (by omega) (by rw[hz2];omega) (by omega);rw[hz1] at this;rw[this,Int.toNat_natCast,Nat.mul_one];rfl
theorem ZlU(n:Nat)(W:World)(base:Nat)(hn:n<=1000000)(hb:base<=W.heap.size):(W.alloc (.cells (madeCells #[.slice none 0 0] n) 101)).ownsRow base 101 1 (.slice (some ⟨W.heap.size,0,none⟩) n n) n (List.replicate n (.slice none 0 0)):=by
 have:=World.ownsRow_lit (base:=base) (size:=1) (e:=101) W (madeCells #[.slice none 0 0] n) n hb (by unfold maxLen;omega) (by simp[madeCells]);rw[Zcb] at this
 simpa using this
theorem ZnX:(Tryz.prog.info? 172).map (fun i=>(i.zero,i.size,i.bytes))=some (some (.agg #[.bool false,.slice none 0 0,.slice none 0 0,.int .i64 0]),4,64):=by kernel_rfl
structure Zd4(m n:Nat)(es:List ES)(Bb:List (List Nat)):Prop where
 le:es.length=m+1
 lb:∀i,i<m+1->(Bb.getD i []).length=n
 ok:∀i,i<m+1->ZcI (es.getD i e0S)
 cn:∀i,i<m+1->(es.getD i e0S).cnt<=16
 bin:∀i,i<m+1->∀b∈Bb.getD i [],b<(es.getD i e0S).cnt+2
def Z4(w:World)(q:Nat):Prop:=w.heap[q]? =some (.cells #[.bool false,.slice none 0 0,.slice none 0 0,.int .i64 0] 172 (0,0))
theorem Z4.cells{w:World}{b:Nat}(h:Z4 w b):w.cell? ⟨b,0,none⟩=some (.bool false)/\w.cell? ⟨b,1,none⟩=some (.slice none 0 0)/\w.cell? ⟨b,2,none⟩=some (.slice none 0 0)/\w.cell? ⟨b,3,none⟩=some (.int .i64 0)/\(∀o,w.frozen? ⟨b,o,none⟩=false):=by unfold Z4 at h;refine⟨?_,?_,?_,?_,fun o=>frozen_of_row w b o _ 172 h⟩<;>simp[World.cell?,h]
theorem Z4.new{w:World}{q:Nat}(h:q=w.heap.size):Z4 (w.alloc (.cells #[.bool false,.slice none 0 0,.slice none 0 0,.int .i64 0] 172)) q:=by subst h;exact heap_alloc_new w _
theorem Z4.drew{w:World}{q:Nat}(h:Z4 w q):Z4 w.drew q:=h
theorem Z4.call{w w':World}{q:Nat}(h:Z4 w q)(hb:Below w.heap.size w w'):Z4 w' q:=(hb.block q (Qb h).1).trans h
theorem Z4.fill{w:World}{q:Nat}(h:Z4 w q)(a b c d:Value):((((w.setCell ⟨q,0,none⟩ a).setCell ⟨q,1,none⟩ b).setCell ⟨q,2,none⟩ c).setCell ⟨q,3,none⟩ d).heap[q]? =some (.cells #[a,b,c,d] 172 (0,0)):=
 heap_setCell_same _ q 3 _ 172 _ (heap_setCell_same _ q 2 _ 172 _ (heap_setCell_same _ q 1 _ 172 _ (heap_setCell_same _ q 0 _ 172 _ h)))
theorem Za.to_below{S:Nat->Prop}{a b:World}{B:Nat}(h:Za S a b)(hB:B<=a.heap.size)(hs:∀q,S q->B<=q):Below B a b:=
 ⟨h.os,h.tape,h.output,h.size,fun k hk=>h.block k (by omega) (fun e=>by have:=hs k e;omega)⟩
structure Zap(w0 wr:World)(db qo n k j:Nat)(vK:Value)(kvs:List (Value×Value))(ovs:List Value)(es:List ES)(Bb:List (List Nat)):Prop where
 blk:wr.heap[db]? =some (.cells #[vK,.slice none 0 0,.slice none 0 0] 168 (0,0))
 kn:Zas wr vK kvs (YN es Bb k)
 orow:wr.ownsRow 0 101 1 (.slice (some ⟨qo,0,none⟩) n n) n ovs
 oeach:∀i,i<j->Z7 wr 0 (ovs.getD i (.slice none 0 0)) (oF es Bb i)
 bl:Below w0.heap.size w0 wr
 kb:∀q,vK.ownBlock=some q->w0.heap.size<=q
theorem Zap.below{w0 wr w2:World}{db qo n k j:Nat}{vK:Value}{kvs:List (Value×Value)}{ovs:List Value}{es:List ES}{Bb:List (List Nat)}(h:Zap w0 wr db qo n k j vK kvs ovs es Bb)(hb:Below wr.heap.size wr w2):Zap w0 w2 db qo n k j vK kvs ovs es Bb:=
 ⟨(hb.block db (Qb h.blk).1).trans h.blk,h.kn.below hb,(Za.of_below (S:=fun _=>False) hb).row h.orow (fun _ _=>id),fun i hi=>(h.oeach i hi).below hb,h.bl.trans (hb.mono h.bl.size),h.kb⟩
theorem Zap.feat{w0 W w6:World}{db qo n k:Nat}{vK v6 vb vw:Value}{kvs:List (Value×Value)}{ovs:List Value}{es:List ES}{Bb:List (List Nat)}(h:Zap w0 W db qo n k k vK kvs ovs es Bb)(hdb:w0.heap.size<=db)(g:W.grownBy w6 vK.ownBlock)(r:w6.ownsRow 0 172 4 v6 (k+1) (Qu (YN es Bb k) kvs++QS (kF es Bb k) (vb,vw)))(d:v6.ownBlock=vK.ownBlock∨v6.ownBlock=some W.heap.size/\Below W.heap.size W w6)(hI:Ze W 0 vb (kF es Bb k).e.bs)(hS:ZR W 0 vw (kF es Bb k).e.ww):Zap w0 (w6.setCell ⟨db,0,none⟩ v6) db qo n (k+1) k v6 (kvs++[(vb,vw)]) ovs es Bb/\Za (fun q=>vK.ownBlock=some q∨q=db) W (w6.setCell ⟨db,0,none⟩ v6):=by
 have t:Za (fun q=>vK.ownBlock=some q) W w6:=(Za.refl _ W).grown g (fun k hk _=>hk);have hblk6:=t.at_ h.blk (fun e=>Zv h.kn.row e h.blk (by decide) rfl);have T:Za (fun q=>vK.ownBlock=some q∨q=db) W (w6.setCell ⟨db,0,none⟩ v6):=((Za.refl _ W).grown g (fun k hk _=>.inl hk)).setCell (p:=⟨db,0,none⟩) (fun _=>.inr rfl) v6
 have NT:∀{base e size m:Nat} {v:Value} {xs:List Value},W.ownsRow base e size v m xs->e≠172->e≠168->∀q,v.ownBlock=some q->¬(vK.ownBlock=some q∨q=db):=fun hr h1 h2 q hq hs=>by
  obtain⟨cur,hc⟩:=Zf hr hq
  rcases hs with e|e
  obtain⟨c2,hc2⟩:=Zf h.kn.row e;rw[hc] at hc2;simp at hc2;exact h1 hc2.2;subst e;rw[h.blk] at hc;simp at hc;exact h2 hc.2.symm
 refine⟨⟨heap_setCell_same _ db 0 _ 168 _ hblk6,⟨?_,?_,fun i hi=>?_⟩,T.row h.orow (NT h.orow (by decide) (by decide)),fun i hi=>T.row (h.oeach i hi) (NT (h.oeach i hi) (by decide) (by decide)),(h.bl.grown g h.bl.size (fun q hq=>h.kb q hq)).setCell hdb v6,fun q hq=>?_⟩,T⟩;rw[YK];have e:Qu (YN es Bb (k+1)) (kvs++[(vb,vw)])=Qu (YN es Bb k) kvs++QS (kF es Bb k) (vb,vw):=(by rw[Zm5,ZcN _ _ _ _ h.kn.len];simp[Qu]);rw[e];exact Zl r hblk6 (by decide);rw[Qe,h.kn.len,YK,YK];rfl
 ·rw[YK] at hi;have hl:kvs.length=k:=by rw[h.kn.len,YK]
  by_cases hik:i<k
  have e1:(kvs++[(vb,vw)]).getD i vv0=kvs.getD i vv0:=(by simp[List.getD,List.getElem?_append_left (show i<kvs.length by omega)]);have h1:=h.kn.each i (by rw[YK];exact hik);rw[e1,QT _ _ hi];rw[QT _ _ hik] at h1;exact⟨T.row h1.1 (NT h1.1 (by decide) (by decide)),T.row h1.2 (NT h1.2 (by decide) (by decide))⟩;have ei:i=k:=(by omega);subst ei;have e1:(kvs++[(vb,vw)]).getD i vv0=(vb,vw):=(by simp[List.getD,<- hl]);rw[e1,QT _ _ hi];exact⟨T.row hI (NT hI (by decide) (by decide)),T.row hS (NT hS (by decide) (by decide))⟩
 rcases d with e|e
 exact h.kb q (e ▸ hq);rw[e.1] at hq;injection hq with hq;have:=h.bl.size;omega
theorem Zap.out{w0 W:World}{db qo n k:Nat}{vK v:Value}{kvs:List (Value×Value)}{ovs:List Value}{es:List ES}{Bb:List (List Nat)}(h:Zap w0 W db qo n (k+1) k vK kvs ovs es Bb)(hqo:w0.heap.size<=qo)(hk:k<n)(hO:Z7 W 0 v (oF es Bb k)):Zap w0 (W.setCell ⟨qo,k,none⟩ v) db qo n (k+1) (k+1) vK kvs (ovs.set k v) es Bb:=by
 obtain⟨cur,hc⟩:=Zf h.orow (k:=qo) rfl;have T:Za (fun q=>q=qo) W (W.setCell ⟨qo,k,none⟩ v):=(Za.refl (fun q=>q=qo) W).setCell (p:=⟨qo,k,none⟩) (fun _=>rfl) v;have NT:∀{base e size m:Nat} {u:Value} {xs:List Value},W.ownsRow base e size u m xs->e≠101->∀q,u.ownBlock=some q->¬q=qo:=fun hr h1 q hq e=>Zv hr hq hc h1 e;have hol:ovs.length=n:=(by have:=h.orow.1;omega);refine⟨T.at_ h.blk (fun e=>?_),h.kn.touch T (fun q cur2 ty hq hty e=>?_),(World.ownsRow.stored h.orow k v).1,fun i hi=>?_,h.bl.setCell hqo v,h.kb⟩;have h1:=h.blk;rw[e,hc] at h1;simp at h1;rw[e,hc] at hq;simp at hq;rw[<- hq.2] at hty;revert hty;decide
 by_cases hik:i=k
 subst hik;have e1:(ovs.set i v).getD i (.slice none 0 0)=v:=(by simp[List.getD,hol,hk]);rw[e1];exact T.row hO (NT hO (by decide));have e1:(ovs.set k v).getD i (.slice none 0 0)=ovs.getD i (.slice none 0 0):=(by simp[List.getD,List.getElem?_set_ne (show k≠i by omega)]);rw[e1];exact T.row (h.oeach i (by omega)) (NT (h.oeach i (by omega)) (by decide))
theorem Zap.outs{w0 wr:World}{db qo n:Nat}{vK:Value}{kvs:List (Value×Value)}{ovs:List Value}{es:List ES}{Bb:List (List Nat)}(h:Zap w0 wr db qo n n n vK kvs ovs es Bb):YV wr (.slice (some ⟨qo,0,none⟩) n n) ovs (QZ es Bb n):=
 ⟨by rw[ZeL];exact h.orow,fun i hi=>by rw[ZeL] at hi;rw[Zdv _ _ hi];exact h.oeach i hi⟩
def ZaM(Ks:List KS)(fs:List Nat):Nat:=(fs.map (fun f=>(Ks.getD f ZK).many)).sum
theorem Zg1(Ks:List KS)(fs:List Nat)(f:Nat):ZaM Ks (fs++[f])=ZaM Ks fs+(Ks.getD f ZK).many:=by simp[ZaM]
theorem Zd8(Ks:List KS)(Os:List (List Bool))(Bb:List (List Nat))(n:Nat):∀(fs:List Nat) (s:CS),(fs.foldl (Zi Ks Os Bb n) s).off=s.off+ZaM Ks fs
 |[],s=>by simp[ZaM]
 |f::fs,s=>by simp only[List.foldl_cons];rw[Zd8 Ks Os Bb n fs];simp[ZaM,Zi];omega
theorem ZeY(Ks:List KS)(Os:List (List Bool))(Bb:List (List Nat))(n:Nat)(xs:List XS)(fs:List Nat):(QQ Ks Os Bb n xs fs).off=1+ZaM Ks fs:=Zd8 Ks Os Bb n fs _
structure Zg5(m n k:Nat)(Ks:List KS)(G:GS):Prop where
 out:G.out.length=n
 fs:∀f∈G.fs,f<m+1
 sum:G.bins=ZaM Ks G.fs
 bins:G.bins<=40
 len:G.fs.length<=k
theorem Zg5.step{m n k budget f:Nat}{Ks:List KS}{Os:List (List Bool)}{Gs:List GS}(h:∀G∈Gs,Zg5 m n k Ks G)(hO:(Os.getD f []).length=n)(hf:f<m+1)(hm:(Ks.getD f ZK).many<=40):∀G∈ZE Ks Os n budget Gs f,Zg5 m n (k+1) Ks G:=fun G hG=>by
 unfold ZE at hG;split at hG
 ·rename_i hi
  rcases List.mem_or_eq_of_mem_set hG with hin|e
  obtain⟨a,b,c,d,e⟩:=h G hin;exact⟨a,b,c,d,by omega⟩;have hroom:=List.findIdx_getElem (w:=hi);have hG0:Gs.getD (Gs.findIdx (YI (Os.getD f []) (Ks.getD f ZK).many budget)) g0S=Gs[Gs.findIdx (YI (Os.getD f []) (Ks.getD f ZK).many budget)]:=(by rw[List.getD,Qd hi];rfl);rw[hG0] at e;obtain⟨a1,a2,a3,a4,a5⟩:=h _ (Qf hi);generalize Gs[Gs.findIdx (YI (Os.getD f []) (Ks.getD f ZK).many budget)]=G0 at *;subst e;unfold YI at hroom;simp only[Bool.and_eq_true,decide_eq_true_eq] at hroom;refine⟨?_,?_,?_,hroom.2,?_⟩;show(orL G0.out _).length=n;rw[Za0 (by rw[a1,hO])];exact a1
  ·intro x hx
   rcases List.mem_append.1 hx with hx|hx
   exact a2 x hx;simp at hx;subst hx;exact hf
  show G0.bins+_=ZaM Ks (G0.fs++[f]);rw[Zg1,a3];show(G0.fs++[f]).length<=k+1;simp;omega
 rcases List.mem_append.1 hG with hin|e
 obtain⟨a,b,c,d,e⟩:=h G hin;exact⟨a,b,c,d,by omega⟩;simp only[List.mem_cons,List.not_mem_nil,or_false] at e;subst e;refine⟨?_,?_,?_,?_,?_⟩;show(orL (List.replicate n false) _).length=n;rw[Za0 (by rw[hO];simp)];simp;intro x hx;simp[Zbt,Zau] at hx;subst hx;exact hf;simp[Zbt,Zau,ZaM];show 0+(Ks.getD f ZK).many<=40;omega;simp[Zbt,Zau]
theorem ZiC(Ks:List KS)(Os:List (List Bool))(n budget:Nat)(Gs:List GS)(f:Nat):(ZE Ks Os n budget Gs f).length<=Gs.length+1:=by unfold ZE;split<;>simp
theorem Zk4{m n budget:Nat}{Ks:List KS}{Os:List (List Bool)}(hO:∀i,i<m+1->(Os.getD i []).length=n)(hm:∀i,i<m+1->(Ks.getD i ZK).many<=40):∀(fs:List Nat) (k:Nat) (Gs:List GS),(∀f∈fs,f<m+1)->(∀G∈Gs,Zg5 m n k Ks G)->(∀G∈fs.foldl (ZE Ks Os n budget) Gs,Zg5 m n (k+fs.length) Ks G)/\(fs.foldl (ZE Ks Os n budget) Gs).length<=Gs.length+fs.length
 |[],k,Gs,_,h=>⟨h,by simp⟩
 | f::fs,k,Gs,hf,h=>by
  have hf0:=hf f (by simp);obtain⟨i1,i2⟩:=Zk4 (budget:=budget) hO hm fs (k+1) (ZE Ks Os n budget Gs f) (fun x hx=>hf x (by simp[hx])) (Zg5.step h (hO f hf0) hf0 (hm f hf0));have:=ZiC Ks Os n budget Gs f;simp only[List.foldl_cons,List.length_cons];refine⟨fun G hG=>?_,by omega⟩;have:=i1 G hG
  rwa [show k+1+fs.length=k+(fs.length+1) by omega] at this
theorem ZiA{m n budget:Nat}{Ks:List KS}{Os:List (List Bool)}(hO:∀i,i<m+1->(Os.getD i []).length=n)(hm:∀i,i<m+1->(Ks.getD i ZK).many<=40):(∀G∈Zat m Ks Os n budget,Zg5 m n (m+1) Ks G)/\(Zat m Ks Os n budget).length<=m+1:=by
 have h:=Zk4 (budget:=budget) hO hm (ZbE m Os) 0 [] (fun f hf=>Zk9 m Os f hf) (fun G hG=>by simp at hG);rw[ZiU] at h
 simpa [Zat] using h
def Qx(Os:List (List Bool))(Bb:List (List Nat))(n:Nat)(Ks:List KS)(Gs:List GS):DSS:=Gs.foldl (ZaE Os Bb n) ⟨Ks,[],[]⟩
theorem ZkF(Os:List (List Bool))(Bb:List (List Nat))(n:Nat):∀(Gs:List GS) (D:DSS),(Gs.foldl (ZaE Os Bb n) D).ks=D.ks
 |[],D=>rfl
 |G::Gs,D=>by simp only[List.foldl_cons];rw[ZkF Os Bb n Gs];rfl
theorem ZbV(Os:List (List Bool))(Bb:List (List Nat))(n:Nat)(Ks:List KS)(Gs:List GS):(Qx Os Bb n Ks Gs).ks=Ks:=ZkF Os Bb n Gs _
theorem Zjp(Os:List (List Bool))(Bb:List (List Nat))(n:Nat)(Ks:List KS)(Gs:List GS){i:Nat}(hi:i<Gs.length):Qx Os Bb n Ks (Gs.take (i+1))=ZaE Os Bb n (Qx Os Bb n Ks (Gs.take i)) (Gs.getD i g0S):=by unfold Qx;rw[Qi hi,List.foldl_append];simp[List.getD,hi]
theorem Zh7(Os:List (List Bool))(Bb:List (List Nat))(n:Nat):∀(Gs:List GS) (D:DSS),(∀G∈Gs,G.fs.length<=4)->(Gs.foldl (ZaE Os Bb n) D).bs.length=D.bs.length+Gs.length/\(Gs.foldl (ZaE Os Bb n) D).xs.length<=D.xs.length+Gs.length*(4*n)
 |[],D,_=>⟨rfl,by simp⟩
 | G::Gs,D,h=>by
  simp only[List.foldl_cons];obtain⟨i1,i2⟩:=Zh7 Os Bb n Gs (ZaE Os Bb n D G) (fun x hx=>h x (by simp[hx]));have h1:=(ZaV D.ks Os Bb n G.fs ⟨List.replicate n 0,D.xs,1⟩ (by simp)).2;have h2:G.fs.length*n<=4*n:=Nat.mul_le_mul_right _ (h G (by simp));have e1:(ZaE Os Bb n D G).bs.length=D.bs.length+1:=by simp[ZaE]
  have e2:(ZaE Os Bb n D G).xs.length<=D.xs.length+4*n:=(by show(QQ D.ks Os Bb n D.xs G.fs).xs.length<=_;unfold QQ;simp only at h1;omega);refine⟨by rw[i1,e1];simp;omega,?_⟩;rw[List.length_cons,Nat.add_mul,Nat.one_mul];omega
theorem Zlk(Os:List (List Bool))(Bb:List (List Nat)){n:Nat}(Ks:List KS){Gs:List GS}(h:∀G∈Gs,G.fs.length<=4)(hn:n<=200)(hl:Gs.length<=4):(Qx Os Bb n Ks Gs).bs.length<=4/\(Qx Os Bb n Ks Gs).xs.length<=4000:=by obtain⟨h1,h2⟩:=Zh7 Os Bb n Gs ⟨Ks,[],[]⟩ h;have h3:Gs.length*(4*n)<=4*800:=Nat.mul_le_mul hl (by omega);unfold Qx;simp only[List.length_nil] at h1 h2;omega
def Z2(m n budget:Nat)(es:List ES)(Bb:List (List Nat)):DSS:=Qx (QZ es Bb (m+1)) Bb n (YN es Bb (m+1)) (Zat m (YN es Bb (m+1)) (QZ es Bb (m+1)) n budget)
structure Zbg(w:World)(db:Nat)(vK vB vX:Value)(kvs bvs:List (Value×Value))(X:List XS)(D:DSS):Prop where
 ds:DsX w db vK vB vX bvs D.bs X
 kn:Zas w vK kvs D.ks
 perm:X.Perm D.xs
 sorted:Zda X
def Zh5(w:World)(db:Nat)(D:DSS):Prop:=∃vK vB vX kvs bvs X,Zbg w db vK vB vX kvs bvs X D
theorem DsX.sorted{w w':World}{db:Nat}{vK vB vX:Value}{bvs:List (Value×Value)}{bs:List BS}{xs X:List XS}(h:DsX w db vK vB vX bvs bs xs)(hg:w.grownBy w' vX.ownBlock)(hX:ZaC w' 0 vX X):DsX w' db vK vB vX bvs bs X/\Za (fun k=>vX.ownBlock=some k) w w'/\STy (fun k=>vX.ownBlock=some k) w:=by have t:Za (fun k=>vX.ownBlock=some k) w w':=(Za.refl _ w).grown hg (fun k hk _=>hk);have hst:STy (fun k=>vX.ownBlock=some k) w:=fun k cur ty hk hs=>h.sty k cur ty hk (.inr (.inr hs));refine⟨⟨t.at_ h.blk (fun e=>Zv h.xn e h.blk (by decide) rfl),h.bn.touch t (fun k hk hk2=>?_) hst,hX⟩,t,hst⟩;obtain⟨c,hc⟩:=Zf h.bn.row hk;exact Zv h.xn hk2 hc (by decide) rfl
structure Zlj(w2 wr:World)(db:Nat)(vK vB vX:Value)(bvs:List (Value×Value))(D:DSS):Prop where
 ds:DsX wr db vK vB vX bvs D.bs D.xs
 t:Za (fun q=>q=db) w2 wr
 nb:∀q,DsS db vB vX q->q=db∨w2.heap.size<=q
theorem Zlj.added{w2 wr w3:World}{db:Nat}{vK vB vX:Value}{bvs:List (Value×Value)}{D D':DSS}(h:Zlj w2 wr db vK vB vX bvs D)(ha:ZeO wr w3 db vK vB vX D'.bs D'.xs):∃vB' vX' bvs',Zlj w2 w3 db vK vB' vX' bvs' D':=by
 obtain⟨vB',vX',bvs',h1,h2,h3⟩:=ha;refine⟨vB',vX',bvs',h1,h.t.trans2 h2 (fun z hz=>h.nb z hz),fun q hq=>?_⟩
 rcases h3 q hq with e|e
 exact h.nb q e;have:=h.t.size;exact .inr (by omega)
theorem Znb(m n budget qf fc:Nat)(fvs:List (Value×Value×Value))(es:List ES)(Bb:List (List Nat))(w:World)(hm:m+1<=4)(hn:n<=200)(hb:budget<=20)(hF:ZcT w (.slice (some ⟨qf,0,none⟩) (m+1) fc) fvs es Bb)(hk:Zd4 m n es Bb):Calls Tryz.prog 157 #[.slice (some ⟨qf,0,none⟩) (m+1) fc,.int .i64 budget] w fun e w'=>e=.returned (.pointer (some ⟨w.heap.size,0,none⟩))/\Zh5 w' w.heap.size (Z2 m n budget es Bb)/\Below w.heap.size w w':=by
 have HF:Hid (ZcT w (.slice (some ⟨qf,0,none⟩) (m+1) fc) fvs es Bb):=hF;have HK:Hid (Zd4 m n es Bb):=hk;have hmk:∀W:World,(Instr.makeSlice 309 (.int .i64 ((m:Int)+1)) (.int .i64 ((m:Int)+1))).run Tryz.prog W=.ok (.slice (some ⟨W.heap.size,0,none⟩) (m+1) (m+1)) (W.alloc (.cells (madeCells #[.slice none 0 0] (m+1)) 101)):=ZlV (m+1) (by omega);clear hF hk;go_enter Tryz.func157,Tryz.ntmps157;go_wp2_with fail
 go_loopw [19] (fun ti wr=>∃(k:Nat) (vK:Value) (kvs:List (Value×Value)) (ovs:List Value),ti=.int .i64 k/\k<=m+1/\Hid (Zap w wr w.heap.size (w.heap.size+1) (m+1) k k vK kvs ovs es Bb)) (fun ti _=>m+1-(intOf ti).toNat)
 case atStart=>
  refine⟨0,.slice none 0 0,[],List.replicate (m+1) (.slice none 0 0),rfl,Qg _,?_⟩;refine⟨?_,⟨World.ownsRow_nil _ _ _ _,rfl,fun i hi=>by simp[YN] at hi⟩,?_,fun i hi=>by omega,?_,fun q hq=>by simp[Value.ownBlock] at hq⟩;exact(Below.heap_alloc _ _ _ (by simp)).trans (heap_alloc_new w _);have:=ZlU (m+1) (w.alloc (.cells #[.slice none 0 0,.slice none 0 0,.slice none 0 0] 168)) 0 (by omega) (Qg _);rw[show(w.alloc (.cells #[.slice none 0 0,.slice none 0 0,.slice none 0 0] 168)).heap.size=w.heap.size+1 by simp] at this;exact this;exact((Below.refl _ _).alloc (Qa _) _).alloc (by simp) _
 case round=>
  clear hmk;obtain⟨k,vK,kvs,ovs,rfl,hkm,HR⟩:=hrel;have hsz:=HR.out.bl.size
  by_cases hkl:k<m+1
  ·have hBw:=HF.out.below HR.out.bl;obtain⟨hqfl,b0,b1,b2,b3⟩:=hBw.cells (i:=k) (by rw[HK.out.le];exact hkl);have hBe:=hBw.each k (by rw[HK.out.le];exact hkl);have hlb:=HK.out.lb k hkl;have hcn:=HK.out.cn k hkl;have hbin:=HK.out.bin k hkl;obtain⟨ab,cb,hab⟩:=hBe.1.shape;obtain⟨aw,cw,haw⟩:=hBe.2.1.form;obtain⟨ax,cx,hax⟩:=hBe.2.2.shape;rw[ZQ,hlb] at hax;rw[hab] at b1;rw[haw] at b2;rw[hax] at b3;have HBE:Hid (Ze wr 0 (.slice ab (es.getD k e0S).bs.length cb) (es.getD k e0S).bs/\ZR wr 0 (.slice aw (es.getD k e0S).ww.length cw) (es.getD k e0S).ww/\Ze wr 0 (.slice ax n cx) (ZP (Bb.getD k []))/\(Bb.getD k []).length=n):=⟨hab ▸ hBe.1,haw ▸ hBe.2.1,hax ▸ hBe.2.2,hlb⟩;have hcnt:(es.getD k e0S).cnt=ZaR (es.getD k e0S).wd (es.getD k e0S).bs.length (es.getD k e0S).ww.length:=rfl
   have HHM:Hid (∀W:World,Calls Tryz.prog 146 #[.agg #[.bool (es.getD k e0S).wd,.slice ab (es.getD k e0S).bs.length cb,.slice aw (es.getD k e0S).ww.length cw]] W fun e w'=>e=.returned (.int .i64 (((es.getD k e0S).cnt+2:Nat):Int))/\Below W.heap.size W w'):=fun W=>by have e:(((es.getD k e0S).cnt+2:Nat):Int)=((ZaR (es.getD k e0S).wd (es.getD k e0S).bs.length (es.getD k e0S).ww.length:Nat):Int)+2:=(by rw[hcnt];omega);rw[e];exact Y5 _ ab aw _ cb _ cw W (by rw[<- hcnt];omega)
   have HMF:Hid (∀W:World,Below wr.heap.size wr W->Calls Tryz.prog 204 #[.slice ax n cx,.int .i64 (((es.getD k e0S).cnt+2:Nat):Int)] W fun e w'=>e=.returned (.int .i64 ((Zhl (es.getD k e0S) (Bb.getD k []):Nat):Int))/\Below W.heap.size W w'):=fun W hW=>by rw[<- ZkV];exact ZdW ax n cx ((es.getD k e0S).cnt+2) (Bb.getD k []) W (HBE.out.2.2.1.below hW) hlb hn hbin (by omega) (by omega)
   have HSO:Hid (∀W:World,Ze W 0 (.slice ax n cx) (ZP (Bb.getD k []))->Calls Tryz.prog 205 #[.slice ax n cx,.int .i64 ((Zhl (es.getD k e0S) (Bb.getD k []):Nat):Int)] W fun e w'=>∃v,e=.returned v/\Z7 w' W.heap.size v (oF es Bb k)/\Below W.heap.size W w'):=fun W hW=>ZeB ax n cx _ (Bb.getD k []) W hW hlb hn;have HKF:Hid (kF es Bb k=⟨es.getD k e0S,Zhl (es.getD k e0S) (Bb.getD k [])⟩):=rfl;clear hBw hBe hlb hbin hab haw hax hcnt;generalize Zhl (es.getD k e0S) (Bb.getD k [])=dk at *;generalize es.getD k e0S=ek at *;generalize hwd:ek.wd=wd at *;generalize hnb:ek.bs.length=nb at *;generalize hnw:ek.ww.length=nw at *;generalize ek.cnt=cn at *;have bk1:(0:Int)<=(k:Int):=(by omega);have bk2:(k:Int)<(m:Int)+1:=by omega
   have HWD:Hid (ek.wd=wd/\ek.bs.length=nb/\ek.ww.length=nw):=⟨hwd,hnb,hnw⟩;clear hwd hnb hnw;go_upto_region 6 with fail;generalize hw1:wr.alloc (.cells #[.bool wd,.slice ab nb cb,.slice aw nw cw,.slice ax n cx] 266)=w1;have HBOX:Hid (∃cur,w1.heap[wr.heap.size]? =some (.cells cur 266 (0,0))):=⟨_,by rw[<- hw1];exact heap_alloc_new _ _⟩;have hs1:w1.heap.size=wr.heap.size+1:=(by rw[<- hw1];simp);have HB1:Hid (Below wr.heap.size wr w1):=(by show Below _ _ _;rw[<- hw1];exact(Below.refl _ _).alloc (Qa _) _);have e0:w1.cell? ⟨wr.heap.size,0,none⟩=some (.bool wd):=(by rw[<- hw1];simp[go_sem]);have e1:w1.cell? ⟨wr.heap.size,1,none⟩=some (.slice ab nb cb):=(by rw[<- hw1];simp[go_sem]);have e2:w1.cell? ⟨wr.heap.size,2,none⟩=some (.slice aw nw cw):=by rw[<- hw1];simp[go_sem]
   have e3:w1.cell? ⟨wr.heap.size,3,none⟩=some (.slice ax n cx):=(by rw[<- hw1];simp[go_sem]);have l1:wr.heap.size<w1.heap.size:=(by omega);clear hw1 b0 b1 b2 b3 hs1;go_cut [9] (fun v wx=>∃kb,v=.pointer (some ⟨kb,0,none⟩)/\Hid (w1.heap.size<=kb/\wx.heap[kb]? =some (.cells #[.bool wd,.slice ab nb cb,.slice aw nw cw,.int .i64 (dk:Nat)] 172 (0,0))/\Below w1.heap.size w1 wx))
   case first=>
    go_region_held3 (fun w'=>w'.cell? ⟨wr.heap.size,0,none⟩=some (.bool wd)/\w'.cell? ⟨wr.heap.size,1,none⟩=some (.slice ab nb cb)/\w'.cell? ⟨wr.heap.size,2,none⟩=some (.slice aw nw cw)/\w'.cell? ⟨wr.heap.size,3,none⟩=some (.slice ax n cx)) (exact⟨(Below.cell (B:=w1.heap.size) (w:=w1) (p:=⟨wr.heap.size,0,none⟩) (by repeat(first|assumption|with_reducible exact Below.refl _ _|with_reducible apply Below.drew|(refine Below.alloc ?_ (by first|omega|(simp;omega)|simp) _)|(refine Below.setCell ?_ (by first|omega|(simp;omega)|simp) _))) l1).trans e0,(Below.cell (B:=w1.heap.size) (w:=w1) (p:=⟨wr.heap.size,1,none⟩) (by repeat(first|assumption|with_reducible exact Below.refl _ _|with_reducible apply Below.drew|(refine Below.alloc ?_ (by first|omega|(simp;omega)|simp) _)|(refine Below.setCell ?_ (by first|omega|(simp;omega)|simp) _))) l1).trans e1,(Below.cell (B:=w1.heap.size) (w:=w1) (p:=⟨wr.heap.size,2,none⟩) (by repeat(first|assumption|with_reducible exact Below.refl _ _|with_reducible apply Below.drew|(refine Below.alloc ?_ (by first|omega|(simp;omega)|simp) _)|(refine Below.setCell ?_ (by first|omega|(simp;omega)|simp) _))) l1).trans e2,(Below.cell (B:=w1.heap.size) (w:=w1) (p:=⟨wr.heap.size,3,none⟩) (by repeat(first|assumption|with_reducible exact Below.refl _ _|with_reducible apply Below.drew|(refine Below.alloc ?_ (by first|omega|(simp;omega)|simp) _)|(refine Below.setCell ?_ (by first|omega|(simp;omega)|simp) _))) l1).trans e3⟩) (first|(go_at_call 146;refine(HHM.out _).mono ?_;rintro e w2 ⟨rfl,hb2⟩;have hb12:Below w1.heap.size w1 w2:=Below.trans (by repeat(first|assumption|with_reducible exact Below.refl _ _|with_reducible apply Below.drew|(refine Below.alloc ?_ (by first|omega|(simp;omega)|simp) _)|(refine Below.setCell ?_ (by first|omega|(simp;omega)|simp) _))) (hb2.mono (by first|omega|(simp;omega)|simp));have hs12:=hb12.size;(try((first|(have hA:Z4 w2 w1.heap.size:=Z4.call (Z4.drew (Z4.new (Eq.refl _))) hb2)|(have hA:Z4 w2 w1.heap.size:=Z4.call (Z4.new (Eq.refl _)) hb2));obtain⟨z0,z1,z2,z3,zf⟩:=hA.cells;have zf0:=zf 0;have zf1:=zf 1;have zf2:=zf 2;have zf3:=zf 3;clear zf));clear hb2)|(go_at_call 204;refine(HMF.out _ (HB1.out.trans (Below.mono (by repeat(first|assumption|with_reducible exact Below.refl _ _|with_reducible apply Below.drew|(refine Below.alloc ?_ (by first|omega|(simp;omega)|simp) _)|(refine Below.setCell ?_ (by first|omega|(simp;omega)|simp) _))) (by omega:wr.heap.size<=w1.heap.size)))).mono ?_;rintro e w3 ⟨rfl,hb3⟩;have hb13:Below w1.heap.size w1 w3:=Below.trans (by repeat(first|assumption|with_reducible exact Below.refl _ _|with_reducible apply Below.drew|(refine Below.alloc ?_ (by first|omega|(simp;omega)|simp) _)|(refine Below.setCell ?_ (by first|omega|(simp;omega)|simp) _))) (hb3.mono (by first|omega|(simp;omega)|simp));have hs13:=hb13.size;(try((first|(have hA3:Z4 w3 w1.heap.size:=Z4.call hA hb3)|(have hA3:Z4 w3 w1.heap.size:=Z4.call (Z4.drew hA) hb3));obtain⟨y0,y1,y2,y3,yf⟩:=hA3.cells;have yf0:=yf 0;have yf1:=yf 1;have yf2:=yf 2;have yf3:=yf 3;clear yf));(try((first|(have hA3:Z4 w3 w2.heap.size:=Z4.call (Z4.new (Eq.refl _)) hb3)|(have hA3:Z4 w3 w2.heap.size:=Z4.call (Z4.drew (Z4.new (Eq.refl _))) hb3));obtain⟨y0,y1,y2,y3,yf⟩:=hA3.cells;have yf0:=yf 0;have yf1:=yf 1;have yf2:=yf 2;have yf3:=yf 3;clear yf));clear hb3))
    all_goals go_wp2
    all_goals go_meet
    exact⟨_,rfl,hs13,heap_alloc_new _ _,by repeat(first|assumption|(refine Below.alloc ?_ hs13 _))⟩;exact⟨_,rfl,hs12,hA3.fill _ _ _ _,by repeat(first|assumption|(refine Below.setCell ?_ hs12 _))⟩;exact⟨_,rfl,Qa _,hA3.fill _ _ _ _,by refine Below.setCell (Below.setCell (Below.setCell (Below.setCell hb13 ?_ _) ?_ _) ?_ _) ?_ _<;>exact Qa w1.heap.size⟩
   case rest=>
   clear HHM HMF;obtain⟨kb,rfl,HC⟩:=hcut;have hWC:Below wr.heap.size wr wc:=HB1.out.trans (HC.out.2.2.mono (Nat.le_of_lt l1));have HZ:Hid (Zap w wc w.heap.size (w.heap.size+1) (m+1) k k vK kvs ovs es Bb):=HR.out.below hWC;have c3:=(HC.out.2.2.cell (p:=⟨wr.heap.size,3,none⟩) l1).trans e3;have HBC:Hid (Ze wc 0 (.slice ab nb cb) ek.bs/\ZR wc 0 (.slice aw nw cw) ek.ww/\Ze wc 0 (.slice ax n cx) (ZP (Bb.getD k []))):=⟨HBE.out.1.below hWC,HBE.out.2.1.below hWC,HBE.out.2.2.1.below hWC⟩;have hkbl:wr.heap.size<kb:=Qh l1 HC.out.1;have hkb2:kb<wc.heap.size:=(Qb HC.out.2.1).1;have HKB:Hid (wc.heap[kb]? =some (.cells #[.bool wd,.slice ab nb cb,.slice aw nw cw,.int .i64 (dk:Nat)] 172 (0,0))):=HC.out.2.1
   have HBX:Hid (∃cur,wc.heap[wr.heap.size]? =some (.cells cur 266 (0,0))):=by obtain⟨c,hc⟩:=HBOX.out;exact⟨c,(HC.out.2.2.block _ l1).trans hc⟩
   have HKN:Hid (¬vK.ownBlock=some kb):=fun e=>by obtain⟨c,hc⟩:=Zf HR.out.kn.row e;have:=(Qb hc).1;omega
   have hszl:w.heap.size<wr.heap.size:=(Qb HR.out.blk).1;clear HR HB1 HBE HC hWC e0 e1 e2 e3 HBOX
   obtain⟨ka,kc,hvK⟩:∃a c,vK=.slice a k c:=by
    have h1:=HZ.out.kn.row;rw[YK] at h1
    rcases h1.2 with⟨rfl,h0⟩|⟨q,p,cur,rfl,_⟩
    exact⟨none,0,by rw[h0]⟩;exact⟨_,_,rfl⟩
   subst hvK;have HRW:Hid (wc.ownsRow 0 172 4 (.slice ka k kc) k (Qu (YN es Bb k) kvs)):=(by have h1:=HZ.out.kn.row;rw[YK] at h1;exact h1);have cd0:wc.drew.cell? ⟨w.heap.size,0,none⟩=some (.slice ka k kc):=cell_of_row _ _ 0 _ 168 (0,0) HZ.out.blk;have ck0:wc.drew.cell? ⟨kb,0,none⟩=some (.bool wd):=cell_of_row _ _ 0 _ 172 (0,0) HKB.out;have ck1:wc.drew.cell? ⟨kb,1,none⟩=some (.slice ab nb cb):=cell_of_row _ _ 1 _ 172 (0,0) HKB.out;have ck2:wc.drew.cell? ⟨kb,2,none⟩=some (.slice aw nw cw):=cell_of_row _ _ 2 _ 172 (0,0) HKB.out;have ck3:wc.drew.cell? ⟨kb,3,none⟩=some (.int .i64 (dk:Nat)):=cell_of_row _ _ 3 _ 172 (0,0) HKB.out;have hdl:w.heap.size<wc.heap.size:=(by omega);obtain⟨j0,jinf,jz0,jz1,jz2⟩:=info_parts ZnX;go_upto_region 7 with fail
   refine ZJ (fun w'=>w'.cell? ⟨w.heap.size,0,none⟩=some (.slice ka k kc)/\w'.cell? ⟨kb,0,none⟩=some (.bool wd)/\w'.cell? ⟨kb,1,none⟩=some (.slice ab nb cb)/\w'.cell? ⟨kb,2,none⟩=some (.slice aw nw cw)/\w'.cell? ⟨kb,3,none⟩=some (.int .i64 (dk:Nat))) 10 (by kernel_rfl) ⟨cd0,ck0,ck1,ck2,ck3⟩ (fun hHeld=>?_);refine ZL 0 ?_;try simp only[Act.put,sA,sB,sC]
   refine ZL 1 ?_;try simp only[Act.put,sA,sB,sC]
   refine ZL 2 ?_;try simp only[Act.put,sA,sB,sC]
   refine ZL 3 ?_;try simp only[Act.put,sA,sB,sC]
   refine tkM [7,8,9,10] 4 (v:=?_) ?_ ?_
   rotate_left
   ·intro w hSw;try obtain⟨_,_,_,_,_⟩:=hSw
    go_simp;try with_reducible rfl
   try simp only[Act.put,sA,sB,sC]
   refine tkM [6,7,8,9,10] 5 (v:=?_) ?_ ?_
   rotate_left
   ·intro w hSw;try obtain⟨_,_,_,_,_⟩:=hSw
    go_simp;try with_reducible rfl
   try simp only[Act.put,sA,sB,sC]
   refine Zk (i:=6) (by kernel_rfl) rfl (fun KK hK=>?_);go_simp;refine hK.out _ _ ⟨(Below.cell (B:=wc.drew.heap.size) (p:=⟨w.heap.size,0,none⟩) ((Below.refl _ _).alloc (Qa _) _) (by simp;omega)).trans cd0,(Below.cell (B:=wc.drew.heap.size) (p:=⟨kb,0,none⟩) ((Below.refl _ _).alloc (Qa _) _) (by simp;omega)).trans ck0,(Below.cell (B:=wc.drew.heap.size) (p:=⟨kb,1,none⟩) ((Below.refl _ _).alloc (Qa _) _) (by simp;omega)).trans ck1,(Below.cell (B:=wc.drew.heap.size) (p:=⟨kb,2,none⟩) ((Below.refl _ _).alloc (Qa _) _) (by simp;omega)).trans ck2,(Below.cell (B:=wc.drew.heap.size) (p:=⟨kb,3,none⟩) ((Below.refl _ _).alloc (Qa _) _) (by simp;omega)).trans ck3⟩ (fun hHeld=>?_);clear hK KK;try simp only[Act.put,sA,sB,sC]
   refine Zk (i:=7) (by kernel_rfl) rfl (fun KK hK=>?_);refine ZI rfl (.tmp 37) (.tmp 39) 164 rfl 0 172 j0 (.agg #[.bool false,.slice none 0 0,.slice none 0 0,.int .i64 0]) 4 64 Tryz.underlying164 jinf jz0 jz1 jz2 rfl (by decide) (.slice ka k kc) k (Qu (YN es Bb k) kvs) (by simp[Act.eval]) (World.ownsRow.alloc (w:=wc.drew) HRW.out _) ⟨wc.heap.size,0,none⟩ 1 1 [.bool wd,.slice ab nb cb,.slice aw nw cw,.int .i64 (dk:Nat)] (by simp[Act.eval]) rfl (Zu wc.drew #[.bool wd,.slice ab nb cb,.slice aw nw cw,.int .i64 (dk:Nat)] 172) (by intro u hu;simp only[List.mem_cons,List.not_mem_nil,or_false] at hu;rcases hu with rfl|rfl|rfl|rfl<;>rfl) (by decide) (by unfold maxLen;omega) (by omega) (by simp) ?_;intro v6 w6 H6;obtain⟨r6,g6,d6,_,q6,p6,hv6⟩:=H6.out
   have hZ5:=HZ.out.below (((Below.refl _ wc).drew).alloc (Qa _) (.cells #[.bool wd,.slice ab nb cb,.slice aw nw cw,.int .i64 (dk:Nat)] 172));have hb5:Below wc.heap.size wc (wc.drew.alloc (.cells #[.bool wd,.slice ab nb cb,.slice aw nw cw,.int .i64 (dk:Nat)] 172)):=((Below.refl _ wc).drew).alloc (Qa _) _;have hcl:QS (kF es Bb k) (.slice ab nb cb,.slice aw nw cw)=[.bool wd,.slice ab nb cb,.slice aw nw cw,.int .i64 (dk:Nat)]:=by rw[HKF.out];simp[QS,HWD.out.1]
   obtain⟨hZ6,hT6⟩:=hZ5.feat (v6:=v6) (vb:=.slice ab nb cb) (vw:=.slice aw nw cw) (Qa _) g6 (by rw[hcl];exact r6) d6 (by rw[HKF.out];exact HBC.out.1.below hb5) (by rw[HKF.out];exact HBC.out.2.1.below hb5);have HZ6:Hid (Zap w (w6.setCell ⟨w.heap.size,0,none⟩ v6) w.heap.size (w.heap.size+1) (m+1) (k+1) k v6 (kvs++[(.slice ab nb cb,.slice aw nw cw)]) ovs es Bb):=hZ6;have t6:Za (fun q=>(Value.slice ka k kc).ownBlock=some q) (wc.drew.alloc (.cells #[.bool wd,.slice ab nb cb,.slice aw nw cw,.int .i64 (dk:Nat)] 172)) w6:=(Za.refl _ _).grown g6 (fun k hk _=>hk);have hnk:¬(Value.slice ka k kc).ownBlock=some kb:=fun e=>HKN.out e;have hK6:w6.heap[kb]? =some (.cells #[.bool wd,.slice ab nb cb,.slice aw nw cw,.int .i64 (dk:Nat)] 172 (0,0)):=t6.at_ ((hb5.block kb hkb2).trans HKB.out) hnk
   have hblk6:=t6.at_ hZ5.blk (fun e=>Zv hZ5.kn.row e hZ5.blk (by decide) rfl);have c6a:w6.cell? ⟨w.heap.size,0,none⟩=some (.slice ka k kc):=cell_of_row _ _ 0 _ 168 (0,0) hblk6;have f6a:w6.frozen? ⟨w.heap.size,0,none⟩=false:=frozen_of_row _ _ 0 _ 168 hblk6;have k60:w6.cell? ⟨kb,0,none⟩=some (.bool wd):=cell_of_row _ _ 0 _ 172 (0,0) hK6;have k61:w6.cell? ⟨kb,1,none⟩=some (.slice ab nb cb):=cell_of_row _ _ 1 _ 172 (0,0) hK6;have k62:w6.cell? ⟨kb,2,none⟩=some (.slice aw nw cw):=cell_of_row _ _ 2 _ 172 (0,0) hK6;have k63:w6.cell? ⟨kb,3,none⟩=some (.int .i64 (dk:Nat)):=cell_of_row _ _ 3 _ 172 (0,0) hK6;have T6:Za (fun q=>(Value.slice ka k kc).ownBlock=some q∨q=w.heap.size) wc (w6.setCell ⟨w.heap.size,0,none⟩ v6):=(Za.of_below hb5).trans hT6;have hnd:¬kb=w.heap.size:=by omega
   have c73:(w6.setCell ⟨w.heap.size,0,none⟩ v6).cell? ⟨kb,3,none⟩=some (.int .i64 (dk:Nat)):=cell_of_row _ _ 3 _ 172 (0,0) (T6.at_ HKB.out (fun e=>e.elim hnk hnd));have c7b:(w6.setCell ⟨w.heap.size,0,none⟩ v6).cell? ⟨wr.heap.size,3,none⟩=some (.slice ax n cx):=by obtain⟨cur,hcur⟩:=HBX.out;rw[World.cell?_of_block (a:=⟨wr.heap.size,3,none⟩) (T6.block wr.heap.size (by omega) (fun e=>e.elim (fun e=>Zv HRW.out e hcur (by decide) rfl) (fun e=>by omega)))];exact c3
   have HI7:Hid (Ze (w6.setCell ⟨w.heap.size,0,none⟩ v6) 0 (.slice ax n cx) (ZP (Bb.getD k []))):=T6.row HBC.out.2.2 (fun q hq e=>e.elim (fun e=>by
    obtain⟨c1,h1⟩:=Zf HBC.out.2.2 hq
    exact Zv HRW.out e h1 (by decide) rfl) (fun e=>Zv HBC.out.2.2 hq HZ.out.blk (by decide) e))
   have hs7:wc.heap.size<=(w6.setCell ⟨w.heap.size,0,none⟩ v6).heap.size:=T6.size;subst hv6;clear H6 r6 g6 d6 hZ5 hb5 hcl hZ6 hT6 t6 hK6 hblk6 T6 HZ HBC HKB HBX HRW;refine hK.out _ _ ⟨c6a,k60,k61,k62,k63⟩ (fun hHeld=>?_);clear hK KK;try simp only[Act.put,sA,sB,sC]
   refine ZL 8 ?_;try simp only[Act.put,sA,sB,sC]
   refine ZL 9 ?_;try simp only[Act.put,sA,sB,sC]
   refine Zx (i:=10) (by kernel_rfl) rfl (by kernel_rfl) (fun KK hK=>?_);go_simp;refine hK.out _ _ ?_;clear hK KK;try simp only[Act.put,sA,sB,sC]
   refine Zz (by kernel_rfl) ?_ _;have co:(w6.setCell ⟨w.heap.size,0,none⟩ (.slice (some ⟨q6,0,none⟩) (k+1) p6)).heap.size=(w6.setCell ⟨w.heap.size,0,none⟩ (.slice (some ⟨q6,0,none⟩) (k+1) p6)).heap.size:=rfl;clear co;generalize w6.setCell ⟨w.heap.size,0,none⟩ (.slice (some ⟨q6,0,none⟩) (k+1) p6)=w7 at *;clear c6a f6a k60 k61 k62 k63 hHeld ck0 ck1 ck2 ck3 cd0 c3;go_wp2_with fail
   refine(HSO.out _ HI7.out).mono ?_;rintro e w8 ⟨v8,rfl,hO8,hb8⟩;have hZ8:=HZ6.out.below hb8;have hol:ovs.length=m+1:=by have:=hZ8.orow.1;omega
   have c8:w8.cell? ⟨w.heap.size+1,k,none⟩=some (ovs.getD k (.slice none 0 0)):=(by rw[World.ownsRow.cellAt hZ8.orow k (by omega)];simp[List.getD,hol,hkl]);have f8:w8.frozen? ⟨w.heap.size+1,k,none⟩=false:=by obtain⟨cur,hcur⟩:=Zf hZ8.orow (k:=w.heap.size+1) rfl;exact frozen_of_row _ _ k _ 101 hcur
   have HN:Hid (Zap w (w8.setCell ⟨w.heap.size+1,k,none⟩ v8) w.heap.size (w.heap.size+1) (m+1) (k+1) (k+1) (.slice (some ⟨q6,0,none⟩) (k+1) p6) (kvs++[(.slice ab nb cb,.slice aw nw cw)]) (ovs.set k v8) es Bb):=hZ8.out (Nat.le_succ _) hkl (hO8.mono (Qg _));obtain⟨a8,p8,hv8⟩:=hO8.shape;subst hv8;clear hol hZ8 hO8 hb8 HZ6 HI7 c7b c73 HSO;go_wp2;go_roundw;case rel=>exact⟨k+1,_,_,_,by go_num,by omega,HN⟩
   case measure=>simp[intOf];omega
  have hkk:k=m+1:=(by omega);have hnk:¬(k:Int)<(m:Int)+1:=by omega
  have HR2:Hid (Zap w wr w.heap.size (w.heap.size+1) (m+1) (m+1) (m+1) vK kvs ovs es Bb):=(by rw[hkk] at HR;exact HR);obtain⟨qk,kc,_,_,_,_,hvK,_⟩:=HR2.out.kn.at (i:=0) (by rw[YK];omega);rw[YK] at hvK;subst hvK;have cd0:wr.cell? ⟨w.heap.size,0,none⟩=some (.slice (some ⟨qk,0,none⟩) (m+1) kc):=cell_of_row _ _ 0 _ 168 (0,0) HR2.out.blk;have hszl:w.heap.size<wr.heap.size:=(Qb HR2.out.blk).1;have HMK:Hid (Z2 m n budget es Bb=Qx (QZ es Bb (m+1)) Bb n (YN es Bb (m+1)) (Zat m (YN es Bb (m+1)) (QZ es Bb (m+1)) n budget)):=rfl
  have hOl:∀i,i<m+1->((QZ es Bb (m+1)).getD i []).length=n:=fun i hi=>by rw[Zdv _ _ hi];show(ZbF _ _).length=n;unfold ZbF;rw[List.length_map];exact HK.out.lb i hi
  have hKm:∀i,i<m+1->((YN es Bb (m+1)).getD i ZK).many<=40:=fun i hi=>by rw[QT _ _ hi];have:=HK.out.cn i hi;show(es.getD i e0S).cnt+2<=40;omega
  have hOm:∀O∈QZ es Bb (m+1),O.length=n:=fun O hO=>by
   obtain⟨i,hi,rfl⟩:=List.getElem_of_mem hO;have:=hOl i (by rw[ZeL] at hi;exact hi)
   simpa [List.getD,hi] using this
  have hKm2:∀K∈YN es Bb (m+1),K.many<=100:=fun K hK=>by obtain⟨i,hi,rfl⟩:=List.getElem_of_mem hK;have:=hKm i (by rw[YK] at hi;exact hi);rw[List.getD,Qd hi] at this;simp at this;omega
  have HFIT:=ZiA (budget:=budget) hOl hKm;have HKS:Hid (Zas wr (.slice (some ⟨qk,0,none⟩) (m+1) kc) kvs (YN es Bb (m+1))/\YV wr (.slice (some ⟨w.heap.size+1,0,none⟩) (m+1) (m+1)) ovs (QZ es Bb (m+1))/\ZcT wr (.slice (some ⟨qf,0,none⟩) (m+1) fc) fvs es Bb):=⟨HR2.out.kn,HR2.out.outs,HF.out.below HR2.out.bl⟩;have HL:Hid ((YN es Bb (m+1)).length=m+1/\(QZ es Bb (m+1)).length=m+1/\(∀O∈QZ es Bb (m+1),O.length=n)/\∀K∈YN es Bb (m+1),K.many<=100):=⟨YK _ _ _,ZeL _ _ _,hOm,hKm2⟩;have HLT:=Zew m n budget qk kc (w.heap.size+1) (m+1) kvs ovs _ _ wr hm HL.out.1 HL.out.2.1 HKS.out.1 HKS.out.2.1 HL.out.2.2.1 hn hb HL.out.2.2.2;have HBW:Hid (Below w.heap.size w wr):=HR2.out.bl
  have HBK:Hid (wr.heap[w.heap.size]? =some (.cells #[.slice (some ⟨qk,0,none⟩) (m+1) kc,.slice none 0 0,.slice none 0 0] 168 (0,0))):=HR2.out.blk;clear HR HR2 hOl hKm hOm hKm2 hkk HF;generalize Zat m (YN es Bb (m+1)) (QZ es Bb (m+1)) n budget=Gs at *;generalize YN es Bb (m+1)=Ks at *;generalize QZ es Bb (m+1)=Os at *;go_wp2_with fail
  refine HLT.mono ?_;rintro e w2 ⟨vG,rfl,hLd,hb2⟩;obtain⟨base,gbs,Kk,hbase,hG⟩:=hLd;obtain⟨ga,gc,hvG⟩:=hG.x.form;subst hvG;have HG:Hid (QJ w2 base (.slice ga Gs.length gc) gbs Kk Gs):=hG;have HH:Hid (Zas w2 (.slice (some ⟨qk,0,none⟩) (m+1) kc) kvs Ks/\YV w2 (.slice (some ⟨w.heap.size+1,0,none⟩) (m+1) (m+1)) ovs Os/\ZcT w2 (.slice (some ⟨qf,0,none⟩) (m+1) fc) fvs es Bb):=⟨HKS.out.1.below hb2,HKS.out.2.1.below hb2,HKS.out.2.2.below hb2⟩;have HB2:Hid (Below w.heap.size w w2):=HBW.out.trans (hb2.mono HBW.out.size);have HK2:Hid (w2.heap[w.heap.size]? =some (.cells #[.slice (some ⟨qk,0,none⟩) (m+1) kc,.slice none 0 0,.slice none 0 0] 168 (0,0))):=(hb2.block _ hszl).trans HBK.out
  have HST:Hid (STy (fun q=>q=w.heap.size) w2):=fun q cur ty hq e=>by subst e;rw[HK2.out] at hq;simp at hq;exact .inl hq.2.symm
  have hgl:=HFIT.2;have HFT:Hid (∀G∈Gs,Zg5 m n (m+1) Ks G):=HFIT.1;have hdlt:w.heap.size<w2.heap.size:=Qh hszl hb2.size;have hdb:w.heap.size<base:=Qh hszl hbase;clear HFIT HLT hG hb2 HKS HBW HBK cd0 hbase;generalize hgle:Gs.length=gl at *;have HGL:Hid (Gs.length=gl):=hgle;clear hgle;go_wp2_with fail
  go_loopw [60] (fun ti wr=>∃(i:Nat) (vB vX:Value) (bvs:List (Value×Value)),ti=.int .i64 i/\i<=gl/\Hid (Zlj w2 wr w.heap.size (.slice (some ⟨qk,0,none⟩) (m+1) kc) vB vX bvs (Qx Os Bb n Ks (Gs.take i)))) (fun ti _=>gl-(intOf ti).toNat)
  case atStart=>
   refine⟨0,.slice none 0 0,.slice none 0 0,[],rfl,Qg _,?_⟩;refine⟨⟨HK2.out,⟨World.ownsRow_nil _ _ _ _,rfl,fun i hi=>absurd hi (by simp[Qx])⟩,World.ownsRow_nil _ _ _ _⟩,Za.refl _ _,fun q hq=>?_⟩
   rcases hq with e|e|e
   exact .inl e;simp[Value.ownBlock] at e;simp[Value.ownBlock] at e
  case round=>
   obtain⟨i,vB,vX,bvs,rfl,hig,HR⟩:=hrel;have hsz2:=HR.out.t.size
   have hfsl:∀G∈Gs.take i,G.fs.length<=4:=fun G hG=>by have:=(HFT.out G (List.mem_of_mem_take hG)).len;omega
   have hDl:=Zlk Os Bb (n:=n) Ks hfsl hn (by rw[List.length_take];omega);have hDks:=ZbV Os Bb n Ks (Gs.take i)
   by_cases hil:i<gl
   ·have hil2:i<Gs.length:=(by rw[HGL.out];exact hil);have hgi:Gs.getD i g0S=Gs[i]:=(by rw[List.getD,Qd hil2];rfl);have hfit:Zg5 m n (m+1) Ks (Gs.getD i g0S):=(by rw[hgi];exact HFT.out _ (Qf hil2));have hGr:=HG.out.touch HR.out.t (fun q hq e=>by omega);obtain⟨qg,gcc,hvg,hqgl,cg⟩:=hGr.x.at hil2;have hga:ga=some ⟨qg,0,none⟩:=(by injection hvg);subst hga;obtain⟨vf,vo,hK⟩:=hGr.x.each i hil2;obtain⟨oa,occ,hvo⟩:=hK.out.shape;rw[hfit.out] at hvo;subst hvo;unfold ZfD at cg;have hblk:=hK.blk;have hfsw:=hK.fs;have hKn:=HH.out.1.touchS HR.out.t HST.out;have hOn:=HH.out.2.1.touchS HR.out.t HST.out;have hFn:=HH.out.2.2.touch HR.out.t HST.out;have hoff:=ZeY Ks Os Bb n (Qx Os Bb n Ks (Gs.take i)).xs (Gs.getD i g0S).fs;have hsum:=hfit.sum;have hbins:=hfit.bins
    have hlen4:=hfit.len;have HAB:=Zf3 w.heap.size (gbs.getD i 0) m n qk kc qf fc (w.heap.size+1) (m+1) _ _ vB vX vf oa occ bvs kvs fvs ovs _ _ Ks es Bb Os _ wr HR.out.ds hKn HL.out.1 hblk hfsw hFn HK.out.le hOn HL.out.2.1 HL.out.2.2.1 HK.out.lb hfit.fs hn (by omega) (fun j hj b hb=>by have h1:=HK.out.bin j hj b hb;have h2:=HK.out.cn j hj;omega) HL.out.2.2.2 (by rw[hoff,<- hsum];omega) (by omega) (by omega);have hsn:=Zjp Os Bb n Ks Gs hil2
    have HNX:Hid (∀w3:World,ZeO wr w3 w.heap.size (.slice (some ⟨qk,0,none⟩) (m+1) kc) vB vX ((Qx Os Bb n Ks (Gs.take i)).bs++[⟨(Gs.getD i g0S).fs,(QQ Ks Os Bb n (Qx Os Bb n Ks (Gs.take i)).xs (Gs.getD i g0S).fs).N,(QQ Ks Os Bb n (Qx Os Bb n Ks (Gs.take i)).xs (Gs.getD i g0S).fs).off-1⟩]) (QQ Ks Os Bb n (Qx Os Bb n Ks (Gs.take i)).xs (Gs.getD i g0S).fs).xs->∃vB' vX' bvs',Zlj w2 w3 w.heap.size (.slice (some ⟨qk,0,none⟩) (m+1) kc) vB' vX' bvs' (Qx Os Bb n Ks (Gs.take (i+1)))):=fun w3 h3=>by refine HR.out.added ?_;rw[hsn];show ZeO wr w3 _ _ _ _ ((Qx Os Bb n Ks (Gs.take i)).bs++[⟨_,(QQ (Qx Os Bb n Ks (Gs.take i)).ks Os Bb n _ _).N,_⟩]) (QQ (Qx Os Bb n Ks (Gs.take i)).ks Os Bb n _ _).xs;rw[hDks];exact h3
    have bi1:(0:Int)<=(i:Int):=(by omega);have bi2:(i:Int)<(gl:Int):=(by omega);clear hgi hfit hGr hvg hK hblk hfsw hKn hOn hFn hoff hsum hbins hlen4 hsn hDks hfsl hDl;go_wp2_with fail
    refine HAB.mono ?_;rintro e w3 ⟨rfl,h3⟩;obtain⟨vB',vX',bvs',h4⟩:=HNX.out w3 h3;have HN4:Hid (Zlj w2 w3 w.heap.size (.slice (some ⟨qk,0,none⟩) (m+1) kc) vB' vX' bvs' (Qx Os Bb n Ks (Gs.take (i+1)))):=h4;clear HAB h3 h4 HNX HR cg;go_wp2;go_roundw;case rel=>exact⟨i+1,vB',vX',bvs',by go_num,by omega,HN4⟩
    case measure=>simp[intOf];omega
   have hni:¬(i:Int)<(gl:Int):=(by omega);have htk:Gs.take i=Gs:=List.take_of_length_le (by rw[HGL.out];omega);rw[htk] at HR hDl hDks;rw[<- HMK.out] at HR hDl hDks;have c2:wr.cell? ⟨w.heap.size,2,none⟩=some vX:=cell_of_row _ _ 2 _ 168 (0,0) HR.out.ds.blk;have HSO:=Zkk vX (Z2 m n budget es Bb).xs wr HR.out.ds.xn (by omega);obtain⟨xa,xc,hvX⟩:=HR.out.ds.xn.shape;have HVX:Hid (vX=.slice xa (Z2 m n budget es Bb).xs.length xc):=hvX;have hkn:=HH.out.1.touchS HR.out.t HST.out;have HKW:Hid (Zas wr (.slice (some ⟨qk,0,none⟩) (m+1) kc) kvs (Z2 m n budget es Bb).ks):=(by rw[hDks];exact hkn);clear hkn htk hDks hDl hfsl hvX;rw[HVX.out] at c2 HSO;go_wp2_with fail
   refine HSO.mono ?_;rintro e w4 ⟨rfl,⟨X,hperm,hsort,hown⟩,hg4⟩
   have HFIN:Hid (Zh5 w4 w.heap.size (Z2 m n budget es Bb)/\Below w.heap.size w w4):=by
    rw[<- HVX.out] at hown hg4;obtain⟨d4,t4,s4⟩:=HR.out.ds.sorted hg4 hown;refine⟨⟨_,_,_,_,_,X,d4,HKW.out.touchS t4 s4,hperm,hsort⟩,?_⟩;have h1:Below w.heap.size w wr:=HB2.out.trans (HR.out.t.to_below (Nat.le_of_lt hdlt) (fun q hq=>Nat.le_of_eq hq.symm));refine h1.trans (t4.to_below (by omega) (fun q hq=>?_))
    rcases HR.out.nb q (.inr (.inr hq)) with e|e<;>omega
   clear HSO hperm hsort hown hg4 c2;go_wp2;go_ret;exact⟨rfl,HFIN.out⟩
theorem ZjY(va wa:Option Addr)(n vcap wcap k1 k2 size:Nat)(bins:Int)(L:List VS)(ws:List Int)(w:World)(hv:Qr w 0 (.slice va n vcap) L)(hw:ZM w wa n ws)(hL:L.length=n)(hn:n<=200)(hr:∀v∈L,-1000000000<=v.num/\v.num<=1000000000)(hz:∀z∈ws,0<=z/\z<=99)(hs:2<=size)(hs2:size<=32)(hb1:2<=bins)(hb2:bins<=16)(c1:w.cell? ⟨k1,0,none⟩=some (.int .i64 bins))(c2:w.cell? ⟨k2,0,none⟩=some (.int .i64 (size:Nat)))(l1:k1<w.heap.size)(l2:k2<w.heap.size):Calls Tryz.prog 216 #[.slice va n vcap,.slice wa n wcap,.pointer (some ⟨k1,0,none⟩),.pointer (some ⟨k2,0,none⟩)] w fun e w'=>∃v,e=.returned v/\ZcA w' w.heap.size v ⟨false,Ym L ws bins size,[]⟩/\Below w.heap.size w w':=by
 have HC:Hid (∀W:World,Below w.heap.size w W->Calls Tryz.prog 217 #[.slice va n vcap,.slice wa n wcap,.int .i64 bins,.int .i64 (size:Nat)] W fun e w'=>∃v,e=.returned v/\Zpa w' W.heap.size v (Ym L ws bins size)/\Below W.heap.size W w'):=fun W hW=>Zex va wa n vcap wcap size bins L ws W ((Za.of_below (S:=fun _=>False) hW).row hv (fun _ _=>id)) (hw.below hW) hL hn hr hz hs hs2 hb1 hb2;clear hv hw hL hn hr hz hs hs2 hb1 hb2;go_enter Tryz.func216,Tryz.ntmps216;go_wp2_with fail
 refine(HC.out _ ((Below.refl _ _).alloc (Qa _) _)).mono ?_;rintro e w2 ⟨v,rfl,⟨vb,hv,hE⟩,hb⟩;subst hv;obtain⟨ab,cb,hab⟩:=hE.shape;rw[hab] at hE ⊢;have hblk:w2.heap[w.heap.size]? =some (.cells #[.bool false,.slice none 0 0,.slice none 0 0] 170 (0,0)):=(hb.block _ (by simp)).trans (heap_alloc_new _ _);have d0:w2.cell? ⟨w.heap.size,0,none⟩=some (.bool false):=cell_of_row _ _ 0 _ 170 (0,0) hblk;have d1:w2.cell? ⟨w.heap.size,1,none⟩=some (.slice none 0 0):=cell_of_row _ _ 1 _ 170 (0,0) hblk;have d2:w2.cell? ⟨w.heap.size,2,none⟩=some (.slice none 0 0):=cell_of_row _ _ 2 _ 170 (0,0) hblk;have f0:w2.frozen? ⟨w.heap.size,0,none⟩=false:=frozen_of_row _ _ 0 _ 170 hblk;have f1:w2.frozen? ⟨w.heap.size,1,none⟩=false:=frozen_of_row _ _ 1 _ 170 hblk
 have f2:w2.frozen? ⟨w.heap.size,2,none⟩=false:=frozen_of_row _ _ 2 _ 170 hblk;have HB:Hid (Below w.heap.size w w2):=((Below.refl _ _).alloc (Qa _) _).trans (hb.mono (by simp));have HE:Hid (Ze w2 (w.heap.size+1) (.slice ab (Ym L ws bins size).length cb) (Ym L ws bins size)):=by have h1:(w.alloc (.cells #[.bool false,.slice none 0 0,.slice none 0 0] 170)).heap.size=w.heap.size+1:=(by simp);rw[h1] at hE;exact hE
 have HK:Hid (w2.heap[w.heap.size]? =some (.cells #[.bool false,.slice none 0 0,.slice none 0 0] 170 (0,0))):=hblk;clear hb hE hab hblk HC c1 c2 l1 l2;generalize (Ym L ws bins size).length=nb at *;go_wp2;refine bodyPost_ret (v:=.agg #[.bool false,.slice ab nb cb,.slice none 0 0]) (by simp[results,Tryz.results216,go_sem, *]) rfl ?_;refine⟨_,rfl,⟨_,_,rfl,?_,World.ownsRow_nil _ _ _ _⟩,?_⟩;exact Ze.mono (Zl (Zl (Zl HE.out HK.out (by decide)) (by exact heap_setCell_same _ _ _ _ _ _ HK.out) (by decide)) (by exact heap_setCell_same _ _ _ _ _ _ (heap_setCell_same _ _ _ _ _ _ HK.out)) (by decide)) (Nat.le_succ _);exact((HB.out.setCell (Qa _) _).setCell (Qa _) _).setCell (Qa _) _
theorem Zmk(rb:Nat)(vf:Value)(aw ac:Option Addr)(nw cw nc cc:Nat)(wt:Int)(fl:Bool)(vr:Value)(p:ZA)(w:World)(h:RB w rb vf (.slice aw nw cw) (.slice ac nc cc) wt fl vr p):Calls Tryz.prog 155 #[.pointer (some ⟨rb,0,none⟩)] w fun e w'=>e=.returned (.agg #[.slice aw nw cw,.slice ac nc cc])/\w'=w.alloc (.cells #[.slice aw nw cw,.slice ac nc cc] 250):=by have c1:w.cell? ⟨rb,1,none⟩=some (.slice aw nw cw):=cell_of_row _ _ 1 _ 256 (0,0) h;have c2:w.cell? ⟨rb,2,none⟩=some (.slice ac nc cc):=cell_of_row _ _ 2 _ 256 (0,0) h;have hl:rb<w.heap.size:=(Qb h).1;clear h;go_enter Tryz.func155,Tryz.ntmps155;go_wp2;refine bodyPost_ret (v:=.agg #[.slice aw nw cw,.slice ac nc cc]) (by simp[results,Tryz.results155,go_sem, *]) rfl ?_;exact⟨rfl,rfl⟩
end Go.Proofs.YtfcgnpchbcmdeaaGreat
