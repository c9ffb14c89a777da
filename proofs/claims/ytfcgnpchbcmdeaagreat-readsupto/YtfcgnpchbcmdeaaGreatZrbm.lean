import Derived.Test.YtfcgnpchbcmdeaaGreatZrbc
namespace Go.Proofs.YtfcgnpchbcmdeaaGreat
set_option linter.all false
set_option maxRecDepth 100000
set_option maxHeartbeats 4000000
open Go.RowKit Go.Lib Go.Sort
structure WS where
 wd:ByteArray
 wt:Int
abbrev If(a b:ByteArray):Prop:=a.data.toList<b.data.toList
def xk(a b:ByteArray):Int:=if If a b then -1 else if If b a then 1 else 0
def Zda x w:C_ 343 #[.string x] w λe w'=>e=.returned (.bool false)/\w'=w:=by go_enter Tryz.func343,Tryz.ntmps343;go_wp2;go_ret;exact⟨s_,rfl⟩
def yu a b:Op.bytesLess a.toList b.toList=decide (If a b):=by rw[bytesLess_eq,Lib.toList_data,Lib.toList_data];try rfl
def Zhw{a b}(d:¬If a b)(c:¬If b a):a=b:=by
 unfold If at d c;have:=List.le_antisymm (List.not_lt.1 c) (List.not_lt.1 d)
 cases a;cases b
 grind
def ZcA{p:Prop}(h:p:=by
 go_enter Tryz.func314,Tryz.ntmps314;go_wp2_with (go_at_call 343;refine(HN _ _).mono ?_;rintro e w' ⟨rfl,rfl⟩)
 go_ret
 exact⟨by rw[HC];rfl,rfl⟩):p:=h
def xo a b w:C_ 314 #[.string a,.string b] w λe w'=>e=.returned (.int .i64 (xk a b))/\w'=w:=by
 have f:=yu a b;have HN:=Zda
 by_cases h1:If a b
 have HC:Hid (xk a b=_):=if_pos h1;have d:Op.bytesLess a.toList b.toList=true:=w_;exact ZcA;have d:Op.bytesLess a.toList b.toList=false:=w_
 by_cases h2:If b a
 have HC:Hid (xk a b=1):=(by show _=_;unfold xk;grind);have c:(a.toList==b.toList)=false:=(by grind [Lib.toList_data]);exact ZcA;obtain rfl:=Zhw h1 h2;have HC:Hid (xk a a=0):=(by show _=_;unfold xk;grind);have c:(a.toList==_)=_:=beq_self_eq_true _;exact ZcA
def ZaG(x y:WS):Int:=orI (Lib.compareInt y.wt x.wt) (xk x.wd y.wd)
def Va x y W:C_ 265 #[.agg #[.string x.wd,.int .i64 x.wt],.agg #[.string y.wd,.int .i64 y.wt]] W λe w'=>e=.returned (.int .i64 (ZaG x y))/\Gr W w':=by
 have l:Hid (ZaG x y=orI _ _):=rfl;have i:Hid (∀w:_,Calls _ _ #[.int _ y.wt,.int _ x.wt] w λe _=>_):=λw=>Tryz.cmp_Compare_int _ _ w;have j:Hid (∀w:_,Calls _ _ #[.string x.wd,.string y.wd] w λe _=>_):=λw=>xo _ _ w;obtain⟨c,a⟩:=x;obtain⟨b,d⟩:=y;simp only at l i j ⊢;generalize ZaG ⟨c,a⟩ ⟨b,d⟩=r,Lib.compareInt d a=c1,xk c b=c2 at *;go_enter Tryz.func265,Tryz.ntmps265;go_upto_region 1 with fail;generalize hw0:(W.alloc (.cells #[.string c,I_ a] 358)).alloc (.cells #[.string b,I_ d] 358)=w0;have f:w0.heap.size=W.heap.size+1+1:=(by rw[<- hw0];simp);have g:Hid (Gr W w0):=(by show Gr _ _;rw[<- hw0];exact((Gr.refl W).alloc _).alloc _);have m:w0.cell? (A_ W.heap.size 0)=some (.string c):=by rw[<- hw0];simp[go_sem]
 have q:w0.cell? (A_ W.heap.size 1)=some (I_ a):=(by rw[<- hw0];simp[go_sem]);have s:w0.cell? (A_ (W.heap.size+1) 0)=some (.string b):=(by rw[<- hw0];simp[go_sem]);have n:w0.cell? (A_ (W.heap.size+1) 1)=some (I_ d):=(by rw[<- hw0];simp[go_sem]);have k:W.heap.size<w0.heap.size:=o_;have h:W.heap.size+1<w0.heap.size:=o_;clear hw0 f
 have o:Hid (∀w:World,w.cell? (A_ w0.heap.size 0)=some (.int .i64 c1)->w.cell? (A_ w0.heap.size 1)=some (.int .i64 c2)->C_ 192 #[.slice (some ⟨w0.heap.size,0,none⟩) 2 2] w λe w'=>e=.returned (.int .i64 r)/\w'=w):=λw h0 h1=>by rw[l];exact Zii _ 2 _ _ w h0 h1
 go_region_held3 (λw'=>w'.cell? (A_ W.heap.size 0)=some (.string c)/\w'.cell? (A_ W.heap.size 1)=some (I_ a)/\w'.cell? (A_ (W.heap.size+1) 0)=some (.string b)/\w'.cell? (A_ (W.heap.size+1) 1)=some (I_ d)) (exact⟨(Below.cell (B:=w0.heap.size) (w:=w0) (p:=(A_ W.heap.size 0)) (by repeat(first|with_reducible exact bz_|with_reducible apply Below.drew|(refine Below.alloc ?_ o_ _))) k).trans m,(Below.cell (B:=w0.heap.size) (w:=w0) (p:=(A_ W.heap.size 1)) (by repeat(first|with_reducible exact bz_|with_reducible apply Below.drew|(refine Below.alloc ?_ o_ _))) k).trans q,(Below.cell (B:=w0.heap.size) (w:=w0) (p:=(A_ (W.heap.size+1) 0)) (by repeat(first|with_reducible exact bz_|with_reducible apply Below.drew|(refine Below.alloc ?_ o_ _))) h).trans s,(Below.cell (B:=w0.heap.size) (w:=w0) (p:=(A_ (W.heap.size+1) 1)) (by repeat(first|with_reducible exact bz_|with_reducible apply Below.drew|(refine Below.alloc ?_ o_ _))) h).trans n⟩) (first|(go_at_call 151;refine(i _).mono ?_;rintro e w' ⟨rfl,rfl⟩)|(go_at_call 314;refine(j _).mono ?_;rintro e w' ⟨rfl,rfl⟩)|(go_at_call 192;refine(o _ (by simp[go_sem]) (by simp[go_sem])).mono ?_;rintro e w' ⟨rfl,rfl⟩))
 go_wp2;go_ret;exact⟨rfl,(g.alloc _).drew⟩
def Pi(x:WS):List Value:=[.string x.wd,I_ x.wt]
def w0W:WS:=⟨⟨#[]⟩,0⟩
theorem ltW x y:ltOf ZaG x y=decide (y.wt<x.wt∨x.wt=y.wt/\If x.wd y.wd):=by
 obtain⟨d,b⟩:=x;obtain⟨a,c⟩:=y;unfold ltOf ZaG orI Lib.compareInt xk
 grind
def Zmr:SWO (ltOf ZaG) where
  irrefl x:=by rw[ltW];simp
  trans x y z h1 h2:=by grind [ltW]
  ntrans x y z h1 h2:=by grind [ltW]
section
variable [Inhabited WS]
def Zhj blk off size w:CmpLays Tryz.prog 265 #[] Pi 2 ZaG blk off size w:=
 λ_ _ _ _ x y=>Va x y _
def Zgk a c d w (h:HoldsK Pi 2 w a 0 d)(b:a<w.heap.size)(f:d.size<4611686018427387904):C_ 264 #[.slice (some ⟨a,0,none⟩) d.size c,.func (.func 265) #[] #[]] w λe w'=>e=.returned (.tuple #[])/\∃d' n os,PermIn 0 d.size d d'/\SortedIn (ltOf ZaG) 0 d.size d'/\w'=sortWorldK Pi 2 w a 0 n d' os:=by have g:∀_ w,(callFunc 265 _).run _ w=_:=enters_of Tryz.func265 k_ rfl;exact AnyQ.slices_SortFunc Tryz.sortW 2 Tryz.isAgg358 Tryz.sizeOf358 _ (λ_=>rfl) (λx v hv=>by simp[Pi] at hv;rcases hv with rfl|rfl<;>rfl) _ Zmr _ _ _ 0 _ d w g (Zhj _ 0 _ w) h b f
def ZdE p cap w:C_ 264 #[.slice p 0 cap,.func (.func 265) #[] #[]] w λe w'=>e=.returned (.tuple #[])/\w'=w:=AnyF.slices_SortFunc_none {Tryz.sortW with} p cap _ w
end
def Hl:List WS->List Value
 |[]=>[]
 |x::L=>Pi x++Hl L
def ig L:(Hl L).length=L.length*2:=by
 induction L with
 |nil=>rfl
 |cons x L ih=>simp[Hl,Pi,ih];omega
theorem pg A B:Hl (A++B)=Hl A++Hl B:=by
 induction A with
 |nil=>rfl
 |cons x A ih=>simp[Hl,ih]
def Fw(w:World)(base:Nat)(v:Value)(L:List WS):Prop:=w.ownsRow base 358 2 v L.length (Hl L)
def Tn L:∀i r,i<L.length->r<2->(Hl L)[i*2+r]? =(Pi (L.getD i w0W))[r]?:=by
 induction L with
 |nil=>grind
 | cons e L ih=>
  intro i r a b
  cases i with
  |zero=>grind [Hl,Pi]
  | succ i=>
   grind [Hl,Pi]
section
variable [Inhabited WS]
theorem Zer d:(Go.Sort.flatK Pi 2 d.toArray).toList=Hl d:=by
 apply List.ext_getElem?;intro t
 by_cases ht:t<d.length*2
 ·have a:=Tn d (t/2) (t%2) o_ o_;rw[show t/2*2+t%2=t by omega] at a;rw[a,Array.getElem?_toList];have b:t/2<d.length:=o_;simp only[Go.Sort.flatK]
  grind [Pi]
 rw[List.getElem?_eq_none t_,List.getElem?_eq_none (by rw[ig];omega)]
def Zbv{w a g b m os P D}(d:D.length=P.length)(h:Fw w a (L_ g P.length b) P):Fw (Go.Proofs.sortWorldK Pi 2 w g 0 m D.toArray os) a (L_ g P.length b) D/\w.grownBy (Go.Proofs.sortWorldK Pi 2 w g 0 m D.toArray os) (some g):=by
 rcases h.2 with⟨e,_⟩|⟨g',cap',cur,e,hb,hg,hnc,hcm,hcs,htake⟩
 simp at e;simp only[Value.slice.injEq,Option.some.injEq,Addr.mk.injEq,and_true,true_and] at e;obtain⟨rfl,rfl⟩:=e;have c:=(Qb hg).1;have i:(Go.Sort.flatK Pi 2 D.toArray).size=P.length*2:=by simp[d]
 have f:(Go.Proofs.sortWorldK Pi 2 w g 0 m D.toArray os).heap[g]? =some (.cells (Go.Sort.putCells id 0 (Go.Sort.flatK Pi 2 D.toArray) cur) 358 (0,0)):=(by unfold Go.Proofs.sortWorldK Go.Sort.putRowK;rw[Go.Sort.heap_grow_old _ _ (by simpa using c)];simp[Go.Sort.putRow,Go.Sort.mapBlock,Go.Sort.ahead,Array.getElem?_modify,hg,Go.Sort.onCells]);refine⟨⟨by rw[ig],.inr ⟨g,b,_,by simp[d],hb,f,o_,hcm,by simp[Go.Sort.putCells,hcs],?_⟩⟩,⟨rfl,rfl,rfl,?_,λk hk hne=>?_⟩⟩
 ·grind [Zer,lp]
 unfold Go.Proofs.sortWorldK Go.Sort.putRowK;simp;unfold Go.Proofs.sortWorldK Go.Sort.putRowK;rw[Go.Sort.heap_grow_old _ _ (by simpa using hk)];have:g≠k:=λe=>hne (by rw[e]);simp[Go.Sort.putRow,Go.Sort.mapBlock,Go.Sort.ahead,Array.getElem?_modify,this]
def Zdo{w a g b P}(h:Fw w a (L_ g P.length b) P):Go.Sort.HoldsK Pi 2 w g 0 P.toArray:=by
 intro j d
 have c:j<P.length*2:=by simpa using d
 refine⟨?_,?_⟩
 ·rw[Nat.zero_add,World.ownsRow.cellAt h j c,<- Zer]
  grind
 rw[Nat.zero_add];exact World.ownsRow.frozenAt h j
end
abbrev leW(x y:WS):Prop:=¬(x.wt<y.wt∨y.wt=x.wt/\If y.wd x.wd)
def ZbW v b a w (h:Fw w a v b)(z:b.length<=1000000):C_ 264 #[v,.func (.func 265) #[] #[]] w λe w'=>e=.returned (.tuple #[])/\(∃D:List WS,D.Perm b/\D.Pairwise leW/\Fw w' a v D)/\w.grownBy w' v.ownBlock:=by
 haveI:Inhabited WS:=⟨w0W⟩
 have p:=h
 rcases h.2 with⟨rfl,h0⟩|⟨g,cap,cur,rfl,_,hh,_⟩
 have e:=List.length_eq_zero_iff.1 h0;subst e;refine(ZdE _ 0 w).mono ?_;rintro e w' ⟨rfl,rfl⟩;exact⟨rfl,⟨[],List.Perm.refl _,List.Pairwise.nil,h⟩,Bo _ _⟩;have r:=Zgk g cap _ w (Zdo p) (Qb hh).1 t_;rw[show b.toArray.size=b.length by simp] at r;refine r.mono ?_;rintro e w' ⟨rfl,c,m,q,d,f,rfl⟩;obtain⟨k,_,s⟩:=d;have n:c.size=b.length:=(by rw[k];simp);have t:c.toList.length=b.length:=o_;have o:=Zbv (m:=m) (os:=q) t p;rw[show c.toList.toArray=c by simp] at o;refine⟨rfl,⟨c.toList,?_,?_,?_⟩,o.2⟩
 ·have y:c.extract 0 b.length=c:=by rw[<- n];simp
  grind
 ·rw[List.pairwise_iff_getElem];intro i j x u l;simp at x u;have:=f i j qg_ l o_;rw[ltW] at this
  grind
 grind
end Go.Proofs.YtfcgnpchbcmdeaaGreat
