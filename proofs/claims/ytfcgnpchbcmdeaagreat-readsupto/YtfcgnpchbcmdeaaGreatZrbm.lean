import Derived.Test.YtfcgnpchbcmdeaaGreatZrbc
namespace Go.Proofs.YtfcgnpchbcmdeaaGreat
set_option linter.all false
set_option maxRecDepth 100000
set_option maxHeartbeats 4000000
open Go.RowKit Go.Lib Go.Sort
structure WS where
 wd:ByteArray
 wt:Int
abbrev If(a b:ByteArray):Prop:=a.data.toList<b.data.toList
def xk(a b:ByteArray):Int:=if If a b then -1 else if If b a then 1 else 0
def Zda x w:C_ 343 #[.string x] w λe w'=>e=.returned (.bool false)/\w'=w:=by go_enter Tryz.func343,Tryz.ntmps343;go_wp2;go_ret;exact⟨s_,rfl⟩
def yu a b:Op.bytesLess a.toList b.toList=decide (If a b):=by rw[bytesLess_eq,Lib.toList_data,Lib.toList_data];try rfl
def Zhw{a b}(d:¬If a b)(c:¬If b a):a=b:=by
 unfold If at d c;have:=List.le_antisymm (List.not_lt.1 c) (List.not_lt.1 d)
 cases a;cases b
 grind
def ZcA{p:Prop}(h:p:=by
 go_enter Tryz.func314,Tryz.ntmps314;go_wp2_with (go_at_call 343;refine(HN _ _).mono ?_;rintro e w' ⟨rfl,rfl⟩)
 go_ret
 exact⟨by rw[HC];rfl,rfl⟩):p:=h
def xo a b w:C_ 314 #[.string a,.string b] w λe w'=>e=.returned (.int .i64 (xk a b))/\w'=w:=by
 have f:=yu a b;have HN:=Zda
 by_cases h1:If a b
 have HC:Hid (xk a b=_):=if_pos h1;have c:Op.bytesLess a.toList b.toList=true:=w_;exact ZcA;have c:Op.bytesLess a.toList b.toList=false:=w_
 by_cases h2:If b a
 have HC:Hid (xk a b=1):=(by show _=_;unfold xk;grind);have d:(a.toList==b.toList)=false:=(by grind [Lib.toList_data]);exact ZcA;obtain rfl:=Zhw h1 h2;have HC:Hid (xk a a=0):=(by show _=_;unfold xk;grind);have d:(a.toList==_)=_:=beq_self_eq_true _;exact ZcA
def ZaG(x y:WS):Int:=orI (Lib.compareInt y.wt x.wt) (xk x.wd y.wd)
def Va x y W:C_ 265 #[.agg #[.string x.wd,.int .i64 x.wt],.agg #[.string y.wd,.int .i64 y.wt]] W λe w'=>e=.returned (.int .i64 (ZaG x y))/\Gr W w':=by
 have k:Hid (ZaG x y=orI _ _):=rfl;have l:Hid (∀w:_,Calls _ _ #[.int _ y.wt,.int _ x.wt] w λe _=>_):=λw=>Tryz.cmp_Compare_int _ _ w;have h:Hid (∀w:_,Calls _ _ #[.string x.wd,.string y.wd] w λe _=>_):=λw=>xo _ _ w;obtain⟨d,c⟩:=x;obtain⟨a,b⟩:=y;simp only at k l h ⊢;generalize ZaG ⟨d,c⟩ ⟨a,b⟩=r,Lib.compareInt b c=c1,xk d a=c2 at *;go_enter Tryz.func265,Tryz.ntmps265;go_upto_region 1 with fail;generalize hw0:(W.alloc (.cells #[.string d,I_ c] 358)).alloc (.cells #[.string a,I_ b] 358)=w0;have g:w0.heap.size=W.heap.size+1+1:=(by rw[<- hw0];simp);have f:Hid (Gr W w0):=(by show Gr _ _;rw[<- hw0];exact((Gr.refl W).alloc _).alloc _);have q:w0.cell? (A_ W.heap.size 0)=some (.string d):=by rw[<- hw0];simp[go_sem]
 have m:w0.cell? (A_ W.heap.size 1)=some (I_ c):=(by rw[<- hw0];simp[go_sem]);have n:w0.cell? (A_ (W.heap.size+1) 0)=some (.string a):=(by rw[<- hw0];simp[go_sem]);have s:w0.cell? (A_ (W.heap.size+1) 1)=some (I_ b):=(by rw[<- hw0];simp[go_sem]);have j:W.heap.size<w0.heap.size:=o_;have i:W.heap.size+1<w0.heap.size:=o_;clear hw0 g
 have o:Hid (∀w:World,w.cell? (A_ w0.heap.size 0)=some (.int .i64 c1)->w.cell? (A_ w0.heap.size 1)=some (.int .i64 c2)->C_ 192 #[.slice (some ⟨w0.heap.size,0,none⟩) 2 2] w λe w'=>e=.returned (.int .i64 r)/\w'=w):=λw h0 h1=>by rw[k];exact Zij _ 2 _ _ w h0 h1
 go_region_held3 (λw'=>w'.cell? (A_ W.heap.size 0)=some (.string d)/\w'.cell? (A_ W.heap.size 1)=some (I_ c)/\w'.cell? (A_ (W.heap.size+1) 0)=some (.string a)/\w'.cell? (A_ (W.heap.size+1) 1)=some (I_ b)) (exact⟨(Below.cell (B:=w0.heap.size) (w:=w0) (p:=(A_ W.heap.size 0)) (by repeat(first|with_reducible exact bz_|with_reducible apply Below.drew|(refine Below.alloc ?_ o_ _))) j).trans q,(Below.cell (B:=w0.heap.size) (w:=w0) (p:=(A_ W.heap.size 1)) (by repeat(first|with_reducible exact bz_|with_reducible apply Below.drew|(refine Below.alloc ?_ o_ _))) j).trans m,(Below.cell (B:=w0.heap.size) (w:=w0) (p:=(A_ (W.heap.size+1) 0)) (by repeat(first|with_reducible exact bz_|with_reducible apply Below.drew|(refine Below.alloc ?_ o_ _))) i).trans n,(Below.cell (B:=w0.heap.size) (w:=w0) (p:=(A_ (W.heap.size+1) 1)) (by repeat(first|with_reducible exact bz_|with_reducible apply Below.drew|(refine Below.alloc ?_ o_ _))) i).trans s⟩) (first|(go_at_call 151;refine(l _).mono ?_;rintro e w' ⟨rfl,rfl⟩)|(go_at_call 314;refine(h _).mono ?_;rintro e w' ⟨rfl,rfl⟩)|(go_at_call 192;refine(o _ (by simp[go_sem]) (by simp[go_sem])).mono ?_;rintro e w' ⟨rfl,rfl⟩))
 go_wp2;go_ret;exact⟨rfl,(f.alloc _).drew⟩
def Pi(x:WS):List Value:=[.string x.wd,I_ x.wt]
def w0W:WS:=⟨⟨#[]⟩,0⟩
theorem ltW x y:ltOf ZaG x y=decide (y.wt<x.wt∨x.wt=y.wt/\If x.wd y.wd):=by
 obtain⟨d,a⟩:=x;obtain⟨c,b⟩:=y;unfold ltOf ZaG orI Lib.compareInt xk
 grind
def Zmp:SWO (ltOf ZaG) where
  irrefl x:=by rw[ltW];simp
  trans x y z h1 h2:=by grind [ltW]
  ntrans x y z h1 h2:=by grind [ltW]
section
variable [Inhabited WS]
def Zhj blk off size w:CmpLays Tryz.prog 265 #[] Pi 2 ZaG blk off size w:=
 λ_ _ _ _ x y=>Va x y _
def Zgk a c d w (h:HoldsK Pi 2 w a 0 d)(b:a<w.heap.size)(f:d.size<4611686018427387904):C_ 264 #[.slice (some ⟨a,0,none⟩) d.size c,.func (.func 265) #[] #[]] w λe w'=>e=.returned (.tuple #[])/\∃d' n os,PermIn 0 d.size d d'/\SortedIn (ltOf ZaG) 0 d.size d'/\w'=sortWorldK Pi 2 w a 0 n d' os:=by have g:∀_ w,(callFunc 265 _).run _ w=_:=enters_of Tryz.func265 k_ rfl;exact AnyQ.slices_SortFunc Tryz.sortW 2 Tryz.isAgg358 Tryz.sizeOf358 _ (λ_=>rfl) (λx v hv=>by simp[Pi] at hv;rcases hv with rfl|rfl<;>rfl) _ Zmp _ _ _ 0 _ d w g (Zhj _ 0 _ w) h b f
def ZdE p cap w:C_ 264 #[.slice p 0 cap,.func (.func 265) #[] #[]] w λe w'=>e=.returned (.tuple #[])/\w'=w:=AnyF.slices_SortFunc_none {Tryz.sortW with} p cap _ w
end
def Hl:List WS->List Value
 |[]=>[]
 |x::L=>Pi x++Hl L
def ig L:(Hl L).length=L.length*2:=by
 induction L with
 |nil=>rfl
 |cons x L ih=>simp[Hl,Pi,ih];omega
theorem pg A B:Hl (A++B)=Hl A++Hl B:=by
 induction A with
 |nil=>rfl
 |cons x A ih=>simp[Hl,ih]
def Fw(w:World)(base:Nat)(v:Value)(L:List WS):Prop:=w.ownsRow base 358 2 v L.length (Hl L)
def Tn L:∀i r,i<L.length->r<2->(Hl L)[i*2+r]? =(Pi (L.getD i w0W))[r]?:=by
 induction L with
 |nil=>grind
 | cons e L ih=>
  intro i r b a
  cases i with
  |zero=>grind [Hl,Pi]
  | succ i=>
   grind [Hl,Pi]
section
variable [Inhabited WS]
theorem Zer d:(Go.Sort.flatK Pi 2 d.toArray).toList=Hl d:=by
 apply List.ext_getElem?;intro t
 by_cases ht:t<d.length*2
 ·have a:=Tn d (t/2) (t%2) o_ o_;rw[show t/2*2+t%2=t by omega] at a;rw[a,Array.getElem?_toList];have b:t/2<d.length:=o_;simp only[Go.Sort.flatK]
  grind [Pi]
 rw[List.getElem?_eq_none t_,List.getElem?_eq_none (by rw[ig];omega)]
def Zbv{w a g b m os P D}(d:D.length=P.length)(h:Fw w a (L_ g P.length b) P):Fw (Go.Proofs.sortWorldK Pi 2 w g 0 m D.toArray os) a (L_ g P.length b) D/\w.grownBy (Go.Proofs.sortWorldK Pi 2 w g 0 m D.toArray os) (some g):=by
 rcases h.2 with⟨e,_⟩|⟨g',cap',cur,e,hb,hg,hnc,hcm,hcs,htake⟩
 simp at e;simp only[Value.slice.injEq,Option.some.injEq,Addr.mk.injEq,and_true,true_and] at e;obtain⟨rfl,rfl⟩:=e;have c:=(Qb hg).1;have i:(Go.Sort.flatK Pi 2 D.toArray).size=P.length*2:=by simp[d]
 have f:(Go.Proofs.sortWorldK Pi 2 w g 0 m D.toArray os).heap[g]? =some (.cells (Go.Sort.putCells id 0 (Go.Sort.flatK Pi 2 D.toArray) cur) 358 (0,0)):=(by unfold Go.Proofs.sortWorldK Go.Sort.putRowK;rw[Go.Sort.heap_grow_old _ _ (by simpa using c)];simp[Go.Sort.putRow,Go.Sort.mapBlock,Go.Sort.ahead,Array.getElem?_modify,hg,Go.Sort.onCells]);refine⟨⟨by rw[ig],.inr ⟨g,b,_,by simp[d],hb,f,o_,hcm,by simp[Go.Sort.putCells,hcs],?_⟩⟩,⟨rfl,rfl,rfl,?_,λk hk hne=>?_⟩⟩
 ·grind [Zer,lp]
 unfold Go.Proofs.sortWorldK Go.Sort.putRowK;simp;unfold Go.Proofs.sortWorldK Go.Sort.putRowK;rw[Go.Sort.heap_grow_old _ _ (by simpa using hk)];have:g≠k:=λe=>hne (by rw[e]);simp[Go.Sort.putRow,Go.Sort.mapBlock,Go.Sort.ahead,Array.getElem?_modify,this]
def Zdo{w a g c P}(h:Fw w a (L_ g P.length c) P):Go.Sort.HoldsK Pi 2 w g 0 P.toArray:=by
 intro j d
 have b:j<P.length*2:=by simpa using d
 refine⟨?_,?_⟩
 ·rw[Nat.zero_add,World.ownsRow.cellAt h j b,<- Zer]
  grind
 rw[Nat.zero_add];exact World.ownsRow.frozenAt h j
end
abbrev leW(x y:WS):Prop:=¬(x.wt<y.wt∨y.wt=x.wt/\If y.wd x.wd)
def ZbW v a b w (h:Fw w b v a)(z:a.length<=1000000):C_ 264 #[v,.func (.func 265) #[] #[]] w λe w'=>e=.returned (.tuple #[])/\(∃D:List WS,D.Perm a/\D.Pairwise leW/\Fw w' b v D)/\w.grownBy w' v.ownBlock:=by
 haveI:Inhabited WS:=⟨w0W⟩
 have q:=h
 rcases h.2 with⟨rfl,h0⟩|⟨g,cap,cur,rfl,_,hh,_⟩
 have e:=List.length_eq_zero_iff.1 h0;subst e;refine(ZdE _ 0 w).mono ?_;rintro e w' ⟨rfl,rfl⟩;exact⟨rfl,⟨[],List.Perm.refl _,List.Pairwise.nil,h⟩,Bo _ _⟩;have p:=Zgk g cap _ w (Zdo q) (Qb hh).1 t_;rw[show a.toArray.size=a.length by simp] at p;refine p.mono ?_;rintro e w' ⟨rfl,d,m,o,c,f,rfl⟩;obtain⟨k,_,t⟩:=c;have l:d.size=a.length:=(by rw[k];simp);have s:d.toList.length=a.length:=o_;have r:=Zbv (m:=m) (o:=o) s q;rw[show d.toList.toArray=d by simp] at r;refine⟨rfl,⟨d.toList,?_,?_,?_⟩,r.2⟩
 ·have y:d.extract 0 a.length=d:=by rw[<- l];simp
  grind
 ·rw[List.pairwise_iff_getElem];intro i j u x n;simp at u x;have:=f i j qg_ n o_;rw[ltW] at this
  grind
 grind
end Go.Proofs.YtfcgnpchbcmdeaaGreat
