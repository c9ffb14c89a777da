import Derived.Test.YtfcgnpchbcmdeaaGreatProg
import Derived.Deep.RegionHeld3
import Derived.WalkSpells
import Derived.WalkLawsBesides
import Derived.BigQuiet
import Derived.Deep.DeepCutAuto
import Derived.Laws.EntriesVeiled
import Derived.Deep.CutBlock
import Derived.Laws.AppendOwnNone
import Derived.Deep.Light
import Derived.Lib.SlBytesConst
import Derived.Deep.OwnRows
import Derived.Laws.CopyOwn
import Derived.ProofKit
import Derived.OpenShut
import Derived.ShutString
import Derived.Deep.Strs
import Derived.Test.YtfcgnpchbcmdeaaGreatZs00
open _root_ renaming Nat->H,Int->E,Array->YZ,rfl->X,Option->Y0,ByteArray->ZC
open Option renaming none->ZP,some->T
open Go renaming Value->ZY,World->ZT
open Go.Value renaming int->ZX,pointer->Y7,slice->ZH,string->YW
open Go.IntKind renaming i64->ZQ
open Array renaming size->B,toList->Y4
open Go.World renaming alloc->ZN,cell?->ZV
open Go.Obj renaming cells->YU
open Go.Ending renaming returned->ZI
open Int renaming toNat->ZL
set_option linter.all false
theorem Eq.T{α:Sort _}{a b c:α}(h:a=b)(k:b=c):a=c:=h.trans k
theorem Eq.s{α:Sort _}{a b:α}(h:a=b):b=a:=h.symm
theorem Ne.s{α:Sort _}{a b:α}(h:a≠b):b≠a:=h.symm
theorem Iff.s{a b:Prop}(h:a↔b):b↔a:=h.symm
theorem Iff.T{a b c:Prop}(h:a↔b)(k:b↔c):a↔c:=h.trans k
theorem List.Perm.T{α:Type _}{a b c:List α}(h:a.Perm b)(k:b.Perm c):a.Perm c:=h.trans k
theorem List.Perm.s{α:Type _}{a b:List α}(h:a.Perm b):b.Perm a:=h.symm
theorem List.Sublist.T{α:Type _}{a b c:List α}(h:a.Sublist b)(k:b.Sublist c):a.Sublist c:=h.trans k
theorem Go.RowKit.Below.T{B a b c}(h:Go.RowKit.Below B a b)(k:Go.RowKit.Below B b c):Go.RowKit.Below B a c:=h.trans k
theorem Go.RowKit.Below.m{B C a b}(h:Go.RowKit.Below B a b)(k:C<=B):Go.RowKit.Below C a b:=h.mono k
def Go.Calls.m:=@Go.Calls.mono
def Go.World.ownsMap.m:=@Go.World.ownsMap.mono
namespace Go.Proofs.YtfcgnpchbcmdeaaGreat
set_option linter.all false
open Go.RowKit
def Y{a:Prop}(b:a):Hid a:=b
def K_{a b:Prop}(c:a)(d:b):Hid (a/\b):=⟨c,d⟩
def x3_{a b c:Prop}(d:a)(e:b)(f:c):Hid (a/\b/\c):=⟨d,e,f⟩
def x4_{a b c d:Prop}(e:a)(f:b)(g:c)(h:d):Hid (a/\b/\c/\d):=⟨e,f,g,h⟩
def x5_{a b c d e:Prop}(f:a)(g:b)(h:c)(i:d)(j:e):Hid (a/\b/\c/\d/\e):=⟨f,g,h,i,j⟩
def x6_{a b c d e f:Prop}(g:a)(h:b)(i:c)(j:d)(k:e)(l:f):Hid (a/\b/\c/\d/\e/\f):=⟨g,h,i,j,k,l⟩
def x8_{a b c d e f g h:Prop}(i:a)(j:b)(k:c)(l:d)(m:e)(n:f)(o:g)(p:h):Hid (a/\b/\c/\d/\e/\f/\g/\h):=⟨i,j,k,l,m,n,o,p⟩
def n3_{a b c:Prop}(d:a)(e:b)(f:c):a/\b/\c:=⟨d,e,f⟩
def n4_{a b c d:Prop}(e:a)(f:b)(g:c)(h:d):a/\b/\c/\d:=⟨e,f,g,h⟩
@[reducible,simp,go_sem] def J (b a:H):Addr:=⟨b,a,ZP⟩
@[reducible,simp,go_sem] def I (a:E):ZY:=ZX ZQ a
@[reducible,simp,go_sem] def P_ (a:H):ZY:=Y7 (T ⟨a,0,ZP⟩)
@[reducible,simp,go_sem] def L_ (c a b:H):ZY:=ZH (T ⟨c,0,ZP⟩) a b
def z_{a:Prop}(b:a:=by first|(simp[intOf];omega)|simp[intOf]):a:=b
def r_{a:ZT}{o:Obj}:Below (B a.1) a (ZN a o):=(Below.refl _ _).alloc (Qa _) _
def n_{d:ZT}{b:H}{a:YZ ZY}{f:H}{e:H×H}{g:ZY}(c:H)(i:d.1[b]? =T (YU a f e))(h:(Y4 a)[c]? =T g:=by rfl):ZV d ⟨b,c,ZP⟩=T g:=(cell_of_row d b c a f e i).trans (by rw[<- Array.getElem?_toList];exact h)
@[reducible,simp,go_sem] def D_ (d:ZT) (a b:H) (c:ZY):Prop:=ZV d ⟨a,b,ZP⟩=T c
@[reducible,simp,go_sem] def H_ (d:ZT) (a:H) (b:YZ ZY) (c:H):Prop:=d.1[a]? =T (YU b c (0,0))
def F_(a b:H)(c:a<b:=by omega):(0:E)<=(a:E)/\(a:E)<(b:E):=⟨by omega,by omega⟩
def W_{c:Type}(a:c):∃b,b=a:=⟨a,X⟩
def Z_{c:Type}(a:c):∃b,a=b:=⟨a,X⟩
def ez_{c:Type}(a:c):∃b,Hid (a=b):=⟨a,X⟩
def kd_{b:H}{c d:ZT}{a:Addr}{x:Y0 ZY}(f:Below b c d)(e:ZV c a=x)(g:a.block<b):ZV d a=x:=(f.cell g).trans e
def X_{a e:ZT}{b:Addr}{d:ZY}(c:ZV a b=T d)(f:Below (B a.1) a e:=by repeat(first|assumption|with_reducible exact Below.refl _ _|with_reducible apply Below.drew|(refine Below.alloc ?_ (by first|omega|(simp;omega)|simp) _)|(refine Below.setCell ?_ (by first|omega|(simp;omega)|simp) _))):ZV e b=T d:=(f.cell (World.block_lt_of_cell? a b c)).trans c
@[reducible] def E_ (a b:ZT):Prop:=Below (B a.1) a b
def T_{b e:ZT}{a:Addr}{d:ZY}(f:E_ b e)(c:ZV b a=T d):ZV e a=T d:=(f.cell (World.block_lt_of_cell? b a c)).trans c
@[reducible,simp,go_sem] def V (a:Y0 Addr) (c b:H):ZY:=ZH a c b
@[reducible,simp,go_sem] def N_:ZY:=ZH ZP 0 0
@[reducible,simp,go_sem] def Q_ (a:ZC):ZY:=YW a
@[reducible,simp,go_sem] def O_ (a:YZ ZY) (c:H) (b:H×H:=(0,0)):Obj:=YU a c b
@[reducible,simp,go_sem] def U_ (b:ZY) (c:ZT) (a:Ending) (d:ZT):Prop:=a=ZI b/\E_ c d
@[reducible,simp,go_sem] def V_ (b:ZY) (c:ZT) (a:Ending) (d:ZT):Prop:=a=ZI b/\d=c
@[reducible,simp] def m1_ (a:H) (b:ZY) (_:ZT):H:=a-ZL (intOf b)
@[reducible,simp] def m2_ {c:Type} (a:H) (_:c) (b:ZY) (_:ZT):H:=a-ZL (intOf b)
@[reducible,simp] def m3_ {c d:Type} (a:H) (_:c) (_:d) (b:ZY) (_:ZT):H:=a-ZL (intOf b)
@[reducible,simp] def m4_ {c:Type} (a:H) (b:ZY) (_:c) (_:ZT):H:=a-ZL (intOf b)
def bw_{a b:ZT}(c:Below (B a.1) a b:=by repeat(first|assumption|with_reducible exact Below.refl _ _|with_reducible apply Below.drew|(refine Below.alloc ?_ (by first|omega|(simp;omega)|simp) _)|(refine Below.setCell ?_ (by first|omega|(simp;omega)|simp) _))):Below (B a.1) a b:=c
def p_{a b:Prop}(x:b)(c:b->a:=by intro x;omega):a:=c x
def oj_{a b c:Prop}(x:b)(y:c)(d:b->c->a:=by intro x y;omega):a:=d x y
def gh_{a b:Prop}(x:b)(c:b->a:=by intro x;grind):a:=c x
def Y_{a b:Prop}(c:a)(d:b):Hid a/\Hid b:=⟨c,d⟩
def y3_{a b c:Prop}(d:a)(e:b)(f:c):Hid a/\Hid b/\Hid c:=⟨d,e,f⟩
def y4_{a b c d:Prop}(e:a)(f:b)(g:c)(h:d):Hid a/\Hid b/\Hid c/\Hid d:=⟨e,f,g,h⟩
def y5_{a b c d e:Prop}(f:a)(g:b)(h:c)(i:d)(j:e):Hid a/\Hid b/\Hid c/\Hid d/\Hid e:=⟨f,g,h,i,j⟩
section
variable {w w':ZT} {g ty:H} {e:YZ ZY} {m:H×H} {a b c d:ZY} {p f r s:Addr}
def c3_(d:w.1[g]? =T (YU e ty m))(f:(Y4 e)[0]? =T a:=by rfl)(h:(Y4 e)[1]? =T b:=by rfl)(i:(Y4 e)[2]? =T c:=by rfl):ZV w (J g 0)=T a/\ZV w (J g 1)=T b/\ZV w (J g 2)=T c:=⟨n_ 0 d f,n_ 1 d h,n_ 2 d i⟩
def k2_(c:E_ w w')(x:ZV w p=T a)(d:ZV w f=T b):ZV w' p=T a/\ZV w' f=T b:=⟨T_ c x,T_ c d⟩
def k3_(d:E_ w w')(x:ZV w p=T a)(e:ZV w f=T b)(g:ZV w r=T c):ZV w' p=T a/\ZV w' f=T b/\ZV w' r=T c:=⟨T_ d x,T_ d e,T_ d g⟩
def k4_(e:E_ w w')(x:ZV w p=T a)(h:ZV w f=T b)(i:ZV w r=T c)(g:ZV w s=T d):ZV w' p=T a/\ZV w' f=T b/\ZV w' r=T c/\ZV w' s=T d:=⟨T_ e x,T_ e h,T_ e i,T_ e g⟩
end
def e_{p:Prop}(h:p:=by repeat(first|assumption|with_reducible exact Below.refl _ _|with_reducible apply Below.drew|(refine Below.alloc ?_ (by first|omega|(simp;omega)|simp) _)|(refine Below.setCell ?_ (by first|omega|(simp;omega)|simp) _))):p:=h
def h_{p:Prop}(h:p:=by repeat(first|with_reducible exact Below.refl _ _|with_reducible refine below_drewN ?_ _|with_reducible refine Below.drew ?_|with_reducible refine Below.alloc ?_ (by simp<;>omega) _)):p:=h
def b_{p:Prop}(h:p:=by repeat(first|assumption|with_reducible exact Below.refl _ _|with_reducible apply Below.drew|(refine Below.alloc ?_ (by first|omega|(simp;omega)|simp) _))):p:=h
def c_{p:Prop}(h:p:=by repeat(first|with_reducible exact Below.refl _ _|with_reducible apply Below.drew|(refine Below.alloc ?_ (by first|omega|(simp;omega)|simp) _))):p:=h
def i_{p:Prop}(h:p:=by intro u hu;simp only[List.mem_cons,List.not_mem_nil,or_false] at hu;rcases hu with rfl|rfl|rfl|rfl<;>rfl):p:=h
def m_{p:Prop}(h:p:=by unfold maxLen;omega):p:=h
def j_{p:Prop}(h:p:=by simp[Act.eval]):p:=h
def k_{p:Prop}(h:p:=by kernel_rfl):p:=h
def g_{p:Prop}(h:p:=by go_num):p:=h
set_option linter.all false
def B_:=@World.ownsRow.lt
def hs_:=@heap_setCell_same
def ha_:=@heap_alloc_new
def fr_:=@frozen_of_row
def br_:=@Below.refl
def ra_:=@World.ownsRow.alloc
def hb_:=@Below.heap_alloc
def cb_:=@World.cell?_of_block
def y_{B w}:=Below.refl B w
def hc_{a b c}:=Below.heap_alloc a b c
def hn_{a b}:=heap_alloc_new a b
def ht_{a b}:=heap_setCell_same a b
def R_{a b}:=frozen_of_row a b
def M_{a b}:=cell_of_row a b
def x_{n:Nat}:n<=n:=Nat.le_refl n
def v_{n:Nat}:0<=n:=Nat.zero_le n
def rn_{a b c d}:=World.ownsRow_nil a b c d
abbrev K:=Go.RowKit.Hid
def aC:=@if_neg
def aD:=@if_pos
def aE:=@decide_eq_false
def aF:=@decide_eq_true
def aG:=@Nat.le_trans
def aH:=@Array.getElem?_setIfInBounds_ne
def aI:=@List.take_of_length_le
def aJ:=@World.block_lt_of_cell?
def aK:=@Nat.mul_le_mul_right
def aL:=@List.mem_of_mem_take
def aM:=@List.getElem_of_mem
def aN:=@List.drop_eq_getElem_cons
def aO{α:Type}[BEq α][LawfulBEq α]{a b:α}(h:a≠b):(a==b)=false:=beq_eq_false_iff_ne.2 h
end Go.Proofs.YtfcgnpchbcmdeaaGreat
