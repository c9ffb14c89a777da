import Derived.Test.YtfcgnpchbcmdeaaGreatProg
import Derived.WalkSpells
import Derived.WalkLawsBesides
import Derived.Deep.DeepCutAuto
import Derived.ProofKit
import Derived.OpenShut
import Derived.ShutString
import Derived.Deep.Strs
import Derived.Deep.RegionHeld3
import Derived.BigQuiet
import Derived.Deep.CutBlock
import Derived.Laws.AppendOwnNone
import Derived.Deep.Light
import Derived.Laws.EntriesVeiled
import Derived.Deep.OwnRows
import Derived.Laws.CopyOwn
import Derived.Lib.SlBytesConst
import Derived.Test.YtfcgnpchbcmdeaaGreatZo00
set_option linter.all false
theorem Eq.T{α:Sort _}{a b c:α}(h:a=b)(k:b=c):a=c:=h.trans k
theorem Eq.s{α:Sort _}{a b:α}(h:a=b):b=a:=h.symm
theorem Ne.s{α:Sort _}{a b:α}(h:a≠b):b≠a:=h.symm
theorem Iff.s{a b:Prop}(h:a↔b):b↔a:=h.symm
theorem Iff.T{a b c:Prop}(h:a↔b)(k:b↔c):a↔c:=h.trans k
theorem List.Perm.T{α:Type _}{a b c:List α}(h:a.Perm b)(k:b.Perm c):a.Perm c:=h.trans k
theorem List.Perm.s{α:Type _}{a b:List α}(h:a.Perm b):b.Perm a:=h.symm
theorem List.Sublist.T{α:Type _}{a b c:List α}(h:a.Sublist b)(k:b.Sublist c):a.Sublist c:=h.trans k
theorem Go.RowKit.Below.T{B a b c}(h:Go.RowKit.Below B a b)(k:Go.RowKit.Below B b c):Go.RowKit.Below B a c:=h.trans k
theorem Go.RowKit.Below.m{B C a b}(h:Go.RowKit.Below B a b)(k:C<=B):Go.RowKit.Below C a b:=h.mono k
def Go.Calls.m:=@Go.Calls.mono
def Go.World.ownsMap.m:=@Go.World.ownsMap.mono
namespace Go.Proofs.YtfcgnpchbcmdeaaGreat
set_option linter.all false
open Go.RowKit
def Y{a:Prop}(b:a):Hid a:=b
def T_{a b:Prop}(c:a)(d:b):Hid (a/\b):=⟨c,d⟩
def x3_{a b c:Prop}(d:a)(e:b)(f:c):Hid (a/\b/\c):=⟨d,e,f⟩
def x4_{a b c d:Prop}(e:a)(f:b)(g:c)(h:d):Hid (a/\b/\c/\d):=⟨e,f,g,h⟩
def x5_{a b c d e:Prop}(f:a)(g:b)(h:c)(i:d)(j:e):Hid (a/\b/\c/\d/\e):=⟨f,g,h,i,j⟩
def x6_{a b c d e f:Prop}(g:a)(h:b)(i:c)(j:d)(k:e)(l:f):Hid (a/\b/\c/\d/\e/\f):=⟨g,h,i,j,k,l⟩
def x8_{a b c d e f g h:Prop}(i:a)(j:b)(k:c)(l:d)(m:e)(n:f)(o:g)(p:h):Hid (a/\b/\c/\d/\e/\f/\g/\h):=⟨i,j,k,l,m,n,o,p⟩
def n3_{a b c:Prop}(d:a)(e:b)(f:c):a/\b/\c:=⟨d,e,f⟩
def n4_{a b c d:Prop}(e:a)(f:b)(g:c)(h:d):a/\b/\c/\d:=⟨e,f,g,h⟩
@[reducible,simp,go_sem] def J (b a:Nat):Addr:=⟨b,a,none⟩
@[reducible,simp,go_sem] def I (a:Int):Value:=.int .i64 a
@[reducible,simp,go_sem] def P_ (a:Nat):Value:=.pointer (some ⟨a,0,none⟩)
@[reducible,simp,go_sem] def L_ (c a b:Nat):Value:=.slice (some ⟨c,0,none⟩) a b
def z_{a:Prop}(b:a:=by first|(simp[intOf];omega)|simp[intOf]):a:=b
def q_{a:World}{o:Obj}:Below a.1.size a (a.alloc o):=(Below.refl _ _).alloc (Qa _) _
def n_{d:World}{b:Nat}{a:Array Value}{f:Nat}{e:Nat×Nat}{g:Value}(c:Nat)(i:d.1[b]? =some (.cells a f e))(h:a.toList[c]? =some g:=by rfl):d.cell? ⟨b,c,none⟩=some g:=(cell_of_row d b c a f e i).trans (by rw[<- Array.getElem?_toList];exact h)
@[reducible,simp,go_sem] def D_ (d:World) (a b:Nat) (c:Value):Prop:=d.cell? ⟨a,b,none⟩=some c
@[reducible,simp,go_sem] def H_ (d:World) (a:Nat) (b:Array Value) (c:Nat):Prop:=d.1[a]? =some (.cells b c (0,0))
def F_(a b:Nat)(c:a<b:=by omega):(0:Int)<=(a:Int)/\(a:Int)<(b:Int):=⟨by omega,by omega⟩
def M_{c:Type}(a:c):∃b,b=a:=⟨a,rfl⟩
def Y_{c:Type}(a:c):∃b,a=b:=⟨a,rfl⟩
def ez_{c:Type}(a:c):∃b,Hid (a=b):=⟨a,rfl⟩
def kd_{b:Nat}{c d:World}{a:Addr}{x:Option Value}(f:Below b c d)(e:c.cell? a=x)(g:a.block<b):d.cell? a=x:=(f.cell g).trans e
def X_{a e:World}{b:Addr}{d:Value}(c:a.cell? b=some d)(f:Below a.1.size a e:=by repeat(first|assumption|with_reducible exact Below.refl _ _|with_reducible apply Below.drew|(refine Below.alloc ?_ (by first|omega|(simp;omega)|simp) _)|(refine Below.setCell ?_ (by first|omega|(simp;omega)|simp) _))):e.cell? b=some d:=(f.cell (World.block_lt_of_cell? a b c)).trans c
@[reducible] def E_ (a b:World):Prop:=Below a.1.size a b
def W_{b e:World}{a:Addr}{d:Value}(f:E_ b e)(c:b.cell? a=some d):e.cell? a=some d:=(f.cell (World.block_lt_of_cell? b a c)).trans c
@[reducible,simp,go_sem] def V (a:Option Addr) (c b:Nat):Value:=.slice a c b
@[reducible,simp,go_sem] def N_:Value:=.slice none 0 0
@[reducible,simp,go_sem] def Q_ (a:ByteArray):Value:=.string a
@[reducible,simp,go_sem] def O_ (a:Array Value) (c:Nat) (b:Nat×Nat:=(0,0)):Obj:=.cells a c b
@[reducible,simp,go_sem] def U_ (b:Value) (c:World) (a:Ending) (d:World):Prop:=a=.returned b/\E_ c d
@[reducible,simp,go_sem] def V_ (b:Value) (c:World) (a:Ending) (d:World):Prop:=a=.returned b/\d=c
@[reducible,simp] def m1_ (a:Nat) (b:Value) (_:World):Nat:=a-(intOf b).toNat
@[reducible,simp] def m2_ {c:Type} (a:Nat) (_:c) (b:Value) (_:World):Nat:=a-(intOf b).toNat
@[reducible,simp] def m3_ {c d:Type} (a:Nat) (_:c) (_:d) (b:Value) (_:World):Nat:=a-(intOf b).toNat
@[reducible,simp] def m4_ {c:Type} (a:Nat) (b:Value) (_:c) (_:World):Nat:=a-(intOf b).toNat
def bw_{a b:World}(c:Below a.1.size a b:=by repeat(first|assumption|with_reducible exact Below.refl _ _|with_reducible apply Below.drew|(refine Below.alloc ?_ (by first|omega|(simp;omega)|simp) _)|(refine Below.setCell ?_ (by first|omega|(simp;omega)|simp) _))):Below a.1.size a b:=c
def p_{a b:Prop}(x:b)(c:b->a:=by intro x;omega):a:=c x
def oj_{a b c:Prop}(x:b)(y:c)(d:b->c->a:=by intro x y;omega):a:=d x y
def gh_{a b:Prop}(x:b)(c:b->a:=by intro x;grind):a:=c x
def Z_{a b:Prop}(c:a)(d:b):Hid a/\Hid b:=⟨c,d⟩
def y3_{a b c:Prop}(d:a)(e:b)(f:c):Hid a/\Hid b/\Hid c:=⟨d,e,f⟩
def y4_{a b c d:Prop}(e:a)(f:b)(g:c)(h:d):Hid a/\Hid b/\Hid c/\Hid d:=⟨e,f,g,h⟩
def y5_{a b c d e:Prop}(f:a)(g:b)(h:c)(i:d)(j:e):Hid a/\Hid b/\Hid c/\Hid d/\Hid e:=⟨f,g,h,i,j⟩
section
variable {w w':World} {g ty:Nat} {e:Array Value} {m:Nat×Nat} {a b c d:Value} {p f r s:Addr}
def c3_(d:w.1[g]? =some (.cells e ty m))(f:e.toList[0]? =some a:=by rfl)(h:e.toList[1]? =some b:=by rfl)(i:e.toList[2]? =some c:=by rfl):w.cell? (J g 0)=some a/\w.cell? (J g 1)=some b/\w.cell? (J g 2)=some c:=⟨n_ 0 d f,n_ 1 d h,n_ 2 d i⟩
def k2_(c:E_ w w')(x:w.cell? p=some a)(d:w.cell? f=some b):w'.cell? p=some a/\w'.cell? f=some b:=⟨W_ c x,W_ c d⟩
def k3_(d:E_ w w')(x:w.cell? p=some a)(e:w.cell? f=some b)(g:w.cell? r=some c):w'.cell? p=some a/\w'.cell? f=some b/\w'.cell? r=some c:=⟨W_ d x,W_ d e,W_ d g⟩
def k4_(e:E_ w w')(x:w.cell? p=some a)(h:w.cell? f=some b)(i:w.cell? r=some c)(g:w.cell? s=some d):w'.cell? p=some a/\w'.cell? f=some b/\w'.cell? r=some c/\w'.cell? s=some d:=⟨W_ e x,W_ e h,W_ e i,W_ e g⟩
end
def e_{p:Prop}(h:p:=by repeat(first|assumption|with_reducible exact Below.refl _ _|with_reducible apply Below.drew|(refine Below.alloc ?_ (by first|omega|(simp;omega)|simp) _)|(refine Below.setCell ?_ (by first|omega|(simp;omega)|simp) _))):p:=h
def h_{p:Prop}(h:p:=by repeat(first|with_reducible exact Below.refl _ _|with_reducible refine below_drewN ?_ _|with_reducible refine Below.drew ?_|with_reducible refine Below.alloc ?_ (by simp<;>omega) _)):p:=h
def b_{p:Prop}(h:p:=by repeat(first|assumption|with_reducible exact Below.refl _ _|with_reducible apply Below.drew|(refine Below.alloc ?_ (by first|omega|(simp;omega)|simp) _))):p:=h
def c_{p:Prop}(h:p:=by repeat(first|with_reducible exact Below.refl _ _|with_reducible apply Below.drew|(refine Below.alloc ?_ (by first|omega|(simp;omega)|simp) _))):p:=h
def i_{p:Prop}(h:p:=by intro u hu;simp only[List.mem_cons,List.not_mem_nil,or_false] at hu;rcases hu with rfl|rfl|rfl|rfl<;>rfl):p:=h
def m_{p:Prop}(h:p:=by unfold maxLen;omega):p:=h
def j_{p:Prop}(h:p:=by simp[Act.eval]):p:=h
def k_{p:Prop}(h:p:=by kernel_rfl):p:=h
def g_{p:Prop}(h:p:=by go_num):p:=h
set_option linter.all false
def B_:=@World.ownsRow.lt
def hs_:=@heap_setCell_same
def ha_:=@heap_alloc_new
def fr_:=@frozen_of_row
def br_:=@Below.refl
def ra_:=@World.ownsRow.alloc
def hb_:=@Below.heap_alloc
def cb_:=@World.cell?_of_block
def y_{B w}:=Below.refl B w
def hc_{a b c}:=Below.heap_alloc a b c
def hn_{a b}:=heap_alloc_new a b
def ht_{a b}:=heap_setCell_same a b
def R_{a b}:=frozen_of_row a b
def G_{a b}:=cell_of_row a b
def x_{n:Nat}:n<=n:=Nat.le_refl n
def r_{n:Nat}:0<=n:=Nat.zero_le n
def rn_{a b c d}:=World.ownsRow_nil a b c d
abbrev K:=Go.RowKit.Hid
def aC:=@if_neg
def aD:=@if_pos
def aE:=@decide_eq_false
def aF:=@decide_eq_true
def aG:=@Nat.le_trans
def aH:=@Array.getElem?_setIfInBounds_ne
def aI:=@List.take_of_length_le
def aJ:=@World.block_lt_of_cell?
def aK:=@Nat.mul_le_mul_right
def aL:=@List.mem_of_mem_take
def aM:=@List.getElem_of_mem
def aN:=@List.drop_eq_getElem_cons
def aO{α:Type}[BEq α][LawfulBEq α]{a b:α}(h:a≠b):(a==b)=false:=beq_eq_false_iff_ne.2 h
end Go.Proofs.YtfcgnpchbcmdeaaGreat
