import Derived.Below
import Derived.IntWalk
import Derived.Test.YtfcgnpchbcmdeaaGreatZr00
namespace Go.Proofs.YtfcgnpchbcmdeaaGreat
set_option linter.all false
open Go.RowKit
def x1_{a:Prop}(h:a):Hid a:=h
def x2_{a b:Prop}(h:a)(i:b):Hid (a/\b):=⟨h,i⟩
def x3_{a b c:Prop}(h:a)(i:b)(j:c):Hid (a/\b/\c):=⟨h,i,j⟩
def x4_{a b c d:Prop}(h:a)(i:b)(j:c)(k:d):Hid (a/\b/\c/\d):=⟨h,i,j,k⟩
def x5_{a b c d e:Prop}(h:a)(i:b)(j:c)(k:d)(l:e):Hid (a/\b/\c/\d/\e):=⟨h,i,j,k,l⟩
def x6_{a b c d e f:Prop}(h:a)(i:b)(j:c)(k:d)(l:e)(m:f):Hid (a/\b/\c/\d/\e/\f):=⟨h,i,j,k,l,m⟩
def x8_{a b c d e f g p:Prop}(h:a)(i:b)(j:c)(k:d)(l:e)(m:f)(n:g)(o:p):Hid (a/\b/\c/\d/\e/\f/\g/\p):=⟨h,i,j,k,l,m,n,o⟩
def n3_{a b c:Prop}(h:a)(i:b)(j:c):a/\b/\c:=⟨h,i,j⟩
@[reducible,simp,go_sem] def A_ (q o:Nat):Addr:=⟨q,o,none⟩
@[reducible,simp,go_sem] def I_ (z:Int):Value:=.int .i64 z
@[reducible,simp,go_sem] def P_ (q:Nat):Value:=.pointer (some ⟨q,0,none⟩)
@[reducible,simp,go_sem] def L_ (q n p:Nat):Value:=.slice (some ⟨q,0,none⟩) n p
def z_{p:Prop}(h:p:=by first|(simp[intOf];omega)|simp[intOf]):p:=h
def bA_{w:World}{o:Obj}:Below w.heap.size w (w.alloc o):=(Below.refl _ _).alloc (Qa _) _
def cR_{w:World}{g:Nat}{a:Array Value}{d:Nat}{m:Nat×Nat}{v:Value}(o:Nat)(h:w.heap[g]? =some (.cells a d m))(e:a.toList[o]? =some v:=by rfl):w.cell? ⟨g,o,none⟩=some v:=(cell_of_row w g o a d m h).trans (by rw[<- Array.getElem?_toList];exact e)
@[reducible,simp,go_sem] def D_ (w:World) (b o:Nat) (v:Value):Prop:=w.cell? ⟨b,o,none⟩=some v
@[reducible,simp,go_sem] def H_ (w:World) (b:Nat) (c:Array Value) (t:Nat):Prop:=w.heap[b]? =some (.cells c t (0,0))
def ex_{α:Type}(a:α):∃x,x=a:=⟨a,rfl⟩
def ey_{α:Type}(a:α):∃x,a=x:=⟨a,rfl⟩
def ez_{α:Type}(a:α):∃x,Hid (a=x):=⟨a,rfl⟩
@[reducible] def E_ (w w':World):Prop:=Below w.heap.size w w'
def e_{p:Prop}(h:p:=by repeat(first|assumption|with_reducible exact Below.refl _ _|with_reducible apply Below.drew|(refine Below.alloc ?_ (by first|omega|(simp;omega)|simp) _)|(refine Below.setCell ?_ (by first|omega|(simp;omega)|simp) _))):p:=h
def h_{p:Prop}(h:p:=by repeat(first|with_reducible exact Below.refl _ _|with_reducible refine below_drewN ?_ _|with_reducible refine Below.drew ?_|with_reducible refine Below.alloc ?_ (by simp<;>omega) _)):p:=h
def b_{p:Prop}(h:p:=by repeat(first|assumption|with_reducible exact Below.refl _ _|with_reducible apply Below.drew|(refine Below.alloc ?_ (by first|omega|(simp;omega)|simp) _))):p:=h
def c_{p:Prop}(h:p:=by repeat(first|with_reducible exact Below.refl _ _|with_reducible apply Below.drew|(refine Below.alloc ?_ (by first|omega|(simp;omega)|simp) _))):p:=h
def i_{p:Prop}(h:p:=by intro u hu;simp only[List.mem_cons,List.not_mem_nil,or_false] at hu;rcases hu with rfl|rfl|rfl|rfl<;>rfl):p:=h
def m_{p:Prop}(h:p:=by unfold maxLen;omega):p:=h
def j_{p:Prop}(h:p:=by simp[Act.eval]):p:=h
def k_{p:Prop}(h:p:=by kernel_rfl):p:=h
def g_{p:Prop}(h:p:=by go_num):p:=h
set_option linter.all false
def rl_:=@World.ownsRow.lt
def hs_:=@heap_setCell_same
def ha_:=@heap_alloc_new
def fr_:=@frozen_of_row
def br_:=@Below.refl
def ra_:=@World.ownsRow.alloc
def hb_:=@Below.heap_alloc
def cb_:=@World.cell?_of_block
def bz_{B w}:=Below.refl B w
def hc_{a b c}:=Below.heap_alloc a b c
def hn_{a b}:=heap_alloc_new a b
def ht_{a b}:=heap_setCell_same a b
def fq_{a b}:=frozen_of_row a b
def cq_{a b}:=cell_of_row a b
def qa_{n:Nat}:n<=n:=Nat.le_refl n
def qg_{n:Nat}:0<=n:=Nat.zero_le n
def rn_{a b c d}:=World.ownsRow_nil a b c d
end Go.Proofs.YtfcgnpchbcmdeaaGreat
