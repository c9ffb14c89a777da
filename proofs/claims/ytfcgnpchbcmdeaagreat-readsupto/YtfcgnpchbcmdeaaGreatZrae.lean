import Derived.Test.YtfcgnpchbcmdeaaGreatZrad
import Derived.Deep.DeepCutAuto
namespace Go.Proofs.YtfcgnpchbcmdeaaGreat
set_option linter.all false
set_option maxRecDepth 100000
set_option maxHeartbeats 2000000
open Go.RowKit
def Zew(len:Nat)(bins size budget:Int):Bool:=
 decide ((1:Int)<=len/\(len:Int)<=4/\2<=bins/\bins<=16/\bins<=size/\size<=32/\0<=budget/\budget<=20)
def Zku{k a b}(h:a=b):Ending.returned (.int k a)=.returned (.int k b):=by rw[h]
def Zlw{c o d b a k}(H:Hid ((c&&Tf d b a k)=o)){x}(h:x=(o&&Lc (d k) (b k) (a k))):Value.bool x=.bool (c&&Tf d b a (k+1)):=by rw[rj,<- Bool.and_assoc,H,h]
def Vt a f m j g c s t u w (C:f<=maxLen)(q:Ej w a f s t u):C_ 69 #[.agg #[.slice a f m,.int .i64 j,.int .i64 g,.int .i64 c]] w λe w'=>e=.returned (.int .i64 (Zhx (Hz f j g c s t u)))/\Below w.heap.size w w':=by
 unfold maxLen at C;go_enter Tryz.func69,Tryz.ntmps69;go_upto_region 1 with fail;go_cut [3] (λv wx=>v=.bool (Zew f j g c)/\wx=w.alloc (.cells #[.slice a f m,.int .i64 j,.int .i64 g,.int .i64 c] 37))
 case first=>
  go_wp2
  all_goals go_meet
  all_goals grind [Zew]
 case rest =>
  obtain⟨rfl,rfl⟩:=hcut;go_wp2_with fail
  go_loopw [3,4] (λv i wr=>∃k:Nat,k<=f/\i=.int .i64 k/\v=.bool (Zew f j g c&&Tf s t u k)/\Below (w.heap.size+1) (w.alloc (.cells #[.slice a f m,.int .i64 j,.int .i64 g,.int .i64 c] 37)) wr) (λ_ i _=>f-(intOf i).toNat)
  case atStart=>exact⟨0,qg_,rfl,by simp[Tf],bz_⟩
  case round=>
   obtain⟨k,H,rfl,rfl,l⟩:=hrel;have D:wr.cell? (A_ w.heap.size 0)=some (.slice a f m):=(by rw[l.cell (p:=(A_ w.heap.size 0)) s_];simp);have n:=bA_.trans (l.mono s_);generalize ho:(Zew f j g c&&Tf s t u k)=o;have B:=x1_ ho
   by_cases hlt:k<f
   ·rcases q with q|⟨b,r,rfl,q⟩
    omega;have A:=q.lt o_;have G:=(n.cell (p:=(A_ b (r+k*3))) A).trans (q.c0 k hlt);have J:=(n.cell (p:=(A_ b (r+k*3+1))) A).trans (q.c1 k hlt);have I:=(n.cell (p:=(A_ b (r+k*3+2))) A).trans (q.c2 k hlt);have y:=λx=>l.alloc (by have:=l.size;simpa using this) x;generalize hwd:s k=d at G;have F:=x1_ hwd
    cases o<;>cases d
    all_goals
     go_wp2
     all_goals
      go_roundw;case rel=>exact⟨k+1,o_,g_,Zlw B (by rw[F];grind [Lc]),y _⟩
      case measure=>exact z_
   have z:f=k:=o_;subst z;have E:Hid (Hz _ _ _ _ _ _ _=o):=B
   cases o
   all_goals
    go_wp2;go_ret;exact⟨Zku (by rw[E];rfl),n⟩
structure ZkC(w wx):Prop where
 bel:E_ w wx
 size:wx.heap.size=w.heap.size+5
 k0:wx.cell? (A_ (w.heap.size+4) 0)=some (I_ 2)
 k1:wx.cell? (A_ (w.heap.size+4) 12)=some (I_ 5)
 k2:wx.cell? (A_ (w.heap.size+4) 24)=some (I_ 6)
 k3:wx.cell? (A_ (w.heap.size+4) 36)=some (I_ 7)
 k4:wx.cell? (A_ (w.heap.size+4) 48)=some (I_ 5)
 k5:wx.cell? (A_ (w.heap.size+4) 60)=some (I_ 15)
 f1:wx.cell? (A_ (w.heap.size+4) 1)=some (I_ 0)
 f2:wx.cell? (A_ (w.heap.size+4) 2)=some (I_ 0)
 f3:wx.cell? (A_ (w.heap.size+4) 3)=some (.slice none 0 0)
 f4:wx.cell? (A_ (w.heap.size+4) 4)=some (I_ 0)
 f5:wx.cell? (A_ (w.heap.size+4) 5)=some (I_ 0)
 f6:wx.cell? (A_ (w.heap.size+4) 6)=some (I_ 0)
 f7:wx.cell? (A_ (w.heap.size+4) 7)=some (L_ w.heap.size 3 3)
 f8:wx.cell? (A_ (w.heap.size+4) 8)=some (L_ (w.heap.size+1) 3 3)
 f9:wx.cell? (A_ (w.heap.size+4) 9)=some (.string ⟨#[]⟩)
 f10:wx.cell? (A_ (w.heap.size+4) 10)=some (I_ 0)
 f11:wx.cell? (A_ (w.heap.size+4) 11)=some (I_ 0)
 v0:wx.cell? (A_ w.heap.size 0)=some (I_ 5)
 v1:wx.cell? (A_ w.heap.size 1)=some (I_ 3)
 v2:wx.cell? (A_ w.heap.size 2)=some (I_ 5)
 u0:wx.cell? (A_ (w.heap.size+1) 0)=some (I_ 1)
 u1:wx.cell? (A_ (w.heap.size+1) 1)=some (I_ 2)
 u2:wx.cell? (A_ (w.heap.size+1) 2)=some (I_ 4)
end Go.Proofs.YtfcgnpchbcmdeaaGreat
