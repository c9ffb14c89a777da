import Derived.Test.YtfcgnpchbcmdeaaGreatZrad
import Derived.Deep.DeepCutAuto
namespace Go.Proofs.YtfcgnpchbcmdeaaGreat
set_option linter.all false
set_option maxRecDepth 100000
set_option maxHeartbeats 2000000
open Go.RowKit
def Zew(len:Nat)(bins size budget:Int):Bool:=
 decide ((1:Int)<=len/\(len:Int)<=4/\2<=bins/\bins<=16/\bins<=size/\size<=32/\0<=budget/\budget<=20)
def Zku{k a b}(h:a=b):Ending.returned (.int k a)=.returned (.int k b):=by rw[h]
def Zlv{c o d a b k}(H:Hid ((c&&Tf d a b k)=o)){x}(h:x=(o&&Lc (d k) (a k) (b k))):Value.bool x=.bool (c&&Tf d a b (k+1)):=by rw[rj,<- Bool.and_assoc,H,h]
def Vt a f n g j c s u t w (C:f<=maxLen)(r:Ej w a f s u t):C_ 69 #[.agg #[.slice a f n,.int .i64 g,.int .i64 j,.int .i64 c]] w λe w'=>e=.returned (.int .i64 (Zhx (Hz f g j c s u t)))/\Below w.heap.size w w':=by
 unfold maxLen at C;go_enter Tryz.func69,Tryz.ntmps69;go_upto_region 1 with fail;go_cut [3] (λv wx=>v=.bool (Zew f g j c)/\wx=w.alloc (.cells #[.slice a f n,.int .i64 g,.int .i64 j,.int .i64 c] 37))
 case first=>
  go_wp2
  all_goals go_meet
  all_goals grind [Zew]
 case rest =>
  obtain⟨rfl,rfl⟩:=hcut;go_wp2_with fail
  go_loopw [3,4] (λv i wr=>∃k:Nat,k<=f/\i=.int .i64 k/\v=.bool (Zew f g j c&&Tf s u t k)/\Below (w.heap.size+1) (w.alloc (.cells #[.slice a f n,.int .i64 g,.int .i64 j,.int .i64 c] 37)) wr) (λ_ i _=>f-(intOf i).toNat)
  case atStart=>exact⟨0,qg_,rfl,by simp[Tf],bz_⟩
  case round=>
   obtain⟨k,H,rfl,rfl,l⟩:=hrel;have E:wr.cell? (A_ w.heap.size 0)=some (.slice a f n):=(by rw[l.cell (p:=(A_ w.heap.size 0)) s_];simp);have m:=bA_.trans (l.mono s_);generalize ho:(Zew f g j c&&Tf s u t k)=o;have B:=x1_ ho
   by_cases hlt:k<f
   ·rcases r with r|⟨b,q,rfl,r⟩
    omega;have A:=r.lt o_;have G:=(m.cell (p:=(A_ b (q+k*3))) A).trans (r.c0 k hlt);have I:=(m.cell (p:=(A_ b (q+k*3+1))) A).trans (r.c1 k hlt);have J:=(m.cell (p:=(A_ b (q+k*3+2))) A).trans (r.c2 k hlt);have z:=λx=>l.alloc (by have:=l.size;simpa using this) x;generalize hwd:s k=d at G;have F:=x1_ hwd
    cases o<;>cases d
    all_goals
     go_wp2
     all_goals
      go_roundw;case rel=>exact⟨k+1,o_,g_,Zlv B (by rw[F];grind [Lc]),z _⟩
      case measure=>exact z_
   have y:f=k:=o_;subst y;have D:Hid (Hz _ _ _ _ _ _ _=o):=B
   cases o
   all_goals
    go_wp2;go_ret;exact⟨Zku (by rw[D];rfl),m⟩
structure ZkC(w wx):Prop where
 bel:E_ w wx
 size:wx.heap.size=w.heap.size+5
 k0:wx.cell? (A_ (w.heap.size+4) 0)=some (I_ 2)
 k1:wx.cell? (A_ (w.heap.size+4) 12)=some (I_ 5)
 k2:wx.cell? (A_ (w.heap.size+4) 24)=some (I_ 6)
 k3:wx.cell? (A_ (w.heap.size+4) 36)=some (I_ 7)
 k4:wx.cell? (A_ (w.heap.size+4) 48)=some (I_ 5)
 k5:wx.cell? (A_ (w.heap.size+4) 60)=some (I_ 15)
 f1:wx.cell? (A_ (w.heap.size+4) 1)=some (I_ 0)
 f2:wx.cell? (A_ (w.heap.size+4) 2)=some (I_ 0)
 f3:wx.cell? (A_ (w.heap.size+4) 3)=some (.slice none 0 0)
 f4:wx.cell? (A_ (w.heap.size+4) 4)=some (I_ 0)
 f5:wx.cell? (A_ (w.heap.size+4) 5)=some (I_ 0)
 f6:wx.cell? (A_ (w.heap.size+4) 6)=some (I_ 0)
 f7:wx.cell? (A_ (w.heap.size+4) 7)=some (L_ w.heap.size 3 3)
 f8:wx.cell? (A_ (w.heap.size+4) 8)=some (L_ (w.heap.size+1) 3 3)
 f9:wx.cell? (A_ (w.heap.size+4) 9)=some (.string ⟨#[]⟩)
 f10:wx.cell? (A_ (w.heap.size+4) 10)=some (I_ 0)
 f11:wx.cell? (A_ (w.heap.size+4) 11)=some (I_ 0)
 v0:wx.cell? (A_ w.heap.size 0)=some (I_ 5)
 v1:wx.cell? (A_ w.heap.size 1)=some (I_ 3)
 v2:wx.cell? (A_ w.heap.size 2)=some (I_ 5)
 u0:wx.cell? (A_ (w.heap.size+1) 0)=some (I_ 1)
 u1:wx.cell? (A_ (w.heap.size+1) 1)=some (I_ 2)
 u2:wx.cell? (A_ (w.heap.size+1) 2)=some (I_ 4)
end Go.Proofs.YtfcgnpchbcmdeaaGreat
