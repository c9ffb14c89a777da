import Derived.Test.YtfcgnpchbcmdeaaGreatZfal
import Derived.Deep.RegionHeld3
namespace Go.Proofs.YtfcgnpchbcmdeaaGreat
set_option linter.unusedSimpArgs false
set_option maxRecDepth 100000
set_option maxHeartbeats 2000000
open Go.RowKit
theorem ZgQ(x:Zm)(w:World)(h:0<=x.lo/\0<=x.hi/\x.lo<=1000000000000/\x.hi<=1000000000000):Calls Tryz.prog 154 #[.agg #[.int .i64 x.v,.int .i64 x.lo,.int .i64 x.hi,.int .i64 x.wt]] w fun e w'=>e=.returned (.int .i64 (x.lo+x.hi))/\w'=w.alloc (.cells #[.int .i64 x.v,.int .i64 x.lo,.int .i64 x.hi,.int .i64 x.wt] 98):=by obtain⟨h1,h2,h3,h4⟩:=h;go_enter Tryz.func154,Tryz.ntmps154;go_wp2;go_ret;exact⟨rfl,rfl⟩
structure ZkC(L:List Zm)(goal:Int)(k r:Nat):Prop where
 ge:k<=r
 le:r+2<=L.length
 yes:∀i,k<=i->i<r->Zds L i+Zds L (i+1)<goal
 no:r+2=L.length∨¬Zds L r+Zds L (r+1)<goal
theorem ZiM(a:Option Addr)(L:List Zm)(cap k0:Nat)(goal:Int)(w:World)(h:Yp w a L)(g:Zy L)(hk:k0+2<=L.length):Calls Tryz.prog 89 #[.slice a L.length cap,.int .i64 k0,.int .i64 goal] w fun e w'=>∃r:Nat,e=.returned (.int .i64 r)/\ZkC L goal k0 r/\Below w.heap.size w w':=by
 have hl:=h.1;have HE:Hid (Yp w a L):=h;have HG:Hid (Zy L):=g;clear h g;go_enter Tryz.func89,Tryz.ntmps89;go_wp2_with fail
 go_loopw [1] (fun t wr=>∃k:Nat,t=.int .i64 k/\k0<=k/\k+2<=L.length/\Hid (∀i,k0<=i->i<k->Zds L i+Zds L (i+1)<goal)/\Below w.heap.size w wr) (fun t _=>L.length-(intOf t).toNat)
 case atStart=>exact⟨k0,rfl,Qa _,hk,fun i h1 h2=>absurd h2 (by omega),Below.refl _ _⟩
 case round=>
  obtain⟨k,rfl,hk1,hk2,HY,hbel⟩:=hrel
  by_cases hkl:k+2<L.length
  ·rcases HE.out with⟨_,h0|⟨b,off,rfl,hA⟩⟩;omega;have hA':=hA.below hbel;have hb:=hA'.lt (by omega);have gx:=HG.out.at (show k<L.length by omega);have gy:=HG.out.at (show k+1<L.length by omega);obtain⟨a0,a1,a2,a3⟩:wr.cell? ⟨b,off+k*4,none⟩=some (.int .i64 (L.getD k e0).v)/\wr.cell? ⟨b,off+k*4+1,none⟩=some (.int .i64 (L.getD k e0).lo)/\wr.cell? ⟨b,off+k*4+2,none⟩=some (.int .i64 (L.getD k e0).hi)/\wr.cell? ⟨b,off+k*4+3,none⟩=some (.int .i64 (L.getD k e0).wt):=⟨hA'.v k (by omega),hA'.lo k (by omega),hA'.hi k (by omega),hA'.wt k (by omega)⟩
   obtain⟨c0,c1,c2,c3⟩:wr.cell? ⟨b,off+(k+1)*4,none⟩=some (.int .i64 (L.getD (k+1) e0).v)/\wr.cell? ⟨b,off+(k+1)*4+1,none⟩=some (.int .i64 (L.getD (k+1) e0).lo)/\wr.cell? ⟨b,off+(k+1)*4+2,none⟩=some (.int .i64 (L.getD (k+1) e0).hi)/\wr.cell? ⟨b,off+(k+1)*4+3,none⟩=some (.int .i64 (L.getD (k+1) e0).wt):=⟨hA'.v (k+1) (by omega),hA'.lo (k+1) (by omega),hA'.hi (k+1) (by omega),hA'.wt (k+1) (by omega)⟩;have hx:0<=(L.getD k e0).lo/\0<=(L.getD k e0).hi/\(L.getD k e0).lo<=1000000000000/\(L.getD k e0).hi<=1000000000000:=(by omega);have hy:0<=(L.getD (k+1) e0).lo/\0<=(L.getD (k+1) e0).hi/\(L.getD (k+1) e0).lo<=1000000000000/\(L.getD (k+1) e0).hi<=1000000000000:=by omega
   have HMK:Hid (Zds L k+Zds L (k+1)=(L.getD k e0).lo+(L.getD k e0).hi+((L.getD (k+1) e0).lo+(L.getD (k+1) e0).hi)):=show _=_ from rfl
   have d1:decide ((k:Int)+2<(L.length:Int))=true:=decide_eq_true (by omega);have d2:decide (k+2<L.length)=true:=decide_eq_true (by omega);have bk1:(0:Int)<=(k:Int):=(by omega);have bk2:(k:Int)+1<(L.length:Int):=(by omega);have bk3:(k:Int)<(L.length:Int):=(by omega);clear hA hA' gx gy;generalize L.getD k e0=x at *;generalize L.getD (k+1) e0=y at *;have HX:Hid (0<=x.lo/\0<=x.hi/\x.lo<=1000000000000/\x.hi<=1000000000000):=hx;have HY2:Hid (0<=y.lo/\0<=y.hi/\y.lo<=1000000000000/\y.hi<=1000000000000):=hy;obtain⟨x1,x2,x3,x4⟩:=hx;obtain⟨y1,y2,y3,y4⟩:=hy;have r2:IntKind.i64.wrap ((k:Int)+2)=(k:Int)+2:=(by rw[IntKind.wrap_i64];omega);have r1:IntKind.i64.wrap ((k:Int)+1)=(k:Int)+1:=by rw[IntKind.wrap_i64];omega
   have r3:IntKind.i64.wrap (x.lo+x.hi+(y.lo+y.hi))=x.lo+x.hi+(y.lo+y.hi):=(by rw[IntKind.wrap_i64];omega);have bk4:(0:Int)<=(k:Int)+1:=by omega
   by_cases hlt:x.lo+x.hi+(y.lo+y.hi)<goal
   ·have dl:decide (x.lo+x.hi+(y.lo+y.hi)<goal)=true:=decide_eq_true hlt
    have HY3:Hid (∀i,k0<=i->i<k+1->Zds L i+Zds L (i+1)<goal):=fun i h1 h2=>by
     by_cases e:i=k
     subst e;rw[HMK.out];exact hlt;exact HY.out i h1 (by omega)
    go_wp2_with fail
    go_region_held3 (fun w'=>w'.cell? ⟨b,off+k*4,none⟩=some (.int .i64 x.v)/\w'.cell? ⟨b,off+k*4+1,none⟩=some (.int .i64 x.lo)/\w'.cell? ⟨b,off+k*4+2,none⟩=some (.int .i64 x.hi)/\w'.cell? ⟨b,off+k*4+3,none⟩=some (.int .i64 x.wt)/\w'.cell? ⟨b,off+(k+1)*4,none⟩=some (.int .i64 y.v)/\w'.cell? ⟨b,off+(k+1)*4+1,none⟩=some (.int .i64 y.lo)/\w'.cell? ⟨b,off+(k+1)*4+2,none⟩=some (.int .i64 y.hi)/\w'.cell? ⟨b,off+(k+1)*4+3,none⟩=some (.int .i64 y.wt)) (go_keep) (first|(go_at_call 154;refine(ZgQ _ _ (by first|exact HX.out|exact HY2.out)).mono ?_;rintro e w' ⟨rfl,rfl⟩))
    all_goals go_wp2
    all_goals
     go_roundw;case rel=>exact⟨k+1,by go_num,by omega,by omega,HY3.out,((hbel.alloc hbel.size _).alloc (by have:=hbel.size;simp;omega) _).drew⟩
     case measure=>simp[intOf];omega
   have dl:decide (x.lo+x.hi+(y.lo+y.hi)<goal)=false:=decide_eq_false hlt;have HFI:Hid (ZkC L goal k0 k):=⟨hk1,hk2,HY.out,.inr (by rw[HMK.out];exact hlt)⟩;go_wp2_with fail
   go_region_held3 (fun w'=>w'.cell? ⟨b,off+k*4,none⟩=some (.int .i64 x.v)/\w'.cell? ⟨b,off+k*4+1,none⟩=some (.int .i64 x.lo)/\w'.cell? ⟨b,off+k*4+2,none⟩=some (.int .i64 x.hi)/\w'.cell? ⟨b,off+k*4+3,none⟩=some (.int .i64 x.wt)/\w'.cell? ⟨b,off+(k+1)*4,none⟩=some (.int .i64 y.v)/\w'.cell? ⟨b,off+(k+1)*4+1,none⟩=some (.int .i64 y.lo)/\w'.cell? ⟨b,off+(k+1)*4+2,none⟩=some (.int .i64 y.hi)/\w'.cell? ⟨b,off+(k+1)*4+3,none⟩=some (.int .i64 y.wt)) (go_keep) (first|(go_at_call 154;refine(ZgQ _ _ (by first|exact HX.out|exact HY2.out)).mono ?_;rintro e w' ⟨rfl,rfl⟩))
   all_goals go_wp2
   all_goals go_ret
   all_goals exact⟨k,rfl,HFI.out,((hbel.alloc hbel.size _).alloc (by have:=hbel.size;simp;omega) _).drew⟩
  have d1:decide ((k:Int)+2<(L.length:Int))=false:=decide_eq_false (by omega);have d2:decide (k+2<L.length)=false:=decide_eq_false (by omega);have HFI:Hid (ZkC L goal k0 k):=⟨hk1,hk2,HY.out,.inl (by omega)⟩;go_wp2_with fail
  go_big_quiet (fail);go_wp2;go_ret;exact⟨k,rfl,HFI.out,below_drewN hbel _⟩
section
variable {w:World} {b:Nat} {vf vW vC:Value} {wt:Int} {fl:Bool} {vr:Value} {p:ZA}
theorem RB.setWt(h:RB w b vf vW vC wt fl vr p)(z:Int):RB (w.setCell ⟨b,3,none⟩ (.int .i64 z)) b vf vW vC z fl vr p:=heap_setCell_same w b 3 _ 256 _ h
theorem RB.setFl(h:RB w b vf vW vC wt fl vr p)(z:Bool):RB (w.setCell ⟨b,4,none⟩ (.bool z)) b vf vW vC wt z vr p:=heap_setCell_same w b 4 _ 256 _ h
theorem RB.setVr(h:RB w b vf vW vC wt fl vr p)(z:Value):RB (w.setCell ⟨b,5,none⟩ z) b vf vW vC wt fl z p:=heap_setCell_same w b 5 _ 256 _ h
theorem RB.setVW(h:RB w b vf vW vC wt fl vr p)(z:Value):RB (w.setCell ⟨b,1,none⟩ z) b vf z vC wt fl vr p:=heap_setCell_same w b 1 _ 256 _ h
end
def YX(st:Int):Bool:=!(decide (st=1)||decide (st=4)||decide (st=7))
theorem Zj3(b:Nat)(vf vW vC:Value)(wt:Int)(fl:Bool)(vr:Value)(p:ZA)(w:World)(h:RB w b vf vW vC wt fl vr p):Calls Tryz.prog 220 #[.pointer (some ⟨b,6,none⟩)] w fun e w'=>e=.returned (.bool (YX p.st))/\w'=w:=by
 obtain⟨c6,_,_,_,_,_,_⟩:=h.part;clear h
 by_cases s1:p.st=1
 ·have HO:Hid (YX p.st=false):=(by show YX p.st=false;rw[s1];rfl);rw[s1] at c6;clear s1;go_enter Tryz.func220,Tryz.ntmps220;go_wp2;go_ret;rw[HO.out];exact⟨rfl,rfl⟩
 by_cases s4:p.st=4
 ·have HO:Hid (YX p.st=false):=(by show YX p.st=false;rw[s4];rfl);rw[s4] at c6;clear s1 s4;go_enter Tryz.func220,Tryz.ntmps220;go_wp2;go_ret;rw[HO.out];exact⟨rfl,rfl⟩
 by_cases s7:p.st=7
 ·have HO:Hid (YX p.st=false):=(by show YX p.st=false;rw[s7];rfl);rw[s7] at c6;clear s1 s4 s7;go_enter Tryz.func220,Tryz.ntmps220;go_wp2;go_ret;rw[HO.out];exact⟨rfl,rfl⟩
 have HO:Hid (YX p.st=true):=(by show YX p.st=true;unfold YX;simp[s1,s4,s7]);have e1:(p.st==1)=false:=beq_eq_false_iff_ne.2 s1;have e4:(p.st==4)=false:=beq_eq_false_iff_ne.2 s4;have e7:(p.st==7)=false:=beq_eq_false_iff_ne.2 s7;go_enter Tryz.func220,Tryz.ntmps220;go_wp2;go_ret;rw[HO.out];exact⟨rfl,rfl⟩
theorem Zg4(b:Nat)(vf vW vC:Value)(wt:Int)(fl:Bool)(vr:Value)(p:ZA)(w:World)(h:RB w b vf vW vC wt fl vr p):Calls Tryz.prog 91 #[.pointer (some ⟨b,0,none⟩)] w fun e w'=>e=.returned (.bool (decide (wt=0)))/\w'=w:=by
 obtain⟨_,_,_,c3,_,_⟩:=h.head;clear h
 by_cases s:wt=0
 ·subst s;go_enter Tryz.func91,Tryz.ntmps91;go_wp2;go_ret;exact⟨rfl,rfl⟩
 have e1:(wt==0)=false:=beq_eq_false_iff_ne.2 s;have HO:Hid (decide (wt=0)=false):=decide_eq_false s;go_enter Tryz.func91,Tryz.ntmps91;go_wp2;go_ret
 first|exact⟨rfl,rfl⟩|(rw[HO.out];exact⟨rfl,rfl⟩)
abbrev ZmD:=Option (Option Int)
def Zn(wt c:Int):ZmD:=
 if c=44/\0<wt then some none
 else if 48<=c/\c<=57/\1<=wt*10+(c-48)/\wt*10+(c-48)<=99 then some (some (wt*10+(c-48)))
 else none
def ZmE(b:Nat)(vf vW vC:Value)(wt:Int)(fl:Bool)(vr:Value)(p:ZA)(s:ZmD)(w:World)(e:Ending)(w':World):Prop:=
 w.grownBy w' (some b)/\match s with
  |none=>e=.returned (.bool false)/\RB w' b vf vW vC wt fl vr p
  |some none=>e=.returned (.bool true)/\RB w' b vf vW vC wt true vr p
  |some (some z)=>e=.returned (.bool true)/\RB w' b vf vW vC z fl vr p
theorem ZdZ(b:Nat)(vf vW vC:Value)(wt:Int)(fl:Bool)(vr:Value)(p:ZA)(c:Int)(w:World)(h:RB w b vf vW vC wt fl vr p)(h0:0<=wt)(h1:wt<=99)(hc0:0<=c)(hc1:c<=255):Calls Tryz.prog 162 #[.pointer (some ⟨b,0,none⟩),.int .u8 c] w fun e w'=>ZmE b vf vW vC wt fl vr p (Zn wt c) w e w':=by
 obtain⟨_,_,_,c3,c4,_⟩:=h.head;have cf:=h.part.2.2.2.2.2.2;have H:Hid (RB w b vf vW vC wt fl vr p):=h;clear h
 by_cases k:c=44/\0<wt
 ·have HO:Hid (Zn wt c=some none):=if_pos k;obtain⟨rfl,k2⟩:=k;go_enter Tryz.func162,Tryz.ntmps162;go_wp2;go_ret;rw[HO.out];exact⟨ZB (Zq _ _) _ _,rfl,H.out.setFl true⟩
 by_cases d:48<=c/\c<=57
 ·obtain⟨d1,d2⟩:=d;have n44:¬c=44:=(by omega);have hw:IntKind.u8.wrap (c-48)=c-48:=(by simp[IntKind.wrap,IntKind.bits,IntKind.signed];omega);have hw1:IntKind.i64.wrap (c-48)=c-48:=ZD (by omega) (by omega);have hw2:IntKind.i64.wrap (wt*10)=wt*10:=ZD (by omega) (by omega);have hw3:IntKind.i64.wrap (wt*10+(c-48))=wt*10+(c-48):=ZD (by omega) (by omega)
  by_cases r:1<=wt*10+(c-48)/\wt*10+(c-48)<=99
  ·have HO:Hid (Zn wt c=some (some (wt*10+(c-48)))):=(by show Zn wt c=_;unfold Zn;rw[if_neg k,if_pos ⟨d1,d2,r⟩]);obtain⟨r1,r2⟩:=r;clear k;go_enter Tryz.func162,Tryz.ntmps162;go_wp2;go_ret;rw[HO.out];exact⟨ZB (Zq _ _) _ _,rfl,H.out.setWt _⟩
  have HO:Hid (Zn wt c=none):=(by show Zn wt c=_;unfold Zn;rw[if_neg k,if_neg (fun h=>r h.2.2)]);have r':wt*10+(c-48)<1∨99<wt*10+(c-48):=(by omega);clear k r
  rcases r' with r'|r'
  all_goals
   go_enter Tryz.func162,Tryz.ntmps162;go_wp2;go_ret;rw[HO.out];exact⟨Zq _ _,rfl,H.out⟩
 have HO:Hid (Zn wt c=none):=(by show Zn wt c=_;unfold Zn;rw[if_neg k,if_neg (fun h=>d ⟨h.1,h.2.1⟩)]);have d':c<48∨57<c:=(by omega);have k':(c=44/\wt=0)∨¬c=44:=(by omega);clear k d
 rcases k' with⟨rfl,rfl⟩|k'
 ·clear d';go_enter Tryz.func162,Tryz.ntmps162;go_wp2;go_ret;rw[HO.out];exact⟨Zq _ _,rfl,H.out⟩
 have hne:(c==44)=false:=beq_eq_false_iff_ne.2 k'
 rcases d' with d'|d'
 all_goals
  go_enter Tryz.func162,Tryz.ntmps162;go_wp2;go_ret;rw[HO.out];exact⟨Zq _ _,rfl,H.out⟩
end Go.Proofs.YtfcgnpchbcmdeaaGreat
