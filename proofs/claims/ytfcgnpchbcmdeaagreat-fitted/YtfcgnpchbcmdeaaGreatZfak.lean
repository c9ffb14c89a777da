import Derived.Test.YtfcgnpchbcmdeaaGreatZfai
import Derived.Deep.RegionWith
import Derived.Deep.DeepCutAuto
namespace Go.Proofs.YtfcgnpchbcmdeaaGreat
set_option linter.unusedSimpArgs false
set_option maxHeartbeats 1000000
open Go.RowKit
theorem Qp(a:Option Addr)(L:List Zm)(cap j:Nat)(x:Zm)(w:World)(h:Yp w a L)(g:Zy L)(hj:j<=L.length)(hx:0<=x.lo/\0<=x.hi/\x.lo<=1000000000000/\x.hi<=1000000000000):Calls Tryz.prog 85 #[.slice a L.length cap,.int .i64 j,.agg #[.int .i64 x.v,.int .i64 x.lo,.int .i64 x.hi,.int .i64 x.wt]] w fun e w'=>e=.returned (.agg #[.int .i64 (seen L j x).v,.int .i64 (seen L j x).lo,.int .i64 (seen L j x).hi,.int .i64 (seen L j x).wt])/\Below w.heap.size w w':=by
 obtain⟨x1,x2,x3,x4⟩:=hx;have hb:=ZhH g hj;have ht:=Yv g;have HE:Hid (Yp w a L):=h;have HG:Hid (Zy L):=g;clear h g;obtain⟨b1,b2,b3⟩:=hb;have hlow:0<=Ye L j/\Ye L j<=1000000000000:=(by omega);have hper:0<=Yy L j/\Yy L j<=1000000000000:=(by omega);obtain⟨l1,l2⟩:=hlow;obtain⟨p1,p2⟩:=hper;clear b1 b2 b3 ht
 have HS:Hid (seen L j x=⟨x.v,x.lo+Ye L j,x.hi+Yy L j,x.wt⟩):=show _=_ from rfl
 go_enter Tryz.func85,Tryz.ntmps85;go_wp2_with fail
 go_region_with (go_at_call 152;refine(ZeC a L cap j _ ?_ HG.out hj).mono ?_;exact HE.out.below (by repeat(first|with_reducible exact Below.refl _ _|with_reducible refine Below.drew ?_|with_reducible refine below_drewN ?_ _|with_reducible refine Below.setCell ?_ (by simp) _|with_reducible refine Below.alloc ?_ (by simp<;>omega) _));rintro e w' ⟨rfl,n,rfl⟩)
 all_goals go_wp2_with fail
 all_goals go_region_with (go_at_call 153;refine(ZdX a L cap j _ ?_ HG.out hj).mono ?_;exact HE.out.below (by repeat(first|with_reducible exact Below.refl _ _|with_reducible refine Below.drew ?_|with_reducible refine below_drewN ?_ _|with_reducible refine Below.setCell ?_ (by simp) _|with_reducible refine Below.alloc ?_ (by simp<;>omega) _));rintro e w' ⟨rfl,n2,rfl⟩)
 all_goals go_wp2
 all_goals exact bodyPost_ret (v:=.agg #[.int .i64 x.v,.int .i64 (x.lo+Ye L j),.int .i64 (x.hi+Yy L j),.int .i64 x.wt]) (by simp[results,Tryz.results85,go_sem]) rfl ⟨by rw[HS.out],(by repeat(first|with_reducible exact Below.refl _ _|with_reducible refine Below.drew ?_|with_reducible refine below_drewN ?_ _|with_reducible refine Below.setCell ?_ (by simp) _|with_reducible refine Below.alloc ?_ (by simp<;>omega) _))⟩
end Go.Proofs.YtfcgnpchbcmdeaaGreat
