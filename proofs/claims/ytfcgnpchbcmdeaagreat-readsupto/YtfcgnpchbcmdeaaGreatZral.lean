import Derived.Test.YtfcgnpchbcmdeaaGreatZraj
import Derived.Deep.RegionWith
import Derived.Deep.DeepCutAuto
namespace Go.Proofs.YtfcgnpchbcmdeaaGreat
set_option linter.all false
set_option maxHeartbeats 1000000
open Go.RowKit
def Ki a L f j x w (h:Dh w a L)(g:Bo L)(d:j<=L.length)(l:0<=x.lo/\0<=x.hi/\x.lo<=1000000000000/\x.hi<=1000000000000):C_ 85 #[.slice a L.length f,.int .i64 j,.agg #[.int .i64 x.v,.int .i64 x.lo,.int .i64 x.hi,.int .i64 x.wt]] w λe w'=>e=.returned (.agg #[.int .i64 (seen L j x).v,.int .i64 (seen L j x).lo,.int .i64 (seen L j x).hi,.int .i64 (seen L j x).wt])/\Below w.heap.size w w':=by
 obtain⟨t,B,A,r⟩:=l;have m:=di g d;have C:=Df g;have k:=x1_ h;have i:=x1_ g;obtain⟨p,s,D⟩:=m;have b:0<=Cn L j/\Cn L j<=1000000000000:=o_;have c:0<=Dn L j/\Dn L j<=1000000000000:=o_;obtain⟨y,q⟩:=b;obtain⟨p1,u⟩:=c
 have o:Hid (seen L j x=⟨_,_,_,_⟩):=show _=_ from rfl
 go_enter Tryz.func85,Tryz.ntmps85;go_wp2_with fail
 go_region_with (go_at_call 152;refine(Zx a L _ j _ ?_ i d).mono ?_;exact k.below (by repeat(first|with_reducible exact bz_|with_reducible refine Below.drew ?_|with_reducible refine below_drewN ?_ _|with_reducible refine Below.setCell ?_ s_ _|with_reducible refine Below.alloc ?_ u_ _));rintro e w' ⟨rfl,n,rfl⟩)
 all_goals go_wp2_with fail
 all_goals go_region_with (go_at_call 153;refine(Xo a L _ j _ ?_ i d).mono ?_;exact k.below (by repeat(first|with_reducible exact bz_|with_reducible refine Below.drew ?_|with_reducible refine below_drewN ?_ _|with_reducible refine Below.setCell ?_ s_ _|with_reducible refine Below.alloc ?_ u_ _));rintro e w' ⟨rfl,z,rfl⟩)
 all_goals go_wp2
 all_goals exact bodyPost_ret (v:=.agg #[I_ x.v,I_ (x.lo+Cn L j),I_ (x.hi+Dn L j),I_ x.wt]) (by simp[results,Tryz.results85,go_sem]) rfl ⟨by rw[o],(by repeat(first|with_reducible exact bz_|with_reducible refine Below.drew ?_|with_reducible refine below_drewN ?_ _|with_reducible refine Below.setCell ?_ s_ _|with_reducible refine Below.alloc ?_ u_ _))⟩
end Go.Proofs.YtfcgnpchbcmdeaaGreat
