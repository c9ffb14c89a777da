import Derived.Test.YtfcgnpchbcmdeaaGreatZraj
import Derived.Deep.RegionWith
import Derived.Deep.DeepCutAuto
namespace Go.Proofs.YtfcgnpchbcmdeaaGreat
set_option linter.all false
set_option maxHeartbeats 1000000
open Go.RowKit
def Ke a L f j x w (h:Di w a L)(g:Bq L)(d:j<=L.length)(o:0<=x.lo/\0<=x.hi/\x.lo<=1000000000000/\x.hi<=1000000000000):C_ 85 #[.slice a L.length f,.int .i64 j,.agg #[.int .i64 x.v,.int .i64 x.lo,.int .i64 x.hi,.int .i64 x.wt]] w λe w'=>e=.returned (.agg #[.int .i64 (seen L j x).v,.int .i64 (seen L j x).lo,.int .i64 (seen L j x).hi,.int .i64 (seen L j x).wt])/\Below w.heap.size w w':=by
 obtain⟨C,s,q,t⟩:=o;have m:=dr g d;have A:=Df g;have k:=x1_ h;have i:=x1_ g;obtain⟨y,p,r⟩:=m;have c:0<=Cn L j/\Cn L j<=1000000000000:=o_;have b:0<=Dm L j/\Dm L j<=1000000000000:=o_;obtain⟨u,D⟩:=c;obtain⟨p1,z⟩:=b
 have l:Hid (seen L j x=⟨_,_,_,_⟩):=show _=_ from rfl
 go_enter Tryz.func85,Tryz.ntmps85;go_wp2_with fail
 go_region_with (go_at_call 152;refine(Zy a L _ j _ ?_ i d).mono ?_;exact k.below (by repeat(first|with_reducible exact bz_|with_reducible refine Below.drew ?_|with_reducible refine below_drewN ?_ _|with_reducible refine Below.setCell ?_ s_ _|with_reducible refine Below.alloc ?_ u_ _));rintro e w' ⟨rfl,n,rfl⟩)
 all_goals go_wp2_with fail
 all_goals go_region_with (go_at_call 153;refine(Xo a L _ j _ ?_ i d).mono ?_;exact k.below (by repeat(first|with_reducible exact bz_|with_reducible refine Below.drew ?_|with_reducible refine below_drewN ?_ _|with_reducible refine Below.setCell ?_ s_ _|with_reducible refine Below.alloc ?_ u_ _));rintro e w' ⟨rfl,B,rfl⟩)
 all_goals go_wp2
 all_goals exact bodyPost_ret (v:=.agg #[I_ x.v,I_ (x.lo+Cn L j),I_ (x.hi+Dm L j),I_ x.wt]) (by simp[results,Tryz.results85,go_sem]) rfl ⟨by rw[l],(by repeat(first|with_reducible exact bz_|with_reducible refine Below.drew ?_|with_reducible refine below_drewN ?_ _|with_reducible refine Below.setCell ?_ s_ _|with_reducible refine Below.alloc ?_ u_ _))⟩
end Go.Proofs.YtfcgnpchbcmdeaaGreat
