import Derived.Test.YtfcgnpchbcmdeaaGreatProg
import Derived.Shelf.Small.Wraps
import Derived.Shelf.Strconv.Clone
import Derived.Shelf.Slices.Turned
import Derived.Shelf.Slices.Clone
import Derived.Shelf.Slices.Empties
import Derived.Shelf.SlSortCmp.NoneTotal
import Derived.Test.YtfcgnpchbcmdeaaGreatHda
open Option renaming some->T,none->ZP
open Bool renaming false->ZZ
open Go.Proofs.Tryz renaming prog->Y8
open _root_ renaming Nat->H,Array->YZ
open Array renaming size->B
open Go.Value renaming int->ZX,slice->ZH,tuple->Y5,func->YX
open Go.IntKind renaming i64->ZQ
open Go.Ending renaming returned->ZI
open Go.World renaming drewN->Y1
namespace Go.Proofs
open Go.Shelf List Nat Go.World Go.Proofs.Tryz Go.Value Go.IntKind Go.Lib Go.Region
theorem be_ {b a} (c:((prog.funcs[b]?.getD a).name== "runtime.NumGoroutine")=ZZ) (d:prog.funcs[b]? =T {a with name:=(prog.funcs[b]?.getD a).name}):Bears Y8 b a:=⟨_,c,d⟩
theorem la_{a:Prop}(b:a:=by constructor<;>intros<;>first|kernel_rfl|exact be_ (by kernel_rfl) (by kernel_rfl)|(constructor<;>intros<;>kernel_rfl)):a:=b
set_option linter.defProp false
def Tryz.l:Go.Shelf.Ren:=⟨fun|125=>150|128=>201|129=>202|a=>a,fun|46=>243|51=>185|53=>306|a=>a,fun|a=>a⟩
theorem Tryz.x:Go.Proofs.Lays.n125 Y8 Tryz.l:=la_
def Tryz.bits_Len:=Any.bits_Len Tryz.x
def Tryz.k:Go.Shelf.Ren:=⟨fun|122=>151|215=>203|a=>a,fun|a=>a,fun|a=>a⟩
theorem Tryz.w:Go.Proofs.Lays.n122 Y8 Tryz.k:=la_
def Tryz.cmp_Compare_int:=Any.cmp_Compare_int Tryz.w
def Tryz.f:Go.Shelf.Ren:=⟨fun|316=>276|a=>a,fun|37=>66|127=>394|a=>a,fun|a=>a⟩
theorem Tryz.r:Go.Proofs.LaysM.n316 Y8 Tryz.f:=la_
def Tryz.stringslite_Clone:=Any.stringslite_Clone Tryz.r
def Tryz.g:Go.Shelf.Ren:=⟨fun|108=>252|a=>a,fun|28=>25|a=>a,fun|a=>a⟩
theorem Tryz.t:Go.Proofs.Lays.n108 Y8 Tryz.g:=la_
def Tryz.slices_Index_int:=Any.slices_Index_int Tryz.t
def Tryz.h:Go.Shelf.Ren:=⟨fun|109=>267|a=>a,fun|31=>47|a=>a,fun|a=>a⟩
theorem Tryz.n:Go.Proofs.Lays.n109 Y8 Tryz.h:=la_
def Tryz.slices_Index_string:=Any.slices_Index_string Tryz.n
def Tryz.slices_Index_string_empty:=Any.slices_Index_string_empty Tryz.n
def Tryz.i:Go.Shelf.Ren:=⟨fun|110=>322|109=>267|a=>a,fun|31=>47|a=>a,fun|a=>a⟩
theorem Tryz.u:Go.Proofs.Lays.n110 Y8 Tryz.i:=la_
def Tryz.slices_Contains_string:=Any.slices_Contains_string Tryz.u
def Tryz.j:Go.Shelf.Ren:=⟨fun|113=>253|a=>a,fun|28=>25|a=>a,fun|a=>a⟩
theorem Tryz.v:Go.Proofs.Lays.n113 Y8 Tryz.j:=la_
def Tryz.slices_Max_int:=Any.slices_Max_int Tryz.v
def Tryz.c:Go.Shelf.Ren:=⟨fun|15=>158|a=>a,fun|22=>25|a=>a,fun|a=>a⟩
theorem Tryz.o:Go.Proofs.Lays2.n15 Y8 Tryz.c:=la_
def Tryz.slices_Clone_int:=Any.slices_Clone_int Tryz.o
def Tryz.e:Go.Shelf.Ren:=⟨fun|25=>275|31=>319|32=>320|37=>203|a=>a,fun|22=>25|40=>243|a=>a,fun|a=>a⟩
theorem Tryz.d:Go.Proofs.Lays2.n25 Y8 Tryz.e:=la_
def Tryz.slices_BinarySearch_int:=Any.slices_BinarySearch_int Tryz.d
def Tryz.slices_BinarySearch_int_empty:=Any.slices_BinarySearch_int_empty Tryz.d
def Tryz.a:Go.Shelf.Ren:=⟨fun|20=>346|a=>a,fun|24=>3|22=>25|25=>27|a=>a,fun|a=>a⟩
theorem Tryz.b:Go.Proofs.SlLaysF.n20 Y8 Tryz.a:=la_
open Go.RowKit Go.Lib Go.Sort in
theorem Tryz.insertionSortCmpFunc_one{m}[Inhabited m] e (q:OneCell e) j (f:H) i d g l h c (b:YZ m) a (o:∀k a,(callFunc f k).run Y8 a=.ok (.enter f k) a)(t:CmpReads Y8 f i e j d g (B b) a)(p:Holds e a d g b)(r:h<=c)(s:c<=B b)(u:B b<4611686018427387904):Calls Y8 346 #[ZH (T ⟨d,g,ZP⟩) (B b) l,ZX ZQ h,ZX ZQ c,YX (.func f) #[] i] a fun n w=>n=ZI (Y5 #[])/\∃v,w=Y1 (putRow e a d g (Sort.insertionSort (ltOf j) b h c)) v:=Any.insertionSortCmpFunc_one Tryz.b e q j f i d g l h c b a o t p r s u
def Tryz.q:Go.Shelf.Ren:=⟨fun|6=>208|15=>150|14=>258|28=>201|29=>202|20=>302|21=>303|22=>304|23=>305|24=>306|25=>307|26=>308|27=>309|46=>332|47=>248|48=>249|49=>333|50=>334|57=>348|a=>a,fun|22=>166|24=>184|25=>240|39=>243|53=>185|55=>306|46=>299|45=>298|50=>238|66=>342|70=>346|76=>374|77=>294|a=>a,fun|a=>a⟩
theorem Tryz.z:Go.Proofs.SlLaysF0.n6 Y8 Tryz.q:=la_
def Tryz.p:Go.Shelf.Ren:=⟨fun|6=>264|15=>150|14=>313|28=>201|29=>202|20=>335|21=>336|22=>337|23=>338|24=>339|25=>340|26=>341|27=>342|46=>349|47=>248|48=>249|49=>350|50=>351|57=>353|a=>a,fun|22=>356|24=>358|25=>360|39=>243|53=>185|55=>306|46=>299|45=>298|50=>238|66=>342|70=>346|76=>374|77=>294|a=>a,fun|a=>a⟩
theorem Tryz.y:Go.Proofs.SlLaysF0.n6 Y8 Tryz.p:=la_
end Go.Proofs
