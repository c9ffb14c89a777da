import Derived.Test.YtfcgnpchbcmdeaaGreatZsaj
open Go.Proofs.Tryz renaming prog->Y8
namespace Go.Proofs
open Go.Shelf List Nat Go.World Go.Proofs.Tryz Go.Value Go.IntKind Go.Lib Go.Region
def Tryz.q:Go.Shelf.Ren:=⟨fun|6=>208|15=>150|14=>258|28=>201|29=>202|20=>302|21=>303|22=>304|23=>305|24=>306|25=>307|26=>308|27=>309|46=>332|47=>248|48=>249|49=>333|50=>334|57=>348|a=>a,fun|22=>166|24=>184|25=>240|39=>243|53=>185|55=>306|46=>299|45=>298|50=>238|66=>342|70=>346|76=>374|77=>294|a=>a,fun|a=>a⟩
theorem Tryz.z:Go.Proofs.SlLaysF0.n6 Y8 Tryz.q:=la_
def Tryz.p:Go.Shelf.Ren:=⟨fun|6=>264|15=>150|14=>313|28=>201|29=>202|20=>335|21=>336|22=>337|23=>338|24=>339|25=>340|26=>341|27=>342|46=>349|47=>248|48=>249|49=>350|50=>351|57=>353|a=>a,fun|22=>356|24=>358|25=>360|39=>243|53=>185|55=>306|46=>299|45=>298|50=>238|66=>342|70=>346|76=>374|77=>294|a=>a,fun|a=>a⟩
theorem Tryz.y:Go.Proofs.SlLaysF0.n6 Y8 Tryz.p:=la_
end Go.Proofs
