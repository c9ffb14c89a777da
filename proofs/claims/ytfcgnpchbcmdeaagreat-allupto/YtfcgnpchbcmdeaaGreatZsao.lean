import Derived.Test.YtfcgnpchbcmdeaaGreatZsaj
open _root_ renaming Nat->H,rfl->X
open Array renaming size->B
open Option renaming some->T,none->ZP
open Go renaming World->ZT
open Go.Value renaming slice->ZH
open Go.World renaming ownsRow->ZD,cell?->ZV
namespace Go.Proofs.YtfcgnpchbcmdeaaGreat
set_option linter.all false
open Go.RowKit List Nat Go.World Go.Proofs.Tryz Go.Value Go.IntKind Go.Lib Go.Region
theorem Gg{f:ZT}{g h j a:H}{e k}(i:ZD f g h j e a k):∃c d,e=ZH c a d/\(0<a->∃b,c=T ⟨b,0,ZP⟩/\b<B f.1):=by
 rcases i.2 with⟨rfl,m⟩|⟨b,d,l,rfl,_,n,_⟩
 ·grind
 grind
theorem Hn{d:ZT}{f g c j b:H}{e}(h:ZD d f g 1 (L_ b c j) c e){a x}(i:e[a]? =T x):ZV d (J b a)=T x:=by
 have:=World.ownsRow.cells h (g:=b) X a x i;have k:((J b 0):Addr).add a=(J b a):=by unfold Addr.add;split<;>simp_all
 grind
end Go.Proofs.YtfcgnpchbcmdeaaGreat
