/-
  The library's contracts, laid over this seat by the kit's own tools (lay-shelf.mjs, lay-plain.mjs); nothing else.
-/
import Derived.Shelf.SlMaps.Clone
import Derived.Shelf.SlMaps.Equal
import Derived.Shelf.Lay
import Derived.Shelf.LaySoft
import Derived.Test.YtnbbepkkedhhgaaDoorProg
namespace Go.Proofs
open Go.Shelf
def Tryd.mclone_ren : Go.Shelf.Ren := ⟨fun | 5 => 17 | 7 => 23 | n => n, fun | 23 => 24 | 25 => 3 | 3 => 46 | 4 => 4 | 20 => 20 | n => n, fun | n => n⟩
theorem Tryd.mclone : Go.Proofs.SlLaysW.n5 Tryd.prog Tryd.mclone_ren := {
  mixed := by kernel_rfl
  f5 := ⟨Tryd.f17.name, by decide, Tryd.func17.trans (congrArg some (by kernel_rfl))⟩
  f7 := Tryd.func23.trans (congrArg some (by kernel_rfl))
  t4 := Tryd.underlying4
  a4 := Tryd.isAgg4
  z4 := Tryd.sizeOf4
  v4 := Tryd.zeroValue4
  t20 := Tryd.underlying20
  a20 := Tryd.isAgg20
  z20 := Tryd.sizeOf20
  v20 := Tryd.zeroValue20
  t23 := Tryd.underlying24
  a23 := Tryd.isAgg24
  z23 := Tryd.sizeOf24
  v23 := Tryd.zeroValue24 }
end Go.Proofs
