/- The library's contract of slices.Compact, laid at this program (tables of numbers, a field a fact). -/
import Derived.Test.YtmmkfcmbmecleaaLng
import Derived.Shelf.SlicesE.Compact
import Derived.Shelf.SlGeneric
import Derived.Ground.SlgnProg
namespace Go.Proofs
open Go.Shelf
def Ytmmkfcmbmecleaa.compL_ren : Go.Shelf.Ren := ⟨fun | 43 => 32 | n => n, fun | 22 => 26 | 23 => 3 | 3 => 3 | 4 => 4 | 0 => 0 | n => n, fun | n => n⟩
theorem Ytmmkfcmbmecleaa.compL : Go.Proofs.SlLaysE.n43 Try.prog Ytmmkfcmbmecleaa.compL_ren := {
  mixed := by kernel_rfl
  f43 := ⟨Try.f32.name, by decide, Try.func32.trans (congrArg some (by kernel_rfl))⟩
  t0 := Try.underlying0
  a0 := Try.isAgg0
  z0 := Try.sizeOf0
  v0 := Try.zeroValue0
  t3 := Try.underlying3
  a3 := Try.isAgg3
  z3 := Try.sizeOf3
  v3 := Try.zeroValue3
  t4 := Try.underlying4
  a4 := Try.isAgg4
  z4 := Try.sizeOf4
  v4 := Try.zeroValue4
  t22 := Try.underlying26
  a22 := Try.isAgg26
  z22 := Try.sizeOf26
  v22 := Try.zeroValue26
  a23 := Try.isAgg3
  z23 := Try.sizeOf3 }
end Go.Proofs
