/- The types of elements: bytes, strings, pieces, integers. -/
import Derived.Test.YteihajppgooadaaRowg
namespace Go.Proofs.Yteihajppgooadaa
open Go.RowKit
def bytesE : El Try.prog Int where
  t := 36
  e := 5
  k := 1
  by' := 1
  z := .int .u8 0
  enc x := [.int .u8 x]
  ht := Try.underlying36
  info := by kernel_rfl
  zc := rfl
  kpos := by omega
  bsm := by omega
  len _ := rfl
  one x v hv := by simp at hv; subst hv; rfl
end Go.Proofs.Yteihajppgooadaa
