/- awake answers true and makes new memory alone: one block. -/
import Derived.Test.YtapbjfllcjfpaaaSums
import Derived.Lib.SlBytesConst
namespace Go.Proofs.Ytapbjfllcjfpaaa
open Go.ChangeShapes Go.WideShapes Go.ChangeAt Go.RowKit

def digits : List Int := [49, 50, 51, 52, 53, 54, 55, 56, 57]
theorem digits_sm : uv (sm 0xFFFF#16 digits) = 10673 := by decide +kernel
theorem roll_256 : uv (pw 8 256#16) = 4129 := by decide +kernel
theorem digits_bd : ∀ z ∈ digits, 0 ≤ z ∧ z ≤ 255 := by decide
def digitsObj : Obj := .cells #[.int .u8 49, .int .u8 50, .int .u8 51, .int .u8 52, .int .u8 53, .int .u8 54, .int .u8 55, .int .u8 56, .int .u8 57] 5 (9, 10)
theorem cell_new (w : World) (C : Array Value) (t : TypeId) (fr : Nat × Nat) (o : Nat) : (w.alloc (.cells C t fr)).cell? ⟨w.heap.size, o, none⟩ = C[o]? := by
  have e : (w.alloc (.cells C t fr)).heap[w.heap.size]? = some (.cells C t fr) := by
    show (w.heap.push (.cells C t fr))[w.heap.size]? = _
    simp
  unfold World.cell?
  simp only [e]
  rfl
theorem digits_cell (w : World) (i : Nat) (hi : i < 9) : (w.alloc digitsObj).cell? ⟨w.heap.size, 0 + i, none⟩ = some (.int .u8 (digits[i]?.getD 0)) := by
  unfold digitsObj
  rw [cell_new, Nat.zero_add]
  match i, hi with
  | 0, _ => rfl
  | 1, _ => rfl
  | 2, _ => rfl
  | 3, _ => rfl
  | 4, _ => rfl
  | 5, _ => rfl
  | 6, _ => rfl
  | 7, _ => rfl
  | 8, _ => rfl

end Go.Proofs.Ytapbjfllcjfpaaa
