/- What is wrong with a telegram: the document's Check. -/
import Derived.Test.YtglleofhcokeiaaTele
namespace Go.Proofs.Ytglleofhcokeiaa
open Go.ChangeShapes Go.WideShapes Go.ChangeAt Go.RowKit

set_option maxHeartbeats 2000000 in
set_option maxRecDepth 100000 in
theorem rcheck_any (k d s a b : Int) (w : World) (hk : 0 ≤ k ∧ k ≤ 255) (ha : 0 ≤ a ∧ a ≤ 65535) (hb : 0 ≤ b ∧ b ≤ 65535) :
    Calls Try.prog 10 #[.agg #[.int .u8 k, .int .u16 d, .int .u16 s, .int .u16 a, .int .u16 b]] w fun e w' => e = .returned (.int .i64 (chk ⟨k, d, s, a, b⟩)) ∧ Below w.heap.size w w' := by
  by_cases h1 : 1 ≤ k ∧ k ≤ 7
  · have hk : k = 1 ∨ k = 2 ∨ k = 3 ∨ k = 4 ∨ k = 5 ∨ k = 6 ∨ k = 7 := by omega
    clear h1
    rcases hk with rfl | rfl | rfl | rfl | rfl | rfl | rfl
    all_goals
      go_enter Try.func10, Try.ntmps10
      go_wp2_with fail
      go_quiet (fail)
      go_wp2_with fail
      all_goals go_ret
      all_goals refine ⟨ret_int ?_, ((Below.refl _ _).alloc (Nat.le_refl _) _).drewN _⟩
      all_goals (unfold chk fit wi; simp [*]; try omega)
  · have hw : Hid (chk ⟨k, d, s, a, b⟩ = 23) := by simp only [Hid, chk, wi, h1]; rfl
    by_cases h : 1 ≤ k
    · have h7 : ¬ k ≤ 7 := by omega
      clear h1
      go_enter Try.func10, Try.ntmps10
      go_wp2_with fail
      go_ret
      exact ⟨ret_int hw.out.symm, (Below.refl _ _).alloc (Nat.le_refl _) _⟩
    · clear h1
      go_enter Try.func10, Try.ntmps10
      go_wp2_with fail
      go_ret
      exact ⟨ret_int hw.out.symm, (Below.refl _ _).alloc (Nat.le_refl _) _⟩

end Go.Proofs.Ytglleofhcokeiaa
