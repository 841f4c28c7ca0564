/- How many numbers a Kind uses, what is a note: the document's Uses, Good. -/
import Derived.Test.YtgdoagmnhmfjkaaNca
namespace Go.Proofs.Ytgdoagmnhmfjkaa
open Go.ChangeShapes Go.WideShapes Go.ChangeAt Go.RowKit
set_option linter.unusedVariables false

def rus (k : Int) : Int := if us k = 0 then -1 else us k
theorem rus_none {k : Int} (h : us k = 0) : rus k = -1 := by simp [rus, h]
theorem rus_some {k : Int} (h : us k ≠ 0) : rus k = us k := by simp [rus, h]
set_option maxHeartbeats 2000000 in
theorem ruses_any (k : Int) (w : World) : Calls Try.prog 51 #[.int .i64 k] w fun e w' => e = .returned (.int .i64 (rus k)) ∧ Below w.heap.size w w' := by
  by_cases h : 0 ≤ k ∧ k ≤ 8
  · have hk : k = 0 ∨ k = 1 ∨ k = 2 ∨ k = 3 ∨ k = 4 ∨ k = 5 ∨ k = 6 ∨ k = 7 ∨ k = 8 := by omega
    clear h
    rcases hk with rfl | rfl | rfl | rfl | rfl | rfl | rfl | rfl | rfl
    all_goals
      go_enter Try.func51, Try.ntmps51
      go_wp2
      go_ret
      refine ⟨rfl, ?_⟩
      exact below_new w _
  · have hu : us k = 0 := by
      rcases Nat.eq_zero_or_pos (us k) with q | q
      · exact q
      · have := us_pos q; omega
    rw [rus_none hu]
    clear hu
    by_cases h0 : k < 0
    · clear h
      go_enter Try.func51, Try.ntmps51
      go_wp2
      go_ret
      refine ⟨rfl, ?_⟩
      exact below_new w _
    · have h8 : 8 < k := by omega
      clear h
      go_enter Try.func51, Try.ntmps51
      go_wp2
      go_ret
      refine ⟨rfl, ?_⟩
      exact below_new w _
end Go.Proofs.Ytgdoagmnhmfjkaa
