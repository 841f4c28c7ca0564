/- awake answers true and changes nothing. -/
import Derived.Test.YtacbhdaiaihmeabNums
namespace Go.Proofs.Ytacbhdaiaihmeab
open Go.ChangeShapes Go.WideShapes Go.ChangeAt Go.RowKit

theorem lik_ex : lik 65540 65535 = 65535 := by decide
theorem dst_ex : dst 65535 0 = 1 := by decide
theorem dst_ex2 : dst 0 32768 = -32768 := by decide
theorem up_ex : decide (up 65535 1 < 3) = true := by decide


set_option maxHeartbeats 1000000 in
theorem awake_any (w : World) : Calls Try.prog 4 #[] w fun e w' => e = .returned (.bool true) ∧ w' = w := by
  have k15 := fun W => likely_any 65540 65535 W (by omega)
  rw [lik_ex] at k15
  have k9 := fun W => dist_any 65535 0 W
  rw [dst_ex] at k9
  have k9' := fun W => dist_any 0 32768 W
  rw [dst_ex2] at k9'
  have k13 := fun W => within_any 1 65535 3 W
  rw [up_ex] at k13
  have K15 := hide k15
  have K9 := hide k9
  have K9' := hide k9'
  have K13 := hide k13
  clear k15 k9 k9' k13
  go_enter Try.func4, Try.ntmps4
  go_wp2_with (first
    | (go_at_call 8; refine (K15.out _).mono ?_; rintro e w' ⟨rfl, rfl⟩)
    | (go_at_call 9; refine (K9.out _).mono ?_; rintro e w' ⟨rfl, rfl⟩)
    | (go_at_call 9; refine (K9'.out _).mono ?_; rintro e w' ⟨rfl, rfl⟩)
    | (go_at_call 5; refine (K13.out _).mono ?_; rintro e w' ⟨rfl, rfl⟩))
  go_ret
  exact ⟨rfl, rfl⟩
end Go.Proofs.Ytacbhdaiaihmeab
