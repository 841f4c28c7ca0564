/- awake answers true and makes new memory alone. -/
import Derived.Test.YtapbjfllcjfpaaaDec
import Derived.Test.YtapbjfllcjfpaaaTurn
namespace Go.Proofs.Ytapbjfllcjfpaaa
open Go.ChangeShapes Go.WideShapes Go.ChangeAt Go.RowKit


set_option maxHeartbeats 2000000 in
theorem tawake_any (w : World) : Calls Try.prog 4 #[] w fun e w' => e = .returned (.bool true) ∧ Below w.heap.size w w' := by
  have k1 : ∀ W, Calls Try.prog 8 #[.agg #[.int .u8 9, .int .u16 0, .int .u16 0, .int .u16 0, .int .u16 0]] W fun e w' => e = .returned (.int .i64 23) ∧ Below W.heap.size W w' := fun W => check_any _ _ _ _ _ W
  have k2 : ∀ W, Calls Try.prog 8 #[.agg #[.int .u8 6, .int .u16 0, .int .u16 0, .int .u16 0, .int .u16 0]] W fun e w' => e = .returned (.int .i64 24) ∧ Below W.heap.size W w' := fun W => check_any _ _ _ _ _ W
  have k3 := encode_yes 1 1 2 3 0 w (by decide) (by unfold Tl.In; simp)
  have K1 := hide k1
  have K2 := hide k2
  have K3 := hide k3
  clear k1 k2 k3
  go_enter Try.func4, Try.ntmps4
  go_upto_region 2 with (go_at_call 5; refine K3.out.mono ?_; rintro e w1 ⟨v, rfl, hown, hb⟩)
  obtain ⟨g, cap, rfl, hg1, hg2⟩ := World.ownsRow.form hown (by decide)
  have c0 := (hown.cell (i := 0) (by decide)).1
  have c7 := (hown.cell (i := 7) (by decide)).1
  rw [show (enc ⟨1, 1, 2, 3, 0⟩)[0]?.getD 0 = 165 from rfl] at c0
  rw [show (enc ⟨1, 1, 2, 3, 0⟩)[7]?.getD 0 = 3 from rfl] at c7
  rw [show (enc ⟨1, 1, 2, 3, 0⟩).length = 12 from rfl]
  have Hb := hide hb
  clear hown hg1 hg2 hb
  go_wp2_with (first | (go_at_call_of 8 (Value.agg #[.int .u8 9, .int .u16 0, .int .u16 0, .int .u16 0, .int .u16 0]); refine (K1.out _).mono ?_; rintro e w2 ⟨rfl, hb2⟩) | (go_at_call_of 8 (Value.agg #[.int .u8 6, .int .u16 0, .int .u16 0, .int .u16 0, .int .u16 0]); refine (K2.out _).mono ?_; rintro e w3 ⟨rfl, hb3⟩))
  go_ret
  exact ⟨rfl, (Hb.out.trans (hb2.mono Hb.out.size)).trans (hb3.mono (Nat.le_trans Hb.out.size hb2.size))⟩

end Go.Proofs.Ytapbjfllcjfpaaa
