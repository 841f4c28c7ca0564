/- awake answers true and makes new memory alone. -/
import Derived.Test.YtfldllmehelngabNwr
namespace Go.Proofs.Ytfldllmehelngab
open Go.ChangeShapes Go.WideShapes Go.ChangeAt Go.RowKit
set_option linter.unusedVariables false

theorem num300 : num 300 = [172, 2] := by rw [num_high (by omega), num_low (by omega)]; rfl
theorem body300 : (Nt.mk 3 300 0 0).body = [3, 172, 2] := by
  unfold Nt.body
  rw [show (Nt.mk 3 300 0 0).vs = [300] from rfl, List.flatMap_singleton, num300]
theorem bts300 : (Nt.mk 3 300 0 0).bts.length = 6 ∧ (Nt.mk 3 300 0 0).bts.take 4 = [3, 3, 172, 2] := by
  refine ⟨by rw [bts_len, body300]; rfl, ?_⟩
  unfold Nt.bts Nt.head
  rw [body300]
  rfl
theorem strB : (str [3, 3, 172, 2]).toList = [3, 3, 172, 2] := by
  rw [ByteArray.toList_eq]
  exact str_list _

set_option maxHeartbeats 2000000 in
theorem awake_any (w : World) : Calls Try.prog 4 #[] w fun e w' => e = .returned (.bool true) ∧ Below w.heap.size w w' := by
  have k12 : ∀ W, Calls Try.prog 10 #[.agg #[.int .i64 8, .int .i64 1, .int .i64 2, .int .i64 0]] W fun e w' => e = .returned (.int .i64 180) ∧ Below W.heap.size W w' := fun W => by
    have := check_any 8 1 2 0 W
    rw [show (Nt.mk 8 1 2 0).code = 180 by decide] at this
    exact this
  have K12 := hide k12
  have K10 := hide (fun W => encode_yes 3 300 0 0 W (by decide))
  clear k12
  go_enter Try.func4, Try.ntmps4
  go_upto_region 2 with (go_at_call 9; refine (K10.out _).mono ?_; rintro e w1 ⟨v, rfl, hown, hb⟩)
  obtain ⟨hl, ht⟩ := bts300
  obtain ⟨g, cap, rfl, hg1, hg2⟩ := El.Own.some hown (bts_pos _)
  rw [hl] at hown hg1 ⊢
  have hc : (convert 22 9 (.slice (some ⟨g, 0, none⟩) 4 cap)).run Try.prog w1 = .ok (.string (str [3, 3, 172, 2])) w1 := by
    have := El.Rd.take hown.rd 4 (by rw [hl]; omega)
    rw [ht] at this
    exact conv_str this
  have hs := strB
  have g6 : (6 : Int) ≤ (cap : Int) := by omega
  have g4 : (4 : Int) ≤ (cap : Int) := by omega
  have Hb := hide hb
  clear hown hg1 hg2 hb hl ht K10
  go_wp2_with (go_at_call 10; refine (K12.out _).mono ?_; rintro e w2 ⟨rfl, hb2⟩)
  go_ret
  exact ⟨rfl, Hb.out.trans (hb2.mono Hb.out.size)⟩
end Go.Proofs.Ytfldllmehelngab
