/- Tells. -/
import Derived.Test.YthcdfclhenmleaaDpb
import Derived.BigRegion
import Derived.Deep.RegionWith
namespace Go.Proofs.Ythcdfclhenmleaa
open Go.RowKit
set_option linter.unusedVariables false
section
variable {w0 w : World} {l : List It} {B g k : Nat} {H : Nat × Nat} {S : Pl} {V : Vp} {R : Rp} {a b : Option Addr} {c e n m : Nat} {es : List Ed}
set_option maxRecDepth 100000 in
set_option maxHeartbeats 8000000 in
theorem tellsS (h : Its w0 (.pla B g H n m es S :: .dm w0.heap.size V R k :: l) w) (hR : Rel S R n es) : Calls Try.prog 22 #[.pointer (some ⟨g, 0, none⟩), .agg #[.slice a n c, .slice b m e, .slice V.aS V.nS V.cS, .slice V.aD V.nD V.cD, .slice V.aL V.nL V.cL, .int .i64 R.mv]] w fun r w' => r = .returned (.bool true) ∧ Its w0 (.pla B g H n m es S :: .dm w0.heap.size V R k :: l) w' := by
  have I1 := hide (h.boxN #[.slice a n c, .slice b m e, .slice V.aS V.nS V.cS, .slice V.aD V.nD V.cD, .slice V.aL V.nL V.cL, .int .i64 R.mv] 38 rfl)
  have hlen := pl_len h.one
  have hes : es.length = m := (pl_fact h.one).2
  have K24 : Hid (∀ (W : World) (z : Int), Its w0 (.box w.heap.size #[.slice a n c, .slice b m e, .slice V.aS V.nS V.cS, .slice V.aD V.nD V.cD, .slice V.aL V.nL V.cL, .int .i64 R.mv] 38 :: .pla B g H n m es S :: .dm w0.heap.size V R k :: l) W → Calls Try.prog 24 #[.pointer (some ⟨g, 0, none⟩), .int .i64 z] W fun r9 w' => r9 = .returned (.int .i64 (S.whr z)) ∧ w' = W) := hide (fun W z hW => where_m hW.two z)
  have K31 : Hid (∀ (W : World) (z : Int), Its w0 (.box w.heap.size #[.slice a n c, .slice b m e, .slice V.aS V.nS V.cS, .slice V.aD V.nD V.cD, .slice V.aL V.nL V.cL, .int .i64 R.mv] 38 :: .pla B g H n m es S :: .dm w0.heap.size V R k :: l) W → Calls Try.prog 31 #[.agg #[.slice a n c, .slice b m e, .slice V.aS V.nS V.cS, .slice V.aD V.nD V.cD, .slice V.aL V.nL V.cL, .int .i64 R.mv], .int .i64 z] W fun r9 w' => r9 = .returned (.int .i64 (S.whr z)) ∧ Below W.heap.size W w') := hide (fun W z hW => by have := rwhere_any (a := a) (b := b) (c := c) (e := e) (n := n) (m := m) hW.three z; rwa [hR.whr] at this)
  have K25 : Hid (∀ (W : World) (z : Int), Its w0 (.box w.heap.size #[.slice a n c, .slice b m e, .slice V.aS V.nS V.cS, .slice V.aD V.nD V.cD, .slice V.aL V.nL V.cL, .int .i64 R.mv] 38 :: .pla B g H n m es S :: .dm w0.heap.size V R k :: l) W → Calls Try.prog 25 #[.pointer (some ⟨g, 0, none⟩), .int .i64 z] W fun r9 w' => r9 = .returned (.int .i64 (S.att z)) ∧ w' = W) := hide (fun W z hW => at_m hW.two z)
  have K32 : Hid (∀ (W : World) (z : Int), Its w0 (.box w.heap.size #[.slice a n c, .slice b m e, .slice V.aS V.nS V.cS, .slice V.aD V.nD V.cD, .slice V.aL V.nL V.cL, .int .i64 R.mv] 38 :: .pla B g H n m es S :: .dm w0.heap.size V R k :: l) W → Calls Try.prog 32 #[.agg #[.slice a n c, .slice b m e, .slice V.aS V.nS V.cS, .slice V.aD V.nD V.cD, .slice V.aL V.nL V.cL, .int .i64 R.mv], .int .i64 z] W fun r9 w' => r9 = .returned (.int .i64 (S.att z)) ∧ Below W.heap.size W w') := hide (fun W z hW => by have := rat_any (a := a) (b := b) (c := c) (e := e) (n := n) (m := m) hW.three z; rwa [hR.att] at this)
  have K26 : Hid (∀ (W : World) (z : Int), Its w0 (.box w.heap.size #[.slice a n c, .slice b m e, .slice V.aS V.nS V.cS, .slice V.aD V.nD V.cD, .slice V.aL V.nL V.cL, .int .i64 R.mv] 38 :: .pla B g H n m es S :: .dm w0.heap.size V R k :: l) W → Calls Try.prog 26 #[.pointer (some ⟨g, 0, none⟩), .int .i64 z] W fun r9 w' => r9 = .returned (.bool (S.wrk z)) ∧ w' = W) := hide (fun W z hW => works_m hW.two z)
  have K35 : Hid (∀ (W : World) (z : Int), Its w0 (.box w.heap.size #[.slice a n c, .slice b m e, .slice V.aS V.nS V.cS, .slice V.aD V.nD V.cD, .slice V.aL V.nL V.cL, .int .i64 R.mv] 38 :: .pla B g H n m es S :: .dm w0.heap.size V R k :: l) W → Calls Try.prog 35 #[.agg #[.slice a n c, .slice b m e, .slice V.aS V.nS V.cS, .slice V.aD V.nD V.cD, .slice V.aL V.nL V.cL, .int .i64 R.mv], .int .i64 z] W fun r9 w' => r9 = .returned (.bool (S.wrk z)) ∧ Below W.heap.size W w') := hide (fun W z hW => by have := rworks_any (a := a) (b := b) (c := c) (e := e) (n := n) (m := m) hW.three z; rw [← hes] at this ⊢; rwa [hR.wrk] at this)
  have K23 : Hid (∀ (W : World) (z : Int), Its w0 (.box w.heap.size #[.slice a n c, .slice b m e, .slice V.aS V.nS V.cS, .slice V.aD V.nD V.cD, .slice V.aL V.nL V.cL, .int .i64 R.mv] 38 :: .pla B g H n m es S :: .dm w0.heap.size V R k :: l) W → Calls Try.prog 23 #[.pointer (some ⟨g, 0, none⟩)] W fun r9 w' => r9 = .returned (.int .i64 R.mv) ∧ w' = W) := hide (fun W z hW => by have := moves_m hW.two; rwa [← hR.mv] at this)
  have i0 : (n : Int) ≤ 40 := by omega
  have i1 : (m : Int) ≤ 120 := by omega
  have hm0 : (0 : Int) ≤ (m : Int) := by omega
  have hn0 : (0 : Int) ≤ (n : Int) := by omega
  have rmv : (R.mv == R.mv) = true := by simp
  clear h hR hlen hes
  obtain ⟨aS, nS, cS, aD, nD, cD, aL, nL, cL⟩ := V
  dsimp only at *
  generalize R.mv = mv at *
  go_enter Try.func22, Try.ntmps22
  go_upto_region 1 with fail
  generalize w.alloc (.cells #[.slice a n c, .slice b m e, .slice aS nS cS, .slice aD nD cD, .slice aL nL cL, .int .i64 mv] 38) = W1 at *
  go_wp2_with fail
  go_loopw [5] (fun v5 wr => ∃ z : Int, v5 = .int .i64 z ∧ -1 ≤ z ∧ z ≤ 31 + 1 ∧ Hid (Its w0 (.box w.heap.size #[.slice a n c, .slice b m e, .slice aS nS cS, .slice aD nD cD, .slice aL nL cL, .int .i64 mv] 38 :: .pla B g H n m es S :: .dm w0.heap.size ⟨aS, nS, cS, aD, nD, cD, aL, nL, cL⟩ R k :: l) wr)) (fun v5 _ => (31 + 1 - intOf v5).toNat)
  case atStart => exact ⟨-1, rfl, by omega, by omega, I1⟩
  case round =>
  clear I1
  obtain ⟨z, rfl, hz1, hz2, HR⟩ := hrel
  obtain ⟨c0, c1, c2, c3, c4, c5, cf⟩ := Its.cells6 HR.out
  by_cases hz : z ≤ 31
  case pos =>
    have HD : Hid (Its w0 (.box w.heap.size #[.slice a n c, .slice b m e, .slice aS nS cS, .slice aD nD cD, .slice aL nL cL, .int .i64 mv] 38 :: .pla B g H n m es S :: .dm w0.heap.size ⟨aS, nS, cS, aD, nD, cD, aL, nL, cL⟩ R k :: l) wr.drew) := hide (HR.out.drew 1)
    have rx : (S.whr z == S.whr z) = true := by simp
    have k1 := hide (fun (W : World) hW => K24.out W z hW)
    have k2 := hide (fun (W : World) hW => K31.out W z hW)
    generalize S.whr z = val at *
    go_upto_region 4 with fail
    go_region_with (first
      | (go_at_call 24; refine (k1.out _ HD.out).mono ?_; rintro e1 W7 ⟨rfl, rfl⟩)
      | (go_at_call 31; refine (k2.out _ HD.out).mono ?_; rintro e1 W8 ⟨rfl, q⟩; have H8 := hide (HD.out.keep q); clear q))
    all_goals go_wp2_with fail
    all_goals go_roundw
    all_goals first
      | exact ⟨z + 1, by go_num, by omega, by omega, H8⟩
      | (simp [intOf]; omega)
  case neg =>
  clear c0 c1 c2 c3 c4 c5 cf
  obtain ⟨zA, rfl⟩ : ∃ zA, zA = z := ⟨_, rfl⟩
  obtain ⟨wA, rfl⟩ : ∃ W, W = wr := ⟨_, rfl⟩
  obtain ⟨c0, c1, c2, c3, c4, c5, cf⟩ := Its.cells6 HR.out
  have I2 := hide HR.out
  go_wp2_with fail
  go_loopw [6] (fun v6 wr => ∃ z : Int, v6 = .int .i64 z ∧ -1 ≤ z ∧ z ≤ (n : Int) + 1 ∧ Hid (Its w0 (.box w.heap.size #[.slice a n c, .slice b m e, .slice aS nS cS, .slice aD nD cD, .slice aL nL cL, .int .i64 mv] 38 :: .pla B g H n m es S :: .dm w0.heap.size ⟨aS, nS, cS, aD, nD, cD, aL, nL, cL⟩ R k :: l) wr)) (fun v6 _ => ((n : Int) + 1 - intOf v6).toNat)
  case atStart => exact ⟨-1, rfl, by omega, by omega, I2⟩
  case round =>
  clear I2
  obtain ⟨z, rfl, hz1, hz2, HR⟩ := hrel
  obtain ⟨c0, c1, c2, c3, c4, c5, cf⟩ := Its.cells6 HR.out
  by_cases hz : z ≤ (n : Int)
  case pos =>
    have HD : Hid (Its w0 (.box w.heap.size #[.slice a n c, .slice b m e, .slice aS nS cS, .slice aD nD cD, .slice aL nL cL, .int .i64 mv] 38 :: .pla B g H n m es S :: .dm w0.heap.size ⟨aS, nS, cS, aD, nD, cD, aL, nL, cL⟩ R k :: l) wr.drew) := hide (HR.out.drew 1)
    have rx : (S.att z == S.att z) = true := by simp
    have k1 := hide (fun (W : World) hW => K25.out W z hW)
    have k2 := hide (fun (W : World) hW => K32.out W z hW)
    generalize S.att z = val at *
    go_upto_region 9 with fail
    go_region_with (first
      | (go_at_call 25; refine (k1.out _ HD.out).mono ?_; rintro e1 W7 ⟨rfl, rfl⟩)
      | (go_at_call 32; refine (k2.out _ HD.out).mono ?_; rintro e1 W8 ⟨rfl, q⟩; have H8 := hide (HD.out.keep q); clear q))
    all_goals go_wp2_with fail
    all_goals go_roundw
    all_goals first
      | exact ⟨z + 1, by go_num, by omega, by omega, H8⟩
      | (simp [intOf]; omega)
  case neg =>
  clear c0 c1 c2 c3 c4 c5 cf
  obtain ⟨zB, rfl⟩ : ∃ zB, zB = z := ⟨_, rfl⟩
  obtain ⟨wB, rfl⟩ : ∃ W, W = wr := ⟨_, rfl⟩
  obtain ⟨c0, c1, c2, c3, c4, c5, cf⟩ := Its.cells6 HR.out
  have I3 := hide HR.out
  go_wp2_with fail
  go_loopw [7] (fun v7 wr => ∃ z : Int, v7 = .int .i64 z ∧ -1 ≤ z ∧ z ≤ ((m : Int) + 1) + 1 ∧ Hid (Its w0 (.box w.heap.size #[.slice a n c, .slice b m e, .slice aS nS cS, .slice aD nD cD, .slice aL nL cL, .int .i64 mv] 38 :: .pla B g H n m es S :: .dm w0.heap.size ⟨aS, nS, cS, aD, nD, cD, aL, nL, cL⟩ R k :: l) wr)) (fun v7 _ => (((m : Int) + 1) + 1 - intOf v7).toNat)
  case atStart => exact ⟨-1, rfl, by omega, by omega, I3⟩
  case round =>
  clear I3
  obtain ⟨z, rfl, hz1, hz2, HR⟩ := hrel
  obtain ⟨c0, c1, c2, c3, c4, c5, cf⟩ := Its.cells6 HR.out
  by_cases hz : z ≤ (m : Int) + 1
  case pos =>
    have HD : Hid (Its w0 (.box w.heap.size #[.slice a n c, .slice b m e, .slice aS nS cS, .slice aD nD cD, .slice aL nL cL, .int .i64 mv] 38 :: .pla B g H n m es S :: .dm w0.heap.size ⟨aS, nS, cS, aD, nD, cD, aL, nL, cL⟩ R k :: l) wr.drew) := hide (HR.out.drew 1)
    have rx : (S.wrk z == S.wrk z) = true := by simp
    have k1 := hide (fun (W : World) hW => K26.out W z hW)
    have k2 := hide (fun (W : World) hW => K35.out W z hW)
    generalize S.wrk z = val at *
    go_upto_region 14 with fail
    go_region_with (first
      | (go_at_call 26; refine (k1.out _ HD.out).mono ?_; rintro e1 W7 ⟨rfl, rfl⟩)
      | (go_at_call 35; refine (k2.out _ HD.out).mono ?_; rintro e1 W8 ⟨rfl, q⟩; have H8 := hide (HD.out.keep q); clear q))
    all_goals go_wp2_with fail
    all_goals go_roundw
    all_goals first
      | exact ⟨z + 1, by go_num, by omega, by omega, H8⟩
      | (simp [intOf]; omega)
  case neg =>
  go_upto_region 16 with fail
  go_quiet ((go_at_call 23; exact Calls.quiet_of_same (K23.out _ 0 (HR.out.drew _))))
  have H9 := hide (HR.out.drew nq)
  go_wp2_with fail
  go_ret
  exact ⟨by first | rfl | simp, H9.out.tail⟩
end
end Go.Proofs.Ythcdfclhenmleaa
