/- The walk of TapeBudget. -/
import Derived.Test.YtgdoagmnhmfjkaaTbm
import Derived.Test.YtgdoagmnhmfjkaaNag
namespace Go.Proofs.Ytgdoagmnhmfjkaa.tapeBudget
open Go.ChangeShapes Go.WideShapes Go.ChangeAt Go.RowKit
set_option linter.unusedVariables false

set_option maxRecDepth 100000 in
set_option maxHeartbeats 2000000 in
theorem walk (x y : Int) (w0 : World) (hx : -9223372036854775808 ≤ x ∧ x ≤ 9223372036854775807) (hy : -9223372036854775808 ≤ y ∧ y ≤ 9223372036854775807) :
    Calls Try.prog 8 #[.int .i64 x, .int .i64 y] w0 fun e w' => e = .returned (.bool true) ∧ Below w0.heap.size w0 w' := by
  have K9 := hide (newS (Its.nil w0))
  have KA : Hid (∀ W l, Its w0 l W → Calls Try.prog 11 #[] W fun e w' => e = .returned (.bool true) ∧ Its w0 l w') := hide (fun W l hW => awakeS hW)
  obtain ⟨N, hN1, hN2, hN3⟩ := mod_is x 300 (by decide) (by decide)
  obtain ⟨M, hM1, hM2, hM3⟩ := mod_is y 60 (by decide) (by decide)
  rw [show ((300 : Nat) : Int) = 300 from rfl] at hN1 hN2
  rw [show ((60 : Nat) : Int) = 60 from rfl] at hM1 hM2
  obtain ⟨C, hC1, hC2⟩ := made_n M (by omega)
  have HC2 := hide hC2
  clear hC2 hx hy
  go_enter Try.func8, Try.ntmps8
  go_upto_region 4 with (first
    | (go_at_call 11; refine (KA.out _ _ h1).mono ?_; rintro e w2 ⟨rfl, h2⟩)
    | (go_at_call 9; refine K9.out.mono ?_; rintro e w1 ⟨g, H1, rfl, h1⟩))
  have HI := hide h2
  clear h1 h2 K9 KA
  go_upto_region 5 with fail
  go_upto_region 6 with fail
  have I1 := HI.out.fresh (HC2.out w2) (below_new w2 (.cells C 43))
  generalize w2.alloc (.cells C 43) = W2 at *
  generalize w2.heap.size = b at *
  have HI := hide I1
  clear I1 HC2 hC1
  go_upto_region 7 with fail
  go_loopw [29] (fun i wr => Hid (∃ (k : Nat), k ≤ M ∧ i = .int .i64 k ∧ Its w0 (.row ntE w0.heap.size (.slice (some ⟨b, 0, none⟩) M M) (fil k M) :: [.tape w0.heap.size g H1 Tp.nw]) wr)) (fun i _ => M - (intOf i).toNat)
  case atStart => exact hide ⟨0, Nat.zero_le _, rfl, by rw [fil_zero]; exact HI.out⟩
  case round =>
    obtain ⟨k, hk, rfl, hI⟩ := hrel.out
    have HI := hide hI
    clear hrel hI
    by_cases hlt : k < M
    · obtain ⟨b', off', e', c0, c1, c2, c3⟩ := nt_at (El.Own.rd HI.out.one) k nz (fil_at hlt)
      simp only [Option.some.injEq, Addr.mk.injEq] at e'
      obtain ⟨rfl, rfl, _⟩ := e'
      rw [Nat.zero_add] at c0 c1 c2 c3
      have fz : ∀ j, j < 4 → wr.frozen? ⟨b, k * 4 + j, none⟩ = false := fun j hj => (El.Own.cell HI.out.one (k * 4 + j) (by rw [fil_len hk]; show k * 4 + j < M * 4; omega)).2.1
      have f0 : wr.frozen? ⟨b, k * 4, none⟩ = false := fz 0 (by omega)
      have f1 := fz 1 (by omega)
      have f2 := fz 2 (by omega)
      have f3 := fz 3 (by omega)
      have HN : Hid (Its w0 (.row ntE w0.heap.size (.slice (some ⟨b, 0, none⟩) M M) (fil (k + 1) M) :: [.tape w0.heap.size g H1 Tp.nw]) ((((wr.setCell ⟨b, k * 4, none⟩ (.int .i64 3)).setCell ⟨b, k * 4 + 1, none⟩ (.int .i64 (k : Int))).setCell ⟨b, k * 4 + 2, none⟩ (.int .i64 0)).setCell ⟨b, k * 4 + 3, none⟩ (.int .i64 0))) := hide (by
        have := Its.nput HI.out (fil_at hlt) 3 (k : Int) 0 0
        rw [← fil_set hlt]
        exact this)
      have j0 : (0 : Int) ≤ (k : Int) := by omega
      have j1 : (k : Int) < (M : Int) := by omega
      clear fz
      go_wp2_with fail
      go_roundw
      case rel => exact hide ⟨k + 1, by omega, by go_num, HN.out⟩
      case measure => simp [intOf]; omega
    · have e := show k = M by omega
      have j1 : ¬ ((k : Int) < (M : Int)) := by omega
      have I2 := HI.out.swap
      rw [e] at I2
      have HE : Hid (Each 5 (fil M M)) := hide (fil_each (by omega))
      have HLL : Hid ((fil M M).length = M) := hide (fil_len (Nat.le_refl _))
      clear e HI hk
      generalize fil M M = LS at *
      have HI := hide I2
      clear I2
      have KA1 : Hid (∀ (k3 : Nat), k3 ≤ M → k3 ≤ 3 → ∃ T1, (∀ W, Its w0 (.tape w0.heap.size g H1 Tp.nw :: .row ntE w0.heap.size (.slice (some ⟨b, 0, none⟩) M M) LS :: []) W → Calls Try.prog 14 #[.pointer (some ⟨g, 0, none⟩), .slice (some ⟨b, 0, none⟩) k3 M] W fun e w' => e = .returned (.int .i64 0) ∧ ∃ H', Its w0 (.tape w0.heap.size g H' T1 :: .row ntE w0.heap.size (.slice (some ⟨b, 0, none⟩) M M) LS :: []) w') ∧ T1.Free ∧ T1.now.length = 5 * k3 ∧ Rds T1.now (LS.take k3) []) := hide (fun k3 h1 h2 => by
        have ht := (HE.out.take k3).tot
        have hlk : (LS.take k3).length = k3 := by rw [List.length_take, HLL.out]; omega
        rw [hlk] at ht
        obtain ⟨T1, e1, f1, q1⟩ := app_free free_nw (HE.out.take k3).all (by show 0 + _ ≤ _; omega)
        have q2 : T1.now = (LS.take k3).flatMap Nt.bts := q1
        refine ⟨T1, fun W hW => ?_, f1, by rw [q2]; exact ht, by rw [q2]; exact rds_flat (HE.out.take k3).all⟩
        have := appendS hW (a := some ⟨b, 0, none⟩) (N := k3) (c := M) (ns := LS.take k3) ((El.Own.rd hW.two).take k3 (by rw [HLL.out]; exact h1)) hlk (by omega) (show Rds Tp.nw.now [] [] from rds_zero)
        rw [e1] at this
        exact this)
      by_cases h3 : 3 < M
      · have h3i : (3 : Int) < (M : Int) := by omega
        obtain ⟨T1, hK, hF, hL, hR⟩ := KA1.out 3 (by omega) (by omega)
        have K14 := hide hK
        have KZ1 : Hid (∀ W H l, Its w0 (.tape w0.heap.size g H T1 :: l) W → Calls Try.prog 25 #[.pointer (some ⟨g, 0, none⟩)] W fun e w' => e = .returned (.int .i64 15) ∧ Its w0 (.tape w0.heap.size g H T1 :: l) w') := hide (fun W H l hW => by
          have := sizeS hW
          rw [hL, show ((5 * 3 : Nat) : Int) = 15 by omega] at this
          exact this)
        have K12 : Hid (∀ W H l, Its w0 (.tape w0.heap.size g H T1 :: l) W → Calls Try.prog 12 #[.pointer (some ⟨g, 0, none⟩), .int .i64 (N : Int)] W fun e w' => e = .returned (.int .i64 0) ∧ Its w0 (.tape w0.heap.size g H (Tp.mk T1.A T1.cn true N T1.dd) :: l) w') := hide (fun W H l hW => by
          have := armS hW (N : Int)
          rw [arm_ok hF.2 (k := N) (by omega)] at this
          exact this)
        have KZ2 : Hid (∀ W H l, Its w0 (.tape w0.heap.size g H (Tp.mk T1.A T1.cn true N T1.dd) :: l) W → Calls Try.prog 25 #[.pointer (some ⟨g, 0, none⟩)] W fun e w' => e = .returned (.int .i64 15) ∧ Its w0 (.tape w0.heap.size g H (Tp.mk T1.A T1.cn true N T1.dd) :: l) w') := hide (fun W H l hW => by
          have := sizeS hW
          rw [show (Tp.mk T1.A T1.cn true N T1.dd).now.length = 5 * 3 from hL, show ((5 * 3 : Nat) : Int) = 15 by omega] at this
          exact this)
        clear hK KA1
        by_cases h5 : 5 * M ≤ N
        · have h5' : 5 * (M : Int) ≤ (N : Int) := by omega
          obtain ⟨T3, e3, l3, r3⟩ := bud_yes hF hR HE.out (N := N) hL (by rw [HLL.out]; exact h5) (by rw [HLL.out]; omega)
          rw [HLL.out] at l3
          have hgl : (LS.take 3 ++ LS).length = M + 3 := by rw [List.length_append, List.length_take, HLL.out]; omega
          have KZ3 : Hid (∀ W H l, Its w0 (.tape w0.heap.size g H T3 :: l) W → Calls Try.prog 25 #[.pointer (some ⟨g, 0, none⟩)] W fun e w' => e = .returned (.int .i64 (15 + 5 * (M : Int))) ∧ Its w0 (.tape w0.heap.size g H T3 :: l) w') := hide (fun W H l hW => by
            have := sizeS hW
            rw [l3, show ((5 * 3 + 5 * M : Nat) : Int) = 15 + 5 * (M : Int) by omega] at this
            exact this)
          have K24 : Hid (∀ W H l, Its w0 (.tape w0.heap.size g H T3 :: l) W → Calls Try.prog 24 #[.pointer (some ⟨g, 0, none⟩)] W fun e w' => ∃ a c, e = .returned (.slice a (M + 3) c) ∧ Its w0 l w') := hide (fun W H l hW => (readS hW r3).mono (by
            intro e w' h
            obtain ⟨a, c, rfl, h2⟩ := h.form
            rw [hgl]
            exact ⟨a, c, rfl, h2.tail.tail⟩))
          have K14b : Hid (∀ W H, Its w0 (.tape w0.heap.size g H (Tp.mk T1.A T1.cn true N T1.dd) :: .row ntE w0.heap.size (.slice (some ⟨b, 0, none⟩) M M) LS :: []) W → Calls Try.prog 14 #[.pointer (some ⟨g, 0, none⟩), .slice (some ⟨b, 0, none⟩) M M] W fun e w' => e = .returned (.int .i64 0) ∧ ∃ H', Its w0 (.tape w0.heap.size g H' T3 :: .row ntE w0.heap.size (.slice (some ⟨b, 0, none⟩) M M) LS :: []) w') := hide (fun W H hW => by
            have := appendS hW (El.Own.rd hW.two) HLL.out (by omega) (show Rds (Tp.mk T1.A T1.cn true N T1.dd).now (LS.take 3) [] from hR)
            rw [e3] at this
            exact this)
          clear hF hL hR e3 l3 r3 hgl
          go_upto_region 13 with (first
            | (go_at_call 12; refine (K12.out _ _ _ h4).mono ?_; rintro e w5 ⟨rfl, h5a⟩)
            | (go_at_call 25; refine (KZ1.out _ _ _ h3).mono ?_; rintro e w4 ⟨rfl, h4⟩)
            | (go_at_call 14; refine (K14.out _ HI.out).mono ?_; rintro e w3 ⟨rfl, H3, h3⟩))
          clear h3 h4 HI
          go_upto_region 15 with (first
            | (go_at_call 14; refine (K14b.out _ _ h6).mono ?_; rintro e w7 ⟨rfl, H7, h7⟩)
            | (go_at_call 25; refine (KZ2.out _ _ _ h5a).mono ?_; rintro e w6 ⟨rfl, h6⟩))
          clear h5a h6
          go_wp2_with (first
            | (go_at_call 24; refine (K24.out _ _ _ h8).mono ?_; rintro e w9 ⟨az, cz, rfl, h9⟩)
            | (go_at_call 25; refine (KZ3.out _ _ _ h7).mono ?_; rintro e w8 ⟨rfl, h8⟩))
          go_ret
          exact ⟨rfl, h9.bel⟩
        · have h5' : ¬ (5 * (M : Int) ≤ (N : Int)) := by omega
          obtain ⟨T3, r, e3, l3, r3⟩ := bud_no hF hR HE.out (N := N) hL (by rw [HLL.out]; omega) (by rw [HLL.out]; omega)
          have hgl : (LS.take 3 ++ LS.take (N / 5)).length = 3 + N / 5 := by rw [List.length_append, List.length_take, List.length_take, HLL.out]; omega
          have KZ3 : Hid (∀ W H l, Its w0 (.tape w0.heap.size g H T3 :: l) W → Calls Try.prog 25 #[.pointer (some ⟨g, 0, none⟩)] W fun e w' => e = .returned (.int .i64 (15 + (N : Int))) ∧ Its w0 (.tape w0.heap.size g H T3 :: l) w') := hide (fun W H l hW => by
            have := sizeS hW
            rw [l3, show ((5 * 3 + N : Nat) : Int) = 15 + (N : Int) by omega] at this
            exact this)
          have K24 : Hid (∀ W H l, Its w0 (.tape w0.heap.size g H T3 :: l) W → Calls Try.prog 24 #[.pointer (some ⟨g, 0, none⟩)] W fun e w' => ∃ a c, e = .returned (.slice a (3 + N / 5) c) ∧ Its w0 l w') := hide (fun W H l hW => (readS hW r3).mono (by
            intro e w' h
            obtain ⟨a, c, rfl, h2⟩ := h.form
            rw [hgl]
            exact ⟨a, c, rfl, h2.tail.tail⟩))
          have K14b : Hid (∀ W H, Its w0 (.tape w0.heap.size g H (Tp.mk T1.A T1.cn true N T1.dd) :: .row ntE w0.heap.size (.slice (some ⟨b, 0, none⟩) M M) LS :: []) W → Calls Try.prog 14 #[.pointer (some ⟨g, 0, none⟩), .slice (some ⟨b, 0, none⟩) M M] W fun e w' => e = .returned (.int .i64 190) ∧ ∃ H', Its w0 (.tape w0.heap.size g H' T3 :: .row ntE w0.heap.size (.slice (some ⟨b, 0, none⟩) M M) LS :: []) w') := hide (fun W H hW => by
            have := appendS hW (El.Own.rd hW.two) HLL.out (by omega) (show Rds (Tp.mk T1.A T1.cn true N T1.dd).now (LS.take 3) [] from hR)
            rw [e3] at this
            exact this)
          clear hF hL hR e3 l3 r3 hgl
          go_upto_region 13 with (first
            | (go_at_call 12; refine (K12.out _ _ _ h4).mono ?_; rintro e w5 ⟨rfl, h5a⟩)
            | (go_at_call 25; refine (KZ1.out _ _ _ h3).mono ?_; rintro e w4 ⟨rfl, h4⟩)
            | (go_at_call 14; refine (K14.out _ HI.out).mono ?_; rintro e w3 ⟨rfl, H3, h3⟩))
          clear h3 h4 HI
          go_upto_region 15 with (first
            | (go_at_call 14; refine (K14b.out _ _ h6).mono ?_; rintro e w7 ⟨rfl, H7, h7⟩)
            | (go_at_call 25; refine (KZ2.out _ _ _ h5a).mono ?_; rintro e w6 ⟨rfl, h6⟩))
          clear h5a h6
          go_wp2_with (first
            | (go_at_call 24; refine (K24.out _ _ _ h8).mono ?_; rintro e w9 ⟨az, cz, rfl, h9⟩)
            | (go_at_call 25; refine (KZ3.out _ _ _ h7).mono ?_; rintro e w8 ⟨rfl, h8⟩))
          go_ret
          exact ⟨rfl, h9.bel⟩
      · have h3i : ¬ ((3 : Int) < (M : Int)) := by omega
        obtain ⟨T1, hK, hF, hL, hR⟩ := KA1.out M (by omega) (by omega)
        have K14 := hide hK
        have KZ1 : Hid (∀ W H l, Its w0 (.tape w0.heap.size g H T1 :: l) W → Calls Try.prog 25 #[.pointer (some ⟨g, 0, none⟩)] W fun e w' => e = .returned (.int .i64 (5 * (M : Int))) ∧ Its w0 (.tape w0.heap.size g H T1 :: l) w') := hide (fun W H l hW => by
          have := sizeS hW
          rw [hL, show ((5 * M : Nat) : Int) = (5 * (M : Int)) by omega] at this
          exact this)
        have K12 : Hid (∀ W H l, Its w0 (.tape w0.heap.size g H T1 :: l) W → Calls Try.prog 12 #[.pointer (some ⟨g, 0, none⟩), .int .i64 (N : Int)] W fun e w' => e = .returned (.int .i64 0) ∧ Its w0 (.tape w0.heap.size g H (Tp.mk T1.A T1.cn true N T1.dd) :: l) w') := hide (fun W H l hW => by
          have := armS hW (N : Int)
          rw [arm_ok hF.2 (k := N) (by omega)] at this
          exact this)
        have KZ2 : Hid (∀ W H l, Its w0 (.tape w0.heap.size g H (Tp.mk T1.A T1.cn true N T1.dd) :: l) W → Calls Try.prog 25 #[.pointer (some ⟨g, 0, none⟩)] W fun e w' => e = .returned (.int .i64 (5 * (M : Int))) ∧ Its w0 (.tape w0.heap.size g H (Tp.mk T1.A T1.cn true N T1.dd) :: l) w') := hide (fun W H l hW => by
          have := sizeS hW
          rw [show (Tp.mk T1.A T1.cn true N T1.dd).now.length = 5 * M from hL, show ((5 * M : Nat) : Int) = (5 * (M : Int)) by omega] at this
          exact this)
        clear hK KA1
        by_cases h5 : 5 * M ≤ N
        · have h5' : 5 * (M : Int) ≤ (N : Int) := by omega
          obtain ⟨T3, e3, l3, r3⟩ := bud_yes hF hR HE.out (N := N) hL (by rw [HLL.out]; exact h5) (by rw [HLL.out]; omega)
          rw [HLL.out] at l3
          have hgl : (LS.take M ++ LS).length = M + M := by rw [List.length_append, List.length_take, HLL.out]; omega
          have KZ3 : Hid (∀ W H l, Its w0 (.tape w0.heap.size g H T3 :: l) W → Calls Try.prog 25 #[.pointer (some ⟨g, 0, none⟩)] W fun e w' => e = .returned (.int .i64 ((5 * (M : Int)) + 5 * (M : Int))) ∧ Its w0 (.tape w0.heap.size g H T3 :: l) w') := hide (fun W H l hW => by
            have := sizeS hW
            rw [l3, show ((5 * M + 5 * M : Nat) : Int) = (5 * (M : Int)) + 5 * (M : Int) by omega] at this
            exact this)
          have K24 : Hid (∀ W H l, Its w0 (.tape w0.heap.size g H T3 :: l) W → Calls Try.prog 24 #[.pointer (some ⟨g, 0, none⟩)] W fun e w' => ∃ a c, e = .returned (.slice a (M + M) c) ∧ Its w0 l w') := hide (fun W H l hW => (readS hW r3).mono (by
            intro e w' h
            obtain ⟨a, c, rfl, h2⟩ := h.form
            rw [hgl]
            exact ⟨a, c, rfl, h2.tail.tail⟩))
          have K14b : Hid (∀ W H, Its w0 (.tape w0.heap.size g H (Tp.mk T1.A T1.cn true N T1.dd) :: .row ntE w0.heap.size (.slice (some ⟨b, 0, none⟩) M M) LS :: []) W → Calls Try.prog 14 #[.pointer (some ⟨g, 0, none⟩), .slice (some ⟨b, 0, none⟩) M M] W fun e w' => e = .returned (.int .i64 0) ∧ ∃ H', Its w0 (.tape w0.heap.size g H' T3 :: .row ntE w0.heap.size (.slice (some ⟨b, 0, none⟩) M M) LS :: []) w') := hide (fun W H hW => by
            have := appendS hW (El.Own.rd hW.two) HLL.out (by omega) (show Rds (Tp.mk T1.A T1.cn true N T1.dd).now (LS.take M) [] from hR)
            rw [e3] at this
            exact this)
          clear hF hL hR e3 l3 r3 hgl
          go_upto_region 13 with (first
            | (go_at_call 12; refine (K12.out _ _ _ h4).mono ?_; rintro e w5 ⟨rfl, h5a⟩)
            | (go_at_call 25; refine (KZ1.out _ _ _ h3).mono ?_; rintro e w4 ⟨rfl, h4⟩)
            | (go_at_call 14; refine (K14.out _ HI.out).mono ?_; rintro e w3 ⟨rfl, H3, h3⟩))
          clear h3 h4 HI
          go_upto_region 15 with (first
            | (go_at_call 14; refine (K14b.out _ _ h6).mono ?_; rintro e w7 ⟨rfl, H7, h7⟩)
            | (go_at_call 25; refine (KZ2.out _ _ _ h5a).mono ?_; rintro e w6 ⟨rfl, h6⟩))
          clear h5a h6
          go_wp2_with (first
            | (go_at_call 24; refine (K24.out _ _ _ h8).mono ?_; rintro e w9 ⟨az, cz, rfl, h9⟩)
            | (go_at_call 25; refine (KZ3.out _ _ _ h7).mono ?_; rintro e w8 ⟨rfl, h8⟩))
          go_ret
          exact ⟨rfl, h9.bel⟩
        · have h5' : ¬ (5 * (M : Int) ≤ (N : Int)) := by omega
          obtain ⟨T3, r, e3, l3, r3⟩ := bud_no hF hR HE.out (N := N) hL (by rw [HLL.out]; omega) (by rw [HLL.out]; omega)
          have hgl : (LS.take M ++ LS.take (N / 5)).length = M + N / 5 := by rw [List.length_append, List.length_take, List.length_take, HLL.out]; omega
          have KZ3 : Hid (∀ W H l, Its w0 (.tape w0.heap.size g H T3 :: l) W → Calls Try.prog 25 #[.pointer (some ⟨g, 0, none⟩)] W fun e w' => e = .returned (.int .i64 ((5 * (M : Int)) + (N : Int))) ∧ Its w0 (.tape w0.heap.size g H T3 :: l) w') := hide (fun W H l hW => by
            have := sizeS hW
            rw [l3, show ((5 * M + N : Nat) : Int) = (5 * (M : Int)) + (N : Int) by omega] at this
            exact this)
          have K24 : Hid (∀ W H l, Its w0 (.tape w0.heap.size g H T3 :: l) W → Calls Try.prog 24 #[.pointer (some ⟨g, 0, none⟩)] W fun e w' => ∃ a c, e = .returned (.slice a (M + N / 5) c) ∧ Its w0 l w') := hide (fun W H l hW => (readS hW r3).mono (by
            intro e w' h
            obtain ⟨a, c, rfl, h2⟩ := h.form
            rw [hgl]
            exact ⟨a, c, rfl, h2.tail.tail⟩))
          have K14b : Hid (∀ W H, Its w0 (.tape w0.heap.size g H (Tp.mk T1.A T1.cn true N T1.dd) :: .row ntE w0.heap.size (.slice (some ⟨b, 0, none⟩) M M) LS :: []) W → Calls Try.prog 14 #[.pointer (some ⟨g, 0, none⟩), .slice (some ⟨b, 0, none⟩) M M] W fun e w' => e = .returned (.int .i64 190) ∧ ∃ H', Its w0 (.tape w0.heap.size g H' T3 :: .row ntE w0.heap.size (.slice (some ⟨b, 0, none⟩) M M) LS :: []) w') := hide (fun W H hW => by
            have := appendS hW (El.Own.rd hW.two) HLL.out (by omega) (show Rds (Tp.mk T1.A T1.cn true N T1.dd).now (LS.take M) [] from hR)
            rw [e3] at this
            exact this)
          clear hF hL hR e3 l3 r3 hgl
          go_upto_region 13 with (first
            | (go_at_call 12; refine (K12.out _ _ _ h4).mono ?_; rintro e w5 ⟨rfl, h5a⟩)
            | (go_at_call 25; refine (KZ1.out _ _ _ h3).mono ?_; rintro e w4 ⟨rfl, h4⟩)
            | (go_at_call 14; refine (K14.out _ HI.out).mono ?_; rintro e w3 ⟨rfl, H3, h3⟩))
          clear h3 h4 HI
          go_upto_region 15 with (first
            | (go_at_call 14; refine (K14b.out _ _ h6).mono ?_; rintro e w7 ⟨rfl, H7, h7⟩)
            | (go_at_call 25; refine (KZ2.out _ _ _ h5a).mono ?_; rintro e w6 ⟨rfl, h6⟩))
          clear h5a h6
          go_wp2_with (first
            | (go_at_call 24; refine (K24.out _ _ _ h8).mono ?_; rintro e w9 ⟨az, cz, rfl, h9⟩)
            | (go_at_call 25; refine (KZ3.out _ _ _ h7).mono ?_; rintro e w8 ⟨rfl, h8⟩))
          go_ret
          exact ⟨rfl, h9.bel⟩
end Go.Proofs.Ytgdoagmnhmfjkaa.tapeBudget
