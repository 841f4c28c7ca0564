/- The walk of NoteSizes. -/
import Derived.Test.YtfldllmehelngaaNag
import Derived.Test.YtfldllmehelngaaNra
namespace Go.Proofs.Ytfldllmehelngaa.noteSizes
open Go.ChangeShapes Go.WideShapes Go.ChangeAt Go.RowKit
set_option linter.unusedVariables false

def cnt (n : Nt) (j : Nat) : Nat := ((n.vs.take j).flatMap num).length
theorem cnt_succ (n : Nt) (j : Nat) (x : Int) (h : j < us n.kind) (hx : n.fs[j]? = some x) : cnt n (j + 1) = cnt n j + (num x.toNat).length := by
  unfold cnt
  rw [List.take_add_one, vs_at j h, hx]
  simp
theorem cnt_all (n : Nt) : 1 + cnt n (us n.kind) = n.body.length := by
  unfold cnt Nt.body
  rw [List.take_of_length_le (by rw [vs_len]; exact Nat.le_refl _), List.length_cons, Nat.add_comm]

theorem cnt_le {n : Nt} (h : n.ok = true) (j : Nat) : cnt n j ≤ 15 := by
  have h1 := flat_len (xs := n.vs.take j) (fun v hv => by have := vs_lt h v (List.mem_of_mem_take hv); omega)
  have h2 := vs_len n
  have h3 := us_le n.kind
  have h4 : (n.vs.take j).length ≤ 3 := by rw [List.length_take]; omega
  unfold cnt
  omega

set_option maxHeartbeats 4000000 in
theorem no (k a b c : Int) (w : World) (h : (Nt.mk k a b c).ok = false) : Calls Try.prog 8 #[.agg #[.int .i64 k, .int .i64 a, .int .i64 b, .int .i64 c]] w fun e w' => e = .returned (.bool true) ∧ Below w.heap.size w w' := by
  have K10 := hide (fun W => encode_no k a b c W h)
  have K9 := hide awake_any
  have Hw := hide (below_new w (.cells #[.int .i64 k, .int .i64 a, .int .i64 b, .int .i64 c] 23))
  clear h
  go_enter Try.func8, Try.ntmps8
  go_wp2_with (first | (go_at_call 9; refine (K9.out _).mono ?_; rintro e w1 ⟨rfl, hb1⟩; have p0 : w1.cell? ⟨w.heap.size, 0, none⟩ = some (.int .i64 k) := box_at hb1 0; have p1 : w1.cell? ⟨w.heap.size, 1, none⟩ = some (.int .i64 a) := box_at hb1 1; have p2 : w1.cell? ⟨w.heap.size, 2, none⟩ = some (.int .i64 b) := box_at hb1 2; have p3 : w1.cell? ⟨w.heap.size, 3, none⟩ = some (.int .i64 c) := box_at hb1 3) | (go_at_call 10; refine (K10.out _).mono ?_; rintro e w2 ⟨rfl, hb2⟩))
  go_ret
  exact ⟨rfl, Hw.out.trans ((hb1.trans (hb2.mono hb1.size)).mono Hw.out.size)⟩

set_option maxHeartbeats 4000000 in
set_option maxRecDepth 100000 in
theorem yes (k a b c : Int) (w : World) (h : (Nt.mk k a b c).ok = true) : Calls Try.prog 8 #[.agg #[.int .i64 k, .int .i64 a, .int .i64 b, .int .i64 c]] w fun e w' => e = .returned (.bool true) ∧ Below w.heap.size w w' := by
  have K10 := hide (fun W => encode_yes k a b c W h)
  have K9 := hide awake_any
  have Hw := hide (below_new w (.cells #[.int .i64 k, .int .i64 a, .int .i64 b, .int .i64 c] 23))
  have hup := ((ok_iff _).1 h).1
  obtain ⟨k1, k8⟩ : 1 ≤ k ∧ k ≤ 8 := us_pos hup
  have k20 := ruses_any k
  rw [rus_some (show us k ≠ 0 from Nat.pos_iff_ne_zero.1 hup)] at k20
  have hu3 := us_le k
  have Hcs : Hid (∀ (j : Nat) (x : Int), j < us k → (Nt.mk k a b c).fs[j]? = some x → cnt ⟨k, a, b, c⟩ (j + 1) = cnt ⟨k, a, b, c⟩ j + (num x.toNat).length) := hide (fun j x => cnt_succ ⟨k, a, b, c⟩ j x)
  have Hcu : Hid (1 + cnt ⟨k, a, b, c⟩ (us k) = (Nt.mk k a b c).body.length) := hide (cnt_all ⟨k, a, b, c⟩)
  have Hcb : Hid (∀ j, cnt ⟨k, a, b, c⟩ j ≤ 15) := hide (fun j => cnt_le h j)
  have Hf : Hid (∀ (i : Nat) (x : Int), (Nt.mk k a b c).fs[i]? = some x → 0 ≤ x ∧ x ≤ 2147483647) := hide (fun i x hx => by have := ((ok_iff _).1 h).2.1 i x hx; exact ⟨this.1, this.2.1⟩)
  have hbl := bts_len ⟨k, a, b, c⟩
  have hb16 := body_len h
  have hbt0 := bts_first ⟨k, a, b, c⟩
  have hbt1 : (Nt.mk k a b c).bts[1]? = some k := rfl
  obtain ⟨u, hu⟩ : ∃ u, us k = u := ⟨_, rfl⟩
  rw [hu] at k20 hu3 Hcs Hcu
  obtain ⟨m, hm⟩ : ∃ m, (Nt.mk k a b c).body.length = m := ⟨_, rfl⟩
  rw [hm] at hbl hb16 hbt0 Hcu
  obtain ⟨m1, m2⟩ := hb16
  have K20 := hide k20
  clear k20 hup hu hm h
  go_enter Try.func8, Try.ntmps8
  go_upto_region 6 with (first | (go_at_call 9; refine (K9.out _).mono ?_; rintro e w1 ⟨rfl, hb1⟩; have p0 : w1.cell? ⟨w.heap.size, 0, none⟩ = some (.int .i64 k) := box_at hb1 0; have p1 : w1.cell? ⟨w.heap.size, 1, none⟩ = some (.int .i64 a) := box_at hb1 1; have p2 : w1.cell? ⟨w.heap.size, 2, none⟩ = some (.int .i64 b) := box_at hb1 2; have p3 : w1.cell? ⟨w.heap.size, 3, none⟩ = some (.int .i64 c) := box_at hb1 3) | (go_at_call 10; refine (K10.out _).mono ?_; rintro e w2 ⟨v, rfl, hown, hb2⟩))
  clear p0 p1 p2 p3
  have hb12 := hb1.trans (hb2.mono hb1.size)
  have p0 : w2.cell? ⟨w.heap.size, 0, none⟩ = some (.int .i64 k) := box_at hb12 0
  have p1 : w2.cell? ⟨w.heap.size, 1, none⟩ = some (.int .i64 a) := box_at hb12 1
  have p2 : w2.cell? ⟨w.heap.size, 2, none⟩ = some (.int .i64 b) := box_at hb12 2
  have p3 : w2.cell? ⟨w.heap.size, 3, none⟩ = some (.int .i64 c) := box_at hb12 3
  obtain ⟨g1, cap1, rfl, hc1, hc2⟩ := El.Own.some hown (bts_pos _)
  rw [hbl] at hown ⊢
  have HD : Hid (∀ W, Below w2.heap.size w2 W → W.cell? ⟨g1, 0, none⟩ = some (.int .u8 (m : Int)) ∧ W.cell? ⟨g1, 1, none⟩ = some (.int .u8 k)) := hide (fun W hW => ⟨(El.Own.at1 (Value.int .u8) (fun _ => rfl) rfl (hown.keep hW) 0 _ hbt0).1, (El.Own.at1 (Value.int .u8) (fun _ => rfl) rfl (hown.keep hW) 1 _ hbt1).1⟩)
  have HC : Hid (∀ W, Below w2.heap.size w2 W → W.cell? ⟨w.heap.size, 0, none⟩ = some (.int .i64 k)) := hide (fun W hW => by rw [hW.cell (cell_lt p0)]; exact p0)
  have HBel : Hid (∀ W, Below w2.heap.size w2 W → Below w.heap.size w W) := hide (fun W hW => (Hw.out.trans (hb12.mono Hw.out.size)).trans (hW.mono (Nat.le_trans Hw.out.size hb12.size)))
  clear hown hb12 hb1 hb2 Hw K9 K10 hc1 hc2 hbt0 hbt1 hbl
  go_wp2_with fail
  clear p0 p1 p2 p3
  have HK20 : Hid (∀ W, Below w2.heap.size w2 W → Calls Try.prog 20 #[.int .i64 k] W fun e w' => e = .returned (.int .i64 u) ∧ Below w2.heap.size w2 w') := hide (fun W hW => (K20.out W).mono (by rintro e w' ⟨he, hb⟩; exact ⟨he, hW.trans (hb.mono hW.size)⟩))
  clear K20
  go_loopw [5, 27] (fun v i wr => Hid (∃ (j : Nat) (W : Int), j ≤ u ∧ i = .int .i64 j ∧ v = .int .i64 W ∧ W = 4 + (cnt ⟨k, a, b, c⟩ j : Int) ∧ Below w2.heap.size w2 wr)) (fun _ i _ => 3 - (intOf i).toNat)
  case atStart => exact hide ⟨0, 4, Nat.zero_le _, rfl, rfl, rfl, Below.refl _ _⟩
  case round =>
    obtain ⟨j, W, hj, rfl, rfl, hW, hb⟩ := hrel.out
    have HW := hide hW
    clear hrel hW
    have h3 : j = 0 ∨ j = 1 ∨ j = 2 ∨ j = 3 := by omega
    have e0 := HC.out _ hb
    rcases h3 with rfl | rfl | rfl | rfl
    · have q : ∀ w : World, (Instr.index 45 (.agg #[.int .i64 a, .int .i64 b, .int .i64 c]) (.int .i64 0)).run Try.prog w = .ok (.int .i64 a) w := fun _ => by kernel_rfl
      by_cases hlt : 0 < u
      · have hlt' : ¬ ((u : Int) ≤ 0) := by omega
        obtain ⟨x0, x1⟩ := Hf.out 0 a rfl
        have HN : Hid (cnt ⟨k, a, b, c⟩ 1 = cnt ⟨k, a, b, c⟩ 0 + (num a.toNat).length) := hide (Hcs.out 0 a hlt rfl)
        go_upto_region 11 with (go_at_call 20; refine (HK20.out _ hb).mono ?_; rintro e W3 ⟨rfl, hb3⟩)
        have hWb : 4 ≤ W ∧ W ≤ 19 := by
          have h1 := HW.out
          have h2 := Hcb.out 0
          omega
        obtain ⟨w0a, w0b⟩ := hWb
        go_wp2_with fail
        go_loop [5, 7] (fun v y => Hid (∃ (X V : Int), y = .int .i64 X ∧ v = .int .i64 V ∧ 0 ≤ X ∧ X ≤ 2147483647 ∧ V + ((num X.toNat).length : Int) = 5 + (cnt ⟨k, a, b, c⟩ 1 : Int))) (fun _ y => (intOf y).toNat)
        case atStart => exact hide ⟨a, W + 1, rfl, rfl, x0, x1, by have h1 := HW.out; have h2 := HN.out; omega⟩
        case round =>
          obtain ⟨X, V, rfl, rfl, hX0, hX1, hV⟩ := hrel.out
          have HV := hide hV
          clear hrel hV
          have hVb : 0 ≤ V ∧ V ≤ 20 := by
            have h1 := HV.out
            have h2 := Hcb.out 1
            have h3 := num_one X.toNat
            have h4 := num_five (v := X.toNat) (by omega)
            omega
          obtain ⟨v0a, v0b⟩ := hVb
          by_cases hX : 128 ≤ X
          · have HH : Hid (V + 1 + ((num (X / 128).toNat).length : Int) = 5 + (cnt ⟨k, a, b, c⟩ 1 : Int)) := hide (by have h1 := HV.out; rw [numI_high hX, List.length_cons] at h1; omega)
            go_wp2_with fail
            go_round
            case rel => exact hide ⟨X / 128, V + 1, rfl, rfl, by omega, by omega, HH.out⟩
            case measure => simp [intOf]; omega
          · have HH : Hid (V = 4 + (cnt ⟨k, a, b, c⟩ 1 : Int)) := hide (by have h1 := HV.out; rw [numI_low (by omega) hX0] at h1; simp at h1; omega)
            go_wp2_with fail
            go_roundw
            case rel => exact hide ⟨1, V, by omega, by go_num, rfl, HH.out, hb3⟩
            case measure => simp [intOf]
      · have hlt' : (u : Int) ≤ 0 := by omega
        have HU : Hid (u = 0) := hide (by omega)
        go_upto_region 16 with (go_at_call 20; refine (HK20.out _ hb).mono ?_; rintro e W3 ⟨rfl, hb3⟩)
        have hWm : W = (m : Int) + 3 := by
          have h1 := HW.out
          have h2 := Hcu.out
          rw [HU.out] at h2
          omega
        subst hWm
        obtain ⟨d0, d1⟩ := HD.out _ hb3
        have e1 := HC.out _ hb3
        clear e0 q
        go_quiet (fail)
        go_wp2_with fail
        go_ret
        exact ⟨rfl, HBel.out _ (hb3.trans ((below_drew W3 _).mono hb3.size))⟩
    · have q : ∀ w : World, (Instr.index 45 (.agg #[.int .i64 a, .int .i64 b, .int .i64 c]) (.int .i64 1)).run Try.prog w = .ok (.int .i64 b) w := fun _ => by kernel_rfl
      by_cases hlt : 1 < u
      · have hlt' : ¬ ((u : Int) ≤ 1) := by omega
        obtain ⟨x0, x1⟩ := Hf.out 1 b rfl
        have HN : Hid (cnt ⟨k, a, b, c⟩ 2 = cnt ⟨k, a, b, c⟩ 1 + (num b.toNat).length) := hide (Hcs.out 1 b hlt rfl)
        go_upto_region 11 with (go_at_call 20; refine (HK20.out _ hb).mono ?_; rintro e W3 ⟨rfl, hb3⟩)
        have hWb : 4 ≤ W ∧ W ≤ 19 := by
          have h1 := HW.out
          have h2 := Hcb.out 1
          omega
        obtain ⟨w0a, w0b⟩ := hWb
        go_wp2_with fail
        go_loop [5, 7] (fun v y => Hid (∃ (X V : Int), y = .int .i64 X ∧ v = .int .i64 V ∧ 0 ≤ X ∧ X ≤ 2147483647 ∧ V + ((num X.toNat).length : Int) = 5 + (cnt ⟨k, a, b, c⟩ 2 : Int))) (fun _ y => (intOf y).toNat)
        case atStart => exact hide ⟨b, W + 1, rfl, rfl, x0, x1, by have h1 := HW.out; have h2 := HN.out; omega⟩
        case round =>
          obtain ⟨X, V, rfl, rfl, hX0, hX1, hV⟩ := hrel.out
          have HV := hide hV
          clear hrel hV
          have hVb : 0 ≤ V ∧ V ≤ 20 := by
            have h1 := HV.out
            have h2 := Hcb.out 2
            have h3 := num_one X.toNat
            have h4 := num_five (v := X.toNat) (by omega)
            omega
          obtain ⟨v0a, v0b⟩ := hVb
          by_cases hX : 128 ≤ X
          · have HH : Hid (V + 1 + ((num (X / 128).toNat).length : Int) = 5 + (cnt ⟨k, a, b, c⟩ 2 : Int)) := hide (by have h1 := HV.out; rw [numI_high hX, List.length_cons] at h1; omega)
            go_wp2_with fail
            go_round
            case rel => exact hide ⟨X / 128, V + 1, rfl, rfl, by omega, by omega, HH.out⟩
            case measure => simp [intOf]; omega
          · have HH : Hid (V = 4 + (cnt ⟨k, a, b, c⟩ 2 : Int)) := hide (by have h1 := HV.out; rw [numI_low (by omega) hX0] at h1; simp at h1; omega)
            go_wp2_with fail
            go_roundw
            case rel => exact hide ⟨2, V, by omega, by go_num, rfl, HH.out, hb3⟩
            case measure => simp [intOf]
      · have hlt' : (u : Int) ≤ 1 := by omega
        have HU : Hid (u = 1) := hide (by omega)
        go_upto_region 16 with (go_at_call 20; refine (HK20.out _ hb).mono ?_; rintro e W3 ⟨rfl, hb3⟩)
        have hWm : W = (m : Int) + 3 := by
          have h1 := HW.out
          have h2 := Hcu.out
          rw [HU.out] at h2
          omega
        subst hWm
        obtain ⟨d0, d1⟩ := HD.out _ hb3
        have e1 := HC.out _ hb3
        clear e0 q
        go_quiet (fail)
        go_wp2_with fail
        go_ret
        exact ⟨rfl, HBel.out _ (hb3.trans ((below_drew W3 _).mono hb3.size))⟩
    · have q : ∀ w : World, (Instr.index 45 (.agg #[.int .i64 a, .int .i64 b, .int .i64 c]) (.int .i64 2)).run Try.prog w = .ok (.int .i64 c) w := fun _ => by kernel_rfl
      by_cases hlt : 2 < u
      · have hlt' : ¬ ((u : Int) ≤ 2) := by omega
        obtain ⟨x0, x1⟩ := Hf.out 2 c rfl
        have HN : Hid (cnt ⟨k, a, b, c⟩ 3 = cnt ⟨k, a, b, c⟩ 2 + (num c.toNat).length) := hide (Hcs.out 2 c hlt rfl)
        go_upto_region 11 with (go_at_call 20; refine (HK20.out _ hb).mono ?_; rintro e W3 ⟨rfl, hb3⟩)
        have hWb : 4 ≤ W ∧ W ≤ 19 := by
          have h1 := HW.out
          have h2 := Hcb.out 2
          omega
        obtain ⟨w0a, w0b⟩ := hWb
        go_wp2_with fail
        go_loop [5, 7] (fun v y => Hid (∃ (X V : Int), y = .int .i64 X ∧ v = .int .i64 V ∧ 0 ≤ X ∧ X ≤ 2147483647 ∧ V + ((num X.toNat).length : Int) = 5 + (cnt ⟨k, a, b, c⟩ 3 : Int))) (fun _ y => (intOf y).toNat)
        case atStart => exact hide ⟨c, W + 1, rfl, rfl, x0, x1, by have h1 := HW.out; have h2 := HN.out; omega⟩
        case round =>
          obtain ⟨X, V, rfl, rfl, hX0, hX1, hV⟩ := hrel.out
          have HV := hide hV
          clear hrel hV
          have hVb : 0 ≤ V ∧ V ≤ 20 := by
            have h1 := HV.out
            have h2 := Hcb.out 3
            have h3 := num_one X.toNat
            have h4 := num_five (v := X.toNat) (by omega)
            omega
          obtain ⟨v0a, v0b⟩ := hVb
          by_cases hX : 128 ≤ X
          · have HH : Hid (V + 1 + ((num (X / 128).toNat).length : Int) = 5 + (cnt ⟨k, a, b, c⟩ 3 : Int)) := hide (by have h1 := HV.out; rw [numI_high hX, List.length_cons] at h1; omega)
            go_wp2_with fail
            go_round
            case rel => exact hide ⟨X / 128, V + 1, rfl, rfl, by omega, by omega, HH.out⟩
            case measure => simp [intOf]; omega
          · have HH : Hid (V = 4 + (cnt ⟨k, a, b, c⟩ 3 : Int)) := hide (by have h1 := HV.out; rw [numI_low (by omega) hX0] at h1; simp at h1; omega)
            go_wp2_with fail
            go_roundw
            case rel => exact hide ⟨3, V, by omega, by go_num, rfl, HH.out, hb3⟩
            case measure => simp [intOf]
      · have hlt' : (u : Int) ≤ 2 := by omega
        have HU : Hid (u = 2) := hide (by omega)
        go_upto_region 16 with (go_at_call 20; refine (HK20.out _ hb).mono ?_; rintro e W3 ⟨rfl, hb3⟩)
        have hWm : W = (m : Int) + 3 := by
          have h1 := HW.out
          have h2 := Hcu.out
          rw [HU.out] at h2
          omega
        subst hWm
        obtain ⟨d0, d1⟩ := HD.out _ hb3
        have e1 := HC.out _ hb3
        clear e0 q
        go_quiet (fail)
        go_wp2_with fail
        go_ret
        exact ⟨rfl, HBel.out _ (hb3.trans ((below_drew W3 _).mono hb3.size))⟩
    · have HU : Hid (u = 3) := hide (by omega)
      have hWm : W = (m : Int) + 3 := by
        have h1 := HW.out
        have h2 := Hcu.out
        rw [HU.out] at h2
        omega
      subst hWm
      obtain ⟨d0, d1⟩ := HD.out _ hb
      have e1 := HC.out _ hb
      clear e0
      go_upto_region 16 with fail
      go_quiet (fail)
      go_wp2_with fail
      go_ret
      exact ⟨rfl, HBel.out _ (hb.trans ((below_drew wr _).mono hb.size))⟩

theorem walk (t0 : Nt) (w : World) : Calls Try.prog 8 #[.agg #[.int .i64 t0.kind, .int .i64 t0.a, .int .i64 t0.b, .int .i64 t0.c]] w fun e w' => e = .returned (.bool true) ∧ Below w.heap.size w w' := by
  obtain ⟨k, a, b, c⟩ := t0
  cases h : (Nt.mk k a b c).ok with
  | true => exact yes k a b c w h
  | false => exact no k a b c w h
end Go.Proofs.Ytfldllmehelngaa.noteSizes
