/- How many numbers a Kind uses, what is a note: the program's uses, numbers, Check. -/
import Derived.Test.YtgdoagmnhmfjkaaNel
namespace Go.Proofs.Ytgdoagmnhmfjkaa
open Go.ChangeShapes Go.WideShapes Go.ChangeAt Go.RowKit
set_option linter.unusedVariables false

theorem us_cases (k : Int) : k = 1 ∨ k = 2 ∨ k = 3 ∨ k = 4 ∨ k = 5 ∨ k = 6 ∨ k = 7 ∨ k = 8 ∨ (us k = 0 ∧ ¬ k = 1 ∧ ¬ k = 2 ∧ ¬ k = 3 ∧ ¬ k = 4 ∧ ¬ k = 5 ∧ ¬ k = 6 ∧ ¬ k = 7 ∧ ¬ k = 8) := by
  by_cases h : 1 ≤ k ∧ k ≤ 8
  · omega
  · have h1 : ¬ k = 1 := by omega
    have h2 : ¬ k = 2 := by omega
    have h3 : ¬ k = 3 := by omega
    have h4 : ¬ k = 4 := by omega
    have h5 : ¬ k = 5 := by omega
    have h6 : ¬ k = 6 := by omega
    have h7 : ¬ k = 7 := by omega
    have h8 : ¬ k = 8 := by omega
    simp [us, h1, h2, h3, h4, h5, h6, h7, h8]
theorem uses_any (k : Int) (w : World) : Calls Try.prog 48 #[.int .i64 k] w fun e w' => e = .returned (.int .i64 (us k)) ∧ w' = w := by
  rcases us_cases k with rfl | rfl | rfl | rfl | rfl | rfl | rfl | rfl | ⟨hu, h1, h2, h3, h4, h5, h6, h7, h8⟩
  · go_enter Try.func48, Try.ntmps48
    go_wp2
    go_ret
    exact ⟨rfl, rfl⟩
  · go_enter Try.func48, Try.ntmps48
    go_wp2
    go_ret
    exact ⟨rfl, rfl⟩
  · go_enter Try.func48, Try.ntmps48
    go_wp2
    go_ret
    exact ⟨rfl, rfl⟩
  · go_enter Try.func48, Try.ntmps48
    go_wp2
    go_ret
    exact ⟨rfl, rfl⟩
  · go_enter Try.func48, Try.ntmps48
    go_wp2
    go_ret
    exact ⟨rfl, rfl⟩
  · go_enter Try.func48, Try.ntmps48
    go_wp2
    go_ret
    exact ⟨rfl, rfl⟩
  · go_enter Try.func48, Try.ntmps48
    go_wp2
    go_ret
    exact ⟨rfl, rfl⟩
  · go_enter Try.func48, Try.ntmps48
    go_wp2
    go_ret
    exact ⟨rfl, rfl⟩
  · rw [hu]
    clear hu
    go_enter Try.func48, Try.ntmps48
    go_wp2
    go_ret
    exact ⟨rfl, rfl⟩

theorem below_put3 {B : Nat} {a w : World} (h : Below B a w) (g : Nat) (hg : B ≤ g) (u0 u1 u2 : Value) : Below B a (((w.setCell ⟨g, 0, none⟩ u0).setCell ⟨g, 1, none⟩ u1).setCell ⟨g, 2, none⟩ u2) :=
  ((h.setCell hg _).setCell hg _).setCell hg _
theorem below_put4 {B : Nat} {a w : World} (h : Below B a w) (g : Nat) (hg : B ≤ g) (u0 u1 u2 u3 : Value) : Below B a ((((w.setCell ⟨g, 0, none⟩ u0).setCell ⟨g, 1, none⟩ u1).setCell ⟨g, 2, none⟩ u2).setCell ⟨g, 3, none⟩ u3) :=
  (((h.setCell hg _).setCell hg _).setCell hg _).setCell hg _
theorem numbers_any (k a b c : Int) (w : World) : Calls Try.prog 47 #[.agg #[.int .i64 k, .int .i64 a, .int .i64 b, .int .i64 c]] w fun e w' => e = .returned (.agg #[.int .i64 a, .int .i64 b, .int .i64 c]) ∧ Below w.heap.size w w' := by
  go_enter Try.func47, Try.ntmps47
  go_wp2_with fail
  refine bodyPost_ret (v := .agg #[.int .i64 a, .int .i64 b, .int .i64 c]) (by simp [results, Try.results47, go_sem]) rfl ⟨rfl, ?_⟩
  exact (below_new w _).alloc (by simp) _

theorem okF_no {u i : Nat} {x : Int} (h : okF u i x = false) : x < 0 ∨ (0 ≤ x ∧ 2147483647 < x) ∨ (0 ≤ x ∧ x ≤ 2147483647 ∧ u ≤ i ∧ x ≠ 0) := by
  unfold okF at h
  rw [decide_eq_false_iff_not] at h
  by_cases h0 : 0 ≤ x
  · by_cases h1 : x ≤ 2147483647
    · refine .inr (.inr ⟨h0, h1, ?_⟩)
      by_cases h2 : u ≤ i
      · exact ⟨h2, fun e => h ⟨h0, h1, fun _ => e⟩⟩
      · exact absurd ⟨h0, h1, fun q => absurd q h2⟩ h
    · exact .inr (.inl ⟨h0, by omega⟩)
  · exact .inl (by omega)
theorem okF_yes {u i : Nat} {x : Int} (h : okF u i x = true) : 0 ≤ x ∧ x ≤ 2147483647 ∧ (i < u ∨ (u ≤ i ∧ x = 0)) := by
  unfold okF at h
  rw [decide_eq_true_eq] at h
  refine ⟨h.1, h.2.1, ?_⟩
  rcases Nat.lt_or_ge i u with q | q
  · exact .inl q
  · exact .inr ⟨q, h.2.2 q⟩
/-- what Check answers -/
def Nt.code (n : Nt) : Int := if n.ok then 0 else 180
theorem code_no {n : Nt} (h : n.ok = false) : n.code = 180 := by simp [Nt.code, h]
theorem code_yes {n : Nt} (h : n.ok = true) : n.code = 0 := by simp [Nt.code, h]
theorem ok_parts (k a b c : Int) : (Nt.mk k a b c).ok = (decide (0 < us k) && okF (us k) 0 a && okF (us k) 1 b && okF (us k) 2 c && decide (k = 8 → b ≤ 1)) := rfl

set_option maxHeartbeats 4000000 in
theorem check_any (k a b c : Int) (w : World) : Calls Try.prog 46 #[.agg #[.int .i64 k, .int .i64 a, .int .i64 b, .int .i64 c]] w fun e w' => e = .returned (.int .i64 (Nt.mk k a b c).code) ∧ Below w.heap.size w w' := by
  have hok := ok_parts k a b c
  obtain ⟨r, hr⟩ : ∃ r, (Nt.mk k a b c).code = r := ⟨_, rfl⟩
  rw [hr]
  have Hn : Hid ((Nt.mk k a b c).ok = false → r = 180) := hide (fun h => by rw [← hr]; exact code_no h)
  have Hy : Hid ((Nt.mk k a b c).ok = true → r = 0) := hide (fun h => by rw [← hr]; exact code_yes h)
  clear hr
  have Hok := hide hok
  clear hok
  have k22 : ∀ W, Calls Try.prog 48 #[.int .i64 k] W fun e w' => e = .returned (.int .i64 (us k)) ∧ w' = W := uses_any k
  have hu3 := us_le k
  obtain ⟨u, hu⟩ : ∃ u, us k = u := ⟨_, rfl⟩
  rw [hu] at k22 hu3 Hok
  clear hu
  have K22 := hide k22
  have K21 := hide (numbers_any k a b c)
  clear k22
  have Hw := hide (below_new w (.cells #[.int .i64 k, .int .i64 a, .int .i64 b, .int .i64 c] 43))
  by_cases h0 : u = 0
  · have Hr : Hid (r = 180) := hide (Hn.out (by rw [Hok.out, h0]; rfl))
    have e0 : ((u : Int) == 0) = true := by rw [h0]; rfl
    clear hu3 Hn Hy Hok h0
    go_enter Try.func46, Try.ntmps46
    go_wp2_with (go_at_call 48; refine (K22.out _).mono ?_; rintro e w1 ⟨rfl, rfl⟩)
    go_ret
    exact ⟨by have h := Hr.out; subst h; rfl, Hw.out⟩
  · have e0 : ((u : Int) == 0) = false := by rw [beq_eq_false_iff_ne]; omega
    have Hp : Hid (decide (0 < u) = true) := hide (by rw [decide_eq_true_eq]; omega)
    have Hu0 := hide h0
    clear h0
    go_enter Try.func46, Try.ntmps46
    go_wp2_with (first | (go_at_call 48; refine (K22.out _).mono ?_; rintro e w1 ⟨rfl, rfl⟩) | (go_at_call 47; refine (K21.out _).mono ?_; rintro e w2 ⟨rfl, hb2⟩))
    have Hb := hide (Hw.out.trans (hb2.mono Hw.out.size))
    have p0 : w2.cell? ⟨w.heap.size, 0, none⟩ = some (.int .i64 k) := box_at hb2 0
    have p2 : w2.cell? ⟨w.heap.size, 2, none⟩ = some (.int .i64 b) := box_at hb2 2
    clear hb2 Hw
    go_loop [13] (fun i => Hid ((i = .int .i64 0) ∨ (i = .int .i64 1 ∧ okF u 0 a = true) ∨ (i = .int .i64 2 ∧ okF u 0 a = true ∧ okF u 1 b = true) ∨ (i = .int .i64 3 ∧ okF u 0 a = true ∧ okF u 1 b = true ∧ okF u 2 c = true))) (fun i => 3 - (intOf i).toNat)
    case atStart => exact hide (.inl rfl)
    case round =>
      rcases hrel.out with rfl | ⟨rfl, a0⟩ | ⟨rfl, a0, a1⟩ | ⟨rfl, a0, a1, a2⟩
      · have q : ∀ w : World, (Instr.index 80 (.agg #[.int .i64 a, .int .i64 b, .int .i64 c]) (.int .i64 0)).run Try.prog w = .ok (.int .i64 a) w := fun _ => by kernel_rfl
        clear hrel
        cases a0 : okF u 0 a
        · have Hr : Hid (r = 180) := hide (Hn.out (by rw [Hok.out, Hp.out, a0]; simp))
          rcases okF_no a0 with h | ⟨h, h'⟩ | ⟨h, h', h2, h3⟩
          · clear a0
            go_wp2_with fail
            go_ret
            exact ⟨by have h := Hr.out; subst h; rfl, Hb.out⟩
          · clear a0
            go_wp2_with fail
            go_ret
            exact ⟨by have h := Hr.out; subst h; rfl, Hb.out⟩
          · exact absurd (Nat.le_zero.1 h2) Hu0.out
        · have Ha0 := hide a0
          obtain ⟨h, h', h2⟩ := okF_yes a0
          clear a0
          rcases h2 with h2 | ⟨h2, rfl⟩
          · have h4 : ¬ (u : Int) ≤ 0 := by omega
            go_wp2_with fail
            go_round
            case rel => exact hide (.inr (.inl ⟨rfl, (by first | exact Ha0.out | trivial)⟩))
            case measure => simp [intOf]
          · exact absurd (Nat.le_zero.1 h2) Hu0.out
      · have q : ∀ w : World, (Instr.index 80 (.agg #[.int .i64 a, .int .i64 b, .int .i64 c]) (.int .i64 1)).run Try.prog w = .ok (.int .i64 b) w := fun _ => by kernel_rfl
        clear hrel
        have a0 := hide a0
        cases a1 : okF u 1 b
        · have Hr : Hid (r = 180) := hide (Hn.out (by rw [Hok.out, Hp.out, a0.out, a1]; simp))
          rcases okF_no a1 with h | ⟨h, h'⟩ | ⟨h, h', h2, h3⟩
          · clear a1
            go_wp2_with fail
            go_ret
            exact ⟨by have h := Hr.out; subst h; rfl, Hb.out⟩
          · clear a1
            go_wp2_with fail
            go_ret
            exact ⟨by have h := Hr.out; subst h; rfl, Hb.out⟩
          · have h4 : (u : Int) ≤ 1 := by omega
            have h5 : (b != 0) = true := by simpa using h3
            clear a1
            go_wp2_with fail
            go_ret
            exact ⟨by have h := Hr.out; subst h; rfl, Hb.out⟩
        · have Ha1 := hide a1
          obtain ⟨h, h', h2⟩ := okF_yes a1
          clear a1
          rcases h2 with h2 | ⟨h2, rfl⟩
          · have h4 : ¬ (u : Int) ≤ 1 := by omega
            go_wp2_with fail
            go_round
            case rel => exact hide (.inr (.inr (.inl ⟨rfl, a0.out, (by first | exact Ha1.out | trivial)⟩)))
            case measure => simp [intOf]
          · have h4 : (u : Int) ≤ 1 := by omega
            go_wp2_with fail
            go_round
            case rel => exact hide (.inr (.inr (.inl ⟨rfl, a0.out, (by first | exact Ha1.out | trivial)⟩)))
            case measure => simp [intOf]
      · have q : ∀ w : World, (Instr.index 80 (.agg #[.int .i64 a, .int .i64 b, .int .i64 c]) (.int .i64 2)).run Try.prog w = .ok (.int .i64 c) w := fun _ => by kernel_rfl
        clear hrel
        have a0 := hide a0
        have a1 := hide a1
        cases a2 : okF u 2 c
        · have Hr : Hid (r = 180) := hide (Hn.out (by rw [Hok.out, Hp.out, a0.out, a1.out, a2]; simp))
          rcases okF_no a2 with h | ⟨h, h'⟩ | ⟨h, h', h2, h3⟩
          · clear a2
            go_wp2_with fail
            go_ret
            exact ⟨by have h := Hr.out; subst h; rfl, Hb.out⟩
          · clear a2
            go_wp2_with fail
            go_ret
            exact ⟨by have h := Hr.out; subst h; rfl, Hb.out⟩
          · have h4 : (u : Int) ≤ 2 := by omega
            have h5 : (c != 0) = true := by simpa using h3
            clear a2
            go_wp2_with fail
            go_ret
            exact ⟨by have h := Hr.out; subst h; rfl, Hb.out⟩
        · have Ha2 := hide a2
          obtain ⟨h, h', h2⟩ := okF_yes a2
          clear a2
          rcases h2 with h2 | ⟨h2, rfl⟩
          · have h4 : ¬ (u : Int) ≤ 2 := by omega
            go_wp2_with fail
            go_round
            case rel => exact hide (.inr (.inr (.inr (⟨rfl, a0.out, a1.out, (by first | exact Ha2.out | trivial)⟩))))
            case measure => simp [intOf]
          · have h4 : (u : Int) ≤ 2 := by omega
            go_wp2_with fail
            go_round
            case rel => exact hide (.inr (.inr (.inr (⟨rfl, a0.out, a1.out, (by first | exact Ha2.out | trivial)⟩))))
            case measure => simp [intOf]
      · clear hrel
        have a0 := hide a0
        have a1 := hide a1
        have a2 := hide a2
        by_cases h8 : k = 8
        · subst h8
          by_cases h1 : b ≤ 1
          · have Hr : Hid (r = 0) := hide (Hy.out (by rw [Hok.out, Hp.out, a0.out, a1.out, a2.out]; simp [h1]))
            go_wp2_with fail
            go_ret
            exact ⟨by have h := Hr.out; subst h; rfl, Hb.out⟩
          · have Hr : Hid (r = 180) := hide (Hn.out (by rw [Hok.out, Hp.out, a0.out, a1.out, a2.out]; simp; omega))
            go_wp2_with fail
            go_ret
            exact ⟨by have h := Hr.out; subst h; rfl, Hb.out⟩
        · have Hr : Hid (r = 0) := hide (Hy.out (by rw [Hok.out, Hp.out, a0.out, a1.out, a2.out]; simp [h8]))
          have h9 : (k == 8) = false := by simpa using h8
          go_wp2_with fail
          go_ret
          exact ⟨by have h := Hr.out; subst h; rfl, Hb.out⟩
end Go.Proofs.Ytgdoagmnhmfjkaa
