/- What is a note: the document's Good. -/
import Derived.Test.YtgdoagmnhmfjkaaNra
import Derived.Test.YtgdoagmnhmfjkaaNsl
namespace Go.Proofs.Ytgdoagmnhmfjkaa
open Go.ChangeShapes Go.WideShapes Go.ChangeAt Go.RowKit
set_option linter.unusedVariables false

set_option maxHeartbeats 4000000 in
theorem good_any (k a b c : Int) (w : World) : Calls Try.prog 41 #[.agg #[.int .i64 k, .int .i64 a, .int .i64 b, .int .i64 c]] w fun e w' => e = .returned (.bool (Nt.mk k a b c).ok) ∧ Below w.heap.size w w' := by
  have hok := ok_parts k a b c
  obtain ⟨r, hr⟩ : ∃ r, (Nt.mk k a b c).ok = r := ⟨_, rfl⟩
  rw [hr] at hok ⊢
  have Hok := hide hok
  clear hok hr
  have k20 := ruses_any k
  obtain ⟨K, hK⟩ : ∃ K, rus k = K := ⟨_, rfl⟩
  obtain ⟨u, hu⟩ : ∃ u, us k = u := ⟨_, rfl⟩
  have HK : Hid ((u = 0 ∧ K = -1) ∨ (0 < u ∧ K = u)) := hide (by
    rw [← hK, ← hu]
    rcases Nat.eq_zero_or_pos (us k) with q | q
    · exact .inl ⟨q, rus_none q⟩
    · exact .inr ⟨q, rus_some (by omega)⟩)
  rw [hK] at k20
  rw [hu] at Hok
  have K20 := hide k20
  clear k20 hK hu
  have Hw := hide (below_new w (.cells #[.int .i64 k, .int .i64 a, .int .i64 b, .int .i64 c] 43))
  go_enter Try.func41, Try.ntmps41
  go_upto_region 2 with (go_at_call 51; refine (K20.out _).mono ?_; rintro e w1 ⟨rfl, hb1⟩)
  have p0 : w1.cell? ⟨w.heap.size, 0, none⟩ = some (.int .i64 k) := box_at hb1 0
  have p1 : w1.cell? ⟨w.heap.size, 1, none⟩ = some (.int .i64 a) := box_at hb1 1
  have p2 : w1.cell? ⟨w.heap.size, 2, none⟩ = some (.int .i64 b) := box_at hb1 2
  have p3 : w1.cell? ⟨w.heap.size, 3, none⟩ = some (.int .i64 c) := box_at hb1 3
  have hb2 := hb1.alloc hb1.size (.cells #[.int .i64 a, .int .i64 b, .int .i64 c] 80)
  have HB := hide (Hw.out.trans (hb2.mono Hw.out.size))
  have r0 : (w1.alloc (.cells #[.int .i64 a, .int .i64 b, .int .i64 c] 80)).cell? ⟨w.heap.size, 0, none⟩ = some (.int .i64 k) := box_at hb2 0
  have r2 : (w1.alloc (.cells #[.int .i64 a, .int .i64 b, .int .i64 c] 80)).cell? ⟨w.heap.size, 2, none⟩ = some (.int .i64 b) := box_at hb2 2
  obtain ⟨q0, q1, q2⟩ : (w1.alloc (.cells #[.int .i64 a, .int .i64 b, .int .i64 c] 80)).cell? ⟨w1.heap.size, 0, none⟩ = some (.int .i64 a) ∧ (w1.alloc (.cells #[.int .i64 a, .int .i64 b, .int .i64 c] 80)).cell? ⟨w1.heap.size, 1, none⟩ = some (.int .i64 b) ∧ (w1.alloc (.cells #[.int .i64 a, .int .i64 b, .int .i64 c] 80)).cell? ⟨w1.heap.size, 2, none⟩ = some (.int .i64 c) := ⟨(cells_at (heap_new _ _) 0).1, (cells_at (heap_new _ _) 1).1, (cells_at (heap_new _ _) 2).1⟩
  go_wp2_with fail
  clear p0 p1 p2 p3 hb1 hb2 Hw K20
  generalize w1.heap.size = g at *
  generalize w1.alloc (.cells #[.int .i64 a, .int .i64 b, .int .i64 c] 80) = W at *
  go_loop [5] (fun i => Hid ((i = .int .i64 0) ∨ (i = .int .i64 1 ∧ okF u 0 a = true) ∨ (i = .int .i64 2 ∧ okF u 0 a = true ∧ okF u 1 b = true) ∨ (i = .int .i64 3 ∧ okF u 0 a = true ∧ okF u 1 b = true ∧ okF u 2 c = true))) (fun i => 3 - (intOf i).toNat)
  case atStart => exact hide (.inl rfl)
  case round =>
    rcases hrel.out with rfl | ⟨rfl, a0⟩ | ⟨rfl, a0, a1⟩ | ⟨rfl, a0, a1, a2⟩
    · clear hrel
      cases a0 : okF u 0 a
      · have Hr : Hid (r = false) := hide (by rw [Hok.out, a0]; simp)
        rcases okF_no a0 with h | ⟨h, h'⟩ | ⟨h, h', h2, h3⟩
        · clear a0
          go_wp2_with fail
          go_ret
          exact ⟨by have h := Hr.out; subst h; rfl, HB.out⟩
        · clear a0
          go_wp2_with fail
          go_ret
          exact ⟨by have h := Hr.out; subst h; rfl, HB.out⟩
        · have h4 : K ≤ 0 := by have := HK.out; omega
          have h5 : (a != 0) = true := by simpa using h3
          clear a0
          go_wp2_with fail
          go_ret
          exact ⟨by have h := Hr.out; subst h; rfl, HB.out⟩
      · have Ha0 := hide a0
        obtain ⟨h, h', h2⟩ := okF_yes a0
        clear a0
        rcases h2 with h2 | ⟨h2, rfl⟩
        · have h4 : ¬ K ≤ 0 := by have := HK.out; omega
          go_wp2_with fail
          go_round
          case rel => exact hide (.inr (.inl ⟨rfl, (by first | exact Ha0.out | trivial)⟩))
          case measure => simp [intOf]
        · have h4 : K ≤ 0 := by have := HK.out; omega
          go_wp2_with fail
          go_round
          case rel => exact hide (.inr (.inl ⟨rfl, (by first | exact Ha0.out | trivial)⟩))
          case measure => simp [intOf]
    · clear hrel
      have a0 := hide a0
      cases a1 : okF u 1 b
      · have Hr : Hid (r = false) := hide (by rw [Hok.out, a0.out, a1]; simp)
        rcases okF_no a1 with h | ⟨h, h'⟩ | ⟨h, h', h2, h3⟩
        · clear a1
          go_wp2_with fail
          go_ret
          exact ⟨by have h := Hr.out; subst h; rfl, HB.out⟩
        · clear a1
          go_wp2_with fail
          go_ret
          exact ⟨by have h := Hr.out; subst h; rfl, HB.out⟩
        · have h4 : K ≤ 1 := by have := HK.out; omega
          have h5 : (b != 0) = true := by simpa using h3
          clear a1
          go_wp2_with fail
          go_ret
          exact ⟨by have h := Hr.out; subst h; rfl, HB.out⟩
      · have Ha1 := hide a1
        obtain ⟨h, h', h2⟩ := okF_yes a1
        clear a1
        rcases h2 with h2 | ⟨h2, rfl⟩
        · have h4 : ¬ K ≤ 1 := by have := HK.out; omega
          go_wp2_with fail
          go_round
          case rel => exact hide (.inr (.inr (.inl ⟨rfl, a0.out, (by first | exact Ha1.out | trivial)⟩)))
          case measure => simp [intOf]
        · have h4 : K ≤ 1 := by have := HK.out; omega
          go_wp2_with fail
          go_round
          case rel => exact hide (.inr (.inr (.inl ⟨rfl, a0.out, (by first | exact Ha1.out | trivial)⟩)))
          case measure => simp [intOf]
    · clear hrel
      have a0 := hide a0
      have a1 := hide a1
      cases a2 : okF u 2 c
      · have Hr : Hid (r = false) := hide (by rw [Hok.out, a0.out, a1.out, a2]; simp)
        rcases okF_no a2 with h | ⟨h, h'⟩ | ⟨h, h', h2, h3⟩
        · clear a2
          go_wp2_with fail
          go_ret
          exact ⟨by have h := Hr.out; subst h; rfl, HB.out⟩
        · clear a2
          go_wp2_with fail
          go_ret
          exact ⟨by have h := Hr.out; subst h; rfl, HB.out⟩
        · have h4 : K ≤ 2 := by have := HK.out; omega
          have h5 : (c != 0) = true := by simpa using h3
          clear a2
          go_wp2_with fail
          go_ret
          exact ⟨by have h := Hr.out; subst h; rfl, HB.out⟩
      · have Ha2 := hide a2
        obtain ⟨h, h', h2⟩ := okF_yes a2
        clear a2
        rcases h2 with h2 | ⟨h2, rfl⟩
        · have h4 : ¬ K ≤ 2 := by have := HK.out; omega
          go_wp2_with fail
          go_round
          case rel => exact hide (.inr (.inr (.inr (⟨rfl, a0.out, a1.out, (by first | exact Ha2.out | trivial)⟩))))
          case measure => simp [intOf]
        · have h4 : K ≤ 2 := by have := HK.out; omega
          go_wp2_with fail
          go_round
          case rel => exact hide (.inr (.inr (.inr (⟨rfl, a0.out, a1.out, (by first | exact Ha2.out | trivial)⟩))))
          case measure => simp [intOf]
    · clear hrel
      have a0 := hide a0
      have a1 := hide a1
      have a2 := hide a2
      by_cases hu : 0 < u
      · have h1 : 0 < K := by have := HK.out; omega
        have HU := hide hu
        clear hu
        by_cases h8 : k = 8
        · subst h8
          by_cases hb1 : b ≤ 1
          · have Hr : Hid (r = true) := hide (by rw [Hok.out, a0.out, a1.out, a2.out]; simp [hb1, HU.out])
            go_wp2_with fail
            go_ret
            exact ⟨by have h := Hr.out; subst h; rfl, HB.out⟩
          · have Hr : Hid (r = false) := hide (by rw [Hok.out, a0.out, a1.out, a2.out]; simp; omega)
            go_wp2_with fail
            go_ret
            exact ⟨by have h := Hr.out; subst h; rfl, HB.out⟩
        · have Hr : Hid (r = true) := hide (by rw [Hok.out, a0.out, a1.out, a2.out]; simp [h8, HU.out])
          have h9 : (k != 8) = true := by simpa using h8
          go_wp2_with fail
          go_ret
          exact ⟨by have h := Hr.out; subst h; rfl, HB.out⟩
      · have h1 : ¬ 0 < K := by have := HK.out; omega
        have Hr : Hid (r = false) := hide (by rw [Hok.out, a0.out, a1.out, a2.out]; simp; omega)
        go_wp2_with fail
        go_ret
        exact ⟨by have h := Hr.out; subst h; rfl, HB.out⟩
end Go.Proofs.Ytgdoagmnhmfjkaa
