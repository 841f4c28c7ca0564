/- New, Dead, first, numbers of a sender. -/
import Derived.Test.YteihajppgooadaaSob
namespace Go.Proofs.Yteihajppgooadaa
open Go.RowKit
set_option linter.unusedVariables false

set_option maxHeartbeats 1000000 in
theorem outside_any (n most : Int) (w : World) : Calls Try.prog 29 #[.int .i64 n, .int .i64 most] w fun e w' => e = .returned (.bool (decide (n < 1 ∨ most < n))) ∧ w' = w := by
  by_cases h : n < 1
  · rw [decide_eq_true (.inl h)]
    go_enter Try.func29, Try.ntmps29
    go_wp2_with fail
    go_ret
    exact ⟨rfl, rfl⟩
  · by_cases h' : most < n
    · rw [decide_eq_true (.inr h')]
      go_enter Try.func29, Try.ntmps29
      go_wp2_with fail
      go_ret
      exact ⟨rfl, rfl⟩
    · rw [decide_eq_false (by omega)]
      go_enter Try.func29, Try.ntmps29
      go_wp2_with fail
      go_ret
      exact ⟨rfl, rfl⟩

/-- which settings are none -/
def badSet (win pause times : Int) : Prop := (win < 1 ∨ 64 < win) ∨ (pause < 1 ∨ 1000 < pause) ∨ (times < 1 ∨ 20 < times)

set_option maxHeartbeats 1000000 in
theorem snew_no (win pause times first : Int) (w : World) (h : badSet win pause times) : Calls Try.prog 10 #[.int .i64 win, .int .i64 pause, .int .i64 times, .int .u16 first] w fun e w' => e = .returned (.tuple #[.pointer none, .int .i64 1]) ∧ w' = w := by
  have k1 := outside_any win 64 w
  have k2 := outside_any pause 1000 w
  have k3 := outside_any times 20 w
  unfold badSet at h
  by_cases h1 : win < 1 ∨ 64 < win
  · rw [decide_eq_true h1] at k1
    clear h h1
    go_enter Try.func10, Try.ntmps10
    go_wp2_with (go_at_call 29; refine k1.mono ?_; rintro e w' ⟨rfl, rfl⟩)
    go_ret2
    exact ⟨rfl, rfl⟩
  · rw [decide_eq_false h1] at k1
    by_cases h2 : pause < 1 ∨ 1000 < pause
    · rw [decide_eq_true h2] at k2
      clear h h1 h2
      go_enter Try.func10, Try.ntmps10
      go_wp2_with fail
      refine k1.mono ?_
      rintro e w' ⟨rfl, rfl⟩
      go_wp2_with fail
      refine k2.mono ?_
      rintro e w' ⟨rfl, rfl⟩
      go_wp2_with fail
      go_ret2
      exact ⟨rfl, rfl⟩
    · rw [decide_eq_false h2] at k2
      have h3 : times < 1 ∨ 20 < times := by omega
      rw [decide_eq_true h3] at k3
      clear h h1 h2 h3
      go_enter Try.func10, Try.ntmps10
      go_wp2_with fail
      refine k1.mono ?_
      rintro e w' ⟨rfl, rfl⟩
      go_wp2_with fail
      refine k2.mono ?_
      rintro e w' ⟨rfl, rfl⟩
      go_wp2_with fail
      refine k3.mono ?_
      rintro e w' ⟨rfl, rfl⟩
      go_wp2_with fail
      go_ret2
      exact ⟨rfl, rfl⟩

/-- a new sender -/
def Sd.new (win pause times first : Int) : Sd := ⟨win, pause, times, first, 0, .slice none 0 0, [], false⟩
theorem Sd.new_ok (win pause times first : Int) : (Sd.new win pause times first).Ok := ⟨.nil, (fun p h => by cases h), (fun p h => by cases h)⟩

set_option maxHeartbeats 1000000 in
theorem snew_ok (win pause times first : Int) (w : World) (h : ¬ badSet win pause times) (f0 : 0 ≤ first ∧ first ≤ 65535) : Calls Try.prog 10 #[.int .i64 win, .int .i64 pause, .int .i64 times, .int .u16 first] w fun e w' =>
    e = .returned (.tuple #[.pointer (some ⟨w.heap.size, 0, none⟩), .int .i64 0]) ∧ Snd w' w.heap.size w.heap.size (Sd.new win pause times first) ∧ Below w.heap.size w w' ∧ w'.heap.size = w.heap.size + 1 := by
  have k1 := outside_any win 64 w
  have k2 := outside_any pause 1000 w
  have k3 := outside_any times 20 w
  unfold badSet at h
  rw [decide_eq_false (by omega)] at k1 k2 k3
  have hS : Hid (Snd (w.alloc (.cells #[.int .i64 win, .int .i64 pause, .int .i64 times, .int .u16 first, .slice none 0 0, .bool false] 79)) w.heap.size w.heap.size (Sd.new win pause times first)) := hide {
    lim := ⟨⟨by show 1 ≤ win; omega, by show win ≤ 64; omega⟩, ⟨by show 1 ≤ pause; omega, by show pause ≤ 1000; omega⟩, ⟨by show 1 ≤ times; omega, by show times ≤ 20; omega⟩, f0⟩
    base := Nat.le_refl _
    box := by
      show (w.heap.push _)[w.heap.size]? = _
      have e : sq first 0 = first := by unfold sq; omega
      simp [boxS, Sd.new, e]
    lies := ⟨El.Own.nil _ _ _, fun p h => by cases h⟩ }
  have hB : Hid (∀ o, Below w.heap.size w (w.alloc o)) := hide (fun o => (Below.refl _ _).alloc (Nat.le_refl _) o)
  clear h f0
  go_enter Try.func10, Try.ntmps10
  go_wp2_with fail
  refine k1.mono ?_
  rintro e w' ⟨rfl, rfl⟩
  go_wp2_with fail
  refine k2.mono ?_
  rintro e w' ⟨rfl, rfl⟩
  go_wp2_with fail
  refine k3.mono ?_
  rintro e w' ⟨rfl, rfl⟩
  go_wp2_with fail
  exact bodyPost_ret (v := .tuple #[.pointer (some ⟨w'.heap.size, 0, none⟩), .int .i64 0]) (by simp [results, Try.results10, go_sem]) rfl ⟨rfl, hS.out, hB.out _, by simp⟩

set_option maxHeartbeats 1000000 in
theorem dead_any {w : World} {g B : Nat} {S : Sd} (H : Snd w g B S) : Calls Try.prog 21 #[.pointer (some ⟨g, 0, none⟩)] w fun e w' => e = .returned (.bool S.dead) ∧ w' = w := by
  obtain ⟨c0, c1, c2, c3, c4, c5⟩ := H.cells
  clear H
  go_enter Try.func21, Try.ntmps21
  go_wp2_with fail
  go_ret
  exact ⟨rfl, rfl⟩

/-- the first number that is open -/
def Sd.lo (S : Sd) : Int := match S.ps with | [] => S.count | p :: _ => p.n
theorem Sd.Ok.lo {S : Sd} (h : S.Ok) (hw : 1 ≤ S.win) : S.count - S.win ≤ S.lo ∧ S.lo ≤ S.count := by
  unfold Sd.lo
  cases hp : S.ps with
  | nil => simp only; omega
  | cons p ps => simp only; have := h.num p (by rw [hp]; simp); omega

set_option maxHeartbeats 1000000 in
theorem first_any {w : World} {g B : Nat} {S : Sd} (H : Snd w g B S) (hl : S.ps.length ≤ 1000) : Calls Try.prog 39 #[.pointer (some ⟨g, 0, none⟩)] w fun e w' => e = .returned (.int .u16 (sq S.first S.lo)) ∧ w' = w := by
  obtain ⟨c0, c1, c2, c3, c4, c5⟩ := H.cells
  cases hp : S.ps with
  | nil =>
    have e : S.lo = S.count := by unfold Sd.lo; rw [hp]
    obtain ⟨a, c, hv, _⟩ := H.lies.form
    rw [hp] at hv
    rw [e]
    rw [hv] at c4
    clear H hv
    go_enter Try.func39, Try.ntmps39
    go_wp2_with fail
    go_ret
    exact ⟨rfl, rfl⟩
  | cons p ps =>
    have e : S.lo = p.n := by unfold Sd.lo; rw [hp]
    obtain ⟨b, c, hv, _⟩ := H.lies.full (by rw [hp]; simp)
    have hL := H.lies
    rw [hv] at hL
    obtain ⟨d0, _⟩ := hL.at 0 p (by rw [hp]; rfl)
    rw [e]
    rw [hv] at c4
    rw [hp] at c4 hl
    simp only [List.length_cons] at c4 hl
    have i1 : ¬ ((ps.length + 1 : Nat) : Int) = 0 := by omega
    have i2 : (0 : Int) < ((ps.length + 1 : Nat) : Int) := by omega
    have i3 : ((ps.length + 1 : Nat) : Int) ≤ 1000 := by omega
    generalize ps.length + 1 = n at *
    clear H hv hL
    simp only [Nat.zero_mul] at d0
    go_enter Try.func39, Try.ntmps39
    go_wp2_with fail
    go_ret
    exact ⟨rfl, rfl⟩

theorem dst_sq (first a b : Int) (h0 : 0 ≤ b - a) (h1 : b - a ≤ 30000) : dst (sq first a) (sq first b) = b - a := by unfold dst up sq; split <;> omega

set_option maxHeartbeats 2000000 in
theorem numbers_any {w : World} {g B : Nat} {S : Sd} (H : Snd w g B S) (hO : S.Ok) : Calls Try.prog 30 #[.pointer (some ⟨g, 0, none⟩)] w fun e w' => e = .returned (.int .i64 (S.count - S.lo + 1)) ∧ ∃ n, w' = w.drewN n := by
  obtain ⟨c0, c1, c2, c3, c4, c5⟩ := H.cells
  have hw := H.lim.win
  have hlo := hO.lo hw.1
  have hlen := hO.len hw.1
  have k39 := hide (fun n => first_any (H.drewN n) (by omega))
  have k43 := hide (fun W => dist_any (sq S.first S.lo) (sq S.first S.count) W)
  rw [dst_sq S.first S.lo S.count (by omega) (by omega)] at k43
  have d0 : 0 ≤ S.count - S.lo := by omega
  have d1 : S.count - S.lo ≤ 64 := by omega
  clear H hO hw hlo hlen
  generalize S.count - S.lo = d at *
  generalize sq S.first S.lo = x at *
  generalize sq S.first S.count = y at *
  go_enter Try.func30, Try.ntmps30
  go_wp2_with fail
  go_quiet (first
    | (go_at_call 39; exact Calls.quiet_of_same (k39.out _))
    | (go_at_call 43; exact Calls.quiet_of_same (k43.out _)))
  go_wp2_with fail
  go_ret
  exact ⟨rfl, nq, rfl⟩
end Go.Proofs.Yteihajppgooadaa
