/- isName, isZone, isPlace, isNode. -/
import Derived.Test.YthcdfclhenmleaaLay
import Derived.Deep.CutRange
import Derived.Deep.DeepCutAuto
import Derived.Deep.QuietTactic
import Derived.BigQuiet
import Derived.LoopTactic
import Derived.Laws.RangeAny
namespace Go.Proofs.Ythcdfclhenmleaa
open Go.RowKit
set_option linter.unusedVariables false

set_option maxHeartbeats 1000000 in
theorem isZone_any (z : Int) (w : World) : Calls Try.prog 55 #[.int .i64 z] w fun e w' => e = .returned (.bool (zoneB z)) ∧ w' = w := by
  unfold zoneB
  by_cases h1 : 0 ≤ z
  · by_cases h2 : z < 8
    · go_enter Try.func55, Try.ntmps55
      go_wp2_with fail
      go_ret
      exact ⟨by simp [h1, h2], rfl⟩
    · go_enter Try.func55, Try.ntmps55
      go_wp2_with fail
      go_ret
      exact ⟨by simp [h2], rfl⟩
  · go_enter Try.func55, Try.ntmps55
    go_wp2_with fail
    go_ret
    exact ⟨by rw [decide_eq_false (by omega)]; rfl, rfl⟩

set_option maxHeartbeats 1000000 in
theorem isPlace_any (a : Option Addr) (n c : Nat) (i : Int) (w : World) : Calls Try.prog 56 #[.slice a n c, .int .i64 i] w fun e w' => e = .returned (.bool (decide (0 ≤ i ∧ i < n))) ∧ w' = w := by
  by_cases h1 : 0 ≤ i
  · by_cases h2 : i < n
    · go_enter Try.func56, Try.ntmps56
      go_wp2_with fail
      go_ret
      exact ⟨by simp [h1, h2], rfl⟩
    · go_enter Try.func56, Try.ntmps56
      go_wp2_with fail
      go_ret
      exact ⟨by simp [h2], rfl⟩
  · go_enter Try.func56, Try.ntmps56
    go_wp2_with fail
    go_ret
    exact ⟨by rw [decide_eq_false (by omega)]; rfl, rfl⟩

set_option maxRecDepth 100000 in
set_option maxHeartbeats 4000000 in
theorem isName_any (s : ByteArray) (w : World) : Calls Try.prog 54 #[.string s] w fun e w' => e = .returned (.bool (nameB s)) ∧ Below w.heap.size w w' := by
  have b0 : Below w.heap.size w w := Below.refl _ _
  by_cases h1 : s.size < 1
  · have e1 : nameB s = false := by unfold nameB; exact decide_eq_false (by omega)
    rw [e1]
    have h1' : (s.size : Int) < 1 := by omega
    go_enter Try.func54, Try.ntmps54
    go_wp2_with fail
    go_ret
    exact ⟨rfl, b0⟩
  by_cases h2 : 8 < s.size
  · have e1 : nameB s = false := by unfold nameB; exact decide_eq_false (by omega)
    rw [e1]
    have h1' : ¬ (s.size : Int) < 1 := by omega
    have h2' : (8 : Int) < s.size := by omega
    go_enter Try.func54, Try.ntmps54
    go_wp2_with fail
    go_ret
    exact ⟨rfl, b0⟩
  have h1' : ¬ (s.size : Int) < 1 := by omega
  have h2' : ¬ (8 : Int) < s.size := by omega
  have fin : Hid (∀ p, Below w.heap.size w (w.iter s p)) := hide (fun p => (Below.refl _ _).alloc (Nat.le_refl _) _)
  have no : Hid (∀ i, i < s.size → chOk i (byteAt s i) = false → nameB s = false) := hide (fun i hi hc => by
    unfold nameB
    refine decide_eq_false (fun h => ?_)
    rw [h.2.2 i hi] at hc; cases hc)
  have yes : Hid ((∀ i, i < s.size → chOk i (byteAt s i) = true) → nameB s = true) := hide (fun h => by
    unfold nameB
    exact decide_eq_true ⟨by omega, by omega, h⟩)
  generalize nameB s = res at *
  have Hn := hide (And.intro h1 h2)
  clear h1 h2 b0
  go_enter Try.func54, Try.ntmps54
  go_wp2_with fail
  go_loopw [] (fun wr => ∃ pos : Nat, wr = w.iter s pos ∧ pos ≤ s.size ∧ Hid (∀ i, i < pos → chOk i (byteAt s i) = true)) (fun wr => s.size - wr.iterPos w.heap.size)
  case atStart => exact ⟨0, rfl, Nat.zero_le _, hide (fun i hi => by omega)⟩
  case round =>
    obtain ⟨pos, rfl, hp, hall⟩ := hrel
    by_cases hlt : pos < s.size
    · have hnx : ∀ ty, (Instr.next (.pointer (some ⟨w.heap.size, 0, none⟩)) true ty).run Try.prog (w.iter s pos) = _ := fun ty => run_next_any w s pos ty hlt
      have hk : Hid (chOk pos (byteAt s pos) = (decide (97 ≤ (Utf8.decode s pos).1 ∧ (Utf8.decode s pos).1 ≤ 122) || (decide (48 ≤ (Utf8.decode s pos).1 ∧ (Utf8.decode s pos).1 ≤ 57) && decide (pos ≠ 0))) ∧ (chOk pos (byteAt s pos) = true → (Utf8.decode s pos).2 = 1)) := hide (by
        by_cases ha : (s[pos]'hlt).toNat < 128
        · rw [decode_ascii s pos hlt ha, byteAt_eq s pos hlt]
          exact ⟨rfl, fun _ => rfl⟩
        · have hh := (decode_high s pos hlt (by omega)).1
          rw [byteAt_eq s pos hlt]
          generalize (s[pos]'hlt).toNat = x at *
          generalize (Utf8.decode s pos).1 = y at *
          have z : chOk pos x = false := by
            unfold chOk
            rw [decide_eq_false (by omega), decide_eq_false (by omega)]; rfl
          refine ⟨?_, fun h => by rw [z] at h; cases h⟩
          rw [z, decide_eq_false (show ¬ (97 ≤ y ∧ y ≤ 122) by omega), decide_eq_false (show ¬ (48 ≤ y ∧ y ≤ 57) by omega)]; rfl)
      have hrl := decode_le s pos
      generalize (Utf8.decode s pos).1 = r at *
      generalize (Utf8.decode s pos).2 = d at *
      have step : Hid (chOk pos (byteAt s pos) = true → d = 1 ∧ ∀ i, i < pos + 1 → chOk i (byteAt s i) = true) := hide (fun h => ⟨hk.out.2 h, fun i hi => by
        rcases Nat.lt_or_ge i pos with h' | h'
        · exact hall.out i h'
        · obtain rfl : i = pos := by omega
          exact h⟩)
      have kk := hk.out.1
      have Hkk := hide kk
      clear kk hk
      by_cases l1 : 97 ≤ r ∧ r ≤ 122
      · have c1 : chOk pos (byteAt s pos) = true := by rw [Hkk.out, decide_eq_true l1]; rfl
        obtain ⟨rfl, st⟩ := step.out c1
        have Hst := hide st
        obtain ⟨l2, l3⟩ := l1
        have l2' : (97 : Int) ≤ (r : Int) := by omega
        have l3' : (r : Int) ≤ 122 := by omega
        clear st step Hkk c1
        by_cases d1 : 48 ≤ r ∧ r ≤ 57
        · omega
        · by_cases d2 : 48 ≤ r
          · have d2' : (48 : Int) ≤ (r : Int) := by omega
            have d3' : ¬ (r : Int) ≤ 57 := by omega
            clear d1
            go_wp2_with fail
            go_roundw
            case rel => exact ⟨pos + 1, rfl, by omega, Hst⟩
            case measure => simp; omega
          · have d2' : ¬ (48 : Int) ≤ (r : Int) := by omega
            clear d1
            go_wp2_with fail
            go_roundw
            case rel => exact ⟨pos + 1, rfl, by omega, Hst⟩
            case measure => simp; omega
      · have lf : ¬ ((97 : Int) ≤ (r : Int) ∧ (r : Int) ≤ 122) := by omega
        by_cases d1 : 48 ≤ r ∧ r ≤ 57
        · have l2' : ¬ (97 : Int) ≤ (r : Int) := by omega
          have d2' : (48 : Int) ≤ (r : Int) := by omega
          have d3' : (r : Int) ≤ 57 := by omega
          by_cases p0 : pos = 0
          · have c1 : chOk pos (byteAt s pos) = false := by rw [Hkk.out, decide_eq_false l1, decide_eq_true d1, decide_eq_false (by simpa using p0)]; rfl
            have c2 := no.out pos hlt c1
            subst c2
            subst p0
            clear l1 lf d1 step Hkk c1
            go_wp2_with fail
            go_ret
            exact ⟨rfl, fin.out _⟩
          · have c1 : chOk pos (byteAt s pos) = true := by rw [Hkk.out, decide_eq_false l1, decide_eq_true d1, decide_eq_true (by simpa using p0)]; rfl
            obtain ⟨rfl, st⟩ := step.out c1
            have Hst := hide st
            have p0' : ¬ (pos : Int) = 0 := by omega
            clear st step Hkk c1 l1 lf d1
            go_wp2_with fail
            go_roundw
            case rel => exact ⟨pos + 1, rfl, by omega, Hst⟩
            case measure => simp; omega
        · have c1 : chOk pos (byteAt s pos) = false := by rw [Hkk.out, decide_eq_false l1, decide_eq_false d1]; rfl
          have c2 := no.out pos hlt c1
          subst c2
          have df : ¬ ((48 : Int) ≤ (r : Int) ∧ (r : Int) ≤ 57) := by omega
          clear step Hkk c1 l1 d1
          by_cases l2 : (97 : Int) ≤ (r : Int)
          · have l3 : ¬ (r : Int) ≤ 122 := fun h => lf ⟨l2, h⟩
            have d2 : (48 : Int) ≤ (r : Int) := by omega
            have d3 : ¬ (r : Int) ≤ 57 := by omega
            clear lf df
            go_wp2_with fail
            go_ret
            exact ⟨rfl, fin.out _⟩
          · by_cases d2 : (48 : Int) ≤ (r : Int)
            · have d3 : ¬ (r : Int) ≤ 57 := fun h => df ⟨d2, h⟩
              clear lf df
              go_wp2_with fail
              go_ret
              exact ⟨rfl, fin.out _⟩
            · clear lf df
              go_wp2_with fail
              go_ret
              exact ⟨rfl, fin.out _⟩
    · obtain rfl : pos = s.size := by omega
      have hnx : ∀ ty, (Instr.next (.pointer (some ⟨w.heap.size, 0, none⟩)) true ty).run Try.prog (w.iter s s.size) = _ := fun ty => run_next_end w s s.size ty hlt
      have c2 := yes.out hall.out
      subst c2
      go_wp2_with fail
      go_ret
      exact ⟨rfl, fin.out _⟩

set_option maxRecDepth 100000 in
set_option maxHeartbeats 2000000 in
theorem isNode_any (n : Nd) (w : World) : Calls Try.prog 50 #[.agg #[.string n.name, .int .i64 n.kind, .int .i64 n.zone]] w fun e w' => e = .returned (.bool (ndB n)) ∧ Below w.heap.size w w' := by
  obtain ⟨s, k, z⟩ := n
  have K50 := hide (fun W => isName_any s W)
  have K51 := hide (fun W => isZone_any z W)
  have e1 : Hid (ndB ⟨s, k, z⟩ = (nameB s && (decide (1 ≤ k) && (decide (k ≤ 4) && zoneB z)))) := hide (by
    unfold ndB
    show (nameB s && decide (1 ≤ k ∧ k ≤ 4) && zoneB z) = _
    rw [Bool.decide_and]; cases nameB s <;> cases decide (1 ≤ k) <;> cases decide (k ≤ 4) <;> rfl)
  have bA : Below w.heap.size w (w.alloc (.cells #[.string s, .int .i64 k, .int .i64 z] 67)) := (Below.refl _ _).alloc (Nat.le_refl _) _
  have fin : Hid (∀ W', Below (w.alloc (.cells #[.string s, .int .i64 k, .int .i64 z] 67)).heap.size (w.alloc (.cells #[.string s, .int .i64 k, .int .i64 z] 67)) W' → Below w.heap.size w W' ∧ ∀ i, W'.cell? ⟨w.heap.size, i, none⟩ = #[Value.string s, .int .i64 k, .int .i64 z][i]?) := hide (fun W' h => ⟨bA.trans (h.mono (by simp)), fun i => by
    have hx : W'.heap[w.heap.size]? = some (.cells #[.string s, .int .i64 k, .int .i64 z] 67) := by rw [h.block _ (by simp)]; exact heap_new _ _
    exact (cells_at hx i).1⟩)
  show Calls Try.prog 50 #[.agg #[.string s, .int .i64 k, .int .i64 z]] w _
  rw [e1.out]
  clear bA
  cases hn : nameB s with
  | false =>
    go_enter Try.func50, Try.ntmps50
    go_wp2_with ((go_at_call 54; refine (K50.out _).mono ?_; rintro e W1 ⟨rfl, h1⟩; rw [hn]; obtain ⟨f1, f2⟩ := fin.out _ h1; have Hf := hide f1; clear f1 h1))
    go_ret
    exact ⟨rfl, Hf.out⟩
  | true =>
    by_cases k1 : 1 ≤ k
    · by_cases k2 : k ≤ 4
      · rw [decide_eq_true k1, decide_eq_true k2]
        go_enter Try.func50, Try.ntmps50
        go_wp2_with (first
          | (go_at_call 54; refine (K50.out _).mono ?_; rintro e W1 ⟨rfl, h1⟩; rw [hn]; obtain ⟨f1, f2⟩ := fin.out _ h1; have Hf := hide f1; have g1 := f2 1; have g2 := f2 2; simp at g1 g2; clear f1 f2 h1)
          | (go_at_call 55; refine (K51.out _).mono ?_; rintro e W2 ⟨rfl, rfl⟩))
        go_ret
        exact ⟨rfl, Hf.out⟩
      · rw [decide_eq_true k1, decide_eq_false k2]
        go_enter Try.func50, Try.ntmps50
        go_wp2_with ((go_at_call 54; refine (K50.out _).mono ?_; rintro e W1 ⟨rfl, h1⟩; rw [hn]; obtain ⟨f1, f2⟩ := fin.out _ h1; have Hf := hide f1; have g1 := f2 1; simp at g1; clear f1 f2 h1))
        go_ret
        exact ⟨rfl, Hf.out⟩
    · rw [decide_eq_false k1]
      go_enter Try.func50, Try.ntmps50
      go_wp2_with ((go_at_call 54; refine (K50.out _).mono ?_; rintro e W1 ⟨rfl, h1⟩; rw [hn]; obtain ⟨f1, f2⟩ := fin.out _ h1; have Hf := hide f1; have g1 := f2 1; simp at g1; clear f1 f2 h1))
      go_ret
      exact ⟨rfl, Hf.out⟩
end Go.Proofs.Ythcdfclhenmleaa
