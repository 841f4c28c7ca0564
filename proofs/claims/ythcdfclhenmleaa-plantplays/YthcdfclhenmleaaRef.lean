/- The document's Name and Find. -/
import Derived.Test.YthcdfclhenmleaaLyb
namespace Go.Proofs.Ythcdfclhenmleaa
open Go.RowKit
set_option linter.unusedVariables false

set_option maxRecDepth 100000 in
set_option maxHeartbeats 2000000 in
theorem rname_any (s : ByteArray) (w : World) : Calls Try.prog 43 #[.string s] w fun e w' => e = .returned (.bool (nameB s)) ∧ w' = w := by
  by_cases h1 : s.size < 1
  · have e1 : nameB s = false := by unfold nameB; exact decide_eq_false (by omega)
    rw [e1]
    have h1' : (s.size : Int) < 1 := by omega
    go_enter Try.func43, Try.ntmps43
    go_wp2_with fail
    go_ret
    exact ⟨rfl, rfl⟩
  by_cases h2 : 8 < s.size
  · have e1 : nameB s = false := by unfold nameB; exact decide_eq_false (by omega)
    rw [e1]
    have h1' : ¬ (s.size : Int) < 1 := by omega
    have h2' : (8 : Int) < s.size := by omega
    go_enter Try.func43, Try.ntmps43
    go_wp2_with fail
    go_ret
    exact ⟨rfl, rfl⟩
  have h1' : ¬ (s.size : Int) < 1 := by omega
  have h2' : ¬ (8 : Int) < s.size := by omega
  have no : Hid (∀ i, i < s.size → chOk i (byteAt s i) = false → nameB s = false) := hide (fun i hi hc => by
    unfold nameB
    refine decide_eq_false (fun h => ?_)
    rw [h.2.2 i hi] at hc; cases hc)
  have yes : Hid ((∀ i, i < s.size → chOk i (byteAt s i) = true) → nameB s = true) := hide (fun h => by
    unfold nameB
    exact decide_eq_true ⟨by omega, by omega, h⟩)
  generalize nameB s = res at *
  have Hsz := hide (And.intro h1 h2)
  clear h1 h2
  go_enter Try.func43, Try.ntmps43
  go_wp2_with fail
  go_loopw [3] (fun v3 wr => ∃ pos : Nat, wr = w ∧ v3 = .int .i64 pos ∧ pos ≤ s.size ∧ Hid (∀ i, i < pos → chOk i (byteAt s i) = true)) (fun v3 _ => s.size - (intOf v3).toNat)
  case atStart => exact ⟨0, rfl, rfl, Nat.zero_le _, hide (fun i hi => by omega)⟩
  case round =>
    obtain ⟨pos, rfl, rfl, hp, hall⟩ := hrel
    by_cases hlt : pos < s.size
    · have j1 : (pos : Int) < (s.size : Int) := by omega
      have j0 : (0 : Int) ≤ (pos : Int) := by omega
      have hidx : ∀ W : World, (Instr.index 9 (.string s) (.int .i64 (pos : Int))).run Try.prog W = .ok (.int .u8 (byteAt s pos : Int)) W := fun W => by
        rw [run_index_string W 9 s .i64 (pos : Int) Try.underlying9]
        rw [dif_pos ⟨j0, j1⟩, byteAt_eq s pos hlt]
        rfl
      have step : Hid (chOk pos (byteAt s pos) = true → ∀ i, i < pos + 1 → chOk i (byteAt s i) = true) := hide (fun h i hi => by
        rcases Nat.lt_or_ge i pos with h' | h'
        · exact hall.out i h'
        · obtain rfl : i = pos := by omega
          exact h)
      have Hkk : Hid (chOk pos (byteAt s pos) = (decide (97 ≤ byteAt s pos ∧ byteAt s pos ≤ 122) || (decide (48 ≤ byteAt s pos ∧ byteAt s pos ≤ 57) && decide (pos ≠ 0)))) := hide rfl
      have no' : Hid (chOk pos (byteAt s pos) = false → res = false) := hide (no.out pos hlt)
      generalize byteAt s pos = r at *
      by_cases l1 : 97 ≤ r ∧ r ≤ 122
      · have Hst := hide (step.out (by rw [Hkk.out, decide_eq_true l1]; rfl))
        have l2' : (97 : Int) ≤ (r : Int) := by omega
        have l3' : (r : Int) ≤ 122 := by omega
        have d2' : (48 : Int) ≤ (r : Int) := by omega
        have d3' : ¬ (r : Int) ≤ 57 := by omega
        clear step Hkk l1
        go_wp2_with fail
        go_roundw
        case rel => exact ⟨pos + 1, trivial, by go_num, by omega, Hst⟩
        case measure => simp [intOf]; omega
      · have lf : ¬ ((97 : Int) ≤ (r : Int) ∧ (r : Int) ≤ 122) := by omega
        by_cases d1 : 48 ≤ r ∧ r ≤ 57
        · have l2' : ¬ (97 : Int) ≤ (r : Int) := by omega
          have d2' : (48 : Int) ≤ (r : Int) := by omega
          have d3' : (r : Int) ≤ 57 := by omega
          by_cases p0 : pos = 0
          · have c2 := no'.out (by rw [Hkk.out, decide_eq_false l1, decide_eq_true d1, decide_eq_false (by simpa using p0)]; rfl)
            subst c2
            subst p0
            have hidx0 : ∀ W : World, (Instr.index 9 (.string s) (.int .i64 0)).run Try.prog W = .ok (.int .u8 (r : Int)) W := hidx
            have j1 : (0 : Int) < (s.size : Int) := j1
            clear hidx j0
            clear l1 lf d1 step Hkk
            go_wp2_with fail
            go_ret
            exact ⟨rfl, rfl⟩
          · have Hst := hide (step.out (by rw [Hkk.out, decide_eq_false l1, decide_eq_true d1, decide_eq_true (by simpa using p0)]; rfl))
            have p0' : ¬ (pos : Int) = 0 := by omega
            clear step Hkk l1 lf d1
            go_wp2_with fail
            go_roundw
            case rel => exact ⟨pos + 1, trivial, by go_num, by omega, Hst⟩
            case measure => simp [intOf]; omega
        · have c2 := no'.out (by rw [Hkk.out, decide_eq_false l1, decide_eq_false d1]; rfl)
          subst c2
          have df : ¬ ((48 : Int) ≤ (r : Int) ∧ (r : Int) ≤ 57) := by omega
          clear step Hkk l1 d1
          by_cases l2 : (97 : Int) ≤ (r : Int)
          · have l3 : ¬ (r : Int) ≤ 122 := fun h => lf ⟨l2, h⟩
            have d2 : (48 : Int) ≤ (r : Int) := by omega
            have d3 : ¬ (r : Int) ≤ 57 := by omega
            clear lf df
            by_cases p0 : pos = 0
            · subst p0
              have hidx0 : ∀ W : World, (Instr.index 9 (.string s) (.int .i64 0)).run Try.prog W = .ok (.int .u8 (r : Int)) W := hidx
              have j1 : (0 : Int) < (s.size : Int) := j1
              clear hidx j0
              go_wp2_with fail
              go_ret
              exact ⟨rfl, rfl⟩
            · have p0' : ¬ (pos : Int) = 0 := by omega
              go_wp2_with fail
              go_ret
              exact ⟨rfl, rfl⟩
          · by_cases d2 : (48 : Int) ≤ (r : Int)
            · have d3 : ¬ (r : Int) ≤ 57 := fun h => df ⟨d2, h⟩
              clear lf df
              by_cases p0 : pos = 0
              · subst p0
                have hidx0 : ∀ W : World, (Instr.index 9 (.string s) (.int .i64 0)).run Try.prog W = .ok (.int .u8 (r : Int)) W := hidx
                have j1 : (0 : Int) < (s.size : Int) := j1
                clear hidx j0
                go_wp2_with fail
                go_ret
                exact ⟨rfl, rfl⟩
              · have p0' : ¬ (pos : Int) = 0 := by omega
                go_wp2_with fail
                go_ret
                exact ⟨rfl, rfl⟩
            · clear lf df
              by_cases p0 : pos = 0
              · subst p0
                have hidx0 : ∀ W : World, (Instr.index 9 (.string s) (.int .i64 0)).run Try.prog W = .ok (.int .u8 (r : Int)) W := hidx
                have j1 : (0 : Int) < (s.size : Int) := j1
                clear hidx j0
                go_wp2_with fail
                go_ret
                exact ⟨rfl, rfl⟩
              · have p0' : ¬ (pos : Int) = 0 := by omega
                go_wp2_with fail
                go_ret
                exact ⟨rfl, rfl⟩
    · obtain rfl : pos = s.size := by omega
      have j1 : ¬ (s.size : Int) < (s.size : Int) := by omega
      have c2 := yes.out hall.out
      subst c2
      go_wp2_with fail
      go_ret
      exact ⟨rfl, rfl⟩

def firstFrom : Nat → List Nd → ByteArray → Option Int
  | _, [], _ => none
  | i, n :: l, s => if n.name = s then some (i : Int) else firstFrom (i + 1) l s
def firstAt (ns : List Nd) (s : ByteArray) : Option Int := firstFrom 0 ns s
theorem firstFrom_drop (s : ByteArray) (ns : List Nd) : ∀ k, k ≤ ns.length → (∀ i p, i < k → ns[i]? = some p → p.name ≠ s) → firstFrom 0 ns s = firstFrom k (ns.drop k) s := by
  intro k
  induction k with
  | zero => intro _ _; rfl
  | succ k ih =>
    intro hk h
    rw [ih (by omega) (fun i p hi => h i p (by omega)), ← List.getElem_cons_drop (show k < ns.length by omega)]
    have := h k ns[k] (by omega) (List.getElem?_eq_getElem (by omega))
    rw [firstFrom, if_neg this]

set_option maxRecDepth 100000 in
set_option maxHeartbeats 2000000 in
theorem rfind_any (a : Option Addr) (c : Nat) (vE : Value) (ns : List Nd) (s : ByteArray) (w : World) (hv : ndE.Rd w (.slice a ns.length c) ns) (hl : ns.length ≤ 100000) (hE : ∃ aE nE cE, vE = .slice aE nE cE) :
    Calls Try.prog 44 #[.agg #[.slice a ns.length c, vE], .string s] w fun e w' => e = .returned (.int .i64 ((firstAt ns s).getD (-1))) ∧ Below w.heap.size w w' := by
  obtain ⟨n, hn⟩ : ∃ n, ns.length = n := ⟨_, rfl⟩
  obtain ⟨aE, nE, cE, rfl⟩ := hE
  rw [hn] at hv hl ⊢
  obtain ⟨W0, hW0⟩ : ∃ W0, w.alloc (.cells #[.slice a n c, .slice aE nE cE] 25) = W0 := ⟨_, rfl⟩
  have bA : Below w.heap.size w W0 := by rw [← hW0]; exact (Below.refl _ _).alloc (Nat.le_refl _) _
  have hbox : W0.heap[w.heap.size]? = some (.cells #[.slice a n c, .slice aE nE cE] 25) := by rw [← hW0]; exact heap_new _ _
  have d0 := (cells_at hbox 0).1
  simp at d0
  have HA := hide bA
  have Hv := hide (hv.keep bA)
  have Hn := hide hn
  have HW0 := hide hW0
  have i0 : (n : Int) ≤ 100000 := by omega
  have i1 : (0 : Int) ≤ (n : Int) := by omega
  obtain ⟨res, hres⟩ : ∃ res, (firstAt ns s).getD (-1) = res := ⟨_, rfl⟩
  rw [hres]
  have Hres := hide hres
  clear hn hv hl hbox bA hW0 hres
  go_enter Try.func44, Try.ntmps44
  go_wp2_with fail
  rw [HW0.out]
  clear HW0
  go_loopw [9] (fun v9 wr => ∃ k : Nat, k ≤ n ∧ v9 = .int .i64 k ∧ wr = W0 ∧ Hid (∀ i p, i < k → ns[i]? = some p → p.name ≠ s)) (fun v9 _ => n - (intOf v9).toNat)
  case atStart => exact ⟨0, by omega, rfl, rfl, hide (fun i p hi => by omega)⟩
  case round =>
    obtain ⟨k, hk, rfl, rfl, HX⟩ := hrel
    by_cases hlt : k < n
    · obtain ⟨p, hp⟩ : ∃ p, ns[k]? = some p := ⟨_, List.getElem?_eq_getElem (by rw [Hn.out]; exact hlt)⟩
      obtain ⟨b, off, rfl, c0, c1, c2⟩ := nd_at Hv.out k p hp
      have j0 : (0 : Int) ≤ (k : Int) := by omega
      have j1 : (k : Int) < (n : Int) := by omega
      have Hp := hide hp
      have ee := eq_bytes p.name s
      clear hp
      by_cases he : p.name = s
      · rw [decide_eq_true he] at ee
        have hr : res = (k : Int) := by
          rw [← Hres.out]
          unfold firstAt
          rw [firstFrom_drop s ns k (by rw [Hn.out]; omega) HX.out]
          have hk' : k < ns.length := by rw [Hn.out]; exact hlt
          have := Hp.out
          rw [List.getElem?_eq_getElem hk'] at this
          cases this
          rw [← List.getElem_cons_drop hk', firstFrom, if_pos he]
          rfl
        subst hr
        clear he
        go_wp2_with fail
        go_ret
        exact ⟨rfl, HA.out⟩
      · rw [decide_eq_false he] at ee
        have HX1 : Hid (∀ i p, i < k + 1 → ns[i]? = some p → p.name ≠ s) := hide (fun i q hi hq => by
          rcases Nat.lt_or_ge i k with h' | h'
          · exact HX.out i q h' hq
          · obtain rfl : i = k := by omega
            rw [Hp.out] at hq
            cases hq
            exact he)
        clear he
        go_wp2_with fail
        go_roundw
        case rel => exact ⟨k + 1, by omega, by go_num, trivial, HX1⟩
        case measure => simp [intOf]; omega
    · obtain rfl : k = n := by omega
      have j1 : ¬ (k : Int) < (k : Int) := by omega
      have hr : res = -1 := by
        rw [← Hres.out]
        unfold firstAt
        rw [firstFrom_drop s ns k (by rw [Hn.out]; omega) HX.out, List.drop_of_length_le (by rw [Hn.out]; omega)]
        rfl
      subst hr
      go_wp2_with fail
      go_ret
      exact ⟨rfl, HA.out⟩
end Go.Proofs.Ythcdfclhenmleaa
