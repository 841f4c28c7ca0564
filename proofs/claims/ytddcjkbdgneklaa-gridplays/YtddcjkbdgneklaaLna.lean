/- A lane as it lies in memory; slices.Index, find, Room. -/
import Derived.Test.YtddcjkbdgneklaaCba
namespace Go.Proofs.Ytddcjkbdgneklaa
open Go.RowKit
set_option linter.unusedVariables false

/-- where a number stands first; -1: nowhere -/
def loc (xs : List Int) (t : Int) : Int := if t ∈ xs then (xs.idxOf t : Int) else -1
theorem loc_yes {xs : List Int} {t : Int} {k : Nat} (h : xs[k]? = some t) (hn : ∀ i : Nat, i < k → xs[i]? ≠ some t) : loc xs t = (k : Int) := by
  have hm := List.mem_of_getElem? h
  unfold loc
  rw [if_pos hm]
  have hl := List.idxOf_lt_length_iff.2 hm
  have hg : xs[xs.idxOf t]? = some t := by rw [List.getElem?_eq_getElem hl, List.getElem_idxOf hl]
  have h1 : ¬ xs.idxOf t < k := fun h' => hn _ h' hg
  have h2 : ¬ k < xs.idxOf t := fun h' => by
    have hk := idx_lt h
    have := List.not_of_lt_findIdx (p := (· == t)) h'
    rw [List.getElem?_eq_getElem hk] at h
    have h' := Option.some.inj h
    simp [h'] at this
  omega
theorem loc_no {xs : List Int} {t : Int} (h : t ∉ xs) : loc xs t = -1 := if_neg h
theorem loc_no' {xs : List Int} {t : Int} (h : ∀ k : Nat, k < xs.length → xs[k]? ≠ some t) : loc xs t = -1 := loc_no fun hm => by
  obtain ⟨k, hk⟩ := List.getElem?_of_mem hm
  exact h k (idx_lt hk) hk
theorem loc_in {xs : List Int} {t : Int} (h : t ∈ xs) : ∃ k : Nat, loc xs t = (k : Int) ∧ k < xs.length ∧ xs[k]? = some t := by
  have hl := List.idxOf_lt_length_iff.2 h
  exact ⟨xs.idxOf t, if_pos h, hl, by rw [List.getElem?_eq_getElem hl, List.getElem_idxOf hl]⟩
theorem loc_neg {xs : List Int} {t : Int} : loc xs t < 0 ↔ t ∉ xs := by
  constructor
  · intro h hm
    obtain ⟨k, hk, _⟩ := loc_in hm
    omega
  · intro h; rw [loc_no h]; omega
theorem loc_lt (xs : List Int) (t : Int) : loc xs t < (xs.length : Int) ∧ -1 ≤ loc xs t := by
  by_cases h : t ∈ xs
  · obtain ⟨k, hk, hl, _⟩ := loc_in h
    omega
  · rw [loc_no h]; omega

def lnC (d n : Nat) (s : List Int) : Array Value := (Value.int .i64 d :: Value.int .i64 n :: s.map (Value.int .i64)).toArray
structure Lns (w : World) (g d : Nat) (s xs : List Int) : Prop where
  len : s.length = 8
  le : xs.length ≤ d
  d8 : d ≤ 8
  tk : s.take xs.length = xs
  box : w.heap[g]? = some (.cells (lnC d xs.length s) 97)
/-- a lane -/
def Ln (w : World) (g d : Nat) (xs : List Int) : Prop := ∃ s, Lns w g d s xs

theorem Lns.cells {w : World} {g d : Nat} {s xs : List Int} (h : Lns w g d s xs) : w.cell? ⟨g, 0, none⟩ = some (.int .i64 d) ∧ w.cell? ⟨g, 1, none⟩ = some (.int .i64 xs.length) ∧ (∀ i, w.frozen? ⟨g, i, none⟩ = false) ∧ ∀ (i : Nat) (x : Int), s[i]? = some x → w.cell? ⟨g, 2 + i, none⟩ = some (.int .i64 x) :=
  ⟨(cells_at h.box 0).1, (cells_at h.box 1).1, fun i => (cells_at h.box i).2, fun i x hx => by
    rw [(cells_at h.box _).1]
    unfold lnC
    rw [Nat.add_comm, List.getElem?_toArray, List.getElem?_cons_succ, List.getElem?_cons_succ, List.getElem?_map, hx]; rfl⟩
theorem Lns.at {w : World} {g d : Nat} {s xs : List Int} (h : Lns w g d s xs) (i : Nat) (x : Int) (hx : xs[i]? = some x) : w.cell? ⟨g, 2 + i, none⟩ = some (.int .i64 x) := by
  refine h.cells.2.2.2 i x ?_
  have hl := idx_lt hx
  rw [← h.tk] at hx
  rwa [List.getElem?_take_of_lt hl] at hx
theorem Lns.rd {w : World} {g d : Nat} {s xs : List Int} (h : Lns w g d s xs) : intE.Rd w (.slice (some ⟨g, 2, none⟩) xs.length 8) xs :=
  .inr ⟨⟨g, 2, none⟩, 8, rfl, fun n hn => by
    have hn' : n < xs.length := by simpa [intE] using hn
    rw [addr_plain, h.at n _ (List.getElem?_eq_getElem hn'), fl_map intE (Value.int .i64) (fun _ => rfl), List.getElem?_map, List.getElem?_eq_getElem hn']; rfl⟩
theorem Ln.stay {w w' : World} {g d : Nat} {xs : List Int} (h : Ln w g d xs) (hs : w'.heap[g]? = w.heap[g]?) : Ln w' g d xs := by
  obtain ⟨s, h⟩ := h
  exact ⟨s, h.len, h.le, h.d8, h.tk, by rw [hs]; exact h.box⟩
theorem Ln.lt {w : World} {g d : Nat} {xs : List Int} (h : Ln w g d xs) : g < w.heap.size := by
  obtain ⟨s, h⟩ := h
  exact heap_lt h.box
theorem Ln.keep {w w' : World} {g d : Nat} {xs : List Int} (h : Ln w g d xs) (hb : Below w.heap.size w w') : Ln w' g d xs := h.stay (hb.block _ h.lt)
theorem Ln.drewN {w : World} {g d : Nat} {xs : List Int} (h : Ln w g d xs) (q : Nat) : Ln (w.drewN q) g d xs := h.stay rfl
theorem Ln.le {w : World} {g d : Nat} {xs : List Int} (h : Ln w g d xs) : xs.length ≤ d ∧ d ≤ 8 := by
  obtain ⟨s, h⟩ := h
  exact ⟨h.le, h.d8⟩
/-- a tote more -/
theorem Lns.push {w : World} {g d : Nat} {s xs : List Int} (h : Lns w g d s xs) (t : Int) (hl : xs.length < d) : Ln ((w.setCell ⟨g, 2 + xs.length, none⟩ (.int .i64 t)).setCell ⟨g, 1, none⟩ (.int .i64 ((xs.length + 1 : Nat) : Int))) g d (xs ++ [t]) := by
  have hs8 := h.len
  have hd8 := h.d8
  refine ⟨s.set xs.length t, by simp [h.len], by simp; omega, h.d8, ?_, ?_⟩
  · have e : (xs ++ [t]).length = xs.length + 1 := by simp
    rw [e, List.take_add_one, List.take_set_of_le (Nat.le_refl _), h.tk, List.getElem?_set_self (by omega)]; rfl
  · rw [heap_put (heap_put h.box _) _]
    congr 2
    unfold lnC
    rw [← Array.toList_inj]
    have e : 2 + xs.length = xs.length + 1 + 1 := by omega
    rw [e]
    simp [List.map_set]
/-- one less -/
theorem Lns.pop {w : World} {g d : Nat} {s xs : List Int} (h : Lns w g d s xs) (n : Nat) (hn : xs.length = n + 1) : Ln (w.setCell ⟨g, 1, none⟩ (.int .i64 n)) g d xs.dropLast := by
  have e : xs.dropLast.length = n := by simp [hn]
  have hle := h.le
  refine ⟨s, h.len, by omega, h.d8, ?_, ?_⟩
  · rw [e, List.dropLast_eq_take, hn, Nat.add_sub_cancel]
    conv => rhs; rw [← h.tk]
    rw [List.take_take, hn]; congr 1; omega
  · rw [heap_put h.box _]
    congr 2
    unfold lnC
    rw [← Array.toList_inj, e]
    simp
/-- only the lane's block changes -/
theorem grown_set (w : World) (g i : Nat) (u : Value) : w.grownBy (w.setCell ⟨g, i, none⟩ u) (some g) :=
  ⟨rfl, rfl, rfl, by simp [World.setCell], fun k _ hk => Below.heap_setCell _ _ _ _ (fun e => hk (by rw [e]))⟩
theorem grown_drew {w w' : World} {r : Option Nat} (h : w.grownBy w' r) (q : Nat) : w.grownBy (w'.drewN q) r := ⟨h.os, h.tape, h.output, h.size, h.block⟩

set_option maxRecDepth 100000 in
set_option maxHeartbeats 2000000 in
theorem idx_any (a : Option Addr) (c n : Nat) (ms : List Int) (d : Int) (w : World) (hn : ms.length = n) (hv : intE.Rd w (.slice a n c) ms) (hl : n ≤ 100000) :
    Calls Try.prog 43 #[.slice a n c, .int .i64 d] w fun e w' => e = .returned (.int .i64 (loc ms d)) ∧ w' = w := by
  have Hn := hide hn
  have Hv := hide hv
  have i0 : (n : Int) ≤ 100000 := by omega
  have yes : Hid (∀ k : Nat, ms[k]? = some d → (∀ i : Nat, i < k → ms[i]? ≠ some d) → loc ms d = k) := hide (fun k h h' => loc_yes h h')
  have no : Hid ((∀ k : Nat, k < n → ms[k]? ≠ some d) → loc ms d = -1) := hide (fun h => loc_no' (by rw [hn]; exact h))
  generalize loc ms d = res at *
  clear hn hv hl
  go_enter Try.func43, Try.ntmps43
  go_wp2_with fail
  go_loopw [8] (fun v8 wr => ∃ k : Nat, wr = w ∧ v8 = .int .i64 k ∧ k ≤ n ∧ Hid (∀ i : Nat, i < k → ms[i]? ≠ some d)) (fun v8 _ => n - (intOf v8).toNat)
  case atStart => exact ⟨0, rfl, rfl, Nat.zero_le _, hide (fun i hi => by omega)⟩
  case round =>
    obtain ⟨k, rfl, rfl, hk, HX⟩ := hrel
    by_cases hlt : k < n
    · obtain ⟨p, hp⟩ : ∃ p, ms[k]? = some p := ⟨_, List.getElem?_eq_getElem (by rw [Hn.out]; exact hlt)⟩
      obtain ⟨b, off, rfl, c0⟩ := int_at Hv.out k p hp
      have j0 : (0 : Int) ≤ (k : Int) := by omega
      have j1 : (k : Int) < (n : Int) := by omega
      have Hp := hide hp
      clear hp
      by_cases he : d = p
      · subst he
        have e1 := yes.out k Hp.out HX.out
        subst e1
        go_wp2_with fail
        go_ret
        exact ⟨rfl, rfl⟩
      · have hbe : (d == p) = false := beq_eq_false_iff_ne.2 he
        have HX1 : Hid (∀ i : Nat, i < k + 1 → ms[i]? ≠ some d) := hide (fun i hi h => by
          rcases Nat.lt_or_ge i k with g | g
          · exact HX.out i g h
          · obtain rfl : i = k := by omega
            rw [Hp.out] at h; exact he (Option.some.inj h).symm)
        go_wp2_with fail
        go_roundw
        case rel => exact ⟨k + 1, trivial, by go_num, by omega, HX1⟩
        case measure => simp [intOf]; omega
    · obtain rfl : k = n := by omega
      have j1 : ¬ (k : Int) < (k : Int) := by omega
      have e1 := no.out HX.out
      subst e1
      go_wp2_with fail
      go_ret
      exact ⟨rfl, rfl⟩

set_option maxRecDepth 100000 in
theorem find_any {g d : Nat} {xs : List Int} (t : Int) (w : World) (h : Ln w g d xs) :
    Calls Try.prog 41 #[.pointer (some ⟨g, 0, none⟩), .int .i64 t] w fun e w' => e = .returned (.int .i64 (loc xs t)) ∧ ∃ q, w' = w.drewN q := by
  obtain ⟨s, h⟩ := h
  obtain ⟨c0, c1, c2, c3⟩ := h.cells
  have h8 := h.le
  have h9 := h.d8
  have K : Hid (∀ q, Calls Try.prog 43 #[.slice (some ⟨g, 2, none⟩) xs.length 8, .int .i64 t] (w.drewN q) fun e w' => e = .returned (.int .i64 (loc xs t)) ∧ w' = w.drewN q) := hide (fun q => idx_any _ _ _ xs t (w.drewN q) rfl h.rd (by omega))
  obtain ⟨n, hn⟩ : ∃ n, xs.length = n := ⟨_, rfl⟩
  rw [hn] at c1 K
  have j0 : (n : Int) ≤ 8 := by omega
  have j1 : n ≤ 8 := by omega
  clear hn h8 h9 c0 c2 c3 h
  generalize loc xs t = res at *
  go_enter Try.func41, Try.ntmps41
  go_upto_region 1 with fail
  go_quiet ((go_at_call 43; exact Calls.quiet_of_same (K.out _)))
  go_wp2_with fail
  go_ret
  exact ⟨rfl, _, rfl⟩

set_option maxRecDepth 100000 in
theorem room_any {g d : Nat} {xs : List Int} (w : World) (h : Ln w g d xs) :
    Calls Try.prog 36 #[.pointer (some ⟨g, 0, none⟩)] w fun e w' => e = .returned (.int .i64 ((d - xs.length : Nat) : Int)) ∧ ∃ q, w' = w.drewN q := by
  obtain ⟨s, h⟩ := h
  obtain ⟨c0, c1, c2, c3⟩ := h.cells
  have h8 := h.le
  have h9 := h.d8
  obtain ⟨n, hn⟩ : ∃ n, xs.length = n := ⟨_, rfl⟩
  rw [hn] at c1 h8 ⊢
  obtain ⟨r, hr⟩ : ∃ r, d - n = r := ⟨_, rfl⟩
  rw [hr]
  have j0 : (n : Int) ≤ 8 := by omega
  have j1 : (d : Int) ≤ 8 := by omega
  have j2 : (d : Int) - (n : Int) = (r : Int) := by omega
  clear hn c2 c3 h h8 h9 hr
  go_enter Try.func36, Try.ntmps36
  go_upto_region 1 with fail
  go_quiet (fail)
  go_wp2_with fail
  go_ret
  exact ⟨by first | rfl | simp [j2], _, rfl⟩
end Go.Proofs.Ytddcjkbdgneklaa
