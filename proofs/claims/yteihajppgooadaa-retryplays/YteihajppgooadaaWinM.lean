/- A sender whose pieces have the numbers from nought on; one of them goes. -/
import Derived.Test.YteihajppgooadaaTimM
namespace Go.Proofs.Yteihajppgooadaa
open Go.RowKit
set_option linter.unusedVariables false

theorem w16 (a : Int) : IntKind.u16.wrap a = a % 65536 := by unfold IntKind.wrap; simp [IntKind.bits, IntKind.signed]
theorem Sd.lo_at {S : Sd} {p : Pc} (h : S.ps[0]? = some p) : S.lo = p.n := by
  unfold Sd.lo
  cases hs : S.ps with
  | nil => rw [hs] at h; cases h
  | cons q qs => rw [hs] at h; simp at h; rw [h]
theorem Sd.lo_nil {S : Sd} (h : S.ps = []) : S.lo = S.count := by unfold Sd.lo; rw [h]

/-- the pieces 0 to i - 1 -/
structure Rng (first win : Int) (i : Nat) (S : Sd) : Prop where
  win : S.win = win
  first : S.first = first
  count : S.count = i
  dead : S.dead = false
  len : S.ps.length = i
  at' : ∀ (j : Nat) (p : Pc), S.ps[j]? = some p → p.n = j ∧ p.sent = 0
  times : 1 ≤ S.times

theorem Rng.lo {first win : Int} {i : Nat} {S : Sd} (h : Rng first win i S) : S.lo = 0 := by
  cases hs : S.ps with
  | nil => rw [Sd.lo_nil hs, h.count]; have := h.len; rw [hs] at this; simp at this; omega
  | cons p ps => rw [Sd.lo_at (p := p) (by rw [hs]; rfl), (h.at' 0 p (by rw [hs]; rfl)).1]; rfl
theorem Rng.new (win pause times first : Int) (ht : 1 ≤ times) : Rng first win 0 (Sd.new win pause times first) := ⟨rfl, rfl, rfl, rfl, rfl, (fun j p h => by simp [Sd.new] at h), ht⟩
theorem Rng.put {first win : Int} {i : Nat} {S : Sd} (h : Rng first win i S) (v : Value) (p : Pc) (hn : p.n = S.count) (hs : p.sent = 0) : Rng first win (i + 1) (S.put v p) where
  win := h.win
  first := h.first
  count := by show S.count + 1 = _; rw [h.count]; omega
  dead := h.dead
  len := by show (S.ps ++ [p]).length = _; rw [List.length_append, h.len]; rfl
  at' := fun j q hq => by
    have hq' : (S.ps ++ [p])[j]? = some q := hq
    by_cases hj : j < S.ps.length
    · rw [List.getElem?_append_left hj] at hq'
      exact h.at' j q hq'
    · rw [List.getElem?_append_right (by omega)] at hq'
      have hlt := (List.getElem?_eq_some_iff.1 hq').1
      simp at hlt
      have e : j = i := by have := h.len; omega
      subst e
      rw [h.len, Nat.sub_self] at hq'
      simp at hq'
      rw [← hq', hn, h.count]
      exact ⟨rfl, hs⟩
  times := h.times
theorem Rng.mem {first win : Int} {i : Nat} {S : Sd} (h : Rng first win i S) (p : Pc) (hp : p ∈ S.ps) : p.n < i ∧ 0 ≤ p.n ∧ p.sent = 0 := by
  obtain ⟨j, hj, rfl⟩ := List.mem_iff_getElem.1 hp
  have := h.at' j _ (List.getElem?_eq_getElem hj)
  have := h.len
  omega
theorem sq_eq {first a b : Int} (h : sq first a = sq first b) (h1 : -30000 < a - b) (h2 : a - b < 30000) : a = b := by unfold sq at h; omega
theorem Rng.pix {first win : Int} {i a : Nat} {S : Sd} (h : Rng first win i S) (ha : a < i) (hi : i ≤ 1000) : pix S.first (sq first a) S.ps = a := by
  obtain ⟨p, hp⟩ : ∃ p, S.ps[a]? = some p := ⟨_, List.getElem?_eq_getElem (by rw [h.len]; exact ha)⟩
  refine pix_at hp (by rw [(h.at' a p hp).1, h.first]) (fun j q hj hq e => ?_)
  rw [(h.at' j q hq).1, h.first] at e
  have := sq_eq e (by omega) (by omega)
  omega
theorem pre_app {m : Int} {ps : List Pc} {p : Pc} (h : ∀ q ∈ ps, q.n < m) (hp : ¬ p.n < m) : pre m (ps ++ [p]) = ps.length :=
  pre_at m (ps ++ [p]) ps.length p (fun j q hj hq => by
    rw [List.getElem?_append_left hj] at hq
    exact h q (List.mem_of_getElem? hq)) (by rw [List.getElem?_append_right (Nat.le_refl _), Nat.sub_self]; rfl) hp
/-- one of them is gone -/
theorem Rng.cut_len {first win : Int} {i a : Nat} {S : Sd} (h : Rng first win i S) (ha : a < i) (v : Value) : (S.cut v a (a + 1)).ps.length + 1 = i := by
  show (S.ps.take a ++ S.ps.drop (a + 1)).length + 1 = i
  rw [List.length_append, List.length_take, List.length_drop, h.len]; omega
theorem Rng.cut_mem {first win : Int} {i a : Nat} {S : Sd} (h : Rng first win i S) (v : Value) (p : Pc) (hp : p ∈ (S.cut v a (a + 1)).ps) : p.n < i :=
  (h.mem p ((cut_sub S.ps a (a + 1) (by omega)).subset hp)).1
theorem Rng.cut_lo {first win : Int} {i a : Nat} {S : Sd} (h : Rng first win i S) (ha : a < i) (v : Value) : (S.cut v a (a + 1)).lo = if a = 0 then 1 else 0 := by
  by_cases h0 : a = 0
  · subst h0
    rw [if_pos rfl]
    by_cases h1 : i = 1
    · rw [Sd.lo_nil (S := S.cut v 0 (0 + 1)) (by
        show S.ps.take 0 ++ S.ps.drop (0 + 1) = []
        rw [List.take_zero, List.drop_of_length_le (by rw [h.len]; omega)]; rfl)]
      show S.count = 1
      rw [h.count, h1]; rfl
    · obtain ⟨p, hp⟩ : ∃ p, S.ps[1]? = some p := ⟨_, List.getElem?_eq_getElem (by rw [h.len]; omega)⟩
      rw [Sd.lo_at (p := p) (by show (S.ps.take 0 ++ S.ps.drop (0 + 1))[0]? = some p; rw [List.take_zero, List.nil_append, List.getElem?_drop]; exact hp), (h.at' 1 p hp).1]
      rfl
  · rw [if_neg h0]
    obtain ⟨p, hp⟩ : ∃ p, S.ps[0]? = some p := ⟨_, List.getElem?_eq_getElem (by rw [h.len]; omega)⟩
    rw [Sd.lo_at (p := p) (by
      show (S.ps.take a ++ S.ps.drop (a + 1))[0]? = some p
      rw [List.getElem?_append_left (by rw [List.length_take, h.len]; omega), List.getElem?_take_of_lt (by omega)]
      exact hp), (h.at' 0 p hp).1]
    rfl
end Go.Proofs.Yteihajppgooadaa
