/- An intake whose pieces have numbers that don't go round, each with its number as its byte. -/
import Derived.Test.YteihajppgooadaaTak2
import Derived.Test.YteihajppgooadaaWinM
namespace Go.Proofs.Yteihajppgooadaa
open Go.RowKit
set_option linter.unusedVariables false

structure CI (first : Int) (ni got : Nat) (I : Ik) : Prop where
  win : I.win = 8
  inw : I.Inw
  nx : I.nx = sq first ni
  ql : I.q.length + got = ni
  qs : ∀ (j : Nat) (p : Dt), I.q[j]? = some p → p.2 = [((got + j : Nat) : Int)]
  wait : ∀ (m : Nat) (p : Dt), ni ≤ m → m < ni + 8 → I.wait (sq first m) = some p → p.2 = [(m : Int)]
  next : I.wait (sq first ni) = none

theorem CI.new (first : Int) (hf : 0 ≤ first ∧ first ≤ 65535) : CI first 0 0 (Ik.new 8 first) where
  win := rfl
  inw := fun x _ _ h => absurd rfl h
  nx := by show first = sq first (0 : Nat); unfold sq; omega
  ql := rfl
  qs := fun j p h => by simp [Ik.new] at h
  wait := fun m p _ _ h => by cases h
  next := rfl

/-- a number came already -/
def Tkn (first : Int) (ni : Nat) (I : Ik) (m : Nat) : Prop := m < ni ∨ I.wait (sq first m) ≠ none

theorem up_sq (first : Int) (a b : Nat) (h0 : a ≤ b) (h1 : b < a + 60000) : up (sq first a) (sq first b) = (b : Int) - a := by unfold up sq; omega
theorem sq_inj {first : Int} {a b : Nat} (h : sq first a = sq first b) (h1 : a < b + 30000) (h2 : b < a + 30000) : a = b := by unfold sq at h; omega

/-- what Take answers -/
theorem CI.code {first : Int} {ni got m : Nat} {I : Ik} (h : CI first ni got I) (h1 : ni ≤ m + 8) (h2 : m < ni + 8) (hc : I.code (sq first m) 1 = 0 ∨ I.code (sq first m) 1 = 2) : I.code (sq first m) 1 = 0 ∧ ni ≤ m ∨ I.code (sq first m) 1 = 2 ∧ Tkn first ni I m := by
  have e1 : (up ((I.nx - I.win) % 65536) (sq first m) < I.win) ↔ m < ni := by
    rw [h.nx, h.win]
    unfold up sq
    omega
  unfold Ik.code at hc ⊢
  rw [if_neg (by omega)] at hc ⊢
  by_cases c1 : m < ni
  · right
    rw [if_pos (e1.2 c1)] at hc ⊢
    exact ⟨rfl, .inl c1⟩
  · rw [if_neg (fun hh => c1 (e1.1 hh))] at hc ⊢
    have e2 : up I.nx (sq first m) < I.win := by rw [h.nx, h.win, up_sq first ni m (by omega) (by omega)]; omega
    rw [if_neg (by simpa using e2)] at hc ⊢
    by_cases c3 : (I.wait (sq first m)).isSome = true
    · right
      rw [if_pos c3]
      exact ⟨rfl, .inr (by intro hh; rw [hh] at c3; cases c3)⟩
    · rw [if_neg c3] at hc ⊢
      by_cases c4 : I.win ≤ (I.q.length : Int)
      · rw [if_pos c4] at hc
        rcases hc with hc | hc <;> cases hc
      · left
        rw [if_neg c4]
        exact ⟨rfl, by omega⟩

section
variable {first : Int} {ni got m j : Nat} {I : Ik} {p : Dt}

theorem CI.put_at (h : CI first ni got I) (k : Nat) (h1 : k < m + 30000) (h2 : m < k + 30000) : (I.put (sq first m) p).wait (sq first k) = if k = m then some p else I.wait (sq first k) := by
  show (if sq first k = sq first m then some p else I.wait (sq first k)) = _
  by_cases e : k = m
  · subst e; simp
  · rw [if_neg (fun hh => e (sq_inj hh h1 h2)), if_neg e]
theorem CI.j_le (h : CI first ni got I) (h1 : ni ≤ m) (h2 : m < ni + 8) (j1 : (I.put (sq first m) p).There j) : j ≤ 8 := by
  rcases Nat.lt_or_ge 8 j with hj | hj
  · have := j1 8 hj
    have e : ((I.put (sq first m) p).nx + ((8 : Nat) : Int)) % 65536 = sq first ((ni + 8 : Nat) : Int) := by show (I.nx + 8) % 65536 = _; rw [h.nx]; unfold sq; omega
    rw [e, h.put_at (ni + 8) (by omega) (by omega), if_neg (by omega)] at this
    have hr := sq_in first ((ni + 8 : Nat) : Int)
    have := h.inw _ hr.1 hr.2 this
    rw [h.nx, h.win, up_sq first ni (ni + 8) (by omega) (by omega)] at this
    omega
  · exact hj
theorem CI.there (h : CI first ni got I) (h1 : ni ≤ m) (h2 : m < ni + 8) (j1 : (I.put (sq first m) p).There j) (hp : p.2 = [(m : Int)]) (i : Nat) (hi : i < j) : ∃ p', (I.put (sq first m) p).wait (sq first ((ni + i : Nat) : Int)) = some p' ∧ p'.2 = [((ni + i : Nat) : Int)] := by
  have hj := h.j_le h1 h2 j1
  have h3 := j1 i hi
  have e : ((I.put (sq first m) p).nx + (i : Int)) % 65536 = sq first ((ni + i : Nat) : Int) := by show (I.nx + i) % 65536 = _; rw [h.nx]; unfold sq; omega
  rw [e] at h3
  rw [h.put_at (ni + i) (by omega) (by omega)] at h3 ⊢
  by_cases e' : ni + i = m
  · rw [if_pos e']
    exact ⟨p, rfl, by rw [hp, e']⟩
  · rw [if_neg e'] at h3 ⊢
    cases hw : I.wait (sq first ((ni + i : Nat) : Int)) with
    | none => exact absurd hw h3
    | some p' => exact ⟨p', rfl, h.wait _ p' (by omega) (by omega) hw⟩
theorem CI.go_wait (h : CI first ni got I) (h1 : ni ≤ m) (h2 : m < ni + 8) (j1 : (I.put (sq first m) p).There j) (k : Nat) (hk : ni ≤ k) (hk2 : k < ni + 30) : ((I.put (sq first m) p).go j).wait (sq first k) = if k < ni + j then none else if k = m then some p else I.wait (sq first k) := by
  have hj := h.j_le h1 h2 j1
  show (if up I.nx (sq first k) < (j : Int) then none else (I.put (sq first m) p).wait (sq first k)) = _
  rw [h.nx, up_sq first ni k hk (by omega), h.put_at k (by omega) (by omega)]
  by_cases hkj : k < ni + j
  · rw [if_pos hkj, if_pos (by omega)]
  · rw [if_neg hkj, if_neg (by omega)]
theorem CI.go (h : CI first ni got I) (h1 : ni ≤ m) (h2 : m < ni + 8) (hp : p.2 = [(m : Int)]) (j1 : (I.put (sq first m) p).There j) (j2 : (I.put (sq first m) p).wait ((I.nx + j) % 65536) = none) (hI : ((I.put (sq first m) p).go j).Inw) : CI first (ni + j) got ((I.put (sq first m) p).go j) := by
  have hj := h.j_le h1 h2 j1
  have hq : ((I.put (sq first m) p).go j).q = I.q ++ (List.range j).map (fun i : Nat => ((I.put (sq first m) p).wait ((I.nx + (i : Int)) % 65536)).getD (0, [])) := rfl
  refine ⟨h.win, hI, ?_, ?_, ?_, ?_, ?_⟩
  · show (I.nx + (j : Int)) % 65536 = _
    rw [h.nx]; unfold sq; omega
  · rw [hq, List.length_append, List.length_map, List.length_range]; have := h.ql; omega
  · intro i q hi
    rw [hq] at hi
    have hl := h.ql
    by_cases hlt : i < I.q.length
    · rw [List.getElem?_append_left hlt] at hi
      exact h.qs i q hi
    · rw [List.getElem?_append_right (by omega), List.getElem?_map] at hi
      have hi' : i - I.q.length < j := by
        rcases Nat.lt_or_ge (i - I.q.length) j with h' | h'
        · exact h'
        · rw [List.getElem?_eq_none (by simpa using h')] at hi; cases hi
      rw [List.getElem?_range hi'] at hi
      simp only [Option.map_some, Option.some.injEq] at hi
      have e : (I.nx + ((i - I.q.length : Nat) : Int)) % 65536 = sq first ((ni + (i - I.q.length) : Nat) : Int) := by rw [h.nx]; unfold sq; omega
      obtain ⟨p', hw, hp'⟩ := h.there h1 h2 j1 hp (i - I.q.length) hi'
      rw [e, hw] at hi
      have hi2 : p' = q := hi
      rw [← hi2, hp', show ni + (i - I.q.length) = got + i by omega]
  · intro k q hk hk2 hw
    rw [h.go_wait h1 h2 j1 k (by omega) (by omega), if_neg (by omega)] at hw
    by_cases e : k = m
    · rw [if_pos e] at hw
      cases hw
      rw [hp, e]
    · rw [if_neg e] at hw
      by_cases hk8 : k < ni + 8
      · exact h.wait k q (by omega) hk8 hw
      · have hr := sq_in first (k : Int)
        have := h.inw _ hr.1 hr.2 (by rw [hw]; simp)
        rw [h.nx, h.win, up_sq first ni k (by omega) (by omega)] at this
        omega
  · have e : (I.nx + (j : Int)) % 65536 = sq first ((ni + j : Nat) : Int) := by rw [h.nx]; unfold sq; omega
    rw [e] at j2
    rw [h.go_wait h1 h2 j1 (ni + j) (by omega) (by omega), if_neg (by omega), ← h.put_at (p := p) (ni + j) (by omega) (by omega)]
    exact j2
/-- what came stays so -/
theorem CI.tkn (h : CI first ni got I) (h1 : ni ≤ m) (h2 : m < ni + 8) (j1 : (I.put (sq first m) p).There j) (k : Nat) (hk : k < ni + 8) (ht : Tkn first ni I k ∨ k = m) : Tkn first (ni + j) ((I.put (sq first m) p).go j) k := by
  by_cases hkj : k < ni + j
  · exact .inl hkj
  · right
    rw [h.go_wait h1 h2 j1 k (by omega) (by omega), if_neg hkj]
    by_cases e : k = m
    · rw [if_pos e]; simp
    · rw [if_neg e]
      rcases ht with (ht | ht) | ht
      · omega
      · exact ht
      · exact absurd ht e
/-- what waits has come -/
theorem CI.lim (h : CI first ni got I) (h1 : ni ≤ m) (h2 : m < ni + 8) (j1 : (I.put (sq first m) p).There j) (c : Nat) (hm : m < c) (hni : ni ≤ c) (hl : ∀ k, ni ≤ k → k < ni + 8 → I.wait (sq first k) ≠ none → k < c) : ni + j ≤ c ∧ ∀ k, ni + j ≤ k → k < ni + j + 8 → ((I.put (sq first m) p).go j).wait (sq first k) ≠ none → k < c := by
  have hj := h.j_le h1 h2 j1
  constructor
  · rcases Nat.eq_zero_or_pos j with h0 | h0
    · omega
    · have h3 := j1 (j - 1) (by omega)
      have e : ((I.put (sq first m) p).nx + ((j - 1 : Nat) : Int)) % 65536 = sq first ((ni + (j - 1) : Nat) : Int) := by show (I.nx + _) % 65536 = _; rw [h.nx]; unfold sq; omega
      rw [e, h.put_at (ni + (j - 1)) (by omega) (by omega)] at h3
      by_cases e' : ni + (j - 1) = m
      · omega
      · rw [if_neg e'] at h3
        have := hl (ni + (j - 1)) (by omega) (by omega) h3
        omega
  · intro k hk hk2 hw
    rw [h.go_wait h1 h2 j1 k (by omega) (by omega), if_neg (by omega)] at hw
    by_cases e : k = m
    · omega
    · rw [if_neg e] at hw
      by_cases hk8 : k < ni + 8
      · exact hl k (by omega) hk8 hw
      · have hr := sq_in first (k : Int)
        have := h.inw _ hr.1 hr.2 hw
        rw [h.nx, h.win, up_sq first ni k (by omega) (by omega)] at this
        omega
end
/-- the first one is got -/
theorem CI.get {first : Int} {ni got : Nat} {I : Ik} (h : CI first ni got I) {p : Dt} {r : List Dt} (hq : I.q = p :: r) : CI first ni (got + 1) { I with q := r } ∧ p.2 = [(got : Int)] := by
  have hl := h.ql
  rw [hq] at hl
  simp only [List.length_cons] at hl
  refine ⟨⟨h.win, h.inw, h.nx, ?_, ?_, h.wait, h.next⟩, ?_⟩
  · show r.length + (got + 1) = ni; omega
  · intro j q hj
    have := h.qs (j + 1) q (by rw [hq]; simpa using hj)
    rw [this]; congr 2; omega
  · have := h.qs 0 p (by rw [hq]; rfl)
    simpa using this
end Go.Proofs.Yteihajppgooadaa
