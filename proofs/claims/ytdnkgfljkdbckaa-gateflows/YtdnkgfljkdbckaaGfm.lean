/- GateFlows: those that wait go in at last: what a round does. -/
import Derived.Test.YtdnkgfljkdbckaaGtf
import Derived.Test.YtdnkgfljkdbckaaLag
import Derived.Deep.CutBlock
namespace Go.Proofs.Ytdnkgfljkdbckaa
open Go.RowKit
set_option linter.unusedVariables false

/-- an arrival -/
theorem ar_flow (N : Nat) (wt ins : List Int) (x : Int) : ∃ wt2 ins2, Gt.ar ⟨N, wt, ins⟩ x = ⟨N, wt2, ins2⟩ ∧ ins2 ++ wt2 = ins ++ wt ∧ (ins2 ≠ [] ∨ (ins = [] ∧ wt2 = wt ∧ (1 ≤ N → wt[0]? ≠ some x))) := by
  by_cases hc : Gt.arC ⟨N, wt, ins⟩ x = 0
  · obtain ⟨⟨r, hr⟩, _⟩ := Gt.arC_zero hc
    simp only at hr
    refine ⟨r, ins ++ [x], ?_, ?_, .inl (by simp)⟩
    · rw [Gt.ar_yes hc]; simp only [hr]; rfl
    · rw [hr]; simp
  · refine ⟨wt, ins, Gt.ar_no hc, rfl, ?_⟩
    cases ins with
    | cons y q => exact .inl (by simp)
    | nil =>
      refine .inr ⟨rfl, rfl, fun hN h => hc ?_⟩
      cases wt with
      | nil => simp at h
      | cons y r =>
        simp at h
        subst h
        exact Gt.arC_yes rfl (by show 0 < N; omega)
/-- so far in a round: one went in, or nothing happened and the first one's turn is still to come -/
def Fl (t n k : Nat) (wt0 wt ins : List Int) : Prop := ins ≠ [] ∨ (wt = wt0 ∧ ∀ j, j < k → (j + t) % n ≠ 0)
theorem Fl.zero (t n : Nat) (wt ins : List Int) : Fl t n 0 wt wt ins := .inr ⟨rfl, fun j hj => by omega⟩
theorem Fl.step {N t n k q : Nat} {wt0 wt ins wt2 ins2 : List Int} {x : Int} (hN : 1 ≤ N) (h : Fl t n k wt0 wt ins) (hq : (k + t) % n = q) (hx : wt0[q]? = some x) (hs : ins2 ≠ [] ∨ (ins = [] ∧ wt2 = wt ∧ (1 ≤ N → wt[0]? ≠ some x))) : Fl t n (k + 1) wt0 wt2 ins2 := by
  rcases hs with hs | ⟨h1, h2, h3⟩
  · exact .inl hs
  · rcases h with h | ⟨h4, h5⟩
    · exact absurd h1 h
    · refine .inr ⟨h2.trans h4, fun j hj => ?_⟩
      rcases Nat.lt_or_ge j k with g | g
      · exact h5 j g
      · obtain rfl : j = k := by omega
        rw [hq]
        intro h0
        rw [h0, ← h4] at hx
        exact h3 hN hx
/-- behind a round one is inside, or none waits -/
theorem Fl.done {t n : Nat} {wt0 wt ins : List Int} (h : Fl t n n wt0 wt ins) (hn : wt0.length = n) : ins ≠ [] ∨ wt = [] := by
  rcases h with h | ⟨h1, h2⟩
  · exact .inl h
  · cases n with
    | zero => exact .inr (by rw [h1]; exact List.eq_nil_of_length_eq_zero hn)
    | succ m =>
      exfalso
      have hm := Nat.mod_lt t (show 0 < m + 1 by omega)
      by_cases h0 : t % (m + 1) = 0
      · exact h2 0 (by omega) (by rw [Nat.zero_add]; exact h0)
      · refine h2 (m + 1 - t % (m + 1)) (by omega) ?_
        have e : m + 1 - t % (m + 1) + t = (m + 1) * (t / (m + 1) + 1) := by
          have := Nat.div_add_mod t (m + 1)
          rw [Nat.mul_add, Nat.mul_one]
          omega
        rw [e, Nat.mul_mod_right]
/-- behind so many rounds -/
structure Rd2 (L ol ins wt : List Int) (r n : Nat) : Prop where
  all : ol ++ (ins ++ wt) = L
  up : min r n ≤ ol.length
theorem Rd2.step {L ol ins wt : List Int} {r n : Nat} {y : Int} (h : Rd2 L ol (y :: ins) wt r n) : Rd2 L (ol ++ [y]) ins wt (r + 1) n :=
  ⟨by rw [← h.all]; simp, by have := h.up; simp; omega⟩
theorem Rd2.stop {L ol : List Int} {r n : Nat} (h : Rd2 L ol [] [] r n) (hn : L.length = n) : Rd2 L ol [] [] (r + 1) n :=
  ⟨h.all, by have := h.all; simp at this; subst this; omega⟩
theorem Rd2.done {L ol ins wt : List Int} {r n : Nat} (h : Rd2 L ol ins wt r n) (hn : L.length = n) (hr : n ≤ r) : ol = L ∧ ins = [] ∧ wt = [] := by
  have h1 := h.up
  have h2 := congrArg List.length h.all
  simp only [List.length_append] at h2
  have e1 : ins = [] := List.eq_nil_of_length_eq_zero (by omega)
  have e2 : wt = [] := List.eq_nil_of_length_eq_zero (by omega)
  refine ⟨?_, e1, e2⟩
  rw [← h.all, e1, e2]; simp
end Go.Proofs.Ytdnkgfljkdbckaa
