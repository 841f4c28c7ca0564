/- The contracts of Find: the program's and the document's. -/
import Derived.Test.YtglleofhcokeiaaTurn
namespace Go.Proofs.Ytglleofhcokeiaa
open Go.ChangeShapes Go.WideShapes Go.ChangeAt Go.RowKit


/-- what Find answers: the place and the error -/
def Fnd (l : List Int) (s : BitVec 16) (i e : Int) : Prop :=
  (sm 0xFFFF#16 l = s ∧ i = -1 ∧ e = 0) ∨ (sm 0xFFFF#16 l ≠ s ∧ ∃ k : Nat, k < 8 * l.length ∧ i = k ∧ e = 0 ∧ sm 0xFFFF#16 (turn l k) = s) ∨
  (sm 0xFFFF#16 l ≠ s ∧ (∀ k : Nat, k < 8 * l.length → sm 0xFFFF#16 (turn l k) ≠ s) ∧ i = -1 ∧ e = 4)

theorem xor_cancel {a b c : BitVec 16} (h : a ^^^ b = a ^^^ c) : b = c := by
  have := congrArg (fun x => a ^^^ x) h
  simpa [← BitVec.xor_assoc] using this

theorem turn_unique {l : List Int} (hm : l.length ≤ 4000) {c : BitVec 16} {i j : Nat} (hi : i < 8 * l.length) (hj : j < 8 * l.length) (h : sm c (turn l i) = sm c (turn l j)) : i = j := by
  rw [sm_turn c l i hi, sm_turn c l j hj] at h
  have := chg_inj (by omega) (by omega) (xor_cancel h)
  omega

theorem Fnd.unique {l : List Int} (hm : l.length ≤ 4000) {s : BitVec 16} {i e i' e' : Int} (h : Fnd l s i e) (h' : Fnd l s i' e') : i = i' ∧ e = e' := by
  rcases h with ⟨h1, rfl, rfl⟩ | ⟨h1, k, hk, rfl, rfl, h2⟩ | ⟨h1, h2, rfl, rfl⟩
  · rcases h' with ⟨_, rfl, rfl⟩ | ⟨h3, _⟩ | ⟨h3, _⟩
    · exact ⟨rfl, rfl⟩
    · exact absurd h1 h3
    · exact absurd h1 h3
  · rcases h' with ⟨h3, _⟩ | ⟨h3, k', hk', rfl, rfl, h4⟩ | ⟨h3, h4, _⟩
    · exact absurd h3 h1
    · rw [turn_unique hm hk hk' (h2.trans h4.symm)]; exact ⟨rfl, rfl⟩
    · exact absurd h2 (h4 k hk)
  · rcases h' with ⟨h3, _⟩ | ⟨h3, k', hk', rfl, rfl, h4⟩ | ⟨h3, h4, rfl, rfl⟩
    · exact absurd h3 h1
    · exact absurd h4 (h2 k' hk')
    · exact ⟨rfl, rfl⟩

theorem turn_iff (l : List Int) (s : BitVec 16) (k : Nat) (hk : k < 8 * l.length) : sm 0xFFFF#16 (turn l k) = s ↔ chg (8 * l.length - 1 - k) = sm 0xFFFF#16 l ^^^ s := by
  rw [sm_turn _ _ _ hk]
  constructor
  · rintro rfl
    rw [← BitVec.xor_assoc]; simp
  · intro h
    rw [h, ← BitVec.xor_assoc]; simp



end Go.Proofs.Ytglleofhcokeiaa
