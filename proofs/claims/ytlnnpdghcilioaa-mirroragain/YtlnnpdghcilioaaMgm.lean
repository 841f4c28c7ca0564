/- A mirror that just the notes are applied to that were taken. Knows no program. -/
import Derived.Test.YtlnnpdghcilioaaMcs
namespace Go.Proofs.Ytlnnpdghcilioaa
set_option linter.unusedVariables false

theorem app_no {S : Mr} {x : Nt} (h : (S.app x).1 ≠ 0) : (S.app x).2 = S := by
  unfold Mr.app at h ⊢
  by_cases k1 : x.kind = 1
  · rw [if_pos k1] at h ⊢
    rcases put_cases S x.a x.b with ⟨_, h2⟩ | ⟨h1, _⟩
    · exact h2
    · exact absurd h1 h
  rw [if_neg k1] at h ⊢
  by_cases k4 : x.kind = 4
  · rw [if_pos k4] at h ⊢
    rcases snd_cases S x.a x.b x.c with ⟨_, h2⟩ | ⟨h1, _⟩
    · exact h2
    · exact absurd h1 h
  rw [if_neg k4] at h ⊢
  by_cases k5 : x.kind = 5
  · rw [if_pos k5] at h ⊢
    rcases mov_cases S x.a x.b with ⟨_, h2⟩ | ⟨h1, _⟩
    · exact h2
    · exact absurd h1 h
  rw [if_neg k5] at h ⊢
  by_cases k7 : x.kind = 7
  · rw [if_pos k7] at h ⊢
    rcases drp_cases S x.a with ⟨_, h2⟩ | ⟨h1, _⟩
    · exact h2
    · exact absurd h1 h
  rw [if_neg k7] at h ⊢
  by_cases k8 : x.kind = 8
  · rw [if_pos k8] at h ⊢
    rcases msk_cases S x.a (decide (x.b = 1)) with ⟨_, h2⟩ | ⟨h1, _⟩
    · exact h2
    · exact absurd h1 h
  rw [if_neg k8] at h ⊢
/-- all these notes are taken, one after the other, and lead from one mirror to the other -/
def Rep : List Nt → Mr → Mr → Prop
  | [], S, T => S = T
  | x :: l, S, T => (S.app x).1 = 0 ∧ Rep l (S.app x).2 T
theorem Rep.snoc {l : List Nt} {S T : Mr} (h : Rep l S T) {x : Nt} (hx : (T.app x).1 = 0) : Rep (l ++ [x]) S (T.app x).2 := by
  induction l generalizing S with
  | nil => have e : S = T := h; subst e; exact ⟨hx, rfl⟩
  | cons y l ih => exact ⟨h.1, ih h.2⟩
theorem Rep.at {ts : List Nt} {j : Nat} {S T : Mr} (h : Rep (ts.drop j) S T) {p : Nt} (hp : ts[j]? = some p) : (S.app p).1 = 0 ∧ Rep (ts.drop (j + 1)) (S.app p).2 T := by
  obtain ⟨hl, e⟩ := List.getElem?_eq_some_iff.1 hp
  rw [List.drop_eq_getElem_cons hl, e] at h
  exact h
theorem Rep.end {ts : List Nt} {j : Nat} {S T : Mr} (h : Rep (ts.drop j) S T) (hj : ts.length ≤ j) : S = T := by
  rw [List.drop_eq_nil_of_le hj] at h
  exact h
end Go.Proofs.Ytlnnpdghcilioaa
