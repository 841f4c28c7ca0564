/- What a device was told and won't do: Send, then Drop. Knows no program. -/
import Derived.Test.YtlnnpdghcilioaaMcs
import Derived.Test.YtlnnpdghcilioaaRmr
namespace Go.Proofs.Ytlnnpdghcilioaa
set_option linter.unusedVariables false

theorem snd_no {S : Mr} {d t q : Int} (h : (S.snd d t q).1 ≠ 0) : (S.snd d t q).2 = S := by
  rcases snd_cases S d t q with ⟨_, h2⟩ | ⟨h1, _⟩
  · exact h2
  · exact absurd h1 h
theorem snd_back {S : Mr} {n : Nat} {es : List (Int × Int)} (H : S.Ok n es) {d t q : Int} (h : (S.snd d t q).1 = 0) : ∃ (k : Nat) (fr en : Int), d = (k : Int) + 1 ∧ k < es.length ∧ es[k]? = some (fr, en) ∧ (S.snd d t q).2.told d = (t, q, true) ∧ (S.snd d t q).2.tak en = true ∧ ((S.snd d t q).2.drp d).1 = 0 ∧ ((S.snd d t q).2.drp d).2.last d = (q, true) ∧ ((S.snd d t q).2.drp d).2.whr t = fr := by
  rcases snd_cases S d t q with ⟨h1, _⟩ | ⟨_, h2, h3, h4, h5, h6, h7, h8, h9, h10⟩
  · exact absurd h h1
  have ok2 := (H.snd d t q).drp d
  rw [h2] at ok2 ⊢
  obtain ⟨D, hD⟩ : ∃ D : Dv, { S.dev d with tt := t, sq := q, ev := true } = D := ⟨_, rfl⟩
  have dt : D.tt = t := by rw [← hD]
  have dq : D.sq = q := by rw [← hD]
  have de : D.ev = true := by rw [← hD]
  have dn : D.en = (S.dev d).en := by rw [← hD]
  rw [hD] at ok2 ⊢
  have hd' : (S.setD d D).isD d = true := by rw [isD_setD]; exact h3
  have hdev : (S.setD d D).dev d = D := by rw [dev_setD h3 h3, if_pos rfl]
  have hT := isT_iff.1 h4
  have hI := Mr.isD_iff.1 h3
  have ht : t ≠ 0 := by omega
  have hed := H.edge h3
  have e1 : (S.setD d D).drp d = (0, (S.setD d D).setD d { D with tt := 0 }) := by
    unfold Mr.drp
    rw [if_neg (by rw [hd']; simp), if_neg (by rw [hdev, dt]; exact ht), hdev]
  have hlen := H.len
  refine ⟨(d - 1).toNat, (S.dev d).fr, (S.dev d).en, by omega, by omega, hed, ?_, ?_, by rw [e1], ?_, ?_⟩
  · unfold Mr.told
    rw [if_pos ⟨hd', by rw [hdev, dt]; exact ht⟩, hdev, dt, dq]
  · unfold Mr.tak
    rw [Bool.or_eq_true]
    refine .inr (List.any_eq_true.2 ⟨D, ?_, ?_⟩)
    · have := (Mr.dev_at hd').2
      rwa [hdev] at this
    · simp [comes, dt, ht, dn]
  · rw [e1]
    show ((S.setD d D).setD d { D with tt := 0 }).last d = (q, true)
    rw [last_setD hd', if_pos rfl, ← dq, ← de]
  · have i1 := (H.ins (Mr.dev_at h3).2).1
    refine whr_of ok2 h4 ?_ ?_
    · rw [e1]; exact i1
    · rw [e1]; exact h8
end Go.Proofs.Ytlnnpdghcilioaa
