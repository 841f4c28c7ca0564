/- BookTwice: what is said again. -/
import Derived.Test.YtfmpipihjnpimaaBtm
namespace Go.Proofs.Ytfmpipihjnpimaa
set_option linter.unusedVariables false

namespace Bk
theorem ad_twice (S : Bk) (r : Rq) : (S.ad r).adC r = S.adC r ∧ (S.ad r).adY r = false ∧ (S.ad r).ad r = S.ad r := by
  have key : (S.ad r).adC r = S.adC r ∧ (S.ad r).adY r = false := by
    cases hy : S.adY r with
    | true =>
      obtain ⟨hr, hf, _⟩ := adY_iff.1 hy
      rw [ad_yes hy]
      have h1 : fnd (S.all ++ [(⟨r, 1⟩ : En)]) r.id = some ⟨r, 1⟩ := by
        rw [fnd_add, hf]
        simp
      refine ⟨?_, ?_⟩
      · rw [adC_yes hy]
        unfold adC
        rw [if_pos hr, h1]
        simp
      · unfold adY
        rw [h1]
        simp
    | false =>
      rw [ad_no hy]
      exact ⟨rfl, hy⟩
  exact ⟨key.1, key.2, ad_no key.2⟩
theorem ca_twice (S : Bk) (x : Int) : (S.ca x).caC x = S.caC x ∧ (S.ca x).caY x = false ∧ (S.ca x).ca x = S.ca x := by
  have key : (S.ca x).caC x = S.caC x ∧ (S.ca x).caY x = false := by
    cases hy : S.caY x with
    | true =>
      rw [ca_yes hy]
      have hs : S.sta x = 1 := by unfold caY at hy; simpa using hy
      obtain ⟨e, he⟩ : ∃ e, fnd S.all x = some e := by
        unfold sta at hs
        cases q : fnd S.all x with
        | none => rw [q] at hs; cases hs
        | some e => exact ⟨e, rfl⟩
      have hid := (fnd_some he).2
      have h1 : fnd (setE S.all x 3) x = some ⟨e.r, 3⟩ := by
        rw [fnd_set, he]
        simp [hid]
      have h2 : e.en = 1 := by rw [sta_of he] at hs; exact hs
      refine ⟨?_, ?_⟩
      · unfold caC
        rw [h1, he]
        simp [h2]
      · unfold caY sta
        rw [h1]
        simp
    | false =>
      rw [ca_no hy]
      exact ⟨rfl, hy⟩
  exact ⟨key.1, key.2, ca_no key.2⟩
theorem se_twice (S : Bk) (x : Int) (h : S.seC x = 0) : (S.se x).seC x = 140 ∧ (S.se x).se x = S.se x := by
  have key : (S.se x).seC x = 140 := by
    rw [se_yes h]
    obtain ⟨e, he, h2, _⟩ := seC_iff.1 h
    have hid := (fnd_some he).2
    have h1 : fnd (setE S.all x 2) x = some ⟨e.r, 2⟩ := by
      rw [fnd_set, he]
      simp [hid]
    unfold seC
    rw [h1]
    simp
  exact ⟨key, se_no (by rw [key]; decide)⟩
end Bk
end Go.Proofs.Ytfmpipihjnpimaa
