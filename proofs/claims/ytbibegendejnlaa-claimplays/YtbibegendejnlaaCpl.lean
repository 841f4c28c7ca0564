/- Release and Drop, the program's and the document's. -/
import Derived.Test.YtbibegendejnlaaCpk
namespace Go.Proofs.Ytbibegendejnlaa
open Go.RowKit
set_option linter.unusedVariables false
variable {pp : Nat → Nat → Prop}

theorem prel {w : World} {B g gh N M : Nat} {b : Nat → Prop} {U : Tb} (hT : Tbl w B g gh b (cn U)) (hw : Wf U) (hN : U.hold.length = N) (hM : U.q.length = M) (hN1 : 1 ≤ N) (t n : Int) :
    ∃ (U' : Tb) (code : Int) (l : List Int), Wf U' ∧ U'.hold.length = N ∧ l.length ≤ 1000 ∧
      (Calls Try.prog 14 #[.pointer (some ⟨g, 0, none⟩), .int .i64 t, .int .i64 n] w fun e w' => ∃ v, e = .returned (.tuple #[v, .int .i64 code]) ∧ intE.Own w' w.heap.size v l ∧ Tbl w' B g gh b (cn U') ∧ Fr B g gh w w') ∧
      ∀ (aH aQ : Option Addr) (cH cQ : Nat) (W : World), DT pp W aH cH aQ cQ U → M ≤ cQ → (∀ k, W.heap.size ≤ k → pp 0 k) →
        Calls Try.prog 15 #[.agg #[.slice aH N cH, .slice aQ M cQ], .int .i64 t, .int .i64 n] W fun e w' => (∃ aH' cH' aQ' cQ' M' v, e = .returned (.tuple #[.agg #[.slice aH' N cH', .slice aQ' M' cQ'], v, .int .i64 code]) ∧ intE.Own w' W.heap.size v l ∧ DR pp W w' aH' cH' aQ' cQ' N M' U') ∧ Below W.heap.size W w' := by
  cases hb : badN N t n with
  | true =>
    refine ⟨U, 1, [], hw, hN, by simp, (rel_bad hT t n (by show badN U.hold.length t n = true; rw [hN]; exact hb)).mono ?_, (fun aH aQ cH cQ W hD hc hp => (rrel_bad aH aQ cH cQ N M U t n W hD hN hM hc hp hb).mono (by
          rintro e w' ⟨⟨aH', cH', aQ', cQ', M', rfl, hr⟩, hb⟩
          exact ⟨⟨aH', cH', aQ', cQ', M', _, rfl, El.Own.nil _ _ _, hr⟩, hb⟩))⟩
    rintro e w' ⟨rfl, rfl⟩
    exact ⟨_, rfl, El.Own.nil _ _ _, hT, Fr.refl _ _ _ _⟩
  | false =>
    have hb' : badN (cn U).hold.length t n = false := by show badN U.hold.length t n = false; rw [hN]; exact hb
    by_cases hh : hat U.hold n = t
    · obtain ⟨U', l, hG⟩ := Gr.ex _ ⟨U.hold.set n.toNat 0, U.q⟩ rfl
      refine ⟨U', 0, l, hG.wf (hw.put0 n.toNat), hG.len.1.trans (by simp [hN]), (by have h1 := hG.len.2; have h2 := (hw.put0 n.toNat).qlen; omega), (rel_ok hT hw.cn t n hb' hh).mono ?_, fun aH aQ cH cQ W hD hc hp => (rrel_ok aH aQ cH cQ N M U t n W hD hN hM hc hp hb hh hw).mono ?_⟩
      · rintro e w' ⟨v, rfl, T', l', ho, hg, ht, hf⟩
        obtain ⟨e1, e2⟩ := Gr.uniq hg hG.cn
        subst e1
        subst e2
        exact ⟨v, rfl, ho, ht, hf⟩
      · rintro e w' ⟨⟨aH', cH', aQ', cQ', M', v, rfl, U2, l2, hg, ho, hr⟩, hb⟩
        obtain ⟨e1, e2⟩ := Gr.uniq hg hG
        subst e1
        subst e2
        exact ⟨⟨aH', cH', aQ', cQ', M', v, rfl, ho, hr⟩, hb⟩
    · refine ⟨U, 4, [], hw, hN, by simp, (rel_none hT t n hb' hh).mono ?_, (fun aH aQ cH cQ W hD hc hp => (rrel_none aH aQ cH cQ N M U t n W hD hN hM hc hp hb hh).mono (by
            rintro e w' ⟨⟨aH', cH', aQ', cQ', M', rfl, hr⟩, hb⟩
            exact ⟨⟨aH', cH', aQ', cQ', M', _, rfl, El.Own.nil _ _ _, hr⟩, hb⟩))⟩
      rintro e w' ⟨rfl, rfl⟩
      exact ⟨_, rfl, El.Own.nil _ _ _, hT, Fr.refl _ _ _ _⟩

theorem pdrop {w : World} {B g gh N M : Nat} {b : Nat → Prop} {U : Tb} (hT : Tbl w B g gh b (cn U)) (hw : Wf U) (hN : U.hold.length = N) (hM : U.q.length = M) (hN1 : 1 ≤ N) (t : Int) :
    ∃ (U' : Tb) (code : Int) (l : List Int), Wf U' ∧ U'.hold.length = N ∧ l.length ≤ 1000 ∧
      (Calls Try.prog 16 #[.pointer (some ⟨g, 0, none⟩), .int .i64 t] w fun e w' => ∃ v, e = .returned (.tuple #[v, .int .i64 code]) ∧ intE.Own w' w.heap.size v l ∧ Tbl w' B g gh b (cn U') ∧ Fr B g gh w w') ∧
      ∀ (aH aQ : Option Addr) (cH cQ : Nat) (W : World), DT pp W aH cH aQ cQ U → M ≤ cQ → (∀ k, W.heap.size ≤ k → pp 0 k) →
        Calls Try.prog 17 #[.agg #[.slice aH N cH, .slice aQ M cQ], .int .i64 t] W fun e w' => (∃ aH' cH' aQ' cQ' M' v, e = .returned (.tuple #[.agg #[.slice aH' N cH', .slice aQ' M' cQ'], v, .int .i64 code]) ∧ intE.Own w' W.heap.size v l ∧ DR pp W w' aH' cH' aQ' cQ' N M' U') ∧ Below W.heap.size W w' := by
  cases hb : toteB t with
  | false =>
    refine ⟨U, 1, [], hw, hN, by simp, (drop_bad t hb).mono ?_, (fun aH aQ cH cQ W hD hc hp => (rdrop_bad aH aQ cH cQ N M U t W hD hN hM hc hp hb).mono (by
          rintro e w' ⟨⟨aH', cH', aQ', cQ', M', rfl, hr⟩, hb⟩
          exact ⟨⟨aH', cH', aQ', cQ', M', _, rfl, El.Own.nil _ _ _, hr⟩, hb⟩))⟩
    rintro e w' ⟨rfl, rfl⟩
    exact ⟨_, rfl, El.Own.nil _ _ _, hT, Fr.refl _ _ _ _⟩
  | true =>
    by_cases hf : fnd t U.q < 0
    · refine ⟨U, 4, [], hw, hN, by simp, (drop_none hT hw.cn t hb (by show fnd t (U.q.map cnC) < 0; rw [fnd_cn]; exact hf)).mono ?_, (fun aH aQ cH cQ W hD hc hp => (rdrop_none aH aQ cH cQ N M U t W hD hN hM hc hp hb hf hw).mono (by
            rintro e w' ⟨⟨aH', cH', aQ', cQ', M', rfl, hr⟩, hb⟩
            exact ⟨⟨aH', cH', aQ', cQ', M', _, rfl, El.Own.nil _ _ _, hr⟩, hb⟩))⟩
      rintro e w' ⟨rfl, hb⟩
      exact ⟨_, rfl, El.Own.nil _ _ _, hT.keep hb, Fr.of_below hb⟩
    · obtain ⟨i, hi, hfi⟩ : ∃ i : Nat, i < M ∧ fnd t U.q = (i : Int) := by
        unfold fnd ixI at hf ⊢
        split at hf
        · rename_i h
          exact ⟨_, by rw [← hM]; exact h, if_pos h⟩
        · omega
      have hq : (cn ⟨U.hold, U.q.take i ++ U.q.drop (i + 1)⟩) = ⟨(cn U).hold, (cn U).q.take i ++ (cn U).q.drop (i + 1)⟩ := by
        unfold cn
        simp [List.map_take, List.map_drop]
      obtain ⟨U', l, hG⟩ := Gr.ex _ ⟨U.hold, U.q.take i ++ U.q.drop (i + 1)⟩ rfl
      refine ⟨U', 0, l, hG.wf (hw.del i), hG.len.1.trans (by simp [hN]), (by have h1 := hG.len.2; have h2 := (hw.del i).qlen; omega), (drop_ok hT hw.cn t hb i (by show i < (U.q.map cnC).length; rw [List.length_map, hM]; exact hi) (by show fnd t (U.q.map cnC) = _; rw [fnd_cn]; exact hfi)).mono ?_, fun aH aQ cH cQ W hD hc hp => (rdrop_ok aH aQ cH cQ N M U t W hD hN hM hc hp hb i hi hfi hw hN1).mono ?_⟩
      · rintro e w' ⟨v, rfl, T', l', ho, hg, ht, hf⟩
        obtain ⟨e1, e2⟩ := Gr.uniq (hq ▸ hg) hG.cn
        subst e1
        subst e2
        exact ⟨v, rfl, ho, ht, hf⟩
      · rintro e w' ⟨⟨aH', cH', aQ', cQ', M', v, rfl, U2, l2, hg, ho, hr⟩, hb⟩
        obtain ⟨e1, e2⟩ := Gr.uniq hg hG
        subst e1
        subst e2
        exact ⟨⟨aH', cH', aQ', cQ', M', v, rfl, ho, hr⟩, hb⟩
end Go.Proofs.Ytbibegendejnlaa
