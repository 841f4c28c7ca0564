/- Claim and the document's Put. -/
import Derived.Test.YtbibegendejnlaaCpl
namespace Go.Proofs.Ytbibegendejnlaa
open Go.RowKit
set_option linter.unusedVariables false
variable {pp : Nat → Nat → Prop}

theorem pclaim {w : World} {B g gh N M : Nat} {b : Nat → Prop} {U : Tb} (hT : Tbl w B g gh b (cn U)) (hw : Wf U) (hav : ∀ k, b k → k < w.heap.size) (hN : U.hold.length = N) (hM : U.q.length = M) (hN1 : 1 ≤ N) (t : Int) (a : Option Addr) (c n : Nat) (ns : List Int) (hn : ns.length = n) (hv : intE.Rd w (.slice a n c) ns) (hl : n ≤ 100000) :
    ∃ (U' : Tb) (code : Int) (yes : Bool), Wf U' ∧ U'.hold.length = N ∧
      (Calls Try.prog 11 #[.pointer (some ⟨g, 0, none⟩), .int .i64 t, .slice a n c] w fun e w' => e = .returned (.tuple #[.bool yes, .int .i64 code]) ∧ Tbl w' B g gh b (cn U') ∧ Fr B g gh w w') ∧
      ∀ (aH aQ a2 : Option Addr) (cH cQ c2 : Nat) (W : World), DT pp W aH cH aQ cQ U → M ≤ cQ → (∀ k, W.heap.size ≤ k → pp 0 k) → intE.Rd W (.slice a2 n c2) ns → (ns ≠ [] → blk (pp 1) a2) →
        Calls Try.prog 12 #[.agg #[.slice aH N cH, .slice aQ M cQ], .int .i64 t, .slice a2 n c2] W fun e w' => (∃ aH' cH' aQ' cQ' M', e = .returned (.tuple #[.agg #[.slice aH' N cH', .slice aQ' M' cQ'], .bool yes, .int .i64 code]) ∧ DR pp W w' aH' cH' aQ' cQ' N M' U') ∧ Below W.heap.size W w' := by
  cases hb : badC N t ns with
  | true =>
    refine ⟨U, 1, false, hw, hN, (claim_bad hT t a c n ns hn hv hl (by show badC U.hold.length t ns = true; rw [hN]; exact hb)).mono ?_, fun aH aQ a2 cH cQ c2 W hD hc hp hr hk => rput_bad aH aQ cH cQ N M U t a2 c2 n ns W hD hN hM hc hp hn hr hl hb⟩
    rintro e w' ⟨rfl, rfl⟩
    exact ⟨rfl, hT, Fr.refl _ _ _ _⟩
  | false =>
    have hb' : badC (cn U).hold.length t ns = false := by show badC U.hold.length t ns = false; rw [hN]; exact hb
    have hfc : fnd t (cn U).q = fnd t U.q := fnd_cn t U.q
    by_cases hf : fnd t U.q < 0
    · obtain ⟨f1, f2, f3⟩ := badC_no hb
      have hwf : Wf ⟨U.hold, U.q ++ [⟨t, ns⟩]⟩ := Wf.add' (T := U) (t := t) (ns := ns) hw f1 (fun e => f2 (by rw [e]; rfl)) (by rw [hN]; exact f3) (by rw [hn]; exact hl) hf
      obtain ⟨U', l, hG⟩ := Gr.ex _ ⟨U.hold, U.q ++ [⟨t, ns⟩]⟩ rfl
      have hq : cn ⟨U.hold, U.q ++ [⟨t, ns⟩]⟩ = ⟨(cn U).hold, (cn U).q ++ [⟨t, onc ns⟩]⟩ := by
        unfold cn
        simp [cnC]
      refine ⟨U', 0, decide (0 < l.length), hG.wf hwf, hG.len.1.trans hN, (claim_ok hT hw.cn hav t a c n ns hn hv hl hb' (by rw [hfc]; exact hf)).mono ?_, fun aH aQ a2 cH cQ c2 W hD hc hp hr hk => (rput_ok aH aQ cH cQ N M U t a2 c2 n ns W hD hN hM hc hp hn hr hl hb hf hw hN1 (hk (fun e => f2 (by rw [e]; rfl)))).mono ?_⟩
      · rintro e w' ⟨l', rfl, T', hg, ht, hfr⟩
        obtain ⟨e1, e2⟩ := Gr.uniq (hq ▸ hg) hG.cn
        subst e1
        subst e2
        exact ⟨rfl, ht, hfr⟩
      · rintro e w' ⟨⟨aH', cH', aQ', cQ', M', l2, rfl, U2, hg, hr⟩, hb2⟩
        obtain ⟨e1, e2⟩ := Gr.uniq hg hG
        subst e1
        subst e2
        exact ⟨⟨aH', cH', aQ', cQ', M', rfl, hr⟩, hb2⟩
    · refine ⟨U, 2, false, hw, hN, (claim_twice hT hw.cn t a c n ns hn hv hl hb' (by rw [hfc]; omega)).mono ?_, fun aH aQ a2 cH cQ c2 W hD hc hp hr hk => rput_twice aH aQ cH cQ N M U t a2 c2 n ns W hD hN hM hc hp hn hr hl hb (by omega) hw⟩
      rintro e w' ⟨rfl, hb2⟩
      exact ⟨rfl, hT.keep hb2, Fr.of_below hb2⟩
end Go.Proofs.Ytbibegendejnlaa
