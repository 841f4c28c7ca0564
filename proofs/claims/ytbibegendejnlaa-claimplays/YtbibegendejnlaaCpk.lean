/- A call of the program and the document's, side by side: Seize. -/
import Derived.Test.YtbibegendejnlaaCpj
namespace Go.Proofs.Ytbibegendejnlaa
open Go.RowKit
set_option linter.unusedVariables false
variable {pp : Nat → Nat → Prop}

theorem Wf.put {U : Tb} (h : Wf U) (t : Int) (ht : toteB t = true) (n : Int) : Wf ⟨U.hold.set n.toNat t, U.q⟩ := by
  have h1 : 1 ≤ t ∧ t ≤ 30 := of_decide_eq_true ht
  have := h.setH t (by omega) [n]
  simpa [setL] using this
/-- Seize: the same error, and the same table behind it -/
theorem pseize {w : World} {B g gh N M : Nat} {b : Nat → Prop} {U : Tb} (hT : Tbl w B g gh b (cn U)) (hw : Wf U) (hN : U.hold.length = N) (hM : U.q.length = M) (t n : Int) :
    ∃ (U' : Tb) (code : Int), Wf U' ∧ U'.hold.length = N ∧
      (Calls Try.prog 18 #[.pointer (some ⟨g, 0, none⟩), .int .i64 t, .int .i64 n] w fun e w' => e = .returned (.int .i64 code) ∧ Tbl w' B g gh b (cn U') ∧ Fr B g gh w w') ∧
      ∀ (aH aQ : Option Addr) (cH cQ : Nat) (W : World), DT pp W aH cH aQ cQ U → M ≤ cQ → (∀ k, W.heap.size ≤ k → pp 0 k) →
        Calls Try.prog 19 #[.agg #[.slice aH N cH, .slice aQ M cQ], .int .i64 t, .int .i64 n] W fun e w' => (∃ aH' cH' aQ' cQ' M', e = .returned (.tuple #[.agg #[.slice aH' N cH', .slice aQ' M' cQ'], .int .i64 code]) ∧ DR pp W w' aH' cH' aQ' cQ' N M' U') ∧ Below W.heap.size W w' := by
  have hl := hw.len
  cases hb : badN N t n with
  | true =>
    refine ⟨U, 1, hw, hN, (seize_bad hT t n (by show badN U.hold.length t n = true; rw [hN]; exact hb)).mono ?_, fun aH aQ cH cQ W hD hc hp => rseize_bad aH aQ cH cQ N M U t n W hD hN hM hc hp hb⟩
    rintro e w' ⟨rfl, rfl⟩
    exact ⟨rfl, hT, Fr.refl _ _ _ _⟩
  | false =>
    have hb' : badN (cn U).hold.length t n = false := by show badN U.hold.length t n = false; rw [hN]; exact hb
    by_cases hh : hat U.hold n ≠ 0 ∧ hat U.hold n ≠ t
    · refine ⟨U, 100, hw, hN, (seize_held hT t n hb' (decide_eq_true hh)).mono ?_, fun aH aQ cH cQ W hD hc hp => rseize_held aH aQ cH cQ N M U t n W hD hN hM hc hp hb hh⟩
      rintro e w' ⟨rfl, rfl⟩
      exact ⟨rfl, hT, Fr.refl _ _ _ _⟩
    · refine ⟨⟨U.hold.set n.toNat t, U.q⟩, 0, hw.put t (badN_no hb).1 n, by rw [List.length_set]; exact hN, seize_ok hT t n hb' (decide_eq_false hh), fun aH aQ cH cQ W hD hc hp => rseize_ok aH aQ cH cQ N M U t n W hD hN hM hc hp hb hh (by omega)⟩
end Go.Proofs.Ytbibegendejnlaa
