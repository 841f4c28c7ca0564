/- What the laid variables give. -/
import Derived.Test.YtpjolnaomdmnnaaDoorWake
import Derived.Lib.LaidU8
import Derived.PinnedBridge
import Derived.Lay
import Derived.HandedShaped
import Derived.Shelf.Vars
namespace Go.Proofs.YtpjolnaomdmnnaaDoor
open Go.ChangeShapes Go.WideShapes Go.ChangeAt Go.RowKit
set_option linter.unusedVariables false
theorem own : ownKnob Tryd.prog.godebug = none := by kernel_rfl
theorem gKind : Tryd.prog.globalNamed "stillage/layout.kindWords" = some 0 := by kernel_rfl
theorem tKind : (Tryd.prog.globals[0]?).map (·.type) = some 57 := by kernel_rfl
theorem c9 : Tryd.prog.cellsOf 9 = 1 := by kernel_rfl
theorem gMax : Tryd.prog.globalNamed "internal/bytealg.MaxLen" = some 2 := by kernel_rfl

theorem kinds_of {W : World} (h : Lib.VarReads Tryd.prog W "stillage/layout.kindWords" Rows.laid_stillage_layout_kindWords) :
    W.cell? ⟨0, 0, none⟩ = some (.string (str [116, 114, 97, 99, 107])) ∧ W.cell? ⟨0, 1, none⟩ = some (.string (str [115, 108, 111, 116])) ∧ W.cell? ⟨0, 2, none⟩ = some (.string (str [115, 116, 97, 116, 105, 111, 110])) ∧ W.cell? ⟨0, 3, none⟩ = some (.string (str [103, 97, 116, 101])) := by
  obtain ⟨g, t, cs, fuel, p, hg, ht, hv, hd⟩ := h
  obtain rfl := Option.some.inj (gKind.symm.trans hg)
  obtain rfl := Option.some.inj (tKind.symm.trans ht)
  obtain ⟨xs, m, _, ex, _, hl, hel⟩ := DataW.trod_array Tryd.underlying57 hd
  have e3 : xs.map (·.1) = [.lit (.string [116, 114, 97, 99, 107]), .lit (.string [115, 108, 111, 116]), .lit (.string [115, 116, 97, 116, 105, 111, 110]), .lit (.string [103, 97, 116, 101])] := (DataW.agg.inj (Prod.mk.inj ex).1).symm
  have step : ∀ (r : Nat) (l : List UInt8), r < 4 → (xs.map (·.1))[r]? = some (DataW.lit (.string l)) → W.cell? ⟨0, r, none⟩ = some (.string (str l)) := by
    intro r l hr he
    have hE := hel r hr
    rw [c9, Nat.mul_one, List.getElem?_eq_getElem (by omega)] at hE
    obtain ⟨s, e1, e2, _⟩ := DataW.trod_string Tryd.underlying9 hE
    rw [List.getElem?_map, List.getElem?_eq_getElem (by omega : r < xs.length), e2] at he
    simp only [Option.map_some, Option.some.injEq, DataW.lit.injEq, Lit.string.injEq] at he
    have hs : s = str l := by rw [← he, str_of]
    rw [World.var?_cell hg hv r, ← hs]
    have h0 : ((cs.toList.drop r).take 1)[0]? = some (.string s) := by rw [e1]; rfl
    simpa using h0
  exact ⟨step 0 _ (by omega) (by rw [e3]; rfl), step 1 _ (by omega) (by rw [e3]; rfl), step 2 _ (by omega) (by rw [e3]; rfl), step 3 _ (by omega) (by rw [e3]; rfl)⟩
theorem tabs_of {W : World} (h3 : Lib.VarReads Tryd.prog W "unicode/utf8.first" Rows.laid_unicode_utf8_first) (h4 : Lib.VarReads Tryd.prog W "unicode/utf8.acceptRanges" Rows.laid_unicode_utf8_acceptRanges) : Lib.Utf8Tabs 3 4 W := by
  have e3 : (Rows.laid_unicode_utf8_first : DataW Unit) = Lib.firstData := Pinned.utf8First_eq
  have e4 : (Rows.laid_unicode_utf8_acceptRanges : DataW Unit) = Lib.acceptData := by kernel_rfl
  rw [e3] at h3
  rw [e4] at h4
  exact utf8Tabs_of_reads (ρ := Tryd.lays197_ren) { Tryd.lays197 with } ⟨by kernel_rfl, by kernel_rfl, by kernel_rfl, by kernel_rfl, by kernel_rfl, by kernel_rfl, by kernel_rfl⟩ h3 h4
theorem max_of {W : World} (h : W.ShapedOpen Tryd.prog) : ∃ m, W.cell? ⟨2, 0, none⟩ = some (.int .i64 m) :=
  cell_of_shapedOpen_int (P := Tryd.prog) (g := 2) (t := 3) (zero := #[.int .i64 0]) (k := .i64) h (of_decide_eq_true (by kernel_rfl)) (by kernel_rfl) rfl (by kernel_rfl) (by kernel_rfl) Tryd.underlying3
theorem laid_of {W : World} {l : List (String × DataW Unit)} (h : laidMet Tryd.prog l W) (hsh : W.ShapedOpen Tryd.prog) (hk : ("stillage/layout.kindWords", Rows.laid_stillage_layout_kindWords) ∈ l) (h3 : ("unicode/utf8.first", Rows.laid_unicode_utf8_first) ∈ l) (h4 : ("unicode/utf8.acceptRanges", Rows.laid_unicode_utf8_acceptRanges) ∈ l) : Laid W := by
  obtain ⟨a, b, c, d⟩ := kinds_of (Lib.laidMet.reads h hk)
  exact ⟨a, b, c, d, max_of hsh, tabs_of (Lib.laidMet.reads h h3) (Lib.laidMet.reads h h4)⟩
end Go.Proofs.YtpjolnaomdmnnaaDoor
