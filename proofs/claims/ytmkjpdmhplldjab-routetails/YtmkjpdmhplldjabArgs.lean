/- Numbers that came in; a layout's copy. -/
import Derived.Test.YtmkjpdmhplldjabArg
import Derived.Test.YtmkjpdmhplldjabWak
import Derived.SizedLaws
import Derived.ChangeOld
import Derived.Deep.RegionWith
namespace Go.Proofs.Ytmkjpdmhplldjab
open Go.ChangeShapes Go.WideShapes Go.ChangeAt Go.RowKit
set_option linter.unusedVariables false

section
variable {H : Type} {enc : TypeId × Value → H} {w : World} {base : Nat} {spare : Nat → Bool} {held : Bool} {fuel : Nat} {cs : List Value} {x : DataW H × List MemPlace}
theorem int_of_trod (h : DataW.trod enc Try.prog w base spare held fuel 3 cs = some x) : ∃ y : Int, cs = intE.enc y ∧ (Lit.int .i64 y).wf = true := by
  obtain ⟨i, e, _, q⟩ := DataW.trod_int Try.underlying3 h
  exact ⟨i, e, q⟩
set_option maxRecDepth 100000 in
end

/-- a layout's box -/
theorem layg {g : Nat} {W0 W1 : World} {vN vE : Value} (hbox : W0.heap[g]? = some (.cells #[vN, vE] 25)) (hb : Below W0.heap.size W0 W1) : W1.cell? ⟨g, 0, none⟩ = some vN ∧ W1.cell? ⟨g, 1, none⟩ = some vE := by
  rw [hb.cell (p := ⟨g, 0, none⟩) (heap_lt hbox), hb.cell (p := ⟨g, 1, none⟩) (heap_lt hbox)]
  exact ⟨(cells_at hbox 0).1, (cells_at hbox 1).1⟩
theorem ints_eq {w : World} {a b : Option Addr} {c d n n' : Nat} {xs ys : List Int} (hv : intE.Rd w (.slice a n c) xs) (hu : intE.Rd w (.slice b n' d) ys) (hx : xs.length = n) (hy : ys.length = n') (hl : n ≤ 100000) :
    Calls Try.prog 8 #[.slice a n c, .slice b n' d] w fun e w' => e = .returned (.bool (decide (xs = ys))) ∧ Below w.heap.size w w' :=
  (ints_any a b c d n n' xs ys w hx hy hv hu hl).mono (by
    rintro e w' ⟨h7, q, rfl⟩
    exact ⟨h7, below_heap (Below.refl _ _) rfl rfl rfl rfl⟩)
end Go.Proofs.Ytmkjpdmhplldjab
