/- Numbers that came in; a layout's copy. -/
import Derived.Test.YtmmkfcmbmecleaaArg
import Derived.Test.YtmmkfcmbmecleaaWak
import Derived.Test.YtmmkfcmbmecleaaSam
import Derived.SizedLaws
import Derived.ChangeOld
import Derived.Deep.RegionWith
namespace Go.Proofs.Ytmmkfcmbmecleaa
open Go.ChangeShapes Go.WideShapes Go.ChangeAt Go.RowKit
set_option linter.unusedVariables false

section
variable {H : Type} {enc : TypeId × Value → H} {w : World} {base : Nat} {spare : Nat → Bool} {held : Bool} {fuel : Nat} {cs : List Value} {x : DataW H × List MemPlace}
theorem int_of_trod (h : DataW.trod enc Try.prog w base spare held fuel 3 cs = some x) : ∃ y : Int, cs = intE.enc y ∧ (Lit.int .i64 y).wf = true := by
  obtain ⟨i, e, _, q⟩ := DataW.trod_int Try.underlying3 h
  exact ⟨i, e, q⟩
set_option maxRecDepth 100000 in
end

/-- a layout's box -/
theorem layg {g : Nat} {W0 W1 : World} {vN vE : Value} (hbox : W0.heap[g]? = some (.cells #[vN, vE] 25)) (hb : Below W0.heap.size W0 W1) : W1.cell? ⟨g, 0, none⟩ = some vN ∧ W1.cell? ⟨g, 1, none⟩ = some vE := by
  rw [hb.cell (p := ⟨g, 0, none⟩) (heap_lt hbox), hb.cell (p := ⟨g, 1, none⟩) (heap_lt hbox)]
  exact ⟨(cells_at hbox 0).1, (cells_at hbox 1).1⟩
theorem copy_ly {w : World} {a a' : Option Addr} {c c' n m : Nat} {ns : List Nd} {es : List Ed} (hL : Ly w a a' c c' n m ns es) :
    Calls Try.prog 11 #[.agg #[.slice a n c, .slice a' m c']] w fun e w' => ∃ aN aE cN cE, e = .returned (.agg #[.slice aN n cN, .slice aE m cE]) ∧ Ly w' aN aE cN cE n m ns es ∧ Below w.heap.size w w' := by
  have h1 := hL.hn
  have h2 := hL.hm
  subst h1
  subst h2
  refine (copy_any a a' c c' ns es w hL.hv hL.hu hL.n4 hL.m4).mono ?_
  rintro e w' ⟨vN, vE, rfl, hN, hE, hb⟩
  obtain ⟨aN, cN, rfl⟩ := hN.rd.form
  obtain ⟨aE, cE, rfl⟩ := hE.rd.form
  exact ⟨aN, aE, cN, cE, rfl, ⟨rfl, rfl, hN.rd, hE.rd, hL.n4, hL.m4, hL.hE⟩, hb⟩
theorem same_ly {w : World} {a a' b b' : Option Addr} {c c' d d' n m : Nat} {ns : List Nd} {es : List Ed} (hL : Ly w a a' c c' n m ns es) (hL' : Ly w b b' d d' n m ns es) :
    Calls Try.prog 17 #[.agg #[.slice a n c, .slice a' m c'], .agg #[.slice b n d, .slice b' m d']] w fun e w' => e = .returned (.bool true) ∧ Below w.heap.size w w' := by
  have h1 := hL.hn
  have h2 := hL.hm
  subst h1
  subst h2
  have := rsame_any a a' b b' c c' d d' ns ns es es w hL.hv hL.hu hL'.hv hL'.hu (by have := hL.n4; omega) (by have := hL.m4; omega)
  rwa [decide_eq_true ⟨rfl, rfl⟩] at this
theorem ints_eq {w : World} {a b : Option Addr} {c d n n' : Nat} {xs ys : List Int} (hv : intE.Rd w (.slice a n c) xs) (hu : intE.Rd w (.slice b n' d) ys) (hx : xs.length = n) (hy : ys.length = n') (hl : n ≤ 100000) :
    Calls Try.prog 18 #[.slice a n c, .slice b n' d] w fun e w' => e = .returned (.bool (decide (xs = ys))) ∧ Below w.heap.size w w' :=
  (ints_any a b c d n n' xs ys w hx hy hv hu hl).mono (by
    rintro e w' ⟨h7, q, rfl⟩
    exact ⟨h7, below_heap (Below.refl _ _) rfl rfl rfl rfl⟩)
end Go.Proofs.Ytmmkfcmbmecleaa
