/- Spots that came in. -/
import Derived.Test.YtochllbnlnammabPra
import Derived.Test.YtochllbnlnammabLag
namespace Go.Proofs.Ytochllbnlnammab
open Go.ChangeShapes Go.WideShapes Go.ChangeAt Go.RowKit
set_option linter.unusedVariables false
section
variable {H : Type} {enc : TypeId × Value → H} {w : World} {base : Nat} {spare : Nat → Bool} {held : Bool} {fuel : Nat} {cs : List Value} {x : DataW H × List MemPlace}
set_option maxRecDepth 100000 in
theorem sp_of_trod (h : DataW.trod enc Try.prog w base spare held fuel 23 cs = some x) : ∃ y : Int × Int, cs = spE.enc y ∧ True := by
  obtain ⟨xs, n, _, _, hl, hn, hf⟩ := DataW.trod_struct Try.underlying23 h
  rw [show Try.prog.cellsOf 23 = 2 by kernel_rfl] at hl
  have e3 : Try.prog.cellsOf 3 = 1 := by kernel_rfl
  have f0 : DataW.trod enc Try.prog w base spare held n 3 ((cs.drop 0).take (Try.prog.cellsOf 3)) = xs[0]? := hf 0 _ rfl
  have f1 : DataW.trod enc Try.prog w base spare held n 3 ((cs.drop 1).take (Try.prog.cellsOf 3)) = xs[1]? := hf 1 _ rfl
  rw [e3] at f0 f1
  match xs, hn, cs, hl with
  | [y0, y1], _, [c0, c1], _ =>
    obtain ⟨i0, e0, _, _⟩ := DataW.trod_int Try.underlying3 f0
    obtain ⟨i1, e1, _, _⟩ := DataW.trod_int Try.underlying3 f1
    simp at e0 e1
    exact ⟨(i0, i1), by simp [spE, e0, e1], trivial⟩
end
end Go.Proofs.Ytochllbnlnammab
