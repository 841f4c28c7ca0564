/- What the arguments of a law are: telegrams, lists of them, three integers. -/
import Derived.Test.YtapbjfllcjfpaaaDec
namespace Go.Proofs.Ytapbjfllcjfpaaa
open Go.ChangeShapes Go.WideShapes Go.ChangeAt Go.RowKit

section
variable {H : Type} {enc : TypeId × Value → H} {w : World} {base : Nat} {spare : Nat → Bool} {held : Bool} {fuel : Nat} {cs : List Value} {x : DataW H × List MemPlace}

theorem tele_of_trod (h : DataW.trod enc Try.prog w base spare held fuel 28 cs = some x) :
    ∃ t : Tl, t.In ∧ cs = [.int .u8 t.k, .int .u16 t.d, .int .u16 t.s, .int .u16 t.a, .int .u16 t.b] := by
  obtain ⟨xs, n, _, _, hl, hn, hf⟩ := DataW.trod_struct Try.underlying28 h
  rw [show Try.prog.cellsOf 28 = 5 by kernel_rfl] at hl
  have e5 : Try.prog.cellsOf 5 = 1 := by kernel_rfl
  have e22 : Try.prog.cellsOf 26 = 1 := by kernel_rfl
  have f0 : DataW.trod enc Try.prog w base spare held n 5 ((cs.drop 0).take (Try.prog.cellsOf 5)) = xs[0]? := hf 0 _ rfl
  have f1 : DataW.trod enc Try.prog w base spare held n 26 ((cs.drop 1).take (Try.prog.cellsOf 26)) = xs[1]? := hf 1 _ rfl
  have f2 : DataW.trod enc Try.prog w base spare held n 26 ((cs.drop 2).take (Try.prog.cellsOf 26)) = xs[2]? := hf 2 _ rfl
  have f3 : DataW.trod enc Try.prog w base spare held n 26 ((cs.drop 3).take (Try.prog.cellsOf 26)) = xs[3]? := hf 3 _ rfl
  have f4 : DataW.trod enc Try.prog w base spare held n 26 ((cs.drop 4).take (Try.prog.cellsOf 26)) = xs[4]? := hf 4 _ rfl
  rw [e5] at f0
  rw [e22] at f1 f2 f3 f4
  match xs, hn, cs, hl with
  | [y0, y1, y2, y3, y4], _, [c0, c1, c2, c3, c4], _ =>
    obtain ⟨i0, e0, _, g0⟩ := DataW.trod_int Try.underlying5 f0
    obtain ⟨i1, e1, _, g1⟩ := DataW.trod_int Try.underlying26 f1
    obtain ⟨i2, e2, _, g2⟩ := DataW.trod_int Try.underlying26 f2
    obtain ⟨i3, e3, _, g3⟩ := DataW.trod_int Try.underlying26 f3
    obtain ⟨i4, e4, _, g4⟩ := DataW.trod_int Try.underlying26 f4
    simp at e0 e1 e2 e3 e4
    refine ⟨⟨i0, i1, i2, i3, i4⟩, ⟨bounds_u8 g0, bounds_u16 g1, bounds_u16 g2, bounds_u16 g3, bounds_u16 g4⟩, ?_⟩
    simp [e0, e1, e2, e3, e4]

end
end Go.Proofs.Ytapbjfllcjfpaaa
