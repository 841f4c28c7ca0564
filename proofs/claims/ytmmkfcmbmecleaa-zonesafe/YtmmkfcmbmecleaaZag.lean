/- Holders that came in; eight numbers that came in. -/
import Derived.Test.YtmmkfcmbmecleaaZhd
import Derived.Test.YtmmkfcmbmecleaaArgs
namespace Go.Proofs.Ytmmkfcmbmecleaa
open Go.ChangeShapes Go.WideShapes Go.ChangeAt Go.RowKit
set_option linter.unusedVariables false

section
variable {H : Type} {enc : TypeId × Value → H} {w : World} {base : Nat} {spare : Nat → Bool} {held : Bool} {fuel : Nat} {cs : List Value} {x : DataW H × List MemPlace}
set_option maxRecDepth 100000 in
theorem hv_of_trod (h : DataW.trod enc Try.prog w base spare held fuel 62 cs = some x) : ∃ y : Hv, cs = hvE.enc y ∧ ∃ has : List Int, intE.Rd w (.slice y.a y.l y.c) has := by
  obtain ⟨xs, n, _, _, hl, hn, hf⟩ := DataW.trod_struct Try.underlying62 h
  rw [show Try.prog.cellsOf 62 = 2 by kernel_rfl] at hl
  have e26 : Try.prog.cellsOf 26 = 1 := by kernel_rfl
  have e3 : Try.prog.cellsOf 3 = 1 := by kernel_rfl
  have f0 : DataW.trod enc Try.prog w base spare held n 26 ((cs.drop 0).take (Try.prog.cellsOf 26)) = xs[0]? := hf 0 _ rfl
  have f1 : DataW.trod enc Try.prog w base spare held n 3 ((cs.drop 1).take (Try.prog.cellsOf 3)) = xs[1]? := hf 1 _ rfl
  rw [e26] at f0
  rw [e3] at f1
  match xs, hn, cs, hl with
  | [y0, y1], _, [c0, c1], _ =>
    have g0 : ∃ a len cap, c0 = .slice a len cap := by
      rcases DataW.trod_slice Try.underlying26 f0 with ⟨h1, _⟩ | ⟨x0, len', cap', _, _, _, _, h1, _⟩
      · simp at h1; exact ⟨_, _, _, h1⟩
      · simp at h1; exact ⟨_, _, _, h1⟩
    obtain ⟨a, len, c, rfl⟩ := g0
    obtain ⟨i1, e1, _, _⟩ := DataW.trod_int Try.underlying3 f1
    simp at e1
    obtain ⟨ms, _, hm2, _⟩ := rd_of_trod intE (fun y => (Lit.int .i64 y).wf = true) (by kernel_rfl) (fun n cs y hy => int_of_trod hy) f0 rfl
    exact ⟨⟨a, len, c, i1⟩, by simp [e1, hvE], ms, hm2⟩

theorem holders_of_trod {a : Option Addr} {len cap : Nat} (h : DataW.trod enc Try.prog w base spare held fuel 52 cs = some x) (hcs : cs = [.slice a len cap]) : ∃ hs : List Hl, hs.length = len ∧ Hds hvE w (.slice a len cap) hs := by
  obtain ⟨vs, h1, h2, h3⟩ := rd_of_trod hvE (fun y => ∃ has : List Int, intE.Rd w (.slice y.a y.l y.c) has) (by kernel_rfl) (fun n cs y hy => hv_of_trod hy) h hcs
  obtain ⟨hs, e1, e2⟩ := list_of (fun i (p : Hl) => ∀ v, vs[i]? = some v → v.want = p.want ∧ intE.Rd w (.slice v.a v.l v.c) p.has) len (fun i hi => by
    have hv : vs[i]? = some vs[i] := List.getElem?_eq_getElem (by omega)
    obtain ⟨has, hh⟩ := h3 vs[i] (List.mem_of_getElem? hv)
    exact ⟨⟨has, vs[i].want⟩, fun v hv' => by rw [hv] at hv'; cases hv'; exact ⟨rfl, hh⟩⟩)
  exact ⟨hs, e1, vs, h2, by omega, fun i v p hv hp => e2 i p hp v hv⟩

set_option maxRecDepth 100000 in
theorem arr8_of_trod (h : DataW.trod enc Try.prog w base spare held fuel 60 cs = some x) : ∃ x0 x1 x2 x3 x4 x5 x6 x7 : Int, cs = [.int .i64 x0, .int .i64 x1, .int .i64 x2, .int .i64 x3, .int .i64 x4, .int .i64 x5, .int .i64 x6, .int .i64 x7] := by
  obtain ⟨xs, n, _, _, hl, hn, hf⟩ := DataW.trod_array Try.underlying60 h
  have e3 : Try.prog.cellsOf 3 = 1 := by kernel_rfl
  rw [show Try.prog.cellsOf 60 = 8 by kernel_rfl] at hl
  have f0 := hf 0 (by omega)
  have f1 := hf 1 (by omega)
  have f2 := hf 2 (by omega)
  have f3 := hf 3 (by omega)
  have f4 := hf 4 (by omega)
  have f5 := hf 5 (by omega)
  have f6 := hf 6 (by omega)
  have f7 := hf 7 (by omega)
  rw [e3] at f0 f1 f2 f3 f4 f5 f6 f7
  match xs, hn, cs, hl with
  | [y0, y1, y2, y3, y4, y5, y6, y7], _, [c0, c1, c2, c3, c4, c5, c6, c7], _ =>
    obtain ⟨i0, e0, _, _⟩ := DataW.trod_int Try.underlying3 (show DataW.trod enc Try.prog w base spare held n 3 _ = some y0 from f0)
    obtain ⟨i1, e1, _, _⟩ := DataW.trod_int Try.underlying3 (show DataW.trod enc Try.prog w base spare held n 3 _ = some y1 from f1)
    obtain ⟨i2, e2, _, _⟩ := DataW.trod_int Try.underlying3 (show DataW.trod enc Try.prog w base spare held n 3 _ = some y2 from f2)
    obtain ⟨i3, e3, _, _⟩ := DataW.trod_int Try.underlying3 (show DataW.trod enc Try.prog w base spare held n 3 _ = some y3 from f3)
    obtain ⟨i4, e4, _, _⟩ := DataW.trod_int Try.underlying3 (show DataW.trod enc Try.prog w base spare held n 3 _ = some y4 from f4)
    obtain ⟨i5, e5, _, _⟩ := DataW.trod_int Try.underlying3 (show DataW.trod enc Try.prog w base spare held n 3 _ = some y5 from f5)
    obtain ⟨i6, e6, _, _⟩ := DataW.trod_int Try.underlying3 (show DataW.trod enc Try.prog w base spare held n 3 _ = some y6 from f6)
    obtain ⟨i7, e7, _, _⟩ := DataW.trod_int Try.underlying3 (show DataW.trod enc Try.prog w base spare held n 3 _ = some y7 from f7)
    simp at e0 e1 e2 e3 e4 e5 e6 e7
    exact ⟨i0, i1, i2, i3, i4, i5, i6, i7, by simp [e0, e1, e2, e3, e4, e5, e6, e7]⟩
end
end Go.Proofs.Ytmmkfcmbmecleaa
