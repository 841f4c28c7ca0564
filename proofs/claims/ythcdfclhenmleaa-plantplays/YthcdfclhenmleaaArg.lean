/- A layout that came in: its nodes and edges. -/
import Derived.Test.YthcdfclhenmleaaLyb
import Derived.Test.YthcdfclhenmleaaLag
namespace Go.Proofs.Ythcdfclhenmleaa
open Go.ChangeShapes Go.WideShapes Go.ChangeAt Go.RowKit
set_option linter.unusedVariables false

section
variable {H : Type} {enc : TypeId × Value → H} {w : World} {base : Nat} {spare : Nat → Bool} {held : Bool} {fuel : Nat} {cs : List Value} {x : DataW H × List MemPlace}

set_option maxRecDepth 100000 in
theorem nd_of_trod (h : DataW.trod enc Try.prog w base spare held fuel 67 cs = some x) : ∃ y : Nd, cs = ndE.enc y ∧ y.name.size ≤ maxLen := by
  obtain ⟨xs, n, _, _, hl, hn, hf⟩ := DataW.trod_struct Try.underlying67 h
  rw [show Try.prog.cellsOf 67 = 3 by kernel_rfl] at hl
  have e9 : Try.prog.cellsOf 9 = 1 := by kernel_rfl
  have e3 : Try.prog.cellsOf 3 = 1 := by kernel_rfl
  have f0 : DataW.trod enc Try.prog w base spare held n 9 ((cs.drop 0).take (Try.prog.cellsOf 9)) = xs[0]? := hf 0 _ rfl
  have f1 : DataW.trod enc Try.prog w base spare held n 3 ((cs.drop 1).take (Try.prog.cellsOf 3)) = xs[1]? := hf 1 _ rfl
  have f2 : DataW.trod enc Try.prog w base spare held n 3 ((cs.drop 2).take (Try.prog.cellsOf 3)) = xs[2]? := hf 2 _ rfl
  rw [e9] at f0
  rw [e3] at f1 f2
  match xs, hn, cs, hl with
  | [y0, y1, y2], _, [c0, c1, c2], _ =>
    obtain ⟨s, e0, _, hs⟩ := DataW.trod_string Try.underlying9 f0
    obtain ⟨i1, e1, _, _⟩ := DataW.trod_int Try.underlying3 f1
    obtain ⟨i2, e2, _, _⟩ := DataW.trod_int Try.underlying3 f2
    simp at e0 e1 e2
    exact ⟨⟨s, i1, i2⟩, by simp [e0, e1, e2, ndE], hs⟩
set_option maxRecDepth 100000 in
theorem ed_of_trod (h : DataW.trod enc Try.prog w base spare held fuel 42 cs = some x) : ∃ y : Ed, cs = edE.enc y ∧ True := by
  obtain ⟨xs, n, _, _, hl, hn, hf⟩ := DataW.trod_array Try.underlying42 h
  have e3 : Try.prog.cellsOf 3 = 1 := by kernel_rfl
  rw [show Try.prog.cellsOf 42 = 2 by kernel_rfl] at hl
  have f0 := hf 0 (by omega)
  have f1 := hf 1 (by omega)
  rw [e3] at f0 f1
  match xs, hn, cs, hl with
  | [y0, y1], _, [c0, c1], _ =>
    obtain ⟨i1, e1, _, _⟩ := DataW.trod_int Try.underlying3 (show DataW.trod enc Try.prog w base spare held n 3 _ = some y0 from f0)
    obtain ⟨i2, e2, _, _⟩ := DataW.trod_int Try.underlying3 (show DataW.trod enc Try.prog w base spare held n 3 _ = some y1 from f1)
    simp at e1 e2
    exact ⟨(i1, i2), by simp [e1, e2, edE], trivial⟩
set_option maxRecDepth 100000 in
/-- a layout that came in -/
theorem layout_of_trod (h : DataW.trod enc Try.prog w base spare held fuel 25 cs = some x) : ∃ a c a' c' ns es, cs = [.slice a (ns : List Nd).length c, .slice a' (es : List Ed).length c'] ∧ ndE.Rd w (.slice a ns.length c) ns ∧ edE.Rd w (.slice a' es.length c') es ∧ ∀ n ∈ ns, n.name.size ≤ maxLen := by
  obtain ⟨xs, n, _, _, hl, hn, hf⟩ := DataW.trod_struct Try.underlying25 h
  rw [show Try.prog.cellsOf 25 = 2 by kernel_rfl] at hl
  have e22 : Try.prog.cellsOf 22 = 1 := by kernel_rfl
  have e23 : Try.prog.cellsOf 23 = 1 := by kernel_rfl
  have f0 : DataW.trod enc Try.prog w base spare held n 22 ((cs.drop 0).take (Try.prog.cellsOf 22)) = xs[0]? := hf 0 _ rfl
  have f1 : DataW.trod enc Try.prog w base spare held n 23 ((cs.drop 1).take (Try.prog.cellsOf 23)) = xs[1]? := hf 1 _ rfl
  rw [e22] at f0
  rw [e23] at f1
  match xs, hn, cs, hl with
  | [y0, y1], _, [c0, c1], _ =>
    have g0 : ∃ a len cap, c0 = .slice a len cap := by
      rcases DataW.trod_slice Try.underlying22 f0 with ⟨h1, _⟩ | ⟨x0, len', cap', _, _, _, _, h1, _⟩
      · simp at h1; exact ⟨_, _, _, h1⟩
      · simp at h1; exact ⟨_, _, _, h1⟩
    have g1 : ∃ a len cap, c1 = .slice a len cap := by
      rcases DataW.trod_slice Try.underlying23 f1 with ⟨h1, _⟩ | ⟨x0, len', cap', _, _, _, _, h1, _⟩
      · simp at h1; exact ⟨_, _, _, h1⟩
      · simp at h1; exact ⟨_, _, _, h1⟩
    obtain ⟨a, len, c, rfl⟩ := g0
    obtain ⟨a', len', c', rfl⟩ := g1
    obtain ⟨ns, hn1, hn2, hn3⟩ := rd_of_trod ndE (fun y => y.name.size ≤ maxLen) (by kernel_rfl) (fun n cs y hy => nd_of_trod hy) f0 rfl
    obtain ⟨es, he1, he2, _⟩ := rd_of_trod edE (fun _ => True) (by kernel_rfl) (fun n cs y hy => ed_of_trod hy) f1 rfl
    subst hn1
    subst he1
    exact ⟨a, c, a', c', ns, es, rfl, hn2, he2, hn3⟩
end
end Go.Proofs.Ythcdfclhenmleaa
