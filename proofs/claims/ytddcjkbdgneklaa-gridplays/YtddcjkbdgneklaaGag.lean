/- What came in: pairs of numbers, moves, scripts of calls; how long a slice is at most. -/
import Derived.Test.YtddcjkbdgneklaaLag
namespace Go.Proofs.Ytddcjkbdgneklaa
open Go.ChangeShapes Go.WideShapes Go.ChangeAt Go.RowKit
set_option linter.unusedVariables false

section
variable {H : Type} {enc : TypeId × Value → H} {w : World} {base : Nat} {spare : Nat → Bool} {held : Bool} {fuel : Nat} {cs : List Value} {x : DataW H × List MemPlace}
theorem len_of_trod {α : Type} (E : El Try.prog α) {a : Option Addr} {len cap : Nat} (h : DataW.trod enc Try.prog w base spare held fuel E.t cs = some x) (hcs : cs = [.slice a len cap]) : len ≤ 9223372036854775807 := by
  rcases DataW.trod_slice E.ht h with ⟨h1, _⟩ | ⟨x0, len', cap', elems, rest, n, _, h1, _, _, hl, hcm, he, hr, _⟩
  · rw [hcs] at h1
    simp at h1
    omega
  · rw [hcs] at h1
    simp at h1
    have : cap' ≤ 9223372036854775807 := hcm
    omega
set_option maxRecDepth 100000 in
theorem ed_of_trod (h : DataW.trod enc Try.prog w base spare held fuel 64 cs = some x) : ∃ y : Int × Int, cs = [.int .i64 y.1, .int .i64 y.2] ∧ True := by
  obtain ⟨xs, n, _, _, hl, hn, hf⟩ := DataW.trod_array Try.underlying64 h
  have e3 : Try.prog.cellsOf 3 = 1 := by kernel_rfl
  rw [show Try.prog.cellsOf 64 = 2 by kernel_rfl] at hl
  have f0 := hf 0 (by omega)
  have f1 := hf 1 (by omega)
  rw [e3] at f0 f1
  match xs, hn, cs, hl with
  | [y0, y1], _, [c0, c1], _ =>
    obtain ⟨i1, e1, _, _⟩ := DataW.trod_int Try.underlying3 (show DataW.trod enc Try.prog w base spare held n 3 _ = some y0 from f0)
    obtain ⟨i2, e2, _, _⟩ := DataW.trod_int Try.underlying3 (show DataW.trod enc Try.prog w base spare held n 3 _ = some y1 from f1)
    simp at e1 e2
    exact ⟨(i1, i2), by simp [e1, e2], trivial⟩
set_option maxRecDepth 100000 in
theorem arr3_of_trod (h : DataW.trod enc Try.prog w base spare held fuel 50 cs = some x) : ∃ x0 x1 x2 : Int, cs = [.int .i64 x0, .int .i64 x1, .int .i64 x2] ∧ True := by
  obtain ⟨xs, n, _, _, hl, hn, hf⟩ := DataW.trod_struct Try.underlying50 h
  rw [show Try.prog.cellsOf 50 = 3 by kernel_rfl] at hl
  have e3 : Try.prog.cellsOf 3 = 1 := by kernel_rfl
  have f0 : DataW.trod enc Try.prog w base spare held n 3 ((cs.drop 0).take (Try.prog.cellsOf 3)) = xs[0]? := hf 0 _ rfl
  have f1 : DataW.trod enc Try.prog w base spare held n 3 ((cs.drop 1).take (Try.prog.cellsOf 3)) = xs[1]? := hf 1 _ rfl
  have f2 : DataW.trod enc Try.prog w base spare held n 3 ((cs.drop 2).take (Try.prog.cellsOf 3)) = xs[2]? := hf 2 _ rfl
  rw [e3] at f0 f1 f2
  match xs, hn, cs, hl with
  | [y0, y1, y2], _, [c0, c1, c2], _ =>
    obtain ⟨i0, e0, _, _⟩ := DataW.trod_int Try.underlying3 f0
    obtain ⟨i1, e1, _, _⟩ := DataW.trod_int Try.underlying3 f1
    obtain ⟨i2, e2, _, _⟩ := DataW.trod_int Try.underlying3 f2
    simp at e0 e1 e2
    exact ⟨i0, i1, i2, by simp [e0, e1, e2], trivial⟩
/-- a call of a script -/
structure Op where
  kind : Int
  tote : Int
  f : Int
  o : Int
def opE : El Try.prog Op where
  t := 23
  e := 36
  k := 4
  by' := 32
  z := .agg #[.int .i64 0, .int .i64 0, .int .i64 0, .int .i64 0]
  enc x := [.int .i64 x.kind, .int .i64 x.tote, .int .i64 x.f, .int .i64 x.o]
  ht := Try.underlying23
  info := by kernel_rfl
  zc := rfl
  kpos := by omega
  bsm := by omega
  len _ := rfl
  one x v hv := by simp at hv; rcases hv with rfl | rfl | rfl | rfl <;> rfl
def Ops (w : World) (v : Value) (os : List Op) : Prop := opE.Rd w v os
set_option maxRecDepth 100000 in
theorem op_of_trod (h : DataW.trod enc Try.prog w base spare held fuel 36 cs = some x) : ∃ y : Op, cs = opE.enc y ∧ True := by
  obtain ⟨xs, n, _, _, hl, hn, hf⟩ := DataW.trod_struct Try.underlying36 h
  rw [show Try.prog.cellsOf 36 = 4 by kernel_rfl] at hl
  have e3 : Try.prog.cellsOf 3 = 1 := by kernel_rfl
  have f0 : DataW.trod enc Try.prog w base spare held n 3 ((cs.drop 0).take (Try.prog.cellsOf 3)) = xs[0]? := hf 0 _ rfl
  have f1 : DataW.trod enc Try.prog w base spare held n 3 ((cs.drop 1).take (Try.prog.cellsOf 3)) = xs[1]? := hf 1 _ rfl
  have f2 : DataW.trod enc Try.prog w base spare held n 3 ((cs.drop 2).take (Try.prog.cellsOf 3)) = xs[2]? := hf 2 _ rfl
  have f3 : DataW.trod enc Try.prog w base spare held n 3 ((cs.drop 3).take (Try.prog.cellsOf 3)) = xs[3]? := hf 3 _ rfl
  rw [e3] at f0 f1 f2 f3
  match xs, hn, cs, hl with
  | [y0, y1, y2, y3], _, [c0, c1, c2, c3], _ =>
    obtain ⟨i0, e0, _, _⟩ := DataW.trod_int Try.underlying3 f0
    obtain ⟨i1, e1, _, _⟩ := DataW.trod_int Try.underlying3 f1
    obtain ⟨i2, e2, _, _⟩ := DataW.trod_int Try.underlying3 f2
    obtain ⟨i3, e3, _, _⟩ := DataW.trod_int Try.underlying3 f3
    simp at e0 e1 e2 e3
    exact ⟨⟨i0, i1, i2, i3⟩, by simp [opE, e0, e1, e2, e3], trivial⟩
theorem ops_of_trod {a : Option Addr} {len cap : Nat} (h : DataW.trod enc Try.prog w base spare held fuel 23 cs = some x) (hcs : cs = [.slice a len cap]) : ∃ os : List Op, os.length = len ∧ Ops w (.slice a len cap) os := by
  obtain ⟨vs, h1, h2, _⟩ := rd_of_trod opE (fun _ => True) (by kernel_rfl) (fun n cs y hy => op_of_trod hy) h hcs
  exact ⟨vs, h1, h2⟩
end
theorem Ops.keep {w w' : World} {v : Value} {os : List Op} (h : Ops w v os) (hb : Below w.heap.size w w') : Ops w' v os := El.Rd.keep h hb
theorem Ops.at {w : World} {a : Option Addr} {n c : Nat} {os : List Op} (h : Ops w (.slice a n c) os) (i : Nat) (p : Op) (hp : os[i]? = some p) : ∃ b off, a = some ⟨b, off, none⟩ ∧ w.cell? ⟨b, off + i * 4, none⟩ = some (.int .i64 p.kind) ∧ w.cell? ⟨b, off + i * 4 + 1, none⟩ = some (.int .i64 p.tote) ∧ w.cell? ⟨b, off + i * 4 + 2, none⟩ = some (.int .i64 p.f) ∧ w.cell? ⟨b, off + i * 4 + 3, none⟩ = some (.int .i64 p.o) := by
  obtain ⟨b, off, e, hc⟩ := El.Rd.at h i p hp
  exact ⟨b, off, e, hc 0 (by decide), hc 1 (by decide), hc 2 (by decide), hc 3 (by decide)⟩
end Go.Proofs.Ytddcjkbdgneklaa
