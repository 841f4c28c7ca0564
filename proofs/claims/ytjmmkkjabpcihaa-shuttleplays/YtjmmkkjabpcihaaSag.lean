/- Settings, jobs and scripts that came in. -/
import Derived.Test.YtjmmkkjabpcihaaLag
namespace Go.Proofs.Ytjmmkkjabpcihaa
open Go.ChangeShapes Go.WideShapes Go.ChangeAt Go.RowKit
set_option linter.unusedVariables false

/-- a call of a script -/
structure Op where
  kind : Int
  n : Int
  jt : Int
  jf : Int
  jo : Int
def opE : El Try.prog Op where
  t := 24
  e := 37
  k := 5
  by' := 40
  z := .agg #[.int .i64 0, .int .i64 0, .int .i64 0, .int .i64 0, .int .i64 0]
  enc x := [.int .i64 x.kind, .int .i64 x.n, .int .i64 x.jt, .int .i64 x.jf, .int .i64 x.jo]
  ht := Try.underlying24
  info := by kernel_rfl
  zc := rfl
  kpos := by omega
  bsm := by omega
  len _ := rfl
  one x v hv := by simp at hv; rcases hv with rfl | rfl | rfl | rfl | rfl <;> rfl
def Ops (w : World) (v : Value) (os : List Op) : Prop := opE.Rd w v os
/-- a job -/
structure Jb where
  t : Int
  f : Int
  o : Int
def jbE : El Try.prog Jb where
  t := 52
  e := 31
  k := 3
  by' := 24
  z := .agg #[.int .i64 0, .int .i64 0, .int .i64 0]
  enc x := [.int .i64 x.t, .int .i64 x.f, .int .i64 x.o]
  ht := Try.underlying52
  info := by kernel_rfl
  zc := rfl
  kpos := by omega
  bsm := by omega
  len _ := rfl
  one x v hv := by simp at hv; rcases hv with rfl | rfl | rfl <;> rfl
def Jbs (w : World) (v : Value) (os : List Jb) : Prop := jbE.Rd w v os

section
variable {H : Type} {enc : TypeId × Value → H} {w : World} {base : Nat} {spare : Nat → Bool} {held : Bool} {fuel : Nat} {cs : List Value} {x : DataW H × List MemPlace}
set_option maxRecDepth 100000 in
theorem how3_of_trod (h : DataW.trod enc Try.prog w base spare held fuel 23 cs = some x) : ∃ x0 x1 x2 : Int, cs = [.int .i64 x0, .int .i64 x1, .int .i64 x2] ∧ True := by
  obtain ⟨xs, n, _, _, hl, hn, hf⟩ := DataW.trod_struct Try.underlying23 h
  rw [show Try.prog.cellsOf 23 = 3 by kernel_rfl] at hl
  have e3 : Try.prog.cellsOf 3 = 1 := by kernel_rfl
  have f0 : DataW.trod enc Try.prog w base spare held n 3 ((cs.drop 0).take (Try.prog.cellsOf 3)) = xs[0]? := hf 0 _ rfl
  have f1 : DataW.trod enc Try.prog w base spare held n 3 ((cs.drop 1).take (Try.prog.cellsOf 3)) = xs[1]? := hf 1 _ rfl
  have f2 : DataW.trod enc Try.prog w base spare held n 3 ((cs.drop 2).take (Try.prog.cellsOf 3)) = xs[2]? := hf 2 _ rfl
  rw [e3] at f0 f1 f2
  match xs, hn, cs, hl with
  | [y0, y1, y2], _, [c0, c1, c2], _ =>
    obtain ⟨i0, e0, _, _⟩ := DataW.trod_int Try.underlying3 f0
    obtain ⟨i1, e1, _, _⟩ := DataW.trod_int Try.underlying3 f1
    obtain ⟨i2, e2, _, _⟩ := DataW.trod_int Try.underlying3 f2
    simp at e0 e1 e2
    exact ⟨i0, i1, i2, by simp [e0, e1, e2], trivial⟩
set_option maxRecDepth 100000 in
theorem job_of_trod (h : DataW.trod enc Try.prog w base spare held fuel 31 cs = some x) : ∃ x0 x1 x2 : Int, cs = [.int .i64 x0, .int .i64 x1, .int .i64 x2] ∧ True := by
  obtain ⟨xs, n, _, _, hl, hn, hf⟩ := DataW.trod_struct Try.underlying31 h
  rw [show Try.prog.cellsOf 31 = 3 by kernel_rfl] at hl
  have e3 : Try.prog.cellsOf 3 = 1 := by kernel_rfl
  have f0 : DataW.trod enc Try.prog w base spare held n 3 ((cs.drop 0).take (Try.prog.cellsOf 3)) = xs[0]? := hf 0 _ rfl
  have f1 : DataW.trod enc Try.prog w base spare held n 3 ((cs.drop 1).take (Try.prog.cellsOf 3)) = xs[1]? := hf 1 _ rfl
  have f2 : DataW.trod enc Try.prog w base spare held n 3 ((cs.drop 2).take (Try.prog.cellsOf 3)) = xs[2]? := hf 2 _ rfl
  rw [e3] at f0 f1 f2
  match xs, hn, cs, hl with
  | [y0, y1, y2], _, [c0, c1, c2], _ =>
    obtain ⟨i0, e0, _, _⟩ := DataW.trod_int Try.underlying3 f0
    obtain ⟨i1, e1, _, _⟩ := DataW.trod_int Try.underlying3 f1
    obtain ⟨i2, e2, _, _⟩ := DataW.trod_int Try.underlying3 f2
    simp at e0 e1 e2
    exact ⟨i0, i1, i2, by simp [e0, e1, e2], trivial⟩
theorem jb_of_trod (h : DataW.trod enc Try.prog w base spare held fuel 31 cs = some x) : ∃ y : Jb, cs = jbE.enc y ∧ True := by
  obtain ⟨x0, x1, x2, e, _⟩ := job_of_trod h
  exact ⟨⟨x0, x1, x2⟩, e, trivial⟩
theorem jobs_of_trod {a : Option Addr} {len cap : Nat} (h : DataW.trod enc Try.prog w base spare held fuel 52 cs = some x) (hcs : cs = [.slice a len cap]) : ∃ os : List Jb, os.length = len ∧ Jbs w (.slice a len cap) os := by
  obtain ⟨vs, h1, h2, _⟩ := rd_of_trod jbE (fun _ => True) (by kernel_rfl) (fun n cs y hy => jb_of_trod hy) h hcs
  exact ⟨vs, h1, h2⟩
set_option maxRecDepth 100000 in
theorem op_of_trod (h : DataW.trod enc Try.prog w base spare held fuel 37 cs = some x) : ∃ y : Op, cs = opE.enc y ∧ True := by
  obtain ⟨xs, n, _, _, hl, hn, hf⟩ := DataW.trod_struct Try.underlying37 h
  rw [show Try.prog.cellsOf 37 = 5 by kernel_rfl] at hl
  have e3 : Try.prog.cellsOf 3 = 1 := by kernel_rfl
  have e31 : Try.prog.cellsOf 31 = 3 := by kernel_rfl
  have f0 : DataW.trod enc Try.prog w base spare held n 3 ((cs.drop 0).take (Try.prog.cellsOf 3)) = xs[0]? := hf 0 _ rfl
  have f1 : DataW.trod enc Try.prog w base spare held n 3 ((cs.drop 1).take (Try.prog.cellsOf 3)) = xs[1]? := hf 1 _ rfl
  have f2 : DataW.trod enc Try.prog w base spare held n 31 ((cs.drop 2).take (Try.prog.cellsOf 31)) = xs[2]? := hf 2 _ rfl
  rw [e3] at f0 f1
  rw [e31] at f2
  match xs, hn, cs, hl with
  | [y0, y1, y2], _, [c0, c1, c2, c3, c4], _ =>
    obtain ⟨i0, e0, _, _⟩ := DataW.trod_int Try.underlying3 f0
    obtain ⟨i1, e1, _, _⟩ := DataW.trod_int Try.underlying3 f1
    obtain ⟨j0, j1, j2, e2, _⟩ := job_of_trod (x := y2) f2
    simp at e0 e1 e2
    obtain ⟨e2, e3, e4⟩ := e2
    exact ⟨⟨i0, i1, j0, j1, j2⟩, by simp [opE, e0, e1, e2, e3, e4], trivial⟩
theorem ops_of_trod {a : Option Addr} {len cap : Nat} (h : DataW.trod enc Try.prog w base spare held fuel 24 cs = some x) (hcs : cs = [.slice a len cap]) : ∃ os : List Op, os.length = len ∧ Ops w (.slice a len cap) os := by
  obtain ⟨vs, h1, h2, _⟩ := rd_of_trod opE (fun _ => True) (by kernel_rfl) (fun n cs y hy => op_of_trod hy) h hcs
  exact ⟨vs, h1, h2⟩
end
theorem Ops.keep {w w' : World} {v : Value} {os : List Op} (h : Ops w v os) (hb : Below w.heap.size w w') : Ops w' v os := El.Rd.keep h hb
theorem Jbs.keep {w w' : World} {v : Value} {os : List Jb} (h : Jbs w v os) (hb : Below w.heap.size w w') : Jbs w' v os := El.Rd.keep h hb
theorem Ops.at {w : World} {a : Option Addr} {n c : Nat} {os : List Op} (h : Ops w (.slice a n c) os) (i : Nat) (p : Op) (hp : os[i]? = some p) : ∃ b off, a = some ⟨b, off, none⟩ ∧ w.cell? ⟨b, off + i * 5, none⟩ = some (.int .i64 p.kind) ∧ w.cell? ⟨b, off + i * 5 + 1, none⟩ = some (.int .i64 p.n) ∧ w.cell? ⟨b, off + i * 5 + 2, none⟩ = some (.int .i64 p.jt) ∧ w.cell? ⟨b, off + i * 5 + 3, none⟩ = some (.int .i64 p.jf) ∧ w.cell? ⟨b, off + i * 5 + 4, none⟩ = some (.int .i64 p.jo) := by
  obtain ⟨b, off, e, hc⟩ := El.Rd.at h i p hp
  exact ⟨b, off, e, hc 0 (by decide), hc 1 (by decide), hc 2 (by decide), hc 3 (by decide), hc 4 (by decide)⟩
theorem Jbs.at {w : World} {a : Option Addr} {n c : Nat} {os : List Jb} (h : Jbs w (.slice a n c) os) (i : Nat) (p : Jb) (hp : os[i]? = some p) : ∃ b off, a = some ⟨b, off, none⟩ ∧ w.cell? ⟨b, off + i * 3, none⟩ = some (.int .i64 p.t) ∧ w.cell? ⟨b, off + i * 3 + 1, none⟩ = some (.int .i64 p.f) ∧ w.cell? ⟨b, off + i * 3 + 2, none⟩ = some (.int .i64 p.o) := by
  obtain ⟨b, off, e, hc⟩ := El.Rd.at h i p hp
  exact ⟨b, off, e, hc 0 (by decide), hc 1 (by decide), hc 2 (by decide)⟩
end Go.Proofs.Ytjmmkkjabpcihaa
