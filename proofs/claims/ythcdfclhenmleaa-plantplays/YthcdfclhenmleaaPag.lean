/- What came in: layouts, telegrams, calls of a script; a plant's questions among other things. -/
import Derived.Test.YthcdfclhenmleaaPaw
import Derived.Test.YthcdfclhenmleaaArg
namespace Go.Proofs.Ythcdfclhenmleaa
open Go.ChangeShapes Go.WideShapes Go.ChangeAt Go.RowKit
set_option linter.unusedVariables false

/-- a call of a script -/
structure Op where
  kind : Int
  a : Int
  b : Int
  t : Tl
def opE : El Try.prog Op where
  t := 26
  e := 47
  k := 8
  by' := 40
  z := .agg #[.int .i64 0, .int .i64 0, .int .i64 0, .int .u8 0, .int .u16 0, .int .u16 0, .int .u16 0, .int .u16 0]
  enc x := [.int .i64 x.kind, .int .i64 x.a, .int .i64 x.b, .int .u8 x.t.k, .int .u16 x.t.d, .int .u16 x.t.s, .int .u16 x.t.a, .int .u16 x.t.b]
  ht := Try.underlying26
  info := by kernel_rfl
  zc := rfl
  kpos := by omega
  bsm := by omega
  len _ := rfl
  one x v hv := by simp at hv; rcases hv with rfl | rfl | rfl | rfl | rfl | rfl | rfl | rfl <;> rfl
def Ops (w : World) (v : Value) (os : List Op) : Prop := opE.Rd w v os ∧ ∀ o ∈ os, o.t.In
section
variable {H : Type} {enc : TypeId × Value → H} {w : World} {base : Nat} {spare : Nat → Bool} {held : Bool} {fuel : Nat} {cs : List Value} {x : DataW H × List MemPlace}
set_option maxRecDepth 100000 in
theorem tele_of_trod (h : DataW.trod enc Try.prog w base spare held fuel 45 cs = some x) :
    ∃ t : Tl, t.In ∧ cs = [.int .u8 t.k, .int .u16 t.d, .int .u16 t.s, .int .u16 t.a, .int .u16 t.b] := by
  obtain ⟨xs, n, _, _, hl, hn, hf⟩ := DataW.trod_struct Try.underlying45 h
  rw [show Try.prog.cellsOf 45 = 5 by kernel_rfl] at hl
  have e5 : Try.prog.cellsOf 5 = 1 := by kernel_rfl
  have e22 : Try.prog.cellsOf 43 = 1 := by kernel_rfl
  have f0 : DataW.trod enc Try.prog w base spare held n 5 ((cs.drop 0).take (Try.prog.cellsOf 5)) = xs[0]? := hf 0 _ rfl
  have f1 : DataW.trod enc Try.prog w base spare held n 43 ((cs.drop 1).take (Try.prog.cellsOf 43)) = xs[1]? := hf 1 _ rfl
  have f2 : DataW.trod enc Try.prog w base spare held n 43 ((cs.drop 2).take (Try.prog.cellsOf 43)) = xs[2]? := hf 2 _ rfl
  have f3 : DataW.trod enc Try.prog w base spare held n 43 ((cs.drop 3).take (Try.prog.cellsOf 43)) = xs[3]? := hf 3 _ rfl
  have f4 : DataW.trod enc Try.prog w base spare held n 43 ((cs.drop 4).take (Try.prog.cellsOf 43)) = xs[4]? := hf 4 _ rfl
  rw [e5] at f0
  rw [e22] at f1 f2 f3 f4
  match xs, hn, cs, hl with
  | [y0, y1, y2, y3, y4], _, [c0, c1, c2, c3, c4], _ =>
    obtain ⟨i0, e0, _, g0⟩ := DataW.trod_int Try.underlying5 f0
    obtain ⟨i1, e1, _, g1⟩ := DataW.trod_int Try.underlying43 f1
    obtain ⟨i2, e2, _, g2⟩ := DataW.trod_int Try.underlying43 f2
    obtain ⟨i3, e3, _, g3⟩ := DataW.trod_int Try.underlying43 f3
    obtain ⟨i4, e4, _, g4⟩ := DataW.trod_int Try.underlying43 f4
    simp at e0 e1 e2 e3 e4
    refine ⟨⟨i0, i1, i2, i3, i4⟩, ⟨bounds_u8 g0, bounds_u16 g1, bounds_u16 g2, bounds_u16 g3, bounds_u16 g4⟩, ?_⟩
    simp [e0, e1, e2, e3, e4]
set_option maxRecDepth 100000 in
theorem op_of_trod (h : DataW.trod enc Try.prog w base spare held fuel 47 cs = some x) : ∃ y : Op, cs = opE.enc y ∧ y.t.In := by
  obtain ⟨xs, n, _, _, hl, hn, hf⟩ := DataW.trod_struct Try.underlying47 h
  rw [show Try.prog.cellsOf 47 = 8 by kernel_rfl] at hl
  have e3 : Try.prog.cellsOf 3 = 1 := by kernel_rfl
  have e45 : Try.prog.cellsOf 45 = 5 := by kernel_rfl
  have f0 : DataW.trod enc Try.prog w base spare held n 3 ((cs.drop 0).take (Try.prog.cellsOf 3)) = xs[0]? := hf 0 _ rfl
  have f1 : DataW.trod enc Try.prog w base spare held n 3 ((cs.drop 1).take (Try.prog.cellsOf 3)) = xs[1]? := hf 1 _ rfl
  have f2 : DataW.trod enc Try.prog w base spare held n 3 ((cs.drop 2).take (Try.prog.cellsOf 3)) = xs[2]? := hf 2 _ rfl
  have f3 : DataW.trod enc Try.prog w base spare held n 45 ((cs.drop 3).take (Try.prog.cellsOf 45)) = xs[3]? := hf 3 _ rfl
  rw [e3] at f0 f1 f2
  rw [e45] at f3
  match xs, hn, cs, hl with
  | [y0, y1, y2, y3], _, [c0, c1, c2, c3, c4, c5, c6, c7], _ =>
    obtain ⟨i0, e0, _, _⟩ := DataW.trod_int Try.underlying3 f0
    obtain ⟨i1, e1, _, _⟩ := DataW.trod_int Try.underlying3 f1
    obtain ⟨i2, e2, _, _⟩ := DataW.trod_int Try.underlying3 f2
    obtain ⟨t, ht, e4⟩ := tele_of_trod f3
    simp at e0 e1 e2 e4
    exact ⟨⟨i0, i1, i2, t⟩, by simp [opE, e0, e1, e2, e4], ht⟩
theorem ops_of_trod {a : Option Addr} {len cap : Nat} (h : DataW.trod enc Try.prog w base spare held fuel 26 cs = some x) (hcs : cs = [.slice a len cap]) : ∃ os : List Op, os.length = len ∧ Ops w (.slice a len cap) os := by
  obtain ⟨vs, h1, h2, h3⟩ := rd_of_trod opE (fun y => y.t.In) (by kernel_rfl) (fun n cs y hy => op_of_trod hy) h hcs
  exact ⟨vs, h1, h2, h3⟩
theorem lyt_of_trod (h : DataW.trod enc Try.prog w base spare held fuel 25 cs = some x) : ∃ a c a' c' ns es, cs = [.slice a (ns : List Nd).length c, .slice a' (es : List Ed).length c'] ∧ Lyt w a a' c c' ns.length es.length ns es := by
  obtain ⟨a, c, a', c', ns, es, hcs, h1, h2, h3⟩ := layout_of_trod h
  refine ⟨a, c, a', c', ns, es, hcs, rfl, rfl, h1, h2, ?_, h3⟩
  subst hcs
  obtain ⟨xs, n, _, _, hl, hn, hf⟩ := DataW.trod_struct Try.underlying25 h
  have e23 : Try.prog.cellsOf 23 = 1 := by kernel_rfl
  have f1 : DataW.trod enc Try.prog w base spare held n 23 (([Value.slice a ns.length c, Value.slice a' es.length c'].drop 1).take (Try.prog.cellsOf 23)) = xs[1]? := hf 1 _ rfl
  rw [e23] at f1
  match xs, hn with
  | [y0, y1], _ =>
    rcases DataW.trod_slice Try.underlying23 f1 with ⟨h1, _⟩ | ⟨x0, len', cap', _, _, _, _, h1, _, _, hl, _⟩
    · simp at h1
      rw [h1.2.1, h1.2.2]; exact Nat.le_refl _
    · simp at h1
      rw [h1.2.1, h1.2.2]; exact hl
end
theorem Ops.keep {w w' : World} {v : Value} {os : List Op} (h : Ops w v os) (hb : Below w.heap.size w w') : Ops w' v os := ⟨h.1.keep hb, h.2⟩
theorem Ops.at {w : World} {a : Option Addr} {n c : Nat} {os : List Op} (h : Ops w (.slice a n c) os) (i : Nat) (p : Op) (hp : os[i]? = some p) : ∃ b off, a = some ⟨b, off, none⟩ ∧ p.t.In ∧ w.cell? ⟨b, off + i * 8, none⟩ = some (.int .i64 p.kind) ∧ w.cell? ⟨b, off + i * 8 + 1, none⟩ = some (.int .i64 p.a) ∧ w.cell? ⟨b, off + i * 8 + 2, none⟩ = some (.int .i64 p.b) ∧
    w.cell? ⟨b, off + i * 8 + 3, none⟩ = some (.int .u8 p.t.k) ∧ w.cell? ⟨b, off + i * 8 + 4, none⟩ = some (.int .u16 p.t.d) ∧ w.cell? ⟨b, off + i * 8 + 5, none⟩ = some (.int .u16 p.t.s) ∧ w.cell? ⟨b, off + i * 8 + 6, none⟩ = some (.int .u16 p.t.a) ∧ w.cell? ⟨b, off + i * 8 + 7, none⟩ = some (.int .u16 p.t.b) := by
  obtain ⟨b, off, e, hc⟩ := h.1.at i p hp
  exact ⟨b, off, e, h.2 p (List.mem_of_getElem? hp), hc 0 (by decide), hc 1 (by decide), hc 2 (by decide), hc 3 (by decide), hc 4 (by decide), hc 5 (by decide), hc 6 (by decide), hc 7 (by decide)⟩
section
variable {w0 w : World} {l : List It}
theorem Its.keepL {a a' : Option Addr} {c c' n m : Nat} {ns : List Nd} {es : List Ed} {W : World} (h : Its w l W) (L : Lyt w a a' c c' n m ns es) : Lyt W a a' c c' n m ns es := L.keep h.bel
/-- a layout's box -/
theorem Its.lbox {w0 w : World} {x : It} {l : List It} {k : Nat} {vN vE : Value} (h : Its w0 (x :: .box k #[vN, vE] 25 :: l) w) : w.cell? ⟨k, 0, none⟩ = some vN ∧ w.cell? ⟨k, 1, none⟩ = some vE := by
  have := h.two
  exact ⟨(cells_at this 0).1, (cells_at this 1).1⟩
theorem Its.lbox1 {w0 w : World} {l : List It} {k : Nat} {vN vE : Value} (h : Its w0 (.box k #[vN, vE] 25 :: l) w) : w.cell? ⟨k, 0, none⟩ = some vN ∧ w.cell? ⟨k, 1, none⟩ = some vE := by
  have := h.one
  exact ⟨(cells_at this 0).1, (cells_at this 1).1⟩
end
end Go.Proofs.Ythcdfclhenmleaa
