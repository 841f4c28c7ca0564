/- What came in: layouts, notes; a mirror's questions among other things. -/
import Derived.Test.YtlnnpdghcilioaaMaw
import Derived.Test.YtlnnpdghcilioaaArg
namespace Go.Proofs.Ytlnnpdghcilioaa
open Go.ChangeShapes Go.WideShapes Go.ChangeAt Go.RowKit
set_option linter.unusedVariables false

def ntE : El Try.prog Nt where
  t := 26
  e := 45
  k := 4
  by' := 32
  z := .agg #[.int .i64 0, .int .i64 0, .int .i64 0, .int .i64 0]
  enc x := [.int .i64 x.kind, .int .i64 x.a, .int .i64 x.b, .int .i64 x.c]
  ht := Try.underlying26
  info := by kernel_rfl
  zc := rfl
  kpos := by omega
  bsm := by omega
  len _ := rfl
  one x v hv := by simp at hv; rcases hv with rfl | rfl | rfl | rfl <;> rfl
theorem nt_at {w : World} {a : Option Addr} {n c : Nat} {xs : List Nt} (h : ntE.Rd w (.slice a n c) xs) (i : Nat) (p : Nt) (hp : xs[i]? = some p) : ∃ b off, a = some ⟨b, off, none⟩ ∧ w.cell? ⟨b, off + i * 4, none⟩ = some (.int .i64 p.kind) ∧ w.cell? ⟨b, off + i * 4 + 1, none⟩ = some (.int .i64 p.a) ∧ w.cell? ⟨b, off + i * 4 + 2, none⟩ = some (.int .i64 p.b) ∧ w.cell? ⟨b, off + i * 4 + 3, none⟩ = some (.int .i64 p.c) := by
  obtain ⟨b, off, e, hc⟩ := El.Rd.at h i p hp
  exact ⟨b, off, e, hc 0 (by decide), hc 1 (by decide), hc 2 (by decide), hc 3 (by decide)⟩
section
variable {H : Type} {enc : TypeId × Value → H} {w : World} {base : Nat} {spare : Nat → Bool} {held : Bool} {fuel : Nat} {cs : List Value} {x : DataW H × List MemPlace}
set_option maxRecDepth 100000 in
theorem nt_of_trod (h : DataW.trod enc Try.prog w base spare held fuel 45 cs = some x) : ∃ y : Nt, cs = ntE.enc y ∧ True := by
  obtain ⟨xs, n, _, _, hl, hn, hf⟩ := DataW.trod_struct Try.underlying45 h
  rw [show Try.prog.cellsOf 45 = 4 by kernel_rfl] at hl
  have e3 : Try.prog.cellsOf 3 = 1 := by kernel_rfl
  have f0 : DataW.trod enc Try.prog w base spare held n 3 ((cs.drop 0).take (Try.prog.cellsOf 3)) = xs[0]? := hf 0 _ rfl
  have f1 : DataW.trod enc Try.prog w base spare held n 3 ((cs.drop 1).take (Try.prog.cellsOf 3)) = xs[1]? := hf 1 _ rfl
  have f2 : DataW.trod enc Try.prog w base spare held n 3 ((cs.drop 2).take (Try.prog.cellsOf 3)) = xs[2]? := hf 2 _ rfl
  have f3 : DataW.trod enc Try.prog w base spare held n 3 ((cs.drop 3).take (Try.prog.cellsOf 3)) = xs[3]? := hf 3 _ rfl
  rw [e3] at f0 f1 f2 f3
  match xs, hn, cs, hl with
  | [y0, y1, y2, y3], _, [c0, c1, c2, c3], _ =>
    obtain ⟨i0, e0, _, _⟩ := DataW.trod_int Try.underlying3 f0
    obtain ⟨i1, e1, _, _⟩ := DataW.trod_int Try.underlying3 f1
    obtain ⟨i2, e2, _, _⟩ := DataW.trod_int Try.underlying3 f2
    obtain ⟨i3, e4, _, _⟩ := DataW.trod_int Try.underlying3 f3
    simp at e0 e1 e2 e4
    exact ⟨⟨i0, i1, i2, i3⟩, by simp [ntE, e0, e1, e2, e4], trivial⟩
theorem notes_of_trod {a : Option Addr} {len cap : Nat} (h : DataW.trod enc Try.prog w base spare held fuel 26 cs = some x) (hcs : cs = [.slice a len cap]) : ∃ os : List Nt, os.length = len ∧ ntE.Rd w (.slice a len cap) os := by
  obtain ⟨vs, h1, h2, h3⟩ := rd_of_trod ntE (fun _ => True) (by kernel_rfl) (fun n cs y hy => nt_of_trod hy) h hcs
  exact ⟨vs, h1, h2⟩
theorem lyt_of_trod (h : DataW.trod enc Try.prog w base spare held fuel 25 cs = some x) : ∃ a c a' c' ns es, cs = [.slice a (ns : List Nd).length c, .slice a' (es : List Ed).length c'] ∧ Lyt w a a' c c' ns.length es.length ns es := by
  obtain ⟨a, c, a', c', ns, es, hcs, h1, h2, h3⟩ := layout_of_trod h
  refine ⟨a, c, a', c', ns, es, hcs, rfl, rfl, h1, h2, ?_, h3⟩
  subst hcs
  obtain ⟨xs, n, _, _, hl, hn, hf⟩ := DataW.trod_struct Try.underlying25 h
  have e23 : Try.prog.cellsOf 23 = 1 := by kernel_rfl
  have f1 : DataW.trod enc Try.prog w base spare held n 23 (([Value.slice a ns.length c, Value.slice a' es.length c'].drop 1).take (Try.prog.cellsOf 23)) = xs[1]? := hf 1 _ rfl
  rw [e23] at f1
  match xs, hn with
  | [y0, y1], _ =>
    rcases DataW.trod_slice Try.underlying23 f1 with ⟨h1, _⟩ | ⟨x0, len', cap', _, _, _, _, h1, _, _, hl, _⟩
    · simp at h1
      rw [h1.2.1, h1.2.2]; exact Nat.le_refl _
    · simp at h1
      rw [h1.2.1, h1.2.2]; exact hl
end

section
variable {w0 w : World} {l : List It} {B g n m : Nat} {H : Nat × Nat} {es : List (Int × Int)} {S : Mr}
theorem whereS (h : Its w0 (.mir B g H n m es S :: l) w) (t : Int) : Calls Try.prog 19 #[.pointer (some ⟨g, 0, none⟩), .int .i64 t] w fun e w' => e = .returned (.int .i64 (S.whr t)) ∧ Its w0 (.mir B g H n m es S :: l) w' :=
  (where_m h.one t).mono (by rintro e w' ⟨he, rfl⟩; exact ⟨he, h⟩)
theorem atS (h : Its w0 (.mir B g H n m es S :: l) w) (t : Int) : Calls Try.prog 20 #[.pointer (some ⟨g, 0, none⟩), .int .i64 t] w fun e w' => e = .returned (.int .i64 (S.att t)) ∧ Its w0 (.mir B g H n m es S :: l) w' :=
  (at_m h.one t).mono (by rintro e w' ⟨he, rfl⟩; exact ⟨he, h⟩)
theorem takenS (h : Its w0 (.mir B g H n m es S :: l) w) (t : Int) : Calls Try.prog 22 #[.pointer (some ⟨g, 0, none⟩), .int .i64 t] w fun e w' => e = .returned (.bool (S.tak t)) ∧ Its w0 (.mir B g H n m es S :: l) w' :=
  (taken_m h.one t).mono (by rintro e w' ⟨he, hb⟩; exact ⟨he, h.keep hb⟩)
theorem toldS (h : Its w0 (.mir B g H n m es S :: l) w) (d : Int) : Calls Try.prog 21 #[.pointer (some ⟨g, 0, none⟩), .int .i64 d] w fun e w' => e = .returned (.tuple #[.int .i64 (S.told d).1, .int .i64 (S.told d).2.1, .bool (S.told d).2.2]) ∧ Its w0 (.mir B g H n m es S :: l) w' :=
  (told_m h.one d).mono (by rintro e w' ⟨he, q, rfl⟩; exact ⟨he, h.drew q⟩)
theorem lastS (h : Its w0 (.mir B g H n m es S :: l) w) (d : Int) : Calls Try.prog 28 #[.pointer (some ⟨g, 0, none⟩), .int .i64 d] w fun e w' => e = .returned (.tuple #[.int .i64 (S.last d).1, .bool (S.last d).2]) ∧ Its w0 (.mir B g H n m es S :: l) w' :=
  (last_m h.one d).mono (by rintro e w' ⟨he, q, rfl⟩; exact ⟨he, h.drew q⟩)
theorem Its.keepL {a a' : Option Addr} {c c' n m : Nat} {ns : List Nd} {es : List Ed} {W : World} (h : Its w l W) (L : Lyt w a a' c c' n m ns es) : Lyt W a a' c c' n m ns es := L.keep h.bel
/-- a layout's box -/
theorem Its.lbox {w0 w : World} {x : It} {l : List It} {k : Nat} {vN vE : Value} (h : Its w0 (x :: .box k #[vN, vE] 25 :: l) w) : w.cell? ⟨k, 0, none⟩ = some vN ∧ w.cell? ⟨k, 1, none⟩ = some vE := by
  have := h.two
  exact ⟨(cells_at this 0).1, (cells_at this 1).1⟩
theorem Its.lbox1 {w0 w : World} {l : List It} {k : Nat} {vN vE : Value} (h : Its w0 (.box k #[vN, vE] 25 :: l) w) : w.cell? ⟨k, 0, none⟩ = some vN ∧ w.cell? ⟨k, 1, none⟩ = some vE := by
  have := h.one
  exact ⟨(cells_at this 0).1, (cells_at this 1).1⟩
end
/-- a box more -/
theorem Its.box1 {w0 w : World} {l : List It} (h : Its w0 l w) (C : Array Value) (t : TypeId) : Its w0 (.box w.heap.size C t :: l) (w.alloc (.cells C t)) := h.new (x := .box w.heap.size C t) (heap_new _ _) (fun k hk => Nat.le_of_eq hk.symm) (below_new _ _)
end Go.Proofs.Ytlnnpdghcilioaa
