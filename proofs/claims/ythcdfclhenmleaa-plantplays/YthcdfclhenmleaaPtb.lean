/- Boxes of telegrams; done, refused. -/
import Derived.Test.YthcdfclhenmleaaPrb
namespace Go.Proofs.Ythcdfclhenmleaa
open Go.RowKit
set_option linter.unusedVariables false

theorem It.keep (x : It) {w w' : World} (h : x.P w) (hb : Below w.heap.size w w') : x.P w' := x.st h fun k hk => hb.block k (x.lt h k hk)
theorem Its.box1 {w0 w : World} {l : List It} (h : Its w0 l w) (C : Array Value) (t : TypeId) : Its w0 (.box w.heap.size C t :: l) (w.alloc (.cells C t)) := h.new (x := .box w.heap.size C t) (heap_new _ _) (fun k hk => Nat.le_of_eq hk.symm) (below_new _ _)
theorem Its.boxN {w0 w : World} {l : List It} (h : Its w0 l w) (C : Array Value) (t : TypeId) {n : Nat} (hn : w.heap.size = n) : Its w0 (.box n C t :: l) (w.alloc (.cells C t)) := by
  subst hn
  exact h.box1 C t
theorem Its.put1 {w0 w : World} {b : Nat} {C : Array Value} {t : TypeId} {l : List It} (h : Its w0 (.box b C t :: l) w) (i : Nat) (x : Value) : Its w0 (.box b (C.setIfInBounds i x) t :: l) (w.setCell ⟨b, i, none⟩ x) :=
  h.chg (x' := .box b (C.setIfInBounds i x) t) (heap_put h.one x) (fun k hk => .inl hk) (Frm.set w b i x)
theorem Its.out5 {w0 w : World} {b : Nat} {p0 p1 p2 p3 p4 : Value} {t : TypeId} {l : List It} (h : Its w0 (.box b #[p0, p1, p2, p3, p4] t :: l) w) (x0 x1 x2 x3 x4 : Value) :
    Its w0 (.box b #[x0, x1, x2, x3, x4] t :: l) (((((w.setCell ⟨b, 0, none⟩ x0).setCell ⟨b, 1, none⟩ x1).setCell ⟨b, 2, none⟩ x2).setCell ⟨b, 3, none⟩ x3).setCell ⟨b, 4, none⟩ x4) := ((((h.put1 0 x0).put1 1 x1).put1 2 x2).put1 3 x3).put1 4 x4
theorem Its.cells5 {w0 w : World} {b : Nat} {p0 p1 p2 p3 p4 : Value} {t : TypeId} {l : List It} (h : Its w0 (.box b #[p0, p1, p2, p3, p4] t :: l) w) : w.cell? ⟨b, 0, none⟩ = some p0 ∧ w.cell? ⟨b, 1, none⟩ = some p1 ∧ w.cell? ⟨b, 2, none⟩ = some p2 ∧ w.cell? ⟨b, 3, none⟩ = some p3 ∧ w.cell? ⟨b, 4, none⟩ = some p4 ∧ (∀ i, w.frozen? ⟨b, i, none⟩ = false) :=
  ⟨(cells_at h.one 0).1, (cells_at h.one 1).1, (cells_at h.one 2).1, (cells_at h.one 3).1, (cells_at h.one 4).1, fun i => (cells_at h.one i).2⟩
/-- the box of a call's telegram and that of its answer -/
theorem Its.two5 {w0 w : World} {l : List It} (h : Its w0 l w) (t : Tl) (x0 x1 x2 x3 x4 : Value) : Its w0 (.box (w.heap.size + 1) #[x0, x1, x2, x3, x4] 45 :: .box w.heap.size #[.int .u8 t.k, .int .u16 t.d, .int .u16 t.s, .int .u16 t.a, .int .u16 t.b] 45 :: l) ((w.alloc (.cells #[.int .u8 t.k, .int .u16 t.d, .int .u16 t.s, .int .u16 t.a, .int .u16 t.b] 45)).alloc (.cells #[x0, x1, x2, x3, x4] 45)) :=
  (h.boxN #[.int .u8 t.k, .int .u16 t.d, .int .u16 t.s, .int .u16 t.a, .int .u16 t.b] 45 rfl).boxN #[x0, x1, x2, x3, x4] 45 (n := w.heap.size + 1) (by show (w.heap.push _).size = _; simp)
/-- a telegram that is handed back -/
def TP (w : World) (t : Tl) (e : Ending) (w' : World) : Prop := e = .returned (tv t) ∧ Below w.heap.size w w'
set_option maxRecDepth 100000 in
set_option maxHeartbeats 1000000 in
theorem done_any (t : Tl) (w : World) : Calls Try.prog 46 #[tv t] w fun e w' => TP w (dn t) e w' := by
  have I1 := hide ((Its.nil w).two5 t (.int .u8 0) (.int .u16 0) (.int .u16 0) (.int .u16 0) (.int .u16 0))
  have IE := hide ((Its.nil w).two5 t (.int .u8 2) (.int .u16 t.d) (.int .u16 t.s) (.int .u16 t.a) (.int .u16 0))
  obtain ⟨c0, c1, c2, c3, c4, cf⟩ := Its.cells5 I1.out.tail
  obtain ⟨e0, e1, e2, e3, e4, ef⟩ := Its.cells5 I1.out
  obtain ⟨k, d, s, a, b⟩ := t
  unfold tv
  dsimp only at *
  go_enter Try.func46, Try.ntmps46
  go_wp2_with fail
  obtain ⟨y0, y1, y2, y3, y4, _⟩ := Its.cells5 IE.out
  exact bodyPost_ret (v := tv (dn ⟨k, d, s, a, b⟩)) (by simp [tv, dn, results, Try.results46, go_sem, y0, y1, y2, y3, y4]) rfl ⟨rfl, IE.out.bel⟩
set_option maxRecDepth 100000 in
set_option maxHeartbeats 1000000 in
theorem refused_any (t : Tl) (x : Int) (w : World) : Calls Try.prog 49 #[tv t, .int .u16 x] w fun e w' => TP w (rf t x) e w' := by
  have I1 := hide ((Its.nil w).two5 t (.int .u8 0) (.int .u16 0) (.int .u16 0) (.int .u16 0) (.int .u16 0))
  have IE := hide ((Its.nil w).two5 t (.int .u8 3) (.int .u16 t.d) (.int .u16 t.s) (.int .u16 t.a) (.int .u16 x))
  obtain ⟨c0, c1, c2, c3, c4, cf⟩ := Its.cells5 I1.out.tail
  obtain ⟨e0, e1, e2, e3, e4, ef⟩ := Its.cells5 I1.out
  obtain ⟨k, d, s, a, b⟩ := t
  unfold tv
  dsimp only at *
  go_enter Try.func49, Try.ntmps49
  go_wp2_with fail
  obtain ⟨y0, y1, y2, y3, y4, _⟩ := Its.cells5 IE.out
  exact bodyPost_ret (v := tv (rf ⟨k, d, s, a, b⟩ x)) (by simp [tv, rf, results, Try.results49, go_sem, y0, y1, y2, y3, y4]) rfl ⟨rfl, IE.out.bel⟩
end Go.Proofs.Ythcdfclhenmleaa
