/- Slices of bytes with their capacity, and what is cut of them. -/
import Derived.Test.YtgdoagmnhmfjkaaNnu
namespace Go.Proofs.Ytgdoagmnhmfjkaa
open Go.ChangeShapes Go.WideShapes Go.ChangeAt Go.RowKit
set_option linter.unusedVariables false

/-- a slice of bytes that reads so, no longer than its capacity -/
def Sl (w : World) (a : Option Addr) (n c : Nat) (l : List Int) : Prop := byE.Rd w (.slice a n c) l ∧ l.length = n ∧ n ≤ c
theorem Sl.rd {w : World} {a : Option Addr} {n c : Nat} {l : List Int} (h : Sl w a n c l) : byE.Rd w (.slice a n c) l := h.1
theorem Sl.len {w : World} {a : Option Addr} {n c : Nat} {l : List Int} (h : Sl w a n c l) : l.length = n := h.2.1
theorem Sl.cap {w : World} {a : Option Addr} {n c : Nat} {l : List Int} (h : Sl w a n c l) : n ≤ c := h.2.2
theorem Sl.keep {w w' : World} {a : Option Addr} {n c : Nat} {l : List Int} (h : Sl w a n c l) (hb : Below w.heap.size w w') : Sl w' a n c l := ⟨h.1.keep hb, h.2⟩
theorem Sl.own {w : World} {B : Nat} {v : Value} {l : List Int} (h : byE.Own w B v l) : ∃ a c, v = .slice a l.length c ∧ Sl w a l.length c l := by
  obtain ⟨a, c, e⟩ := h.rd.form
  refine ⟨a, c, e, by rw [← e]; exact h.rd, rfl, ?_⟩
  cases l with
  | nil => simp
  | cons z t =>
    obtain ⟨g, c', e', h1, _⟩ := El.Own.some h (by simp)
    rw [e] at e'
    simp only [Value.slice.injEq] at e'
    omega
theorem Sl.nil (w : World) : Sl w none 0 0 [] := ⟨.inl ⟨rfl, rfl⟩, rfl, Nat.le_refl _⟩
/-- the first ones -/
theorem Sl.take {w : World} {a : Option Addr} {n c : Nat} {l : List Int} (h : Sl w a n c l) (m : Nat) (hm : m ≤ n) : Sl w a m c (l.take m) :=
  ⟨h.1.take m (by rw [h.len]; exact hm), by rw [List.length_take, h.len]; omega, Nat.le_trans hm h.cap⟩
/-- the rest -/
theorem Sl.drop {w : World} {b off n c : Nat} {l : List Int} (h : Sl w (some ⟨b, off, none⟩) n c l) (m : Nat) (hm : m ≤ n) : Sl w (if c = m then some ⟨b, off, none⟩ else some ⟨b, off + m, none⟩) (n - m) (c - m) (l.drop m) := by
  have hc := h.cap
  refine ⟨?_, by rw [List.length_drop, h.len], by omega⟩
  by_cases e : c = m
  · rw [if_pos e]
    have : l.drop m = [] := List.drop_eq_nil_of_le (by rw [h.len]; omega)
    rw [this]
    exact .inr ⟨⟨b, off, none⟩, c - m, by rw [show n - m = 0 by omega]; rfl, by simp⟩
  · rw [if_neg e]
    have := El.Rd.drop (E := byE) (cap' := c - m) h.1 m (n - m) (by rw [h.len]) (by rw [h.len]; exact hm)
    have e2 : off + m * byE.k = off + m := by show off + m * 1 = off + m; omega
    rw [e2] at this
    exact this
/-- the first bytes cut off -/
theorem Sl.some {w : World} {a : Option Addr} {n c : Nat} {l : List Int} (h : Sl w a n c l) (hn : 0 < n) : ∃ b off, a = some ⟨b, off, none⟩ ∧ ∀ i p, l[i]? = some p → w.cell? ⟨b, off + i, none⟩ = some (.int .u8 p) :=
  by_some h.1 (by intro e; have := h.len; rw [e] at this; simp at this; omega)
/-- a box more -/
theorem Its.box1 {w0 w : World} {l : List It} (h : Its w0 l w) (C : Array Value) (t : TypeId) : Its w0 (.box w.heap.size C t :: l) (w.alloc (.cells C t)) := h.new (x := .box w.heap.size C t) (heap_new _ _) (fun k hk => Nat.le_of_eq hk.symm) (below_new _ _)
/-- a box's cell is written -/
theorem Its.put {w0 w : World} {l : List It} {g : Nat} {C : Array Value} {t : TypeId} (h : Its w0 (.box g C t :: l) w) (i : Nat) (u : Value) : Its w0 (.box g (C.setIfInBounds i u) t :: l) (w.setCell ⟨g, i, none⟩ u) :=
  h.chg (x' := .box g (C.setIfInBounds i u) t) (heap_put h.one u) (fun k hk => .inl hk) (Frm.set w g i u)
/-- a new row -/
theorem Its.row1 {α : Type} {E : El Try.prog α} {w0 w w' : World} {l : List It} {v : Value} {xs : List α} (h : Its w0 l w) (ho : E.Own w' w.heap.size v xs) (hb : Below w.heap.size w w') : Its w0 (.row E w0.heap.size v xs :: l) w' := h.fresh ho hb
end Go.Proofs.Ytgdoagmnhmfjkaa
