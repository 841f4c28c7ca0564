/- A table as its object lies in memory: what stays, what a store makes of it. -/
import Derived.Test.YtbibegendejnlaaCba
import Derived.Test.YtbibegendejnlaaCmt
namespace Go.Proofs.Ytbibegendejnlaa
open Go.RowKit
set_option linter.unusedVariables false

/-- a claim as it lies -/
structure Cv where
  tote : Int
  a : Option Addr
  l : Nat
  c : Nat
abbrev Cv.v (x : Cv) : Value := .slice x.a x.l x.c
def clE : El Try.prog Cv where
  t := 61
  e := 67
  k := 2
  by' := 32
  z := .agg #[.int .i64 0, .slice none 0 0]
  enc x := [.int .i64 x.tote, .slice x.a x.l x.c]
  ht := Try.underlying61
  info := by kernel_rfl
  zc := rfl
  kpos := by omega
  bsm := by omega
  len _ := rfl
  one x v hv := by simp at hv; rcases hv with rfl | rfl <;> rfl

/-- the claims that wait, as they lie: their nodes' blocks are neither gh nor such as b says -/
structure Qs (w : World) (B gh : Nat) (b : Nat → Prop) (vw : Value) (cs : List Cv) (q : List Cl) : Prop where
  row : clE.Own w B vw cs
  len : cs.length = q.length
  el : ∀ (i : Nat) (x : Cv) (p : Cl), cs[i]? = some x → q[i]? = some p → x.tote = p.tote ∧ intE.Own w B x.v p.nodes ∧ x.v.ownBlock ≠ some gh ∧ ∀ k, x.v.ownBlock = some k → ¬ b k

structure Tab (w : World) (B g gh : Nat) (b : Nat → Prop) (vw : Value) (cs : List Cv) (T : Tb) : Prop where
  base : B ≤ g
  box : w.heap[g]? = some (.cells #[.slice (some ⟨gh, 0, none⟩) T.hold.length T.hold.length, vw] 63)
  hold : intE.Own w B (.slice (some ⟨gh, 0, none⟩) T.hold.length T.hold.length) T.hold
  qs : Qs w B gh b vw cs T.q
def Tbl (w : World) (B g gh : Nat) (b : Nat → Prop) (T : Tb) : Prop := ∃ vw cs, Tab w B g gh b vw cs T

/-- but for the table's own blocks all is as it was -/
structure Fr (B g gh : Nat) (w w' : World) : Prop where
  os : w'.os = w.os
  tape : w'.tape = w.tape
  output : w'.output = w.output
  size : w.heap.size ≤ w'.heap.size
  block : ∀ k, k < w.heap.size → k ≠ g → k ≠ gh → (k < B ∨ ∀ cur, w.heap[k]? ≠ some (.cells cur 67)) → w'.heap[k]? = w.heap[k]?

theorem Fr.refl (B g gh : Nat) (w : World) : Fr B g gh w w := ⟨rfl, rfl, rfl, Nat.le_refl _, fun _ _ _ _ _ => rfl⟩
theorem Fr.of_below {B g gh : Nat} {w w' : World} (hb : Below w.heap.size w w') : Fr B g gh w w' := ⟨hb.os, hb.tape, hb.output, hb.size, fun k hk _ _ _ => hb.block k hk⟩
theorem Fr.trans {B g gh : Nat} {a b c : World} (x : Fr B g gh a b) (y : Fr B g gh b c) : Fr B g gh a c :=
  ⟨y.os.trans x.os, y.tape.trans x.tape, y.output.trans x.output, Nat.le_trans x.size y.size, fun k hk h1 h2 h3 => by
    have e := x.block k hk h1 h2 h3
    rw [y.block k (Nat.lt_of_lt_of_le hk x.size) h1 h2 (by rcases h3 with h3 | h3; exact .inl h3; exact .inr (by rw [e]; exact h3)), e]⟩
theorem Fr.below {B0 B g gh : Nat} {a w w' : World} (x : Fr B g gh w w') (hb : Below B0 a w) (hB : B0 ≤ w.heap.size) (h1 : B0 ≤ g) (h2 : B0 ≤ gh) (h3 : B0 ≤ B) : Below B0 a w' :=
  ⟨x.os.trans hb.os, x.tape.trans hb.tape, x.output.trans hb.output, Nat.le_trans hb.size x.size, fun k hk => (x.block k (by omega) (by omega) (by omega) (.inl (by omega))).trans (hb.block k hk)⟩
theorem Fr.setG {B g gh : Nat} (w : World) (i : Nat) (u : Value) : Fr B g gh w (w.setCell ⟨g, i, none⟩ u) :=
  ⟨rfl, rfl, rfl, by simp [World.setCell], fun k _ h1 _ _ => Below.heap_setCell _ _ _ _ h1⟩
theorem Fr.setH {B g gh : Nat} (w : World) (i : Nat) (u : Value) : Fr B g gh w (w.setCell ⟨gh, i, none⟩ u) :=
  ⟨rfl, rfl, rfl, by simp [World.setCell], fun k _ _ h1 _ => Below.heap_setCell _ _ _ _ h1⟩
/-- a row of claims grows or shrinks -/
theorem Fr.grown {B g gh : Nat} {w w' : World} {vw : Value} {cs : List Cv} (ho : clE.Own w B vw cs) (hg : w.grownBy w' vw.ownBlock) : Fr B g gh w w' :=
  ⟨hg.os, hg.tape, hg.output, hg.size, fun k hk _ _ h3 => hg.block k hk (fun e => by
    obtain ⟨cur, hc, hB⟩ := own_cells ho k e.symm
    rcases h3 with h3 | h3
    · omega
    · exact h3 cur hc)⟩
/-- a row that isn't the table's outlives what it does -/
theorem Fr.own {α : Type} {E : El Try.prog α} {B g gh : Nat} {w w' : World} (x : Fr B g gh w w') (h67 : E.e ≠ 67) {B' : Nat} {v : Value} {xs : List α} (ho : E.Own w B' v xs) (hg : v.ownBlock ≠ some g) (hgh : v.ownBlock ≠ some gh) : E.Own w' B' v xs :=
  own_stay ho fun k hk hlt => x.block k hlt (fun e => hg (by rw [hk, e])) (fun e => hgh (by rw [hk, e])) (.inr fun cur hc => by
    obtain ⟨cur', hc'⟩ := own_type ho k hk
    rw [hc] at hc'
    simp only [Option.some.injEq, Obj.cells.injEq] at hc'
    exact h67 hc'.2.1.symm)

theorem Qs.stay {w w' : World} {B gh : Nat} {b : Nat → Prop} {vw : Value} {cs : List Cv} {q : List Cl} (h : Qs w B gh b vw cs q) (h1 : ∀ k cur, vw.ownBlock = some k → w.heap[k]? = some (.cells cur 67) → w'.heap[k]? = w.heap[k]?)
    (h2 : ∀ k cur, B ≤ k → k ≠ gh → ¬ b k → w.heap[k]? = some (.cells cur 3) → w'.heap[k]? = w.heap[k]?) : Qs w' B gh b vw cs q :=
  ⟨own_chg h.row h1, h.len, fun i x p hx hp => by
    obtain ⟨e1, e2, e3, e4⟩ := h.el i x p hx hp
    exact ⟨e1, own_chg e2 fun k cur hk hc => h2 k cur (e2.ge k hk) (fun e => e3 (by rw [← e]; exact hk)) (e4 k hk) hc, e3, e4⟩⟩
theorem Qs.keep {w w' : World} {B gh : Nat} {b : Nat → Prop} {vw : Value} {cs : List Cv} {q : List Cl} (h : Qs w B gh b vw cs q) (hb : Below w.heap.size w w') : Qs w' B gh b vw cs q :=
  h.stay (fun k cur _ hc => hb.block k (heap_lt hc)) (fun k cur _ _ _ hc => hb.block k (heap_lt hc))

theorem Tab.stay {w w' : World} {B g gh : Nat} {b : Nat → Prop} {vw : Value} {cs : List Cv} {T : Tb} (h : Tab w B g gh b vw cs T) (hs : ∀ k, k < w.heap.size → B ≤ k → (k = g ∨ k = gh ∨ vw.ownBlock = some k ∨ ¬ b k) → w'.heap[k]? = w.heap[k]?) : Tab w' B g gh b vw cs T := by
  refine ⟨h.base, by rw [hs g (heap_lt h.box) h.base (.inl rfl)]; exact h.box, own_chg h.hold fun k cur hk hc => ?_, h.qs.stay (fun k cur hk hc => hs k (heap_lt hc) (h.qs.row.ge k hk) (.inr (.inr (.inl hk)))) (fun k cur h0 _ h2 hc => hs k (heap_lt hc) h0 (.inr (.inr (.inr h2))))⟩
  have : k = gh := by simpa [Value.ownBlock] using hk.symm
  exact hs k (heap_lt hc) (h.hold.ge k hk) (.inr (.inl this))
theorem Tab.keep {w w' : World} {B g gh : Nat} {b : Nat → Prop} {vw : Value} {cs : List Cv} {T : Tb} (h : Tab w B g gh b vw cs T) (hb : Below w.heap.size w w') : Tab w' B g gh b vw cs T :=
  ⟨h.base, by rw [hb.block g (heap_lt h.box)]; exact h.box, h.hold.keep hb, h.qs.keep hb⟩
theorem Tbl.keep {w w' : World} {B g gh : Nat} {b : Nat → Prop} {T : Tb} (h : Tbl w B g gh b T) (hb : Below w.heap.size w w') : Tbl w' B g gh b T := by
  obtain ⟨vw, cs, h⟩ := h
  exact ⟨vw, cs, h.keep hb⟩
/-- other blocks are kept apart: such as aren't there yet -/
theorem Tbl.apart {w : World} {B g gh : Nat} {b b' : Nat → Prop} {T : Tb} (h : Tbl w B g gh b T) (hb : ∀ k, b' k → b k ∨ k = gh ∨ w.heap.size ≤ k) : Tbl w B g gh b' T := by
  obtain ⟨vw, cs, h⟩ := h
  refine ⟨vw, cs, h.base, h.box, h.hold, h.qs.row, h.qs.len, fun i x p hx hp => ?_⟩
  obtain ⟨e1, e2, e3, e4⟩ := h.qs.el i x p hx hp
  refine ⟨e1, e2, e3, fun k hk hbk => ?_⟩
  rcases hb k hbk with h | rfl | h
  · exact e4 k hk h
  · exact e3 hk
  · have := e2.lt _ hk; omega
/-- a row is written, or grows, in a block that is kept apart -/
theorem Tbl.grown {w w' : World} {B g gh : Nat} {b : Nat → Prop} {T : Tb} {row : Option Nat} (h : Tbl w B g gh b T) (hg : w.grownBy w' row) (hr : ∀ k, row = some k → k ≠ g ∧ k ≠ gh ∧ b k ∧ ∀ cur, w.heap[k]? ≠ some (.cells cur 67)) : Tbl w' B g gh b T := by
  obtain ⟨vw, cs, h⟩ := h
  refine ⟨vw, cs, h.stay (fun k hk _ h3 => hg.block k hk (fun e => ?_))⟩
  obtain ⟨h1, h2, h4, h5⟩ := hr k e.symm
  rcases h3 with h3 | h3 | h3 | h3
  · exact h1 h3
  · exact h2 h3
  · obtain ⟨cur, hc'⟩ := own_type h.qs.row k h3
    exact h5 cur hc'
  · exact h3 h4

theorem Tab.cells {w : World} {B g gh : Nat} {b : Nat → Prop} {vw : Value} {cs : List Cv} {T : Tb} (h : Tab w B g gh b vw cs T) : w.cell? ⟨g, 0, none⟩ = some (.slice (some ⟨gh, 0, none⟩) T.hold.length T.hold.length) ∧ w.cell? ⟨g, 1, none⟩ = some vw ∧ ∀ i, w.frozen? ⟨g, i, none⟩ = false :=
  ⟨(cells_at h.box 0).1, (cells_at h.box 1).1, fun i => (cells_at h.box i).2⟩
theorem Tab.at {w : World} {B g gh : Nat} {b : Nat → Prop} {vw : Value} {cs : List Cv} {T : Tb} (h : Tab w B g gh b vw cs T) (n : Int) (hn : 0 ≤ n ∧ n < (T.hold.length : Int)) : w.cell? ⟨gh, n.toNat, none⟩ = some (.int .i64 (hat T.hold n)) ∧ w.frozen? ⟨gh, n.toNat, none⟩ = false := by
  have hlt : n.toNat < T.hold.length := by omega
  have := h.hold.at1 (Value.int .i64) (fun _ => rfl) rfl n.toNat _ (List.getElem?_eq_getElem hlt)
  have e : hat T.hold n = T.hold[n.toNat] := by unfold hat; rw [if_pos hn.1, List.getElem?_eq_getElem hlt]; rfl
  rw [e]
  exact this
theorem Tab.form {w : World} {B g gh : Nat} {b : Nat → Prop} {vw : Value} {cs : List Cv} {T : Tb} (h : Tab w B g gh b vw cs T) : ∃ a c, vw = .slice a T.q.length c := by
  obtain ⟨a, c, e⟩ := h.qs.row.rd.form
  exact ⟨a, c, by rw [e, h.qs.len]⟩
theorem Qs.full {w : World} {B gh : Nat} {b : Nat → Prop} {vw : Value} {cs : List Cv} {q : List Cl} (h : Qs w B gh b vw cs q) (hq : 0 < q.length) : ∃ k c, vw = .slice (some ⟨k, 0, none⟩) q.length c ∧ q.length ≤ c ∧ c ≤ maxLen := by
  obtain ⟨k, c, e, h1, h2⟩ := h.row.some (fun e => by rw [← h.len, e] at hq; simp at hq)
  exact ⟨k, c, by rw [e, h.len], by rw [← h.len]; exact h1, h2⟩
/-- a claim's cells -/
theorem Qs.at {w : World} {B gh n c : Nat} {b : Nat → Prop} {a : Option Addr} {cs : List Cv} {q : List Cl} (h : Qs w B gh b (.slice a n c) cs q) (i : Nat) (p : Cl) (hp : q[i]? = some p) :
    ∃ k a' c', a = some ⟨k, 0, none⟩ ∧ w.cell? ⟨k, i * 2, none⟩ = some (.int .i64 p.tote) ∧ w.cell? ⟨k, i * 2 + 1, none⟩ = some (.slice a' p.nodes.length c') ∧ intE.Own w B (.slice a' p.nodes.length c') p.nodes ∧ (Value.slice a' p.nodes.length c').ownBlock ≠ some gh := by
  have hi : i < q.length := idx_lt hp
  obtain ⟨x, hx⟩ : ∃ x, cs[i]? = some x := ⟨_, List.getElem?_eq_getElem (by rw [h.len]; exact hi)⟩
  obtain ⟨k, c1, hf, _⟩ := h.full (by omega)
  simp only [Value.slice.injEq] at hf
  obtain ⟨rfl, rfl, rfl⟩ := hf
  obtain ⟨e1, e2, e3, e4⟩ := h.el i x p hx hp
  obtain ⟨a', c', e5⟩ := e2.rd.form
  simp only [Value.slice.injEq] at e5
  obtain ⟨h0, _⟩ := h.row.cell (i * 2) (by show _ < _ * 2; rw [h.len]; omega)
  obtain ⟨h1, _⟩ := h.row.cell (i * 2 + 1) (by show _ < _ * 2; rw [h.len]; omega)
  have f0 := clE.fl_at cs i 0 x hx (by decide)
  have f1 := clE.fl_at cs i 1 x hx (by decide)
  have e6 : x.l = p.nodes.length := e5.2.1
  refine ⟨k, x.a, x.c, rfl, ?_, ?_, ?_, ?_⟩
  · rw [h0, ← e1]; exact f0
  · rw [h1, ← e6]; exact f1
  · rw [← e6]; exact e2
  · rw [← e6]; exact e3

/-- holders are written -/
theorem Tab.put {w : World} {B g gh : Nat} {b : Nat → Prop} {vw : Value} {cs : List Cv} {T : Tb} (h : Tab w B g gh b vw cs T) (n t : Int) (hn : 0 ≤ n) : Tab (w.setCell ⟨gh, n.toNat, none⟩ (.int .i64 t)) B g gh b vw cs ⟨T.hold.set n.toNat t, T.q⟩ := by
  have hne : g ≠ gh := fun e => zown_ne h.hold h.box (by decide) (by rw [e]; rfl)
  refine ⟨h.base, ?_, ?_, h.qs.stay (fun k cur _ hc => Below.heap_setCell _ _ _ _ fun e => ?_) (fun k cur _ hk _ hc => Below.heap_setCell _ _ _ _ hk)⟩
  · rw [Below.heap_setCell _ _ _ _ hne]
    simp only [List.length_set]
    exact h.box
  · simp only [List.length_set]
    exact h.hold.set (Value.int .i64) (fun _ => rfl) rfl n.toNat t
  · obtain ⟨cur', hc'⟩ := own_type h.hold gh rfl
    rw [show k = gh from e, hc'] at hc
    simp only [Option.some.injEq, Obj.cells.injEq] at hc
    exact absurd hc.2.1 (show ¬ (3 : TypeId) = 67 by decide)
/-- its claims are others -/
theorem Tab.putQ {w w' : World} {B g gh : Nat} {b : Nat → Prop} {vw vw' : Value} {cs cs' : List Cv} {T : Tb} {q' : List Cl} (h : Tab w B g gh b vw cs T) (hx : Fr B g gh w w') (hg : w'.heap[g]? = w.heap[g]?) (hgh : w'.heap[gh]? = w.heap[gh]?) (hq : Qs w' B gh b vw' cs' q') :
    Tab (w'.setCell ⟨g, 1, none⟩ vw') B g gh b vw' cs' ⟨T.hold, q'⟩ ∧ Fr B g gh w (w'.setCell ⟨g, 1, none⟩ vw') ∧ w'.cell? ⟨g, 1, none⟩ = some vw ∧ w'.frozen? ⟨g, 1, none⟩ = false := by
  have hbox : w'.heap[g]? = some (.cells #[.slice (some ⟨gh, 0, none⟩) T.hold.length T.hold.length, vw] 63) := by rw [hg]; exact h.box
  have hne : gh ≠ g := fun e => zown_ne h.hold h.box (by decide) (by rw [← e]; rfl)
  have hnb : ∀ (k : Nat) (cur : Array Value) (t : TypeId), t ≠ 63 → w'.heap[k]? = some (.cells cur t) → k ≠ g := fun k cur t ht hc e => by
    rw [e, hbox] at hc
    simp only [Option.some.injEq, Obj.cells.injEq] at hc
    exact ht hc.2.1.symm
  refine ⟨⟨h.base, heap_put hbox vw', ?_, hq.stay (fun k cur _ hc => Below.heap_setCell _ _ _ _ (hnb k cur 67 (by decide) hc)) (fun k cur _ _ _ hc => Below.heap_setCell _ _ _ _ (hnb k cur 3 (by decide) hc))⟩, hx.trans (Fr.setG w' 1 vw'), (cells_at hbox 1).1, (cells_at hbox 1).2⟩
  refine own_stay h.hold fun k hk hlt => ?_
  have e : k = gh := by simpa [Value.ownBlock] using hk.symm
  rw [Below.heap_setCell _ _ _ _ (by rw [e]; exact hne), e, hgh]
end Go.Proofs.Ytbibegendejnlaa
