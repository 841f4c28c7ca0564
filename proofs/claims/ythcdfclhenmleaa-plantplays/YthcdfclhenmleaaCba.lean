/- What every text of this seat uses: numbers' slices, boxes, rows that stay. -/
import Derived.Test.YthcdfclhenmleaaRowg
import Derived.Test.YthcdfclhenmleaaExm
import Derived.Deep.CutRange
import Derived.Deep.DeepCutAuto
import Derived.Deep.QuietTactic
import Derived.BigQuiet
import Derived.LoopTactic
import Derived.ChangeKeysEq
import Derived.WideShapes4
import Derived.OpenShut
import Derived.Laws.RangeAny
import Derived.OwnWalk
import Derived.Lib.AppendZeros
import Derived.Lib.SliceRun
import Derived.Deep.RegionLaw
namespace Go.Proofs.Ythcdfclhenmleaa
open Go.RowKit
set_option linter.unusedVariables false

theorem idx_lt {α : Type} {l : List α} {i : Nat} {x : α} (h : l[i]? = some x) : i < l.length := by
  rcases Nat.lt_or_ge i l.length with h' | h'
  · exact h'
  · rw [List.getElem?_eq_none h'] at h; cases h
theorem heap_lt {w : World} {g : Nat} {o : Obj} (h : w.heap[g]? = some o) : g < w.heap.size := by
  rcases Nat.lt_or_ge g w.heap.size with h' | h'
  · exact h'
  · rw [Array.getElem?_eq_none h'] at h; cases h

theorem cells_at {w : World} {g : Nat} {C : Array Value} {t : TypeId} (h : w.heap[g]? = some (.cells C t)) (i : Nat) : w.cell? ⟨g, i, none⟩ = C[i]? ∧ w.frozen? ⟨g, i, none⟩ = false := by
  unfold World.cell? World.frozen?
  simp [h]

theorem heap_put {w : World} {g i : Nat} {C : Array Value} {t : TypeId} (h : w.heap[g]? = some (.cells C t)) (u : Value) : (w.setCell ⟨g, i, none⟩ u).heap[g]? = some (.cells (C.setIfInBounds i u) t) := by
  simp [World.setCell, Array.getElem?_modify, h]

theorem heap_new (w : World) (o : Obj) : (w.alloc o).heap[w.heap.size]? = some o := by
  show (w.heap.push o)[w.heap.size]? = _
  simp

set_option linter.unusedVariables false

def intE : El Try.prog Int where
  t := 35
  e := 3
  k := 1
  by' := 8
  z := .int .i64 0
  enc x := [.int .i64 x]
  ht := Try.underlying35
  info := by kernel_rfl
  zc := rfl
  kpos := by omega
  bsm := by omega
  len _ := rfl
  one x v hv := by simp at hv; subst hv; rfl

theorem int_new (w : World) (x : Int) (g : Nat) (hg : g = w.heap.size) : intE.Rd (w.alloc (.cells #[.int .i64 x] 3)) (.slice (some ⟨g, 0, none⟩) 1 1) [x] :=
  (El.Own.new intE w w.heap.size (Nat.le_refl _) _ [x] rfl (by simp) _ _ _ hg rfl rfl).rd

theorem fl_map {α : Type} (E : El Try.prog α) (f : α → Value) (hE : ∀ x, E.enc x = [f x]) (xs : List α) : E.fl xs = xs.map f := by
  induction xs with
  | nil => rfl
  | cons x xs ih =>
    show E.enc x ++ E.fl xs = _
    rw [hE, ih]; rfl

theorem El.Own.set {α : Type} {E : El Try.prog α} (f : α → Value) (hE : ∀ x, E.enc x = [f x]) (hk : E.k = 1) {w : World} {B g cap n : Nat} {l : List α} (h : E.Own w B (.slice (some ⟨g, 0, none⟩) n cap) l) (i : Nat) (z : α) :
    E.Own (w.setCell ⟨g, i, none⟩ (f z)) B (.slice (some ⟨g, 0, none⟩) n cap) (l.set i z) := by
  obtain ⟨h0, h⟩ := h
  refine ⟨by rw [E.fl_len], ?_⟩
  rcases h with ⟨h1, _⟩ | ⟨g', cap', cur, h1, hb, hg, hn, hm, hs, ht⟩
  · cases h1
  · simp only [Value.slice.injEq, Option.some.injEq, Addr.mk.injEq] at h1
    obtain ⟨⟨rfl, _⟩, rfl, rfl⟩ := h1
    refine .inr ⟨g, cap, cur.setIfInBounds i (f z), by rw [List.length_set], hb, ?_, by rw [List.length_set]; exact hn, hm, by simpa using hs, ?_⟩
    · simp only [World.setCell, Array.getElem?_modify]
      rw [hg]
      simp
    · rw [hk, fl_map E f hE] at ht
      rw [hk, fl_map E f hE, List.length_set, Array.toList_setIfInBounds, List.take_set, ht, List.map_set]

theorem El.Own.at1 {α : Type} {E : El Try.prog α} (f : α → Value) (hE : ∀ x, E.enc x = [f x]) (hk : E.k = 1) {w : World} {B g cap n : Nat} {l : List α} (h : E.Own w B (.slice (some ⟨g, 0, none⟩) n cap) l) (i : Nat) (z : α) (hi : l[i]? = some z) :
    w.cell? ⟨g, i, none⟩ = some (f z) ∧ w.frozen? ⟨g, i, none⟩ = false := by
  have hl : i < l.length := by
    rcases Nat.lt_or_ge i l.length with h | h
    · exact h
    · rw [List.getElem?_eq_none h] at hi; cases hi
  obtain ⟨h1, h2, _⟩ := h.cell i (by rw [hk]; omega)
  refine ⟨?_, h2⟩
  rw [h1, fl_map E f hE]
  simp [hi]

theorem int_at {w : World} {a : Option Addr} {n c : Nat} {xs : List Int} (h : intE.Rd w (.slice a n c) xs) (i : Nat) (p : Int) (hp : xs[i]? = some p) : ∃ b off, a = some ⟨b, off, none⟩ ∧ w.cell? ⟨b, off + i, none⟩ = some (.int .i64 p) := by
  obtain ⟨b, off, h1, h2⟩ := h.at i p hp
  refine ⟨b, off, h1, ?_⟩
  have := h2 0 (by show 0 < 1; omega)
  simpa [intE] using this

theorem made_ints (w : World) (n : Nat) (hn : n ≤ 100000) : ∃ w', (Instr.makeSlice 35 (.int .i64 (n : Int)) (.int .i64 (n : Int))).run Try.prog w = .ok (.slice (some ⟨w.heap.size, 0, none⟩) n n) w' ∧
    intE.Own w' w.heap.size (.slice (some ⟨w.heap.size, 0, none⟩) n n) (List.replicate n 0) ∧ Below w.heap.size w w' ∧ w.heap.size < w'.heap.size := by
  obtain ⟨i, hi, he⟩ := Option.map_eq_some_iff.1 intE.info
  have e1 : i.zero = some (.int .i64 0) := congrArg Prod.fst he
  have e2 : i.size = 1 := congrArg (fun p => p.2.1) he
  have e3 : i.bytes = 8 := congrArg (fun p => p.2.2) he
  obtain ⟨w', h1, h2, h3⟩ := run_make_full (P := Try.prog) w w.heap.size 35 3 i (.int .i64 0) 1 Try.underlying35 hi e1 e2 .i64 .i64 n (by rw [e3]; omega) (by unfold maxLen; omega) (Nat.le_refl _)
  have ho : intE.Own w' w.heap.size (.slice (some ⟨w.heap.size, 0, none⟩) n n) (List.replicate n 0) := by
    unfold El.Own
    rw [fl_map intE (Value.int .i64) (fun _ => rfl), List.length_replicate, show (List.replicate n (0 : Int)).map (Value.int .i64) = (madeCells #[Value.int .i64 0] (n * 1)).toList by rw [toList_madeCells_one, Nat.mul_one, List.map_replicate]]
    exact h2
  refine ⟨w', h1, ho, (Below.refl _ _).grown h3 (Nat.le_refl _) (by simp), ?_⟩
  exact ho.lt w.heap.size rfl

theorem own_set_other {α : Type} {E : El Try.prog α} {w : World} {B g i : Nat} {v u : Value} {xs : List α} (h : E.Own w B v xs) (hne : v.ownBlock ≠ some g) : E.Own (w.setCell ⟨g, i, none⟩ u) B v xs := by
  obtain ⟨h0, h⟩ := h
  refine ⟨h0, ?_⟩
  rcases h with h | ⟨g', cap, cur, h1, h2, h3, h4⟩
  · exact .inl h
  · refine .inr ⟨g', cap, cur, h1, h2, ?_, h4⟩
    rw [Below.heap_setCell _ _ _ _ (fun e => hne (by rw [h1, e]; rfl))]
    exact h3

/-- a row stays where its block stays -/
theorem own_stay {α : Type} {E : El Try.prog α} {w w' : World} {B : Nat} {v : Value} {xs : List α} (h : E.Own w B v xs) (hs : ∀ g, v.ownBlock = some g → g < w.heap.size → w'.heap[g]? = w.heap[g]?) : E.Own w' B v xs := by
  obtain ⟨h0, h⟩ := h
  refine ⟨h0, ?_⟩
  rcases h with h | ⟨g, cap, cur, h1, h2, h3, h4⟩
  · exact .inl h
  · refine .inr ⟨g, cap, cur, h1, h2, ?_, h4⟩
    rw [hs g (by rw [h1]; rfl) (heap_lt h3)]; exact h3

/-- a row's block is a block of cells -/
theorem own_cells {α : Type} {E : El Try.prog α} {w : World} {B : Nat} {v : Value} {xs : List α} (h : E.Own w B v xs) (g : Nat) (hg : v.ownBlock = some g) : ∃ cur, w.heap[g]? = some (.cells cur E.e) ∧ B ≤ g := by
  obtain ⟨h0, h⟩ := h
  rcases h with ⟨rfl, _⟩ | ⟨g', cap, cur, rfl, h2, h3, _⟩
  · cases hg
  · simp [Value.ownBlock] at hg
    subst hg
    exact ⟨cur, h3, h2⟩

/-- a row stays where its block stays -/
theorem own_chg {α : Type} {E : El Try.prog α} {w w' : World} {B : Nat} {v : Value} {xs : List α} (h : E.Own w B v xs) (hs : ∀ g cur, v.ownBlock = some g → w.heap[g]? = some (.cells cur E.e) → w'.heap[g]? = w.heap[g]?) : E.Own w' B v xs :=
  own_stay h fun g hg _ => by
    obtain ⟨cur, hc, _⟩ := own_cells h g hg
    exact hs g cur hg hc

set_option linter.unusedVariables false

theorem own_type {α : Type} {E : El Try.prog α} {w : World} {B : Nat} {v : Value} {xs : List α} (h : E.Own w B v xs) (g : Nat) (hg : v.ownBlock = some g) : ∃ cur, w.heap[g]? = some (.cells cur E.e) := by
  rcases h.2 with ⟨rfl, _⟩ | ⟨g', cap, cur, rfl, hb, hh, _⟩
  · cases hg
  · simp [Value.ownBlock] at hg
    subst hg
    exact ⟨cur, hh⟩

/-- a box of another type is none of its blocks -/
theorem zown_ne {α : Type} {E : El Try.prog α} {w : World} {B g : Nat} {v : Value} {xs : List α} (h : E.Own w B v xs) {C : Array Value} {t : TypeId} (hg : w.heap[g]? = some (.cells C t)) (ht : t ≠ E.e) : v.ownBlock ≠ some g := fun e => by
  obtain ⟨cur, hc⟩ := own_type h g e
  rw [hg] at hc
  simp only [Option.some.injEq, Obj.cells.injEq] at hc
  exact ht hc.2.1

set_option linter.unusedVariables false

theorem El.wpB {P : Program} {α : Type} (E : El P α) {w : World} {B : Nat} (hB : B ≤ w.heap.size) {ops : Array Oper} {rest : List Oper} {o : Oper} {a : Act} {Q : Exit → Act → World → Prop} (hwant : Region.wanted o (yielded ops a.tmps) = true) (s x : Operand)
    (ho : o.op = .call { callee := .builtin .append, args := #[s, x], argTypes := #[E.t, E.t] }) (v u : Value) (hs : a.eval s = v) (hx : a.eval x = u)
    (xs ys : List α) (hown : E.Own w B v xs) (hu : E.Rd w u ys) (hn : xs.length + ys.length ≤ 1000000)
    (h : ∀ v' w', E.Own w' B v' (xs ++ ys) → w.grownBy w' v.ownBlock → (v'.ownBlock = v.ownBlock ∨ v'.ownBlock = some w.heap.size) → wpList P ops Q rest (a.put o.dst v') w') : wpList P ops Q (o :: rest) a w := by
  obtain ⟨v', w', hr, h2, h3, h4⟩ := E.run hown hB hu hn o.type
  refine wpList_step fun K hK => ?_
  rw [if_pos hwant]
  unfold Oper.wp execOp
  simp only [ho, resolve, invoke, builtin, Sem.run_bind, Sem.run_pure, Result.andThen_ok, List.map_toArray, List.map_cons, List.map_nil, hs, hx, hr]
  exact hK _ _ (h v' w' h2 h3 h4)

/-- the first ones of a slice of the call's own -/
theorem El.Own.take {P : Program} {α : Type} {E : El P α} {w : World} {B g n cap : Nat} {xs : List α} (h : E.Own w B (.slice (some ⟨g, 0, none⟩) n cap) xs) (m : Nat) (hm : m ≤ xs.length) : E.Own w B (.slice (some ⟨g, 0, none⟩) m cap) (xs.take m) := by
  have hl : (xs.take m).length = m := by rw [List.length_take]; omega
  rcases h.2 with ⟨h1, _⟩ | ⟨g', c, cur, h1, hb, hg, hn, hmx, hs, ht⟩
  · cases h1
  · simp only [Value.slice.injEq, Option.some.injEq, Addr.mk.injEq] at h1
    obtain ⟨⟨rfl, _⟩, rfl, rfl⟩ := h1
    refine ⟨E.fl_len _, .inr ⟨g, cap, cur, by rw [hl], hb, hg, by rw [hl]; omega, hmx, hs, ?_⟩⟩
    have e : E.fl xs = E.fl (xs.take m) ++ E.fl (xs.drop m) := by rw [← E.fl_app, List.take_append_drop]
    have hlen : (E.fl (xs.take m)).length = m * E.k := by rw [E.fl_len, hl]
    have hmk : m * E.k ≤ xs.length * E.k := Nat.mul_le_mul_right _ hm
    rw [hl, ← Nat.min_eq_left hmk, ← List.take_take, ht, e, ← hlen, List.take_left]

theorem El.Own.some {P : Program} {α : Type} {E : El P α} {w : World} {B : Nat} {v : Value} {xs : List α} (h : E.Own w B v xs) (hne : xs ≠ []) : ∃ g cap, v = .slice (some ⟨g, 0, none⟩) xs.length cap ∧ xs.length ≤ cap ∧ cap ≤ maxLen := by
  rcases h.2 with ⟨_, h1⟩ | ⟨g', c, cur, h1, hb, hg, hn, hmx, hs, ht⟩
  · exact absurd (List.eq_nil_of_length_eq_zero h1) hne
  · exact ⟨g', c, h1, hn, hmx⟩

set_option linter.unusedVariables false

theorem El.fl_set {P : Program} {α : Type} (E : El P α) (l : List α) (i j : Nat) (x z : α) (u : Value) (hx : l[i]? = some x) (hj : j < E.k) (he : E.enc z = (E.enc x).set j u) : E.fl (l.set i z) = (E.fl l).set (i * E.k + j) u := by
  induction l generalizing i with
  | nil => simp at hx
  | cons y t ih =>
    have e : ∀ (q : α) (r : List α), E.fl (q :: r) = E.enc q ++ E.fl r := fun _ _ => rfl
    cases i with
    | zero =>
      simp at hx
      subst hx
      rw [List.set_cons_zero, e, e, he, Nat.zero_mul, Nat.zero_add, List.set_append_left _ _ (by rw [E.len]; exact hj)]
    | succ i =>
      rw [List.set_cons_succ, e, e, ih i (by simpa using hx), List.set_append_right _ _ (by rw [E.len, Nat.succ_mul]; omega), E.len]
      congr 2
      rw [Nat.succ_mul]; omega

theorem own_setC {P : Program} {α : Type} {E : El P α} {w : World} {B g cap n : Nat} {l : List α} (h : E.Own w B (.slice (some ⟨g, 0, none⟩) n cap) l) {i j : Nat} {x z : α} {u : Value} (hx : l[i]? = some x) (hj : j < E.k) (he : E.enc z = (E.enc x).set j u) :
    E.Own (w.setCell ⟨g, i * E.k + j, none⟩ u) B (.slice (some ⟨g, 0, none⟩) n cap) (l.set i z) := by
  obtain ⟨h0, h⟩ := h
  refine ⟨by rw [E.fl_len], ?_⟩
  rcases h with ⟨h1, _⟩ | ⟨g', cap', cur, h1, hb, hg, hn, hm, hs, ht⟩
  · cases h1
  · simp only [Value.slice.injEq, Option.some.injEq, Addr.mk.injEq] at h1
    obtain ⟨⟨rfl, _⟩, rfl, rfl⟩ := h1
    refine .inr ⟨g, cap, cur.setIfInBounds (i * E.k + j) u, by rw [List.length_set], hb, ?_, by rw [List.length_set]; exact hn, hm, by simpa using hs, ?_⟩
    · simp only [World.setCell, Array.getElem?_modify]
      rw [hg]
      simp
    · rw [List.length_set, Array.toList_setIfInBounds, List.take_set, ht, E.fl_set l i j x z u hx hj he]

theorem set_same {α : Type} {l : List α} {i : Nat} {x : α} (h : l[i]? = some x) : l.set i x = l := by
  apply List.ext_getElem?
  intro j
  rw [List.getElem?_set]
  by_cases e : i = j
  · subst e; rw [if_pos rfl, if_pos (idx_lt h), h]
  · rw [if_neg e]

theorem set_at {α : Type} {l : List α} {i : Nat} {x y : α} (h : l[i]? = some x) : (l.set i y)[i]? = some y := by rw [List.getElem?_set, if_pos rfl, if_pos (idx_lt h)]

theorem set_off {α : Type} {l : List α} {i j : Nat} {y : α} (h : i ≠ j) : (l.set i y)[j]? = l[j]? := by rw [List.getElem?_set, if_neg h]
end Go.Proofs.Ythcdfclhenmleaa
