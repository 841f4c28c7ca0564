/- Slices of whatever elements: what a slice reads as, a slice of the call's own, append, pieces of one: proved once for every type of elements. -/
import Derived.Test.YthcdfclhenmleaaBas
import Derived.WalkKit
import Derived.ProofKit
import Derived.Below
import Derived.Deep.AppendSrc
import Derived.Deep.AppendLies
import Derived.Laws.OwnMore
import Derived.Maps.AppendAt
namespace Go.Proofs.Ythcdfclhenmleaa
open Go.RowKit

/-- a type of elements: its slices' number, its own, cells and bytes an element, how an element lies -/
structure El (P : Program) (α : Type) where
  t : TypeId
  e : TypeId
  k : Nat
  by' : Nat
  z : Value
  enc : α → List Value
  ht : P.underlying t = some (.slice e)
  info : (P.info? e).map (fun i => (i.zero, i.size, i.bytes)) = some (some z, k, by')
  zc : z.cells.size = k
  kpos : 0 < k
  bsm : by' ≤ 1000
  len : ∀ x, (enc x).length = k
  one : ∀ x, ∀ v ∈ enc x, v.oneCell' = true

variable {P : Program} {α : Type}

def El.fl (E : El P α) (xs : List α) : List Value := xs.flatMap E.enc
theorem El.fl_len (E : El P α) (xs : List α) : (E.fl xs).length = xs.length * E.k := by
  induction xs with
  | nil => simp [El.fl]
  | cons x xs ih => unfold El.fl at ih ⊢; rw [List.flatMap_cons, List.length_append, ih, E.len, List.length_cons, Nat.succ_mul, Nat.add_comm]
theorem El.fl_app (E : El P α) (xs ys : List α) : E.fl (xs ++ ys) = E.fl xs ++ E.fl ys := by simp [El.fl]
theorem El.fl_one (E : El P α) (x : α) : E.fl [x] = E.enc x := by simp [El.fl]
theorem El.fl_at (E : El P α) (xs : List α) (i j : Nat) (x : α) (h : xs[i]? = some x) (hj : j < E.k) : (E.fl xs)[i * E.k + j]? = (E.enc x)[j]? := by
  induction xs generalizing i with
  | nil => simp at h
  | cons y xs ih =>
    have e : E.fl (y :: xs) = E.enc y ++ E.fl xs := rfl
    rw [e]
    cases i with
    | zero =>
      simp at h
      subst h
      rw [Nat.zero_mul, Nat.zero_add, List.getElem?_append_left (by rw [E.len]; exact hj)]
    | succ i =>
      have hl : (E.enc y).length ≤ (i + 1) * E.k + j := by rw [E.len, Nat.succ_mul]; omega
      rw [List.getElem?_append_right hl, E.len]
      have : (i + 1) * E.k + j - E.k = i * E.k + j := by rw [Nat.succ_mul]; omega
      rw [this]
      exact ih i (by simpa using h)

/-- a slice of the call's own, in blocks from B on -/
def El.Own (E : El P α) (w : World) (B : Nat) (v : Value) (xs : List α) : Prop := w.ownsRow B E.e E.k v xs.length (E.fl xs)
/-- a slice that reads so -/
def El.Rd (E : El P α) (w : World) (v : Value) (xs : List α) : Prop :=
  (v = .slice none 0 0 ∧ xs = []) ∨ ∃ x cap, v = .slice (some x) xs.length cap ∧ ∀ n, n < xs.length * E.k → w.cell? (x.add n) = (E.fl xs)[n]?

theorem addr_plain (b off j : Nat) : (⟨b, off, none⟩ : Addr).add j = ⟨b, off + j, none⟩ := by unfold Addr.add; split <;> simp_all
theorem cell_lt {w : World} {x : Addr} {u : Value} (h : w.cell? x = some u) : x.block < w.heap.size := by
  rcases Nat.lt_or_ge x.block w.heap.size with h' | h'
  · exact h'
  · simp [World.cell?, Array.getElem?_eq_none h'] at h

theorem El.Own.nil (E : El P α) (w : World) (B : Nat) : E.Own w B (.slice none 0 0) [] := ⟨by simp [El.fl], .inl ⟨rfl, rfl⟩⟩
theorem El.Own.mono {E : El P α} {w : World} {B B' : Nat} {v : Value} {xs : List α} (h : E.Own w B v xs) (hB : B' ≤ B) : E.Own w B' v xs := by
  obtain ⟨h0, h⟩ := h
  refine ⟨h0, ?_⟩
  rcases h with h | ⟨g, cap, cur, h1, h2, h3⟩
  · exact .inl h
  · exact .inr ⟨g, cap, cur, h1, Nat.le_trans hB h2, h3⟩
theorem El.Own.keep {E : El P α} {w w' : World} {B : Nat} {v : Value} {xs : List α} (h : E.Own w B v xs) (hb : Below w.heap.size w w') : E.Own w' B v xs := by
  obtain ⟨h0, h⟩ := h
  refine ⟨h0, ?_⟩
  rcases h with h | ⟨g, cap, cur, h1, h2, h3, h4⟩
  · exact .inl h
  · refine .inr ⟨g, cap, cur, h1, h2, ?_, h4⟩
    have : g < w.heap.size := by
      rcases Nat.lt_or_ge g w.heap.size with h | h
      · exact h
      · rw [Array.getElem?_eq_none h] at h3; cases h3
    rw [hb.block g this]; exact h3
theorem El.Own.lt {E : El P α} {w : World} {B : Nat} {v : Value} {xs : List α} (h : E.Own w B v xs) (g : Nat) (hg : v.ownBlock = some g) : g < w.heap.size := by
  rcases h.2 with ⟨rfl, _⟩ | ⟨g', cap, cur, rfl, hb, hh, _⟩
  · cases hg
  · simp [Value.ownBlock] at hg
    subst hg
    rcases Nat.lt_or_ge g' w.heap.size with h' | h'
    · exact h'
    · rw [Array.getElem?_eq_none h'] at hh; cases hh
theorem El.Own.ge {E : El P α} {w : World} {B : Nat} {v : Value} {xs : List α} (h : E.Own w B v xs) (g : Nat) (hg : v.ownBlock = some g) : B ≤ g := by
  rcases h.2 with ⟨rfl, _⟩ | ⟨g', cap, cur, rfl, hb, _⟩
  · cases hg
  · simp [Value.ownBlock] at hg; omega
theorem El.Own.rd {E : El P α} {w : World} {B : Nat} {v : Value} {xs : List α} (h : E.Own w B v xs) : E.Rd w v xs := by
  obtain ⟨_, h⟩ := h
  rcases h with ⟨h1, h2⟩ | ⟨g, cap, cur, h1, _, hg, hn, hm, hs, ht⟩
  · exact .inl ⟨h1, List.eq_nil_of_length_eq_zero h2⟩
  · refine .inr ⟨⟨g, 0, none⟩, cap, h1, fun n hn => ?_⟩
    rw [addr_plain, Nat.zero_add]
    unfold World.cell?
    simp only [hg]
    show cur[n]? = _
    rw [← ht, List.getElem?_take_of_lt hn, Array.getElem?_toList]
theorem El.Rd.form {E : El P α} {w : World} {v : Value} {xs : List α} (h : E.Rd w v xs) : ∃ a cap, v = .slice a xs.length cap := by
  rcases h with ⟨h, rfl⟩ | ⟨x, cap, h, _⟩
  · exact ⟨_, _, h⟩
  · exact ⟨_, _, h⟩
theorem El.Rd.keep {E : El P α} {w w' : World} {v : Value} {xs : List α} (h : E.Rd w v xs) (hb : Below w.heap.size w w') : E.Rd w' v xs := by
  rcases h with h | ⟨x, cap, h1, h2⟩
  · exact .inl h
  · refine .inr ⟨x, cap, h1, fun n hn => ?_⟩
    have h := h2 n hn
    have hl : n < (E.fl xs).length := by rw [E.fl_len]; exact hn
    rw [List.getElem?_eq_getElem hl] at h ⊢
    rw [hb.cell (cell_lt h)]; exact h
/-- an element's cells -/
theorem El.Rd.at {E : El P α} {w : World} {a : Option Addr} {n cap : Nat} {xs : List α} (h : E.Rd w (.slice a n cap) xs) (i : Nat) (x : α) (hx : xs[i]? = some x) :
    ∃ b off, a = some ⟨b, off, none⟩ ∧ ∀ j, j < E.k → w.cell? ⟨b, off + i * E.k + j, none⟩ = (E.enc x)[j]? := by
  have hi : i < xs.length := by
    rcases Nat.lt_or_ge i xs.length with h' | h'
    · exact h'
    · rw [List.getElem?_eq_none h'] at hx; cases hx
  rcases h with ⟨_, rfl⟩ | ⟨y, c, h1, h2⟩
  · simp at hi
  · simp only [Value.slice.injEq] at h1
    obtain ⟨b, off, spot⟩ := y
    have hpos : 0 < xs.length * E.k := Nat.mul_pos (by omega) E.kpos
    have hspot : spot = none := by
      have h0 := h2 0 hpos
      rw [List.getElem?_eq_getElem (by rw [E.fl_len]; exact hpos)] at h0
      simpa [Addr.add] using World.cell?_spot h0
    subst hspot
    refine ⟨b, off, h1.1, fun j hj => ?_⟩
    have hlt : i * E.k + j < xs.length * E.k := by
      have : (i + 1) * E.k ≤ xs.length * E.k := Nat.mul_le_mul_right _ hi
      rw [Nat.succ_mul] at this; omega
    have := h2 (i * E.k + j) hlt
    rw [E.fl_at xs i j x hx hj, addr_plain, ← Nat.add_assoc] at this
    exact this

theorem El.run (E : El P α) {w : World} {B : Nat} {v : Value} {xs : List α} (hown : E.Own w B v xs) (hB : B ≤ w.heap.size) {u : Value} {ys : List α} (hu : E.Rd w u ys) (hn : xs.length + ys.length ≤ 1000000) (ty : TypeId) :
    ∃ v' w', (Builtin.append_ #[E.t, E.t] ty #[v, u]).run P w = .ok v' w' ∧ E.Own w' B v' (xs ++ ys) ∧ w.grownBy w' v.ownBlock ∧ (v'.ownBlock = v.ownBlock ∨ v'.ownBlock = some w.heap.size) := by
  obtain ⟨i, hi, he⟩ := Option.map_eq_some_iff.1 E.info
  have e1 : i.zero = some E.z := congrArg Prod.fst he
  have e2 : i.size = E.k := congrArg (fun p => p.2.1) he
  have e3 : i.bytes = E.by' := congrArg (fun p => p.2.2) he
  rcases hu with ⟨rfl, rfl⟩ | ⟨x, cap, rfl, hc⟩
  · refine ⟨v, w, run_append_owned_none (P := P) (w := w) B E.t ty E.e i E.k E.ht hi v _ _ hown, ?_, ⟨rfl, rfl, rfl, Nat.le_refl _, fun _ _ _ => rfl⟩, .inl rfl⟩
    rw [List.append_nil]; exact hown
  · obtain ⟨v', w', hr, h2, h3, _, h5⟩ := run_append_own_at (P := P) w B E.t ty E.e i E.z E.k E.by' E.ht hi e1 e2 e3 E.zc E.kpos v xs.length (E.fl xs) hown
      x ys.length cap (E.fl ys) (E.fl_len ys) (fun j y hy => by
        have hj : j < ys.length * E.k := by
          rcases Nat.lt_or_ge j (ys.length * E.k) with h | h
          · exact h
          · rw [List.getElem?_eq_none (by rw [E.fl_len]; exact h)] at hy; cases hy
        rw [hc j hj]; exact hy)
      (fun y hy => by
        obtain ⟨t, _, ht⟩ := List.mem_flatMap.1 hy
        exact E.one t y ht) (by unfold maxLen; omega) (by
          have := E.bsm
          exact Nat.le_trans (Nat.mul_le_mul hn this) (by omega)) hB
    refine ⟨v', w', hr, ?_, h3, h5⟩
    unfold El.Own
    rw [List.length_append, E.fl_app]
    exact h2

theorem El.wp (E : El P α) {w0 w : World} (hb : Below w0.heap.size w0 w) {ops : Array Oper} {rest : List Oper} {o : Oper} {a : Act} {Q : Exit → Act → World → Prop} (hwant : Region.wanted o (yielded ops a.tmps) = true) (s x : Operand)
    (ho : o.op = .call { callee := .builtin .append, args := #[s, x], argTypes := #[E.t, E.t] }) (v u : Value) (hs : a.eval s = v) (hx : a.eval x = u)
    (xs ys : List α) (hown : E.Own w w0.heap.size v xs) (hu : E.Rd w u ys) (hn : xs.length + ys.length ≤ 1000000)
    (h : ∀ v' w', E.Own w' w0.heap.size v' (xs ++ ys) → w.grownBy w' v.ownBlock → (v'.ownBlock = v.ownBlock ∨ v'.ownBlock = some w.heap.size) → Below w0.heap.size w0 w' → wpList P ops Q rest (a.put o.dst v') w') : wpList P ops Q (o :: rest) a w := by
  obtain ⟨v', w', hr, h2, h3, h4⟩ := E.run hown hb.size hu hn o.type
  refine wpList_step fun K hK => ?_
  rw [if_pos hwant]
  unfold Oper.wp execOp
  simp only [ho, resolve, invoke, builtin, Sem.run_bind, Sem.run_pure, Result.andThen_ok, List.map_toArray, List.map_cons, List.map_nil, hs, hx, hr]
  exact hK _ _ (h v' w' h2 h3 h4 (hb.grown h3 hb.size (fun g hg => hown.ge g hg)))

theorem El.step (E : El P α) {w0 w : World} (hb : Below w0.heap.size w0 w) {ops : Array Oper} {o : Oper} {a : Act} {K : Act → World → Prop} {Q : Exit → Act → World → Prop} {F : Prop} (hgd : o.guard = none) (s x : Operand)
    (ho : o.op = .call { callee := .builtin .append, args := #[s, x], argTypes := #[E.t, E.t] }) (v u : Value) (hs : a.eval s = v) (hx : a.eval x = u)
    (xs ys : List α) (hown : E.Own w w0.heap.size v xs) (hu : E.Rd w u ys) (hn : xs.length + ys.length ≤ 1000000)
    (h : ∀ v' w', E.Own w' w0.heap.size v' (xs ++ ys) → w.grownBy w' v.ownBlock → (v'.ownBlock = v.ownBlock ∨ v'.ownBlock = some w.heap.size) → Below w0.heap.size w0 w' → K (a.put o.dst v') w') :
    if Region.wanted o (yielded ops a.tmps) = true then Oper.wp P o a w K Q else F := by
  have hw : Region.wanted o (yielded ops a.tmps) = true := by simp [Region.wanted, hgd]
  rw [if_pos hw]
  obtain ⟨v', w', hr, h2, h3, h4⟩ := E.run hown hb.size hu hn o.type
  unfold Oper.wp execOp
  simp only [ho, resolve, invoke, builtin, Sem.run_bind, Sem.run_pure, Result.andThen_ok, List.map_toArray, List.map_cons, List.map_nil, hs, hx, hr]
  exact h v' w' h2 h3 h4 (hb.grown h3 hb.size (fun g hg => hown.ge g hg))

/-- a composite of new cells -/
theorem El.Own.new (E : El P α) (w : World) (B : Nat) (hB : B ≤ w.heap.size) (C : Array Value) (xs : List α) (hC : C.toList = E.fl xs) (hm : xs.length ≤ 1000000) (n m c : Nat) (hn : n = w.heap.size) (hl : m = xs.length) (hc : c = xs.length) :
    E.Own (w.alloc (.cells C E.e)) B (.slice (some ⟨n, 0, none⟩) m c) xs := by
  subst hn hl hc
  have hs : C.size = xs.length * E.k := by have := congrArg List.length hC; rw [E.fl_len] at this; simpa using this
  refine ⟨E.fl_len xs, .inr ⟨w.heap.size, xs.length, C, rfl, hB, ?_, Nat.le_refl _, by unfold maxLen; omega, hs, ?_⟩⟩
  · show (w.heap.push (.cells C E.e))[w.heap.size]? = _
    simp
  · rw [hC, List.take_of_length_le (by rw [E.fl_len]; exact Nat.le_refl _)]

/-- the first ones of a slice -/
theorem El.Rd.take {E : El P α} {w : World} {a : Option Addr} {n cap : Nat} {xs : List α} (h : E.Rd w (.slice a n cap) xs) (m : Nat) (hm : m ≤ xs.length) : E.Rd w (.slice a m cap) (xs.take m) := by
  have hl : (xs.take m).length = m := by rw [List.length_take]; omega
  rcases h with ⟨h, rfl⟩ | ⟨x, c, h, hc⟩
  · simp only [Value.slice.injEq] at h
    simp at hm
    subst hm
    obtain ⟨rfl, _, rfl⟩ := h
    exact .inl ⟨rfl, by simp⟩
  · simp only [Value.slice.injEq] at h
    obtain ⟨rfl, rfl, rfl⟩ := h
    refine .inr ⟨x, cap, by rw [hl], fun i hi => ?_⟩
    rw [hl] at hi
    have hmk : m * E.k ≤ xs.length * E.k := Nat.mul_le_mul_right _ hm
    rw [hc i (by omega)]
    have e : E.fl xs = E.fl (xs.take m) ++ E.fl (xs.drop m) := by rw [← E.fl_app, List.take_append_drop]
    rw [e, List.getElem?_append_left (by rw [E.fl_len, hl]; exact hi)]
/-- the rest of a slice -/
theorem El.Rd.drop {E : El P α} {w : World} {b off n cap cap' : Nat} {xs : List α} (h : E.Rd w (.slice (some ⟨b, off, none⟩) n cap) xs) (m n' : Nat) (hn : n' = xs.length - m) (hm : m ≤ xs.length) : E.Rd w (.slice (some ⟨b, off + m * E.k, none⟩) n' cap') (xs.drop m) := by
  rcases h with ⟨h, _⟩ | ⟨x, c, h, hc⟩
  · cases h
  · simp only [Value.slice.injEq, Option.some.injEq] at h
    obtain ⟨rfl, rfl, rfl⟩ := h
    refine .inr ⟨_, cap', by rw [List.length_drop, hn], fun i hi => ?_⟩
    rw [List.length_drop] at hi
    have hmk : m * E.k + (xs.length - m) * E.k = xs.length * E.k := by rw [← Nat.add_mul]; congr 1; omega
    have := hc (m * E.k + i) (by omega)
    rw [addr_plain] at this
    rw [addr_plain, Nat.add_assoc, this]
    have e : E.fl xs = E.fl (xs.take m) ++ E.fl (xs.drop m) := by rw [← E.fl_app, List.take_append_drop]
    have hl : (E.fl (xs.take m)).length = m * E.k := by rw [E.fl_len, List.length_take, Nat.min_eq_left hm]
    rw [e, List.getElem?_append_right (by rw [hl]; omega), hl]
    congr 1; omega
/-- a cell of a slice of the call's own -/
theorem El.Own.cell {E : El P α} {w : World} {B g n cap : Nat} {xs : List α} (h : E.Own w B (.slice (some ⟨g, 0, none⟩) n cap) xs) (i : Nat) (hi : i < xs.length * E.k) :
    w.cell? ⟨g, i, none⟩ = (E.fl xs)[i]? ∧ w.frozen? ⟨g, i, none⟩ = false ∧ B ≤ g := by
  rcases h.2 with ⟨h1, _⟩ | ⟨g', c, cur, h1, hb, hg, hn, hm, hs, ht⟩
  · cases h1
  · simp only [Value.slice.injEq, Option.some.injEq, Addr.mk.injEq] at h1
    obtain ⟨⟨rfl, _⟩, rfl, rfl⟩ := h1
    refine ⟨?_, ?_, hb⟩
    · unfold World.cell?
      simp only [hg]
      show cur[i]? = _
      rw [← ht, List.getElem?_take_of_lt hi, Array.getElem?_toList]
    · unfold World.frozen?
      simp [hg]

/-! ### two slices side by side -/
def Sep (v u : Value) : Prop := ∀ g, v.ownBlock = some g → u.ownBlock ≠ some g
theorem Sep.symm {v u : Value} (h : Sep v u) : Sep u v := fun g h1 h2 => h g h2 h1
theorem El.Own.kept {E : El P α} {w w' : World} {B : Nat} {v u : Value} {xs : List α} (hs : Sep v u) (hu : E.Own w B u xs) (h : w.grownBy w' v.ownBlock) : E.Own w' B u xs := by
  refine World.ownsRow.kept hu h ?_
  cases hb : u.ownBlock with
  | none => exact .inl rfl
  | some g => exact .inr (fun h => hs g h.symm hb)
theorem El.Own.sep {E : El P α} {w : World} {B : Nat} {v v' u : Value} {xs : List α} (hs : Sep v u) (hu : E.Own w B u xs) (h : v'.ownBlock = v.ownBlock ∨ v'.ownBlock = some w.heap.size) : Sep v' u := by
  intro g hg hg'
  rcases h with h | h
  · exact hs g (by rw [← h]; exact hg) hg'
  · have := hu.lt g hg'
    rw [h] at hg
    simp at hg
    omega
end Go.Proofs.Ythcdfclhenmleaa
