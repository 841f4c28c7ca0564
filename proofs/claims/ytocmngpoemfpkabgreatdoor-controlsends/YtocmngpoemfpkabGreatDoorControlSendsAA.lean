import Derived.Below
import Derived.BigQuiet
import Derived.BigRegion
import Derived.ChangeKeysEq
import Derived.Deep.AppendLies
import Derived.Deep.AppendSrc
import Derived.Deep.CutRange
import Derived.Deep.DeepCutAuto
import Derived.Deep.QuietTactic
import Derived.Deep.RegionHeld3
import Derived.Deep.RegionLaw
import Derived.Laws.OwnMore
import Derived.Laws.RangeAny
import Derived.Lib.AppendZeros
import Derived.Lib.SliceRun
import Derived.LoopTactic
import Derived.Maps.AppendAt
import Derived.OpenShut
import Derived.OwnWalk
import Derived.ProofKit
import Derived.Test.YtocmngpoemfpkabGreatDoorRows
import Derived.WalkKit
import Derived.WideShapes4
set_option linter.unusedVariables false
namespace Go.Proofs.YtocmngpoemfpkabGreatDoor
open Go.ChangeShapes Go.WideShapes Go.ChangeAt Go.RowKit
theorem hide {p : Prop} (h : p) : Hid p := h
theorem unhide {p : Prop} (h : Hid p) : p := h
open Go.RowKit
structure El (P : Program) (α : Type) where
 t : TypeId
 e : TypeId
 k : Nat
 by' : Nat
 z : Value
 enc : α → List Value
 ht : P.underlying t = some (.slice e)
 info : (P.info? e).map (fun i => (i.zero, i.size, i.bytes)) = some (some z, k, by')
 zc : z.cells.size = k
 kpos : 0 < k
 bsm : by' ≤ 1000
 len : ∀ x, (enc x).length = k
 one : ∀ x, ∀ v ∈ enc x, v.oneCell' = true
variable {P : Program} {α : Type}
def El.fl (E : El P α) (xs : List α) : List Value := xs.flatMap E.enc
theorem El.fl_len (E : El P α) (xs : List α) : (E.fl xs).length = xs.length * E.k := by
 induction xs with
 | nil => simp [El.fl]
 | cons x xs ih => unfold El.fl at ih ⊢; rw [List.flatMap_cons, List.length_append, ih, E.len, List.length_cons, Nat.succ_mul, Nat.add_comm]
theorem El.fl_app (E : El P α) (xs ys : List α) : E.fl (xs ++ ys) = E.fl xs ++ E.fl ys := by simp [El.fl]
theorem El.fl_at (E : El P α) (xs : List α) (i j : Nat) (x : α) (h : xs[i]? = some x) (hj : j < E.k) : (E.fl xs)[i * E.k + j]? = (E.enc x)[j]? := by
 induction xs generalizing i with
 | nil => simp at h
 | cons y xs ih =>
  have e : E.fl (y :: xs) = E.enc y ++ E.fl xs := rfl
  rw [e]
  cases i with
  | zero =>
   simp at h
   subst h
   rw [Nat.zero_mul, Nat.zero_add, List.getElem?_append_left (by rw [E.len]; exact hj)]
  | succ i =>
   have hl : (E.enc y).length ≤ (i + 1) * E.k + j := by rw [E.len, Nat.succ_mul]; omega
   rw [List.getElem?_append_right hl, E.len]
   have : (i + 1) * E.k + j - E.k = i * E.k + j := by rw [Nat.succ_mul]; omega
   rw [this]
   exact ih i (by simpa using h)
def El.Own (E : El P α) (w : World) (B : Nat) (v : Value) (xs : List α) : Prop := w.ownsRow B E.e E.k v xs.length (E.fl xs)
def El.Rd (E : El P α) (w : World) (v : Value) (xs : List α) : Prop :=
 (v = .slice none 0 0 ∧ xs = []) ∨ ∃ x cap, v = .slice (some x) xs.length cap ∧ ∀ n, n < xs.length * E.k → w.cell? (x.add n) = (E.fl xs)[n]?
theorem addr_plain (b off j : Nat) : (⟨b, off, none⟩ : Addr).add j = ⟨b, off + j, none⟩ := by unfold Addr.add; split <;> simp_all
theorem cell_lt {w : World} {x : Addr} {u : Value} (h : w.cell? x = some u) : x.block < w.heap.size := by
  rcases Nat.lt_or_ge x.block w.heap.size with h' | h'
  · exact h'
  · simp [World.cell?, Array.getElem?_eq_none h'] at h
theorem El.Own.nil (E : El P α) (w : World) (B : Nat) : E.Own w B (.slice none 0 0) [] := ⟨by simp [El.fl], .inl ⟨rfl, rfl⟩⟩
theorem El.Own.mono {E : El P α} {w : World} {B B' : Nat} {v : Value} {xs : List α} (h : E.Own w B v xs) (hB : B' ≤ B) : E.Own w B' v xs := by
  obtain ⟨h0, h⟩ := h
  refine ⟨h0, ?_⟩
  rcases h with h | ⟨g, cap, cur, h1, h2, h3⟩
  · exact .inl h
  · exact .inr ⟨g, cap, cur, h1, Nat.le_trans hB h2, h3⟩
theorem El.Own.keep {E : El P α} {w w' : World} {B : Nat} {v : Value} {xs : List α} (h : E.Own w B v xs) (hb : Below w.heap.size w w') : E.Own w' B v xs := by
  obtain ⟨h0, h⟩ := h
  refine ⟨h0, ?_⟩
  rcases h with h | ⟨g, cap, cur, h1, h2, h3, h4⟩
  · exact .inl h
  · refine .inr ⟨g, cap, cur, h1, h2, ?_, h4⟩
    have : g < w.heap.size := by
      rcases Nat.lt_or_ge g w.heap.size with h | h
      · exact h
      · rw [Array.getElem?_eq_none h] at h3; cases h3
    rw [hb.block g this]; exact h3
theorem El.Own.lt {E : El P α} {w : World} {B : Nat} {v : Value} {xs : List α} (h : E.Own w B v xs) (g : Nat) (hg : v.ownBlock = some g) : g < w.heap.size := by
  rcases h.2 with ⟨rfl, _⟩ | ⟨g', cap, cur, rfl, hb, hh, _⟩
  · cases hg
  · simp [Value.ownBlock] at hg
    subst hg
    rcases Nat.lt_or_ge g' w.heap.size with h' | h'
    · exact h'
    · rw [Array.getElem?_eq_none h'] at hh; cases hh
theorem El.Own.ge {E : El P α} {w : World} {B : Nat} {v : Value} {xs : List α} (h : E.Own w B v xs) (g : Nat) (hg : v.ownBlock = some g) : B ≤ g := by
  rcases h.2 with ⟨rfl, _⟩ | ⟨g', cap, cur, rfl, hb, _⟩
  · cases hg
  · simp [Value.ownBlock] at hg; omega
theorem El.Own.rd {E : El P α} {w : World} {B : Nat} {v : Value} {xs : List α} (h : E.Own w B v xs) : E.Rd w v xs := by
  obtain ⟨_, h⟩ := h
  rcases h with ⟨h1, h2⟩ | ⟨g, cap, cur, h1, _, hg, hn, hm, hs, ht⟩
  · exact .inl ⟨h1, List.eq_nil_of_length_eq_zero h2⟩
  · refine .inr ⟨⟨g, 0, none⟩, cap, h1, fun n hn => ?_⟩
    rw [addr_plain, Nat.zero_add]
    unfold World.cell?
    simp only [hg]
    show cur[n]? = _
    rw [← ht, List.getElem?_take_of_lt hn, Array.getElem?_toList]
theorem El.Rd.form {E : El P α} {w : World} {v : Value} {xs : List α} (h : E.Rd w v xs) : ∃ a cap, v = .slice a xs.length cap := by
  rcases h with ⟨h, rfl⟩ | ⟨x, cap, h, _⟩
  · exact ⟨_, _, h⟩
  · exact ⟨_, _, h⟩
theorem El.Rd.keep {E : El P α} {w w' : World} {v : Value} {xs : List α} (h : E.Rd w v xs) (hb : Below w.heap.size w w') : E.Rd w' v xs := by
  rcases h with h | ⟨x, cap, h1, h2⟩
  · exact .inl h
  · refine .inr ⟨x, cap, h1, fun n hn => ?_⟩
    have h := h2 n hn
    have hl : n < (E.fl xs).length := by rw [E.fl_len]; exact hn
    rw [List.getElem?_eq_getElem hl] at h ⊢
    rw [hb.cell (cell_lt h)]; exact h
theorem El.Rd.at {E : El P α} {w : World} {a : Option Addr} {n cap : Nat} {xs : List α} (h : E.Rd w (.slice a n cap) xs) (i : Nat) (x : α) (hx : xs[i]? = some x) :
    ∃ b off, a = some ⟨b, off, none⟩ ∧ ∀ j, j < E.k → w.cell? ⟨b, off + i * E.k + j, none⟩ = (E.enc x)[j]? := by
  have hi : i < xs.length := by
    rcases Nat.lt_or_ge i xs.length with h' | h'
    · exact h'
    · rw [List.getElem?_eq_none h'] at hx; cases hx
  rcases h with ⟨_, rfl⟩ | ⟨y, c, h1, h2⟩
  · simp at hi
  · simp only [Value.slice.injEq] at h1
    obtain ⟨b, off, spot⟩ := y
    have hpos : 0 < xs.length * E.k := Nat.mul_pos (by omega) E.kpos
    have hspot : spot = none := by
      have h0 := h2 0 hpos
      rw [List.getElem?_eq_getElem (by rw [E.fl_len]; exact hpos)] at h0
      simpa [Addr.add] using World.cell?_spot h0
    subst hspot
    refine ⟨b, off, h1.1, fun j hj => ?_⟩
    have hlt : i * E.k + j < xs.length * E.k := by
      have : (i + 1) * E.k ≤ xs.length * E.k := Nat.mul_le_mul_right _ hi
      rw [Nat.succ_mul] at this; omega
    have := h2 (i * E.k + j) hlt
    rw [E.fl_at xs i j x hx hj, addr_plain, ← Nat.add_assoc] at this
    exact this
theorem El.run (E : El P α) {w : World} {B : Nat} {v : Value} {xs : List α} (hown : E.Own w B v xs) (hB : B ≤ w.heap.size) {u : Value} {ys : List α} (hu : E.Rd w u ys) (hn : xs.length + ys.length ≤ 1000000) (ty : TypeId) :
    ∃ v' w', (Builtin.append_ #[E.t, E.t] ty #[v, u]).run P w = .ok v' w' ∧ E.Own w' B v' (xs ++ ys) ∧ w.grownBy w' v.ownBlock ∧ (v'.ownBlock = v.ownBlock ∨ v'.ownBlock = some w.heap.size) := by
  obtain ⟨i, hi, he⟩ := Option.map_eq_some_iff.1 E.info
  have e1 : i.zero = some E.z := congrArg Prod.fst he
  have e2 : i.size = E.k := congrArg (fun p => p.2.1) he
  have e3 : i.bytes = E.by' := congrArg (fun p => p.2.2) he
  rcases hu with ⟨rfl, rfl⟩ | ⟨x, cap, rfl, hc⟩
  · refine ⟨v, w, run_append_owned_none (P := P) (w := w) B E.t ty E.e i E.k E.ht hi v _ _ hown, ?_, ⟨rfl, rfl, rfl, Nat.le_refl _, fun _ _ _ => rfl⟩, .inl rfl⟩
    rw [List.append_nil]; exact hown
  · obtain ⟨v', w', hr, h2, h3, _, h5⟩ := run_append_own_at (P := P) w B E.t ty E.e i E.z E.k E.by' E.ht hi e1 e2 e3 E.zc E.kpos v xs.length (E.fl xs) hown
      x ys.length cap (E.fl ys) (E.fl_len ys) (fun j y hy => by
        have hj : j < ys.length * E.k := by
          rcases Nat.lt_or_ge j (ys.length * E.k) with h | h
          · exact h
          · rw [List.getElem?_eq_none (by rw [E.fl_len]; exact h)] at hy; cases hy
        rw [hc j hj]; exact hy)
      (fun y hy => by
        obtain ⟨t, _, ht⟩ := List.mem_flatMap.1 hy
        exact E.one t y ht) (by unfold maxLen; omega) (by
          have := E.bsm
          exact Nat.le_trans (Nat.mul_le_mul hn this) (by omega)) hB
    refine ⟨v', w', hr, ?_, h3, h5⟩
    unfold El.Own
    rw [List.length_append, E.fl_app]
    exact h2
theorem El.wp (E : El P α) {w0 w : World} (hb : Below w0.heap.size w0 w) {ops : Array Oper} {rest : List Oper} {o : Oper} {a : Act} {Q : Exit → Act → World → Prop} (hwant : Region.wanted o (yielded ops a.tmps) = true) (s x : Operand)
  (ho : o.op = .call { callee := .builtin .append, args := #[s, x], argTypes := #[E.t, E.t] }) (v u : Value) (hs : a.eval s = v) (hx : a.eval x = u)
  (xs ys : List α) (hown : E.Own w w0.heap.size v xs) (hu : E.Rd w u ys) (hn : xs.length + ys.length ≤ 1000000)
  (h : ∀ v' w', E.Own w' w0.heap.size v' (xs ++ ys) → w.grownBy w' v.ownBlock → (v'.ownBlock = v.ownBlock ∨ v'.ownBlock = some w.heap.size) → Below w0.heap.size w0 w' → wpList P ops Q rest (a.put o.dst v') w') : wpList P ops Q (o :: rest) a w := by
 obtain ⟨v', w', hr, h2, h3, h4⟩ := E.run hown hb.size hu hn o.type
 refine wpList_step fun K hK => ?_
 rw [if_pos hwant]
 unfold Oper.wp execOp
 simp only [ho, resolve, invoke, builtin, Sem.run_bind, Sem.run_pure, Result.andThen_ok, List.map_toArray, List.map_cons, List.map_nil, hs, hx, hr]
 exact hK _ _ (h v' w' h2 h3 h4 (hb.grown h3 hb.size (fun g hg => hown.ge g hg)))
theorem El.step (E : El P α) {w0 w : World} (hb : Below w0.heap.size w0 w) {ops : Array Oper} {o : Oper} {a : Act} {K : Act → World → Prop} {Q : Exit → Act → World → Prop} {F : Prop} (hgd : o.guard = none) (s x : Operand)
  (ho : o.op = .call { callee := .builtin .append, args := #[s, x], argTypes := #[E.t, E.t] }) (v u : Value) (hs : a.eval s = v) (hx : a.eval x = u)
  (xs ys : List α) (hown : E.Own w w0.heap.size v xs) (hu : E.Rd w u ys) (hn : xs.length + ys.length ≤ 1000000)
  (h : ∀ v' w', E.Own w' w0.heap.size v' (xs ++ ys) → w.grownBy w' v.ownBlock → (v'.ownBlock = v.ownBlock ∨ v'.ownBlock = some w.heap.size) → Below w0.heap.size w0 w' → K (a.put o.dst v') w') :
  if Region.wanted o (yielded ops a.tmps) = true then Oper.wp P o a w K Q else F := by
 have hw : Region.wanted o (yielded ops a.tmps) = true := by simp [Region.wanted, hgd]
 rw [if_pos hw]
 obtain ⟨v', w', hr, h2, h3, h4⟩ := E.run hown hb.size hu hn o.type
 unfold Oper.wp execOp
 simp only [ho, resolve, invoke, builtin, Sem.run_bind, Sem.run_pure, Result.andThen_ok, List.map_toArray, List.map_cons, List.map_nil, hs, hx, hr]
 exact h v' w' h2 h3 h4 (hb.grown h3 hb.size (fun g hg => hown.ge g hg))
theorem El.Own.new (E : El P α) (w : World) (B : Nat) (hB : B ≤ w.heap.size) (C : Array Value) (xs : List α) (hC : C.toList = E.fl xs) (hm : xs.length ≤ 1000000) (n m c : Nat) (hn : n = w.heap.size) (hl : m = xs.length) (hc : c = xs.length) :
    E.Own (w.alloc (.cells C E.e)) B (.slice (some ⟨n, 0, none⟩) m c) xs := by
  subst hn hl hc
  have hs : C.size = xs.length * E.k := by have := congrArg List.length hC; rw [E.fl_len] at this; simpa using this
  refine ⟨E.fl_len xs, .inr ⟨w.heap.size, xs.length, C, rfl, hB, ?_, Nat.le_refl _, by unfold maxLen; omega, hs, ?_⟩⟩
  · show (w.heap.push (.cells C E.e))[w.heap.size]? = _
    simp
  · rw [hC, List.take_of_length_le (by rw [E.fl_len]; exact Nat.le_refl _)]
theorem El.Rd.take {E : El P α} {w : World} {a : Option Addr} {n cap : Nat} {xs : List α} (h : E.Rd w (.slice a n cap) xs) (m : Nat) (hm : m ≤ xs.length) : E.Rd w (.slice a m cap) (xs.take m) := by
  have hl : (xs.take m).length = m := by rw [List.length_take]; omega
  rcases h with ⟨h, rfl⟩ | ⟨x, c, h, hc⟩
  · simp only [Value.slice.injEq] at h
    simp at hm
    subst hm
    obtain ⟨rfl, _, rfl⟩ := h
    exact .inl ⟨rfl, by simp⟩
  · simp only [Value.slice.injEq] at h
    obtain ⟨rfl, rfl, rfl⟩ := h
    refine .inr ⟨x, cap, by rw [hl], fun i hi => ?_⟩
    rw [hl] at hi
    have hmk : m * E.k ≤ xs.length * E.k := Nat.mul_le_mul_right _ hm
    rw [hc i (by omega)]
    have e : E.fl xs = E.fl (xs.take m) ++ E.fl (xs.drop m) := by rw [← E.fl_app, List.take_append_drop]
    rw [e, List.getElem?_append_left (by rw [E.fl_len, hl]; exact hi)]
theorem El.Rd.drop {E : El P α} {w : World} {b off n cap cap' : Nat} {xs : List α} (h : E.Rd w (.slice (some ⟨b, off, none⟩) n cap) xs) (m n' : Nat) (hn : n' = xs.length - m) (hm : m ≤ xs.length) : E.Rd w (.slice (some ⟨b, off + m * E.k, none⟩) n' cap') (xs.drop m) := by
  rcases h with ⟨h, _⟩ | ⟨x, c, h, hc⟩
  · cases h
  · simp only [Value.slice.injEq, Option.some.injEq] at h
    obtain ⟨rfl, rfl, rfl⟩ := h
    refine .inr ⟨_, cap', by rw [List.length_drop, hn], fun i hi => ?_⟩
    rw [List.length_drop] at hi
    have hmk : m * E.k + (xs.length - m) * E.k = xs.length * E.k := by rw [← Nat.add_mul]; congr 1; omega
    have := hc (m * E.k + i) (by omega)
    rw [addr_plain] at this
    rw [addr_plain, Nat.add_assoc, this]
    have e : E.fl xs = E.fl (xs.take m) ++ E.fl (xs.drop m) := by rw [← E.fl_app, List.take_append_drop]
    have hl : (E.fl (xs.take m)).length = m * E.k := by rw [E.fl_len, List.length_take, Nat.min_eq_left hm]
    rw [e, List.getElem?_append_right (by rw [hl]; omega), hl]
    congr 1; omega
theorem El.Own.cell {E : El P α} {w : World} {B g n cap : Nat} {xs : List α} (h : E.Own w B (.slice (some ⟨g, 0, none⟩) n cap) xs) (i : Nat) (hi : i < xs.length * E.k) :
    w.cell? ⟨g, i, none⟩ = (E.fl xs)[i]? ∧ w.frozen? ⟨g, i, none⟩ = false ∧ B ≤ g := by
  rcases h.2 with ⟨h1, _⟩ | ⟨g', c, cur, h1, hb, hg, hn, hm, hs, ht⟩
  · cases h1
  · simp only [Value.slice.injEq, Option.some.injEq, Addr.mk.injEq] at h1
    obtain ⟨⟨rfl, _⟩, rfl, rfl⟩ := h1
    refine ⟨?_, ?_, hb⟩
    · unfold World.cell?
      simp only [hg]
      show cur[i]? = _
      rw [← ht, List.getElem?_take_of_lt hi, Array.getElem?_toList]
    · unfold World.frozen?
      simp [hg]
def Sep (v u : Value) : Prop := ∀ g, v.ownBlock = some g → u.ownBlock ≠ some g
theorem El.Own.kept {E : El P α} {w w' : World} {B : Nat} {v u : Value} {xs : List α} (hs : Sep v u) (hu : E.Own w B u xs) (h : w.grownBy w' v.ownBlock) : E.Own w' B u xs := by
 refine World.ownsRow.kept hu h ?_
 cases hb : u.ownBlock with
 | none => exact .inl rfl
 | some g => exact .inr (fun h => hs g h.symm hb)
theorem El.Own.sep {E : El P α} {w : World} {B : Nat} {v v' u : Value} {xs : List α} (hs : Sep v u) (hu : E.Own w B u xs) (h : v'.ownBlock = v.ownBlock ∨ v'.ownBlock = some w.heap.size) : Sep v' u := by
  intro g hg hg'
  rcases h with h | h
  · exact hs g (by rw [← h]; exact hg) hg'
  · have := hu.lt g hg'
    rw [h] at hg
    simp at hg
    omega
end Go.Proofs.YtocmngpoemfpkabGreatDoor

namespace Go.Proofs.YtocmngpoemfpkabGreatDoor
section
variable {P : Program} {ops : Array Oper} {Q : Exit → Act → World → Prop} {md : Region.Mode} {S : World → Prop} {ex : Nat}
def wpAnyE (P : Program) (md : Region.Mode) (ops : Array Oper) (Q : Exit → Act → World → Prop) (S : World → Prop) (ex : Nat) : Nat → Array Bool → Act → World → Prop
 | 0, listed, a, w => Region.ready md ops listed = [] ∧ Q .normal a w
 | fuel + 1, listed, a, w =>
  (Region.ready md ops listed = [] → Q .normal a w) ∧
  ∀ i ∈ Region.ready md ops listed, wpOp P ops Q i (fun a' w' => (i ≠ ex → S w') ∧ wpAnyE P md ops Q S ex fuel (listed.setIfInBounds i true) a' w') a w
theorem wpAny_of_E : ∀ (fuel : Nat) (listed : Array Bool) (a : Act) (w : World), wpAnyE P md ops Q S ex fuel listed a w → wpAny P md ops Q fuel listed a w
 | 0, _, _, _, h => h
 | fuel + 1, _, _, _, h => ⟨h.1, fun i hi => wpOp_mono (fun a' w' h' => wpAny_of_E fuel _ a' w' h'.2) (h.2 i hi)⟩
theorem wpAnyE_first {i : Nat} {oi oe : Oper} {v : Value} (hi : ops[i]? = some oi) (hsel : ∀ (j : Nat) (o : Oper) cs b, ops[j]? = some o → o.op ≠ .select cs b)
    (hQ : ∀ c a w, Q (.panic c) (a.put oi.dst v) w → Q (.panic c) a w) (hoe : ops[ex]? = some oe) (hed : ∃ e ∈ oe.after, Region.binds md e = true ∧ e.on = i) (hie : i ≠ ex) :
    ∀ (fuel : Nat) (listed : Array Bool) (a : Act) (w : World),
      (∀ j oj, ops[j]? = some oj → j ≠ i → listed.getD j true = false → (∀ e ∈ oj.after, Region.binds md e = true → e.on ≠ i) → oi.apart ops oj = true) →
      i ∈ Region.ready md ops listed → YieldsIf P ops S oi v a → S w →
      wpAnyE P md ops Q S ex fuel (listed.setIfInBounds i true) (a.put oi.dst v) w → wpAnyE P md ops Q S ex (fuel + 1) listed a w := by
  intro fuel
  induction fuel with
  | zero =>
    intro listed a w _ hr hy hS H
    refine ⟨fun h => (by rw [h] at hr; cases hr), fun j hj => ?_⟩
    by_cases hji : j = i
    · subst hji; exact hy.wpOp hi hS ⟨fun _ => hS, H⟩
    · have := ready_mono hj hji
      rw [H.1] at this
      cases this
  | succ fuel ih =>
    intro listed a w hfree hr hy hS H
    refine ⟨fun h => (by rw [h] at hr; cases hr), fun j hj => ?_⟩
    by_cases hji : j = i
    · subst hji; exact hy.wpOp hi hS ⟨fun _ => hS, H⟩
    · have h1 := H.2 j (ready_mono hj hji)
      obtain ⟨hjun, oj, hoj, hall⟩ := mem_ready.1 hj
      have hnot : ∀ e ∈ oj.after, Region.binds md e = true → e.on ≠ i := fun e he hb heq => by
        have h1 := hall e he hb
        have h0 := (mem_ready.1 hr).1
        rw [heq] at h1
        rcases Nat.lt_or_ge i listed.size with h' | h'
        · simp [h'] at h0 h1; rw [h0] at h1; cases h1
        · simp [Array.getElem?_eq_none h'] at h1
      have hjx : j ≠ ex := fun e => by
        subst e
        rw [hoj] at hoe
        cases hoe
        obtain ⟨e, he, hb, hon⟩ := hed
        exact hnot e he hb hon
      have h2 := wpOp_putIf hoj (hfree j oj hoj hji hjun hnot) (fun cs b => hsel i oi cs b hi) (fun cs b => hsel j oj cs b hoj) hQ hy h1
      have hfree' : ∀ k ok, ops[k]? = some ok → k ≠ i → (listed.setIfInBounds j true).getD k true = false →
          (∀ e ∈ ok.after, Region.binds md e = true → e.on ≠ i) → oi.apart ops ok = true := fun k ok hk hki hun hno => by
        refine hfree k ok hk hki ?_ hno
        by_cases hjk : j = k
        · subst hjk; exact hjun
        · rw [getD_set_ne true hjk] at hun; exact hun
      refine wpOp_mono (fun a' w' h3 => ⟨h3.2.1, ih (listed.setIfInBounds j true) a' w' hfree' (ready_mono hr (Ne.symm hji)) h3.1 (h3.2.1 hjx) ?_⟩) h2
      rw [Array.setIfInBounds_comm _ _ hji]
      exact h3.2.2
def waits (md : Region.Mode) (ops : Array Oper) (ex i : Nat) : Bool := match ops[ex]? with | some oe => oe.after.any (fun e => Region.binds md e && (e.on == i)) && (i != ex) | none => false
theorem wpAnyE_take {i : Nat} {oi : Oper} {v : Value} {fuel : Nat} {listed : Array Bool} {a : Act} {w : World} (hi : ops[i]? = some oi)
  (hs : Region.noSelect ops = true) (hf : Region.free md ops listed i = true) (hr : (Region.ready md ops listed).contains i = true) (hwt : waits md ops ex i = true)
  (hQ : ∀ c a w, Q (.panic c) (a.put oi.dst v) w → Q (.panic c) a w) (hy : YieldsIf P ops S oi v a) (hS : S w)
  (h : wpAnyE P md ops Q S ex fuel (listed.setIfInBounds i true) (a.put oi.dst v) w) : wpAnyE P md ops Q S ex (fuel + 1) listed a w := by
 unfold waits at hwt
 cases hoe : ops[ex]? with
 | none => rw [hoe] at hwt; cases hwt
 | some oe =>
  rw [hoe] at hwt
  simp only [Bool.and_eq_true, bne_iff_ne, ne_eq] at hwt
  obtain ⟨h1, h2⟩ := hwt
  rw [Array.any_eq_true] at h1
  obtain ⟨n, hn, h3⟩ := h1
  simp only [Bool.and_eq_true, beq_iff_eq] at h3
  exact wpAnyE_first hi (Region.noSelect_spec hs) hQ hoe ⟨oe.after[n], Array.getElem_mem hn, h3.1, h3.2⟩ h2 fuel listed a w (Region.free_spec hi hf) (by simpa using hr) hy hS h
def AllReadyE (P : Program) (md : Region.Mode) (ops : Array Oper) (Q : Exit → Act → World → Prop) (S : World → Prop) (ex : Nat) (fuel : Nat) (listed : Array Bool) (a : Act) (w : World) (rs : List Nat) : Prop :=
 ∀ i ∈ rs, wpOp P ops Q i (fun a' w' => (i ≠ ex → S w') ∧ wpAnyE P md ops Q S ex fuel (listed.setIfInBounds i true) a' w') a w
theorem AllReadyE.nil {fuel : Nat} {listed : Array Bool} {a : Act} {w : World} : AllReadyE P md ops Q S ex fuel listed a w [] := fun _ h => by cases h
theorem AllReadyE.cons {fuel : Nat} {listed : Array Bool} {a : Act} {w : World} {i : Nat} {o : Oper} {rs : List Nat} (ho : ops[i]? = some o)
    (h : ∀ K' : Act → World → Prop, Shut (∀ a w, (i ≠ ex → S w) → wpAnyE P md ops Q S ex fuel (listed.setIfInBounds i true) a w → K' a w) → if Region.wanted o (yielded ops a.tmps) = true then Oper.wp P o a w K' Q else K' (a.put o.dst undef) w)
    (hs : AllReadyE P md ops Q S ex fuel listed a w rs) : AllReadyE P md ops Q S ex fuel listed a w (i :: rs) := fun j hj => by
  rcases List.mem_cons.1 hj with rfl | hj
  · exact wpOp_step ho (fun K' hK => h K' (fun a w hS hW => hK a w ⟨hS, hW⟩))
  · exact hs j hj
theorem wpAnyE_ready {rs : List Nat} {fuel : Nat} {listed : Array Bool} {a : Act} {w : World} (hr : Region.ready md ops listed = rs) (hne : rs ≠ [])
  (h : AllReadyE P md ops Q S ex fuel listed a w rs) : wpAnyE P md ops Q S ex (fuel + 1) listed a w := ⟨fun h0 => absurd (hr ▸ h0) hne, hr ▸ h⟩
theorem wpAnyE_done {listed : Array Bool} {a : Act} {w : World} (hr : Region.ready md ops listed = []) (h : Q .normal a w) :
  ∀ fuel, wpAnyE P md ops Q S ex fuel listed a w
 | 0 => ⟨hr, h⟩
 | _ + 1 => ⟨fun _ => h, by rw [hr]; simp⟩
theorem wp_region_E (S : World → Prop) (ex : Nat) {id : Nat} {a : Act} {w : World} (hm : P.follows .mixedOrders = true)
  (h : wpAnyE P .any ops Q S ex ops.size (Array.replicate ops.size false) a w.drew) : (Code.region id ops true).wp P Q a w :=
 wp_region_any hm (wpAny_of_E _ _ _ _ h)
end
open Go.RowKit
theorem idx_lt {α : Type} {l : List α} {i : Nat} {x : α} (h : l[i]? = some x) : i < l.length := by
  rcases Nat.lt_or_ge i l.length with h' | h'
  · exact h'
  · rw [List.getElem?_eq_none h'] at h; cases h
theorem heap_lt {w : World} {g : Nat} {o : Obj} (h : w.heap[g]? = some o) : g < w.heap.size := by
  rcases Nat.lt_or_ge g w.heap.size with h' | h'
  · exact h'
  · rw [Array.getElem?_eq_none h'] at h; cases h
theorem cells_at {w : World} {g : Nat} {C : Array Value} {t : TypeId} (h : w.heap[g]? = some (.cells C t)) (i : Nat) : w.cell? ⟨g, i, none⟩ = C[i]? ∧ w.frozen? ⟨g, i, none⟩ = false := by
 unfold World.cell? World.frozen?
 simp [h]
theorem heap_put {w : World} {g i : Nat} {C : Array Value} {t : TypeId} (h : w.heap[g]? = some (.cells C t)) (u : Value) : (w.setCell ⟨g, i, none⟩ u).heap[g]? = some (.cells (C.setIfInBounds i u) t) := by
 simp [World.setCell, Array.getElem?_modify, h]
theorem heap_new (w : World) (o : Obj) : (w.alloc o).heap[w.heap.size]? = some o := by
 show (w.heap.push o)[w.heap.size]? = _
 simp
def intE : El Tryz.prog Int where
 t := 40
 e := 3
 k := 1
 by' := 8
 z := .int .i64 0
 enc x := [.int .i64 x]
 ht := Tryz.underlying40
 info := by kernel_rfl
 zc := rfl
 kpos := by omega
 bsm := by omega
 len _ := rfl
 one x v hv := by simp at hv; subst hv; rfl
theorem int_new (w : World) (x : Int) (g : Nat) (hg : g = w.heap.size) : intE.Rd (w.alloc (.cells #[.int .i64 x] 3)) (.slice (some ⟨g, 0, none⟩) 1 1) [x] :=
 (El.Own.new intE w w.heap.size (Nat.le_refl _) _ [x] rfl (by simp) _ _ _ hg rfl rfl).rd
theorem fl_map {α : Type} (E : El Tryz.prog α) (f : α → Value) (hE : ∀ x, E.enc x = [f x]) (xs : List α) : E.fl xs = xs.map f := by
 induction xs with
 | nil => rfl
 | cons x xs ih =>
  show E.enc x ++ E.fl xs = _
  rw [hE, ih]; rfl
theorem El.Own.set {α : Type} {E : El Tryz.prog α} (f : α → Value) (hE : ∀ x, E.enc x = [f x]) (hk : E.k = 1) {w : World} {B g cap n : Nat} {l : List α} (h : E.Own w B (.slice (some ⟨g, 0, none⟩) n cap) l) (i : Nat) (z : α) :
    E.Own (w.setCell ⟨g, i, none⟩ (f z)) B (.slice (some ⟨g, 0, none⟩) n cap) (l.set i z) := by
  obtain ⟨h0, h⟩ := h
  refine ⟨by rw [E.fl_len], ?_⟩
  rcases h with ⟨h1, _⟩ | ⟨g', cap', cur, h1, hb, hg, hn, hm, hs, ht⟩
  · cases h1
  · simp only [Value.slice.injEq, Option.some.injEq, Addr.mk.injEq] at h1
    obtain ⟨⟨rfl, _⟩, rfl, rfl⟩ := h1
    refine .inr ⟨g, cap, cur.setIfInBounds i (f z), by rw [List.length_set], hb, ?_, by rw [List.length_set]; exact hn, hm, by simpa using hs, ?_⟩
    · simp only [World.setCell, Array.getElem?_modify]
      rw [hg]
      simp
    · rw [hk, fl_map E f hE] at ht
      rw [hk, fl_map E f hE, List.length_set, Array.toList_setIfInBounds, List.take_set, ht, List.map_set]
theorem El.Own.at1 {α : Type} {E : El Tryz.prog α} (f : α → Value) (hE : ∀ x, E.enc x = [f x]) (hk : E.k = 1) {w : World} {B g cap n : Nat} {l : List α} (h : E.Own w B (.slice (some ⟨g, 0, none⟩) n cap) l) (i : Nat) (z : α) (hi : l[i]? = some z) :
    w.cell? ⟨g, i, none⟩ = some (f z) ∧ w.frozen? ⟨g, i, none⟩ = false := by
  have hl : i < l.length := by
    rcases Nat.lt_or_ge i l.length with h | h
    · exact h
    · rw [List.getElem?_eq_none h] at hi; cases hi
  obtain ⟨h1, h2, _⟩ := h.cell i (by rw [hk]; omega)
  refine ⟨?_, h2⟩
  rw [h1, fl_map E f hE]
  simp [hi]
theorem int_at {w : World} {a : Option Addr} {n c : Nat} {xs : List Int} (h : intE.Rd w (.slice a n c) xs) (i : Nat) (p : Int) (hp : xs[i]? = some p) : ∃ b off, a = some ⟨b, off, none⟩ ∧ w.cell? ⟨b, off + i, none⟩ = some (.int .i64 p) := by
 obtain ⟨b, off, h1, h2⟩ := h.at i p hp
 refine ⟨b, off, h1, ?_⟩
 have := h2 0 (by show 0 < 1; omega)
 simpa [intE] using this
theorem made_ints (w : World) (n : Nat) (hn : n ≤ 100000) : ∃ w', (Instr.makeSlice 40 (.int .i64 (n : Int)) (.int .i64 (n : Int))).run Tryz.prog w = .ok (.slice (some ⟨w.heap.size, 0, none⟩) n n) w' ∧
  intE.Own w' w.heap.size (.slice (some ⟨w.heap.size, 0, none⟩) n n) (List.replicate n 0) ∧ Below w.heap.size w w' ∧ w.heap.size < w'.heap.size := by
 obtain ⟨i, hi, he⟩ := Option.map_eq_some_iff.1 intE.info
 have e1 : i.zero = some (.int .i64 0) := congrArg Prod.fst he
 have e2 : i.size = 1 := congrArg (fun p => p.2.1) he
 have e3 : i.bytes = 8 := congrArg (fun p => p.2.2) he
 obtain ⟨w', h1, h2, h3⟩ := run_make_full (P := Tryz.prog) w w.heap.size 40 3 i (.int .i64 0) 1 Tryz.underlying40 hi e1 e2 .i64 .i64 n (by rw [e3]; omega) (by unfold maxLen; omega) (Nat.le_refl _)
 have ho : intE.Own w' w.heap.size (.slice (some ⟨w.heap.size, 0, none⟩) n n) (List.replicate n 0) := by
  unfold El.Own
  rw [fl_map intE (Value.int .i64) (fun _ => rfl), List.length_replicate, show (List.replicate n (0 : Int)).map (Value.int .i64) = (madeCells #[Value.int .i64 0] (n * 1)).toList by rw [toList_madeCells_one, Nat.mul_one, List.map_replicate]]
  exact h2
 refine ⟨w', h1, ho, (Below.refl _ _).grown h3 (Nat.le_refl _) (by simp), ?_⟩
 exact ho.lt w.heap.size rfl
theorem own_set_other {α : Type} {E : El Tryz.prog α} {w : World} {B g i : Nat} {v u : Value} {xs : List α} (h : E.Own w B v xs) (hne : v.ownBlock ≠ some g) : E.Own (w.setCell ⟨g, i, none⟩ u) B v xs := by
  obtain ⟨h0, h⟩ := h
  refine ⟨h0, ?_⟩
  rcases h with h | ⟨g', cap, cur, h1, h2, h3, h4⟩
  · exact .inl h
  · refine .inr ⟨g', cap, cur, h1, h2, ?_, h4⟩
    rw [Below.heap_setCell _ _ _ _ (fun e => hne (by rw [h1, e]; rfl))]
    exact h3
theorem own_stay {α : Type} {E : El Tryz.prog α} {w w' : World} {B : Nat} {v : Value} {xs : List α} (h : E.Own w B v xs) (hs : ∀ g, v.ownBlock = some g → g < w.heap.size → w'.heap[g]? = w.heap[g]?) : E.Own w' B v xs := by
  obtain ⟨h0, h⟩ := h
  refine ⟨h0, ?_⟩
  rcases h with h | ⟨g, cap, cur, h1, h2, h3, h4⟩
  · exact .inl h
  · refine .inr ⟨g, cap, cur, h1, h2, ?_, h4⟩
    rw [hs g (by rw [h1]; rfl) (heap_lt h3)]; exact h3
theorem own_cells {α : Type} {E : El Tryz.prog α} {w : World} {B : Nat} {v : Value} {xs : List α} (h : E.Own w B v xs) (g : Nat) (hg : v.ownBlock = some g) : ∃ cur, w.heap[g]? = some (.cells cur E.e) ∧ B ≤ g := by
  obtain ⟨h0, h⟩ := h
  rcases h with ⟨rfl, _⟩ | ⟨g', cap, cur, rfl, h2, h3, _⟩
  · cases hg
  · simp [Value.ownBlock] at hg
    subst hg
    exact ⟨cur, h3, h2⟩
theorem own_chg {α : Type} {E : El Tryz.prog α} {w w' : World} {B : Nat} {v : Value} {xs : List α} (h : E.Own w B v xs) (hs : ∀ g cur, v.ownBlock = some g → w.heap[g]? = some (.cells cur E.e) → w'.heap[g]? = w.heap[g]?) : E.Own w' B v xs :=
 own_stay h fun g hg _ => by
  obtain ⟨cur, hc, _⟩ := own_cells h g hg
  exact hs g cur hg hc
theorem own_type {α : Type} {E : El Tryz.prog α} {w : World} {B : Nat} {v : Value} {xs : List α} (h : E.Own w B v xs) (g : Nat) (hg : v.ownBlock = some g) : ∃ cur, w.heap[g]? = some (.cells cur E.e) := by
  rcases h.2 with ⟨rfl, _⟩ | ⟨g', cap, cur, rfl, hb, hh, _⟩
  · cases hg
  · simp [Value.ownBlock] at hg
    subst hg
    exact ⟨cur, hh⟩
theorem zown_ne {α : Type} {E : El Tryz.prog α} {w : World} {B g : Nat} {v : Value} {xs : List α} (h : E.Own w B v xs) {C : Array Value} {t : TypeId} (hg : w.heap[g]? = some (.cells C t)) (ht : t ≠ E.e) : v.ownBlock ≠ some g := fun e => by
 obtain ⟨cur, hc⟩ := own_type h g e
 rw [hg] at hc
 simp only [Option.some.injEq, Obj.cells.injEq] at hc
 exact ht hc.2.1
theorem El.wpB {P : Program} {α : Type} (E : El P α) {w : World} {B : Nat} (hB : B ≤ w.heap.size) {ops : Array Oper} {rest : List Oper} {o : Oper} {a : Act} {Q : Exit → Act → World → Prop} (hwant : Region.wanted o (yielded ops a.tmps) = true) (s x : Operand)
  (ho : o.op = .call { callee := .builtin .append, args := #[s, x], argTypes := #[E.t, E.t] }) (v u : Value) (hs : a.eval s = v) (hx : a.eval x = u)
  (xs ys : List α) (hown : E.Own w B v xs) (hu : E.Rd w u ys) (hn : xs.length + ys.length ≤ 1000000)
  (h : ∀ v' w', E.Own w' B v' (xs ++ ys) → w.grownBy w' v.ownBlock → (v'.ownBlock = v.ownBlock ∨ v'.ownBlock = some w.heap.size) → wpList P ops Q rest (a.put o.dst v') w') : wpList P ops Q (o :: rest) a w := by
 obtain ⟨v', w', hr, h2, h3, h4⟩ := E.run hown hB hu hn o.type
 refine wpList_step fun K hK => ?_
 rw [if_pos hwant]
 unfold Oper.wp execOp
 simp only [ho, resolve, invoke, builtin, Sem.run_bind, Sem.run_pure, Result.andThen_ok, List.map_toArray, List.map_cons, List.map_nil, hs, hx, hr]
 exact hK _ _ (h v' w' h2 h3 h4)
theorem El.Own.some {P : Program} {α : Type} {E : El P α} {w : World} {B : Nat} {v : Value} {xs : List α} (h : E.Own w B v xs) (hne : xs ≠ []) : ∃ g cap, v = .slice (some ⟨g, 0, none⟩) xs.length cap ∧ xs.length ≤ cap ∧ cap ≤ maxLen := by
  rcases h.2 with ⟨_, h1⟩ | ⟨g', c, cur, h1, hb, hg, hn, hmx, hs, ht⟩
  · exact absurd (List.eq_nil_of_length_eq_zero h1) hne
  · exact ⟨g', c, h1, hn, hmx⟩
theorem El.fl_set {P : Program} {α : Type} (E : El P α) (l : List α) (i j : Nat) (x z : α) (u : Value) (hx : l[i]? = some x) (hj : j < E.k) (he : E.enc z = (E.enc x).set j u) : E.fl (l.set i z) = (E.fl l).set (i * E.k + j) u := by
 induction l generalizing i with
 | nil => simp at hx
 | cons y t ih =>
  have e : ∀ (q : α) (r : List α), E.fl (q :: r) = E.enc q ++ E.fl r := fun _ _ => rfl
  cases i with
  | zero =>
   simp at hx
   subst hx
   rw [List.set_cons_zero, e, e, he, Nat.zero_mul, Nat.zero_add, List.set_append_left _ _ (by rw [E.len]; exact hj)]
  | succ i =>
   rw [List.set_cons_succ, e, e, ih i (by simpa using hx), List.set_append_right _ _ (by rw [E.len, Nat.succ_mul]; omega), E.len]
   congr 2
   rw [Nat.succ_mul]; omega
theorem own_setC {P : Program} {α : Type} {E : El P α} {w : World} {B g cap n : Nat} {l : List α} (h : E.Own w B (.slice (some ⟨g, 0, none⟩) n cap) l) {i j : Nat} {x z : α} {u : Value} (hx : l[i]? = some x) (hj : j < E.k) (he : E.enc z = (E.enc x).set j u) :
    E.Own (w.setCell ⟨g, i * E.k + j, none⟩ u) B (.slice (some ⟨g, 0, none⟩) n cap) (l.set i z) := by
  obtain ⟨h0, h⟩ := h
  refine ⟨by rw [E.fl_len], ?_⟩
  rcases h with ⟨h1, _⟩ | ⟨g', cap', cur, h1, hb, hg, hn, hm, hs, ht⟩
  · cases h1
  · simp only [Value.slice.injEq, Option.some.injEq, Addr.mk.injEq] at h1
    obtain ⟨⟨rfl, _⟩, rfl, rfl⟩ := h1
    refine .inr ⟨g, cap, cur.setIfInBounds (i * E.k + j) u, by rw [List.length_set], hb, ?_, by rw [List.length_set]; exact hn, hm, by simpa using hs, ?_⟩
    · simp only [World.setCell, Array.getElem?_modify]
      rw [hg]
      simp
    · rw [List.length_set, Array.toList_setIfInBounds, List.take_set, ht, E.fl_set l i j x z u hx hj he]
theorem set_same {α : Type} {l : List α} {i : Nat} {x : α} (h : l[i]? = some x) : l.set i x = l := by
  apply List.ext_getElem?
  intro j
  rw [List.getElem?_set]
  by_cases e : i = j
  · subst e; rw [if_pos rfl, if_pos (idx_lt h), h]
  · rw [if_neg e]
theorem set_at {α : Type} {l : List α} {i : Nat} {x y : α} (h : l[i]? = some x) : (l.set i y)[i]? = some y := by rw [List.getElem?_set, if_pos rfl, if_pos (idx_lt h)]
theorem set_off {α : Type} {l : List α} {i j : Nat} {y : α} (h : i ≠ j) : (l.set i y)[j]? = l[j]? := by rw [List.getElem?_set, if_neg h]
def loc (xs : List Int) (t : Int) : Int := if t ∈ xs then (xs.idxOf t : Int) else -1
theorem loc_yes {xs : List Int} {t : Int} {k : Nat} (h : xs[k]? = some t) (hn : ∀ i : Nat, i < k → xs[i]? ≠ some t) : loc xs t = (k : Int) := by
  have hm := List.mem_of_getElem? h
  unfold loc
  rw [if_pos hm]
  have hl := List.idxOf_lt_length_iff.2 hm
  have hg : xs[xs.idxOf t]? = some t := by rw [List.getElem?_eq_getElem hl, List.getElem_idxOf hl]
  have h1 : ¬ xs.idxOf t < k := fun h' => hn _ h' hg
  have h2 : ¬ k < xs.idxOf t := fun h' => by
    have hk := idx_lt h
    have := List.not_of_lt_findIdx (p := (· == t)) h'
    rw [List.getElem?_eq_getElem hk] at h
    have h' := Option.some.inj h
    simp [h'] at this
  omega
theorem loc_no {xs : List Int} {t : Int} (h : t ∉ xs) : loc xs t = -1 := if_neg h
theorem loc_no' {xs : List Int} {t : Int} (h : ∀ k : Nat, k < xs.length → xs[k]? ≠ some t) : loc xs t = -1 := loc_no fun hm => by
 obtain ⟨k, hk⟩ := List.getElem?_of_mem hm
 exact h k (idx_lt hk) hk
theorem loc_in {xs : List Int} {t : Int} (h : t ∈ xs) : loc xs t = (xs.idxOf t : Int) ∧ xs.idxOf t < xs.length := ⟨if_pos h, List.idxOf_lt_length_iff.2 h⟩
theorem loc_at {xs : List Int} {t : Int} (h : loc xs t ≠ -1) : ∃ k : Nat, loc xs t = (k : Int) ∧ xs[k]? = some t := by
  by_cases hm : t ∈ xs
  · exact ⟨_, (loc_in hm).1, by rw [List.getElem?_eq_getElem (loc_in hm).2, List.getElem_idxOf (loc_in hm).2]⟩
  · exact absurd (loc_no hm) h
structure Dv where
 fr : Int
 en : Int
 tt : Int
 sq : Int
 ev : Bool
 dn : Bool
deriving DecidableEq, Inhabited
structure Mr where
 ts : List Int
 ds : List Dv
structure Nt where
 kind : Int
 a : Int
 b : Int
 c : Int
def isT (t : Int) : Bool := decide (1 ≤ t ∧ t ≤ 30)
def isQ (q : Int) : Bool := decide (0 ≤ q ∧ q ≤ 65535)
def comes (n : Int) (D : Dv) : Bool := decide (D.tt ≠ 0) && decide (D.en = n)
def takes (t : Int) (D : Dv) : Bool := decide (D.tt = t)
def downF : Nat → List Dv → List Int
 | _, [] => []
 | i, D :: l => if D.dn then ((i : Int) + 1) :: downF (i + 1) l else downF (i + 1) l
namespace Mr
variable (S : Mr)
def isN (n : Int) : Bool := decide (0 ≤ n ∧ n < S.ts.length)
def isD (d : Int) : Bool := decide (1 ≤ d ∧ d ≤ S.ds.length)
def whr (t : Int) : Int := if isT t = true then loc S.ts t else -1
def att (n : Int) : Int := if S.isN n = true then (S.ts[n.toNat]?).getD 0 else 0
def dev (d : Int) : Dv := (S.ds[(d - 1).toNat]?).getD default
def tak (n : Int) : Bool := decide (S.att n ≠ 0) || S.ds.any (comes n)
def way (t : Int) : Bool := S.ds.any (takes t)
def told (d : Int) : Int × Int × Bool := if S.isD d = true ∧ (S.dev d).tt ≠ 0 then ((S.dev d).tt, (S.dev d).sq, true) else (0, 0, false)
def last (d : Int) : Int × Bool := if S.isD d = true then ((S.dev d).sq, (S.dev d).ev) else (0, false)
def down : List Int := downF 0 S.ds
def setD (d : Int) (D : Dv) : Mr := { S with ds := S.ds.set (d - 1).toNat D }
def put (t n : Int) : Int × Mr := if (isT t && S.isN n) = false then (1, S) else if S.whr t ≠ -1 then (2, S) else if S.tak n = true then (100, S) else (0, { S with ts := S.ts.set n.toNat t })
def snd (d t q : Int) : Int × Mr := if (S.isD d && isT t && isQ q) = false then (1, S) else if ((S.dev d).dn || decide ((S.dev d).tt ≠ 0)) = true then (140, S) else if (decide (S.att (S.dev d).fr ≠ t) || S.way t) = true then (160, S) else if S.tak (S.dev d).en = true then (100, S) else (0, S.setD d { S.dev d with tt := t, sq := q, ev := true })
def mov (d t : Int) : Int × Mr := if (S.isD d && isT t) = false then (1, S) else if (S.dev d).tt = 0 then (4, S) else if (S.dev d).tt ≠ t then (160, S) else (0, ⟨(S.ts.set (S.dev d).fr.toNat 0).set (S.dev d).en.toNat t, S.ds.set (d - 1).toNat { S.dev d with tt := 0 }⟩)
def drp (d : Int) : Int × Mr := if S.isD d = false then (1, S) else if (S.dev d).tt = 0 then (4, S) else (0, S.setD d { S.dev d with tt := 0 })
def msk (d : Int) (b : Bool) : Int × Mr := if S.isD d = false then (1, S) else (0, S.setD d { S.dev d with dn := b })
def app (x : Nt) : Int × Mr := if x.kind = 1 then S.put x.a x.b else if x.kind = 4 then S.snd x.a x.b x.c else if x.kind = 5 then S.mov x.a x.b else if x.kind = 7 then S.drp x.a else if x.kind = 8 then S.msk x.a (decide (x.b = 1)) else (23, S)
end Mr
def ends (D : Dv) : Int × Int := (D.fr, D.en)
structure Mr.Ok (S : Mr) (n : Nat) (es : List (Int × Int)) : Prop where
 ln : S.ts.length = n
 n40 : n ≤ 40
 le : S.ds.map ends = es
 m120 : es.length ≤ 120
 he : ∀ e ∈ es, (0 ≤ e.1 ∧ e.1 < n) ∧ (0 ≤ e.2 ∧ e.2 < n) ∧ e.1 ≠ e.2
 rg : ∀ x ∈ S.ts, 0 ≤ x ∧ x ≤ 30
 one : ∀ (i j : Nat) (x : Int), x ≠ 0 → S.ts[i]? = some x → S.ts[j]? = some x → i = j
 td : ∀ D ∈ S.ds, D.tt ≠ 0 → S.att D.fr = D.tt ∧ S.att D.en = 0 ∧ D.ev = true
 tw : ∀ (i j : Nat) (D E : Dv), S.ds[i]? = some D → S.ds[j]? = some E → i ≠ j → D.tt ≠ 0 → E.tt ≠ 0 → D.tt ≠ E.tt ∧ D.en ≠ E.en
 lz : ∀ D ∈ S.ds, D.ev = false → D.sq = 0
theorem Mr.isD_iff {S : Mr} {d : Int} : S.isD d = true ↔ 1 ≤ d ∧ d ≤ S.ds.length := by unfold Mr.isD; exact decide_eq_true_iff
theorem Mr.isN_iff {S : Mr} {d : Int} : S.isN d = true ↔ 0 ≤ d ∧ d < S.ts.length := by unfold Mr.isN; exact decide_eq_true_iff
theorem isT_iff {t : Int} : isT t = true ↔ 1 ≤ t ∧ t ≤ 30 := by unfold isT; exact decide_eq_true_iff
theorem isQ_iff {t : Int} : isQ t = true ↔ 0 ≤ t ∧ t ≤ 65535 := by unfold isQ; exact decide_eq_true_iff
theorem Mr.dev_at {S : Mr} {d : Int} (h : S.isD d = true) : S.ds[(d - 1).toNat]? = some (S.dev d) ∧ S.dev d ∈ S.ds := by
 have h' := Mr.isD_iff.1 h
 have hl : (d - 1).toNat < S.ds.length := by omega
 have e : S.ds[(d - 1).toNat]? = some (S.dev d) := by unfold Mr.dev; rw [List.getElem?_eq_getElem hl]; rfl
 exact ⟨e, List.mem_of_getElem? e⟩
theorem Mr.dev_nat {S : Mr} {k : Nat} {D : Dv} (h : S.ds[k]? = some D) : S.dev ((k : Int) + 1) = D ∧ S.isD ((k : Int) + 1) = true := by
 have hl := idx_lt h
 refine ⟨?_, Mr.isD_iff.2 (by omega)⟩
 unfold Mr.dev
 rw [show ((k : Int) + 1 - 1).toNat = k by omega, h]; rfl
theorem Mr.att_at {S : Mr} {n : Int} (h : S.isN n = true) : S.ts[n.toNat]? = some (S.att n) := by
 have h' := Mr.isN_iff.1 h
 have hl : n.toNat < S.ts.length := by omega
 unfold Mr.att
 rw [if_pos h, List.getElem?_eq_getElem hl]; rfl
theorem Mr.att_nat {S : Mr} {k : Nat} {x : Int} (h : S.ts[k]? = some x) : S.att (k : Int) = x := by
 have hl := idx_lt h
 unfold Mr.att
 rw [if_pos (Mr.isN_iff.2 (by omega)), show ((k : Int)).toNat = k by omega, h]; rfl
theorem Mr.att_out {S : Mr} {n : Int} (h : S.isN n = false) : S.att n = 0 := by
 unfold Mr.att; rw [if_neg (by rw [h]; simp)]
theorem att_set {S : Mr} {ds : List Dv} {n : Int} (hn : S.isN n = true) (x m : Int) : Mr.att ⟨S.ts.set n.toNat x, ds⟩ m = if m = n then x else S.att m := by
  have h' := Mr.isN_iff.1 hn
  have hN : ∀ m, Mr.isN ⟨S.ts.set n.toNat x, ds⟩ m = S.isN m := fun m => by unfold Mr.isN; simp only [List.length_set]
  by_cases e : m = n
  · subst e
    rw [if_pos rfl]
    unfold Mr.att
    rw [hN, if_pos hn, List.getElem?_set, if_pos rfl, if_pos (by omega)]; rfl
  · rw [if_neg e]
    unfold Mr.att
    rw [hN]
    by_cases hm : S.isN m = true
    · rw [if_pos hm, if_pos hm]
      have := Mr.isN_iff.1 hm
      rw [List.getElem?_set, if_neg (by omega)]
    · rw [if_neg hm, if_neg hm]
section
variable {S : Mr} {n : Nat} {es : List (Int × Int)} (H : S.Ok n es)
include H
theorem Mr.Ok.len : S.ds.length = es.length := by rw [← H.le, List.length_map]
theorem Mr.Ok.ins {D : Dv} (h : D ∈ S.ds) : S.isN D.fr = true ∧ S.isN D.en = true ∧ D.fr ≠ D.en := by
 have := H.he (ends D) (by rw [← H.le]; exact List.mem_map_of_mem h)
 have hl := H.ln
 exact ⟨Mr.isN_iff.2 (by have := this.1; simp only [ends] at this; omega), Mr.isN_iff.2 (by have := this.2.1; simp only [ends] at this; omega), this.2.2⟩
theorem Mr.Ok.edge {d : Int} (h : S.isD d = true) : es[(d - 1).toNat]? = some ((S.dev d).fr, (S.dev d).en) := by
 rw [← H.le, List.getElem?_map, (Mr.dev_at h).1]; rfl
theorem Mr.Ok.setD {d : Int} (hd : S.isD d = true) (D : Dv) (h0 : ends D = ends (S.dev d)) (h1 : D.tt ≠ 0 → S.att D.fr = D.tt ∧ S.att D.en = 0 ∧ D.ev = true) (h2 : D.ev = false → D.sq = 0)
    (h3 : D.tt ≠ 0 → ∀ (j : Nat) (E : Dv), S.ds[j]? = some E → j ≠ (d - 1).toNat → E.tt ≠ 0 → D.tt ≠ E.tt ∧ D.en ≠ E.en) : (S.setD d D).Ok n es := by
  have hd' := (Mr.dev_at hd).1
  have hm : ∀ E ∈ (S.setD d D).ds, E = D ∨ E ∈ S.ds := fun E hE => by
    rcases List.mem_or_eq_of_mem_set hE with q | q
    · exact .inr q
    · exact .inl q
  have hg : ∀ (i : Nat) (E : Dv), (S.setD d D).ds[i]? = some E → (i = (d - 1).toNat ∧ E = D) ∨ (i ≠ (d - 1).toNat ∧ S.ds[i]? = some E) := fun i E hE => by
    by_cases e : (d - 1).toNat = i
    · subst e
      refine .inl ⟨rfl, ?_⟩
      have := set_at (y := D) hd'
      have hE' : (S.ds.set (d - 1).toNat D)[(d - 1).toNat]? = some E := hE
      rw [this] at hE'
      exact (Option.some.inj hE').symm
    · exact .inr ⟨fun q => e q.symm, by rw [← hE]; exact (set_off e).symm⟩
  refine ⟨H.ln, H.n40, ?_, H.m120, H.he, H.rg, H.one, ?_, ?_, ?_⟩
  · show (S.ds.set _ D).map ends = es
    rw [List.map_set, h0, set_same (by rw [List.getElem?_map, hd']; rfl), H.le]
  · intro E hE hne
    rcases hm E hE with rfl | q
    · exact h1 hne
    · exact H.td E q hne
  · intro i j A B hA hB hij ha hb
    rcases hg i A hA with ⟨e1, rfl⟩ | ⟨e1, q1⟩ <;> rcases hg j B hB with ⟨e2, rfl⟩ | ⟨e2, q2⟩
    · omega
    · exact h3 ha j B q2 e2 hb
    · have := h3 hb i A q1 e1 ha
      exact ⟨this.1.symm, this.2.symm⟩
    · exact H.tw i j A B q1 q2 hij ha hb
  · intro E hE hne
    rcases hm E hE with rfl | q
    · exact h2 hne
    · exact H.lz E q hne
theorem Mr.Ok.msk (d : Int) (b : Bool) : (S.msk d b).2.Ok n es := by
  unfold Mr.msk
  by_cases hd : S.isD d = true
  · rw [if_neg (by rw [hd]; simp)]
    have hm := (Mr.dev_at hd).2
    have k1 := H.td _ hm
    have k2 := H.lz _ hm
    exact H.setD hd _ rfl (fun h => k1 h) (fun h => k2 h) (fun hne j E hE hj he => by
      have := H.tw _ j _ E (Mr.dev_at hd).1 hE (fun q => hj q.symm) hne he
      exact this)
  · rw [if_pos (by simpa using hd)]; exact H
theorem Mr.Ok.drp (d : Int) : (S.drp d).2.Ok n es := by
  unfold Mr.drp
  by_cases hd : S.isD d = true
  · rw [if_neg (by rw [hd]; simp)]
    by_cases h0 : (S.dev d).tt = 0
    · rw [if_pos h0]; exact H
    · rw [if_neg h0]
      have k2 := H.lz _ (Mr.dev_at hd).2
      exact H.setD hd _ rfl (fun h => absurd rfl h) (fun h => k2 h) (fun h => absurd rfl h)
  · rw [if_pos (by simpa using hd)]; exact H
theorem Mr.Ok.snd (d t q : Int) : (S.snd d t q).2.Ok n es := by
  unfold Mr.snd
  by_cases h1 : (S.isD d && isT t && isQ q) = false
  · rw [if_pos h1]; exact H
  rw [if_neg h1]
  by_cases h2 : ((S.dev d).dn || decide ((S.dev d).tt ≠ 0)) = true
  · rw [if_pos h2]; exact H
  rw [if_neg h2]
  by_cases h3 : (decide (S.att (S.dev d).fr ≠ t) || S.way t) = true
  · rw [if_pos h3]; exact H
  rw [if_neg h3]
  by_cases h4 : S.tak (S.dev d).en = true
  · rw [if_pos h4]; exact H
  rw [if_neg h4]
  simp only [Bool.not_eq_false, Bool.and_eq_true] at h1
  simp only [Bool.or_eq_true, decide_eq_true_eq, not_or, Decidable.not_not] at h3
  simp only [Mr.tak, Bool.or_eq_true, decide_eq_true_eq, not_or, Decidable.not_not] at h4
  have hw : ∀ E ∈ S.ds, E.tt ≠ t := fun E hE q => h3.2 (List.any_eq_true.2 ⟨E, hE, by unfold takes; exact decide_eq_true q⟩)
  have hc : ∀ E ∈ S.ds, E.tt ≠ 0 → E.en ≠ (S.dev d).en := fun E hE h q => h4.2 (List.any_eq_true.2 ⟨E, hE, by simp [comes, h, q]⟩)
  refine H.setD h1.1.1 _ rfl (fun _ => ⟨h3.1, h4.1, rfl⟩) (fun h => by cases h) (fun _ j E hE _ he => ?_)
  have hm := List.mem_of_getElem? hE
  exact ⟨(hw E hm).symm, (hc E hm he).symm⟩
theorem Mr.Ok.put (t m : Int) : (S.put t m).2.Ok n es := by
  unfold Mr.put
  by_cases h1 : (isT t && S.isN m) = false
  · rw [if_pos h1]; exact H
  rw [if_neg h1]
  by_cases h2 : S.whr t ≠ -1
  · rw [if_pos h2]; exact H
  rw [if_neg h2]
  by_cases h3 : S.tak m = true
  · rw [if_pos h3]; exact H
  rw [if_neg h3]
  simp only [Bool.not_eq_false, Bool.and_eq_true] at h1
  have hT := isT_iff.1 h1.1
  have hN := Mr.isN_iff.1 h1.2
  simp only [Mr.tak, Bool.or_eq_true, decide_eq_true_eq, not_or, Decidable.not_not] at h3
  have hno : t ∉ S.ts := fun q => h2 (by unfold Mr.whr; rw [if_pos h1.1, (loc_in q).1]; omega)
  have hc : ∀ E ∈ S.ds, E.tt ≠ 0 → E.en ≠ m := fun E hE h q => h3.2 (List.any_eq_true.2 ⟨E, hE, by simp [comes, h, q]⟩)
  have hg : ∀ (i : Nat) (x : Int), (S.ts.set m.toNat t)[i]? = some x → (i = m.toNat ∧ x = t) ∨ S.ts[i]? = some x := fun i x hx => by
    by_cases e : m.toNat = i
    · subst e
      rw [List.getElem?_set, if_pos rfl, if_pos (by omega)] at hx
      exact .inl ⟨rfl, (Option.some.inj hx).symm⟩
    · rw [set_off e] at hx; exact .inr hx
  refine ⟨by show (S.ts.set _ _).length = n; rw [List.length_set]; exact H.ln, H.n40, H.le, H.m120, H.he, ?_, ?_, ?_, H.tw, H.lz⟩
  · intro x hx
    rcases List.mem_or_eq_of_mem_set hx with q | q
    · exact H.rg x q
    · omega
  · intro i j x hx hi hj
    rcases hg i x hi with ⟨e1, e2⟩ | q1 <;> rcases hg j x hj with ⟨e3, e4⟩ | q2
    · omega
    · subst e2; exact absurd (List.mem_of_getElem? q2) hno
    · subst e4; exact absurd (List.mem_of_getElem? q1) hno
    · exact H.one i j x hx q1 q2
  · intro D hD hne
    have := H.td D hD hne
    rw [att_set h1.2, att_set h1.2, if_neg (fun q => by rw [q, h3.1] at this; exact hne this.1.symm), if_neg (hc D hD hne)]
    exact this
theorem Mr.Ok.mov (d t : Int) : (S.mov d t).2.Ok n es := by
  unfold Mr.mov
  by_cases h1 : (S.isD d && isT t) = false
  · rw [if_pos h1]; exact H
  rw [if_neg h1]
  by_cases h2 : (S.dev d).tt = 0
  · rw [if_pos h2]; exact H
  rw [if_neg h2]
  by_cases h3 : (S.dev d).tt ≠ t
  · rw [if_pos h3]; exact H
  rw [if_neg h3]
  simp only [Bool.not_eq_false, Bool.and_eq_true] at h1
  have h3' : (S.dev d).tt = t := by simpa using h3
  have hT := isT_iff.1 h1.2
  have ⟨hd', hm⟩ := Mr.dev_at h1.1
  have ⟨f1, f2, f3⟩ := H.ins hm
  have ⟨t1, t2, t3⟩ := H.td _ hm h2
  have k2 := H.lz _ hm
  have H1 : (S.setD d { S.dev d with tt := 0 }).Ok n es := H.setD h1.1 _ rfl (fun h => absurd rfl h) (fun h => k2 h) (fun h => absurd rfl h)
  have N1 := Mr.isN_iff.1 f1
  have N2 := Mr.isN_iff.1 f2
  have f2' : Mr.isN ⟨S.ts.set (S.dev d).fr.toNat 0, S.ds⟩ (S.dev d).en = true := by rw [Mr.isN_iff]; simpa using N2
  have hat : ∀ (ds : List Dv) m, Mr.att ⟨(S.ts.set (S.dev d).fr.toNat 0).set (S.dev d).en.toNat t, ds⟩ m = if m = (S.dev d).en then t else if m = (S.dev d).fr then 0 else S.att m := fun ds m => by
    have := att_set (ds := ds) f2' t m
    rw [this]
    by_cases e : m = (S.dev d).en
    · rw [if_pos e, if_pos e]
    · rw [if_neg e, if_neg e]; exact att_set f1 0 m
  have hg : ∀ (i : Nat) (x : Int), x ≠ 0 → ((S.ts.set (S.dev d).fr.toNat 0).set (S.dev d).en.toNat t)[i]? = some x → (i = (S.dev d).en.toNat ∧ x = t) ∨ (i ≠ (S.dev d).fr.toNat ∧ S.ts[i]? = some x) := fun i x h0 hx => by
    by_cases e : (S.dev d).en.toNat = i
    · subst e
      rw [List.getElem?_set, if_pos rfl, if_pos (by rw [List.length_set]; omega)] at hx
      exact .inl ⟨rfl, (Option.some.inj hx).symm⟩
    · rw [set_off e] at hx
      by_cases e2 : (S.dev d).fr.toNat = i
      · subst e2
        rw [List.getElem?_set, if_pos rfl, if_pos (by omega)] at hx
        exact absurd (Option.some.inj hx).symm h0
      · rw [set_off e2] at hx; exact .inr ⟨fun q => e2 q.symm, hx⟩
  have hfr : S.ts[(S.dev d).fr.toNat]? = some t := by rw [Mr.att_at f1, t1, h3']
  refine ⟨by show ((S.ts.set _ _).set _ _).length = n; rw [List.length_set, List.length_set]; exact H.ln, H.n40, H1.le, H.m120, H.he, ?_, ?_, ?_, H1.tw, H1.lz⟩
  · intro x hx
    rcases List.mem_or_eq_of_mem_set hx with q | q
    · rcases List.mem_or_eq_of_mem_set q with q | q
      · exact H.rg x q
      · omega
    · omega
  · intro i j x hx hi hj
    rcases hg i x hx hi with ⟨e1, e2⟩ | ⟨n1, q1⟩ <;> rcases hg j x hx hj with ⟨e3, e4⟩ | ⟨n2, q2⟩
    · omega
    · subst e2; exact absurd (H.one j _ x hx q2 hfr) n2
    · subst e4; exact absurd (H.one i _ x hx q1 hfr) n1
    · exact H.one i j x hx q1 q2
  · intro D hD hne
    obtain ⟨j, hj⟩ := List.getElem?_of_mem hD
    by_cases e : (d - 1).toNat = j
    · subst e
      have : (S.ds.set (d - 1).toNat { S.dev d with tt := 0 })[(d - 1).toNat]? = some D := hj
      rw [set_at hd'] at this
      have := Option.some.inj this
      subst this
      exact absurd rfl hne
    · have hj' : S.ds[j]? = some D := by rw [← hj]; exact (set_off e).symm
      have ⟨u1, u2, u3⟩ := H.td D (List.mem_of_getElem? hj') hne
      have ⟨w1, w2⟩ := H.tw _ j _ D hd' hj' e h2 hne
      rw [hat, hat, if_neg (fun q => by rw [q, t2] at u1; exact hne u1.symm), if_neg (fun q => by rw [q, t1] at u1; exact w1 u1), if_neg (fun q => w2 q.symm), if_neg (fun q => by rw [q, t1] at u2; exact h2 u2)]
      exact ⟨u1, u2, u3⟩
end
theorem whr_at {S : Mr} {t : Int} (ht : isT t = true) (h : S.whr t ≠ -1) : S.isN (S.whr t) = true ∧ S.att (S.whr t) = t := by
 unfold Mr.whr at h ⊢
 rw [if_pos ht] at h ⊢
 obtain ⟨k, h1, h2⟩ := loc_at h
 rw [h1]
 exact ⟨Mr.isN_iff.2 (by have := idx_lt h2; omega), Mr.att_nat h2⟩
theorem put_cases (S : Mr) (t x : Int) : ((S.put t x).1 ≠ 0 ∧ (S.put t x).2 = S) ∨ ((S.put t x).1 = 0 ∧ (S.put t x).2 = { S with ts := S.ts.set x.toNat t } ∧ isT t = true ∧ S.isN x = true ∧ S.whr t = -1 ∧ S.tak x = false) := by
  unfold Mr.put
  by_cases h1 : (isT t && S.isN x) = false
  · rw [if_pos h1]; exact .inl ⟨by simp, rfl⟩
  rw [if_neg h1]
  by_cases h2 : S.whr t ≠ -1
  · rw [if_pos h2]; exact .inl ⟨by simp, rfl⟩
  rw [if_neg h2]
  by_cases h3 : S.tak x = true
  · rw [if_pos h3]; exact .inl ⟨by simp, rfl⟩
  rw [if_neg h3]
  simp only [Bool.not_eq_false, Bool.and_eq_true] at h1
  exact .inr ⟨rfl, rfl, h1.1, h1.2, by simpa using h2, by simpa using h3⟩
theorem snd_cases (S : Mr) (d t q : Int) : ((S.snd d t q).1 ≠ 0 ∧ (S.snd d t q).2 = S) ∨ ((S.snd d t q).1 = 0 ∧ (S.snd d t q).2 = S.setD d { S.dev d with tt := t, sq := q, ev := true } ∧ S.isD d = true ∧ isT t = true ∧ isQ q = true ∧ (S.dev d).dn = false ∧ (S.dev d).tt = 0 ∧ S.att (S.dev d).fr = t ∧ S.way t = false ∧ S.tak (S.dev d).en = false) := by
  unfold Mr.snd
  by_cases h1 : (S.isD d && isT t && isQ q) = false
  · rw [if_pos h1]; exact .inl ⟨by simp, rfl⟩
  rw [if_neg h1]
  by_cases h2 : ((S.dev d).dn || decide ((S.dev d).tt ≠ 0)) = true
  · rw [if_pos h2]; exact .inl ⟨by simp, rfl⟩
  rw [if_neg h2]
  by_cases h3 : (decide (S.att (S.dev d).fr ≠ t) || S.way t) = true
  · rw [if_pos h3]; exact .inl ⟨by simp, rfl⟩
  rw [if_neg h3]
  by_cases h4 : S.tak (S.dev d).en = true
  · rw [if_pos h4]; exact .inl ⟨by simp, rfl⟩
  rw [if_neg h4]
  simp only [Bool.not_eq_false, Bool.and_eq_true] at h1
  simp only [Bool.or_eq_true, decide_eq_true_eq, not_or, Decidable.not_not, Bool.not_eq_true] at h2 h3
  exact .inr ⟨rfl, rfl, h1.1.1, h1.1.2, h1.2, h2.1, h2.2, h3.1, h3.2, by simpa using h4⟩
theorem mov_cases (S : Mr) (d t : Int) : ((S.mov d t).1 ≠ 0 ∧ (S.mov d t).2 = S) ∨ ((S.mov d t).1 = 0 ∧ (S.mov d t).2 = ⟨(S.ts.set (S.dev d).fr.toNat 0).set (S.dev d).en.toNat t, S.ds.set (d - 1).toNat { S.dev d with tt := 0 }⟩ ∧ S.isD d = true ∧ isT t = true ∧ (S.dev d).tt = t) := by
  unfold Mr.mov
  by_cases h1 : (S.isD d && isT t) = false
  · rw [if_pos h1]; exact .inl ⟨by simp, rfl⟩
  rw [if_neg h1]
  by_cases h2 : (S.dev d).tt = 0
  · rw [if_pos h2]; exact .inl ⟨by simp, rfl⟩
  rw [if_neg h2]
  by_cases h3 : (S.dev d).tt ≠ t
  · rw [if_pos h3]; exact .inl ⟨by simp, rfl⟩
  rw [if_neg h3]
  simp only [Bool.not_eq_false, Bool.and_eq_true] at h1
  exact .inr ⟨rfl, rfl, h1.1, h1.2, by simpa using h3⟩
theorem drp_cases (S : Mr) (d : Int) : ((S.drp d).1 ≠ 0 ∧ (S.drp d).2 = S) ∨ ((S.drp d).1 = 0 ∧ (S.drp d).2 = S.setD d { S.dev d with tt := 0 } ∧ S.isD d = true ∧ (S.dev d).tt ≠ 0) := by
  unfold Mr.drp
  by_cases h1 : S.isD d = false
  · rw [if_pos h1]; exact .inl ⟨by simp, rfl⟩
  rw [if_neg h1]
  by_cases h2 : (S.dev d).tt = 0
  · rw [if_pos h2]; exact .inl ⟨by simp, rfl⟩
  rw [if_neg h2]
  exact .inr ⟨rfl, rfl, by simpa using h1, h2⟩
theorem msk_cases (S : Mr) (d : Int) (b : Bool) : ((S.msk d b).1 ≠ 0 ∧ (S.msk d b).2 = S) ∨ ((S.msk d b).1 = 0 ∧ (S.msk d b).2 = S.setD d { S.dev d with dn := b } ∧ S.isD d = true) := by
  unfold Mr.msk
  by_cases h1 : S.isD d = false
  · rw [if_pos h1]; exact .inl ⟨by simp, rfl⟩
  rw [if_neg h1]
  exact .inr ⟨rfl, rfl, by simpa using h1⟩
theorem tak_no {S : Mr} {x : Int} (h : S.tak x = false) : S.att x = 0 ∧ ∀ D ∈ S.ds, D.tt ≠ 0 → D.en ≠ x := by
 unfold Mr.tak at h
 rw [Bool.or_eq_false_iff] at h
 refine ⟨by simpa using h.1, fun D hD h0 q => ?_⟩
 have := List.any_eq_false.1 h.2 D hD
 simp [comes, h0, q] at this
open Go.RowKit
structure It where
 P : World → Prop
 f : Nat → Prop
 lt : ∀ {w : World}, P w → ∀ k, f k → k < w.heap.size
 st : ∀ {w w' : World}, P w → (∀ k, f k → w'.heap[k]? = w.heap[k]?) → P w'
structure Frm (f : Nat → Prop) (w w' : World) : Prop where
 os : w'.os = w.os
 tape : w'.tape = w.tape
 output : w'.output = w.output
 size : w.heap.size ≤ w'.heap.size
 block : ∀ k, k < w.heap.size → ¬ f k → w'.heap[k]? = w.heap[k]?
theorem Frm.refl (f : Nat → Prop) (w : World) : Frm f w w := ⟨rfl, rfl, rfl, Nat.le_refl _, fun _ _ _ => rfl⟩
theorem Frm.trans {f : Nat → Prop} {a b c : World} (x : Frm f a b) (y : Frm f b c) : Frm f a c :=
 ⟨y.os.trans x.os, y.tape.trans x.tape, y.output.trans x.output, Nat.le_trans x.size y.size, fun k hk hf => (y.block k (Nat.lt_of_lt_of_le hk x.size) hf).trans (x.block k hk hf)⟩
theorem Frm.mono {f f' : Nat → Prop} {a b : World} (x : Frm f a b) (h : ∀ k, k < a.heap.size → f k → f' k) : Frm f' a b := ⟨x.os, x.tape, x.output, x.size, fun k hk hf => x.block k hk (fun q => hf (h k hk q))⟩
theorem Frm.trans' {f f' : Nat → Prop} {a b c : World} (x : Frm f a b) (y : Frm f' b c) (h : ∀ k, k < a.heap.size → f' k → f k) : Frm f a c :=
 ⟨y.os.trans x.os, y.tape.trans x.tape, y.output.trans x.output, Nat.le_trans x.size y.size, fun k hk hf => (y.block k (Nat.lt_of_lt_of_le hk x.size) (fun q => hf (h k hk q))).trans (x.block k hk hf)⟩
theorem Frm.of_below {f : Nat → Prop} {w w' : World} (h : Below w.heap.size w w') : Frm f w w' := ⟨h.os, h.tape, h.output, h.size, fun k hk _ => h.block k hk⟩
theorem Frm.of_grown {w w' : World} {r : Option Nat} (h : w.grownBy w' r) : Frm (fun k => r = some k) w w' := ⟨h.os, h.tape, h.output, h.size, fun k hk hf => h.block k hk (fun e => hf e.symm)⟩
theorem Frm.below {f : Nat → Prop} {w0 w w' : World} {B : Nat} (x : Frm f w w') (hb : Below B w0 w) (hB : B ≤ w.heap.size) (hf : ∀ k, f k → B ≤ k) : Below B w0 w' :=
 ⟨x.os.trans hb.os, x.tape.trans hb.tape, x.output.trans hb.output, Nat.le_trans hb.size x.size, fun k hk => (x.block k (by omega) (fun q => by have := hf k q; omega)).trans (hb.block k hk)⟩
theorem Frm.set (w : World) (g i : Nat) (u : Value) : Frm (fun k => k = g) w (w.setCell ⟨g, i, none⟩ u) := ⟨rfl, rfl, rfl, by simp [World.setCell], fun k _ hk => Below.heap_setCell _ _ _ _ hk⟩
theorem below_drew (w : World) (q : Nat) : Below w.heap.size w (w.drewN q) := ⟨rfl, rfl, rfl, Nat.le_refl _, fun _ _ => rfl⟩
theorem below_new (w : World) (o : Obj) : Below w.heap.size w (w.alloc o) := (Below.refl _ _).alloc (Nat.le_refl _) o
structure Its (w0 : World) (l : List It) (w : World) : Prop where
 bel : Below w0.heap.size w0 w
 all : ∀ x ∈ l, x.P w
 ge : ∀ x ∈ l, ∀ k, x.f k → w0.heap.size ≤ k
 sep : l.Pairwise (fun x y => ∀ k, x.f k → ¬ y.f k)
theorem Its.nil (w : World) : Its w [] w := ⟨Below.refl _ _, by simp, by simp, .nil⟩
theorem Its.size {w0 w : World} {l : List It} (h : Its w0 l w) : w0.heap.size ≤ w.heap.size := h.bel.size
theorem Its.chg {w0 w w' : World} {x x' : It} {l : List It} (h : Its w0 (x :: l) w) (hp : x'.P w') (hf : ∀ k, x'.f k → x.f k ∨ w.heap.size ≤ k) (hw : Frm x.f w w') : Its w0 (x' :: l) w' := by
  have hs := List.pairwise_cons.1 h.sep
  refine ⟨hw.below h.bel h.size (h.ge x (by simp)), ?_, ?_, ?_⟩
  · intro y hy
    rcases List.mem_cons.1 hy with rfl | hy
    · exact hp
    · have hy' := h.all y (by simp [hy])
      exact y.st hy' fun k hk => hw.block k (y.lt hy' k hk) (fun q => hs.1 y hy k q hk)
  · intro y hy k hk
    rcases List.mem_cons.1 hy with rfl | hy
    · rcases hf k hk with q | q
      · exact h.ge x (by simp) k q
      · have := h.size; omega
    · exact h.ge y (by simp [hy]) k hk
  · refine List.pairwise_cons.2 ⟨fun y hy k hk hk' => ?_, hs.2⟩
    rcases hf k hk with q | q
    · exact hs.1 y hy k q hk'
    · have := y.lt (h.all y (by simp [hy])) k hk'
      omega
theorem Its.keep {w0 w w' : World} {l : List It} (h : Its w0 l w) (hb : Below w.heap.size w w') : Its w0 l w' :=
 ⟨(Frm.of_below (f := fun _ => False) hb).below h.bel h.size (fun _ q => q.elim), fun y hy => y.st (h.all y hy) fun k hk => hb.block k (y.lt (h.all y hy) k hk), h.ge, h.sep⟩
theorem Its.drew {w0 w : World} {l : List It} (h : Its w0 l w) (q : Nat) : Its w0 l (w.drewN q) := h.keep (below_drew w q)
theorem Its.alloc {w0 w : World} {l : List It} (h : Its w0 l w) (o : Obj) : Its w0 l (w.alloc o) := h.keep (below_new w o)
theorem Its.new {w0 w w' : World} {x : It} {l : List It} (h : Its w0 l w) (hp : x.P w') (hf : ∀ k, x.f k → w.heap.size ≤ k) (hb : Below w.heap.size w w') : Its w0 (x :: l) w' := by
  have h' := h.keep hb
  refine ⟨h'.bel, ?_, ?_, List.pairwise_cons.2 ⟨fun y hy k hk hk' => ?_, h.sep⟩⟩
  · intro y hy
    rcases List.mem_cons.1 hy with rfl | hy
    · exact hp
    · exact h'.all y hy
  · intro y hy k hk
    rcases List.mem_cons.1 hy with rfl | hy
    · have := hf k hk; have := h.size; omega
    · exact h.ge y hy k hk
  · have := hf k hk
    have := y.lt (h.all y hy) k hk'
    omega
theorem Its.as {w0 w : World} {x x' : It} {l : List It} (h : Its w0 (x :: l) w) (hp : x'.P w) (hf : ∀ k, x'.f k → x.f k) : Its w0 (x' :: l) w := h.chg hp (fun k hk => .inl (hf k hk)) (Frm.refl _ _)
theorem Its.tail {w0 w : World} {x : It} {l : List It} (h : Its w0 (x :: l) w) : Its w0 l w := ⟨h.bel, fun y hy => h.all y (by simp [hy]), fun y hy => h.ge y (by simp [hy]), (List.pairwise_cons.1 h.sep).2⟩
theorem Its.perm {w0 w : World} {l l' : List It} (h : Its w0 l w) (hp : l.Perm l') : Its w0 l' w :=
 ⟨h.bel, fun y hy => h.all y (hp.mem_iff.2 hy), fun y hy => h.ge y (hp.mem_iff.2 hy), (hp.pairwise_iff (fun {a b} q k hk hk' => q k hk' hk)).1 h.sep⟩
theorem Its.swap {w0 w : World} {x y : It} {l : List It} (h : Its w0 (x :: y :: l) w) : Its w0 (y :: x :: l) w := h.perm (.swap y x l)
theorem Its.rot3 {w0 w : World} {x y z : It} {l : List It} (h : Its w0 (x :: y :: z :: l) w) : Its w0 (z :: x :: y :: l) w := h.perm ((List.Perm.cons x (.swap z y l)).trans (.swap z x _))
theorem Its.rot3' {w0 w : World} {x y z : It} {l : List It} (h : Its w0 (z :: x :: y :: l) w) : Its w0 (x :: y :: z :: l) w := h.perm ((List.Perm.swap x z _).trans (.cons x (.swap y z l)))
theorem Its.rot4 {w0 w : World} {x y z t : It} {l : List It} (h : Its w0 (x :: y :: z :: t :: l) w) : Its w0 (t :: x :: y :: z :: l) w := h.perm ((List.Perm.cons x ((List.Perm.cons y (.swap t z l)).trans (.swap t y _))).trans (.swap t x _))
theorem Its.rot4' {w0 w : World} {x y z t : It} {l : List It} (h : Its w0 (t :: x :: y :: z :: l) w) : Its w0 (x :: y :: z :: t :: l) w := h.perm ((List.Perm.cons x ((List.Perm.cons y (.swap t z l)).trans (.swap t y _))).trans (.swap t x _)).symm
theorem Its.one {w0 w : World} {x : It} {l : List It} (h : Its w0 (x :: l) w) : x.P w := h.all x (by simp)
theorem Its.two {w0 w : World} {x y : It} {l : List It} (h : Its w0 (x :: y :: l) w) : y.P w := h.all y (by simp)
theorem Its.three {w0 w : World} {x y z : It} {l : List It} (h : Its w0 (x :: y :: z :: l) w) : z.P w := h.all z (by simp)
theorem Its.four {w0 w : World} {x y z t : It} {l : List It} (h : Its w0 (x :: y :: z :: t :: l) w) : t.P w := h.all t (by simp)
def It.row {α : Type} (E : El Tryz.prog α) (B : Nat) (v : Value) (xs : List α) : It where
 P w := E.Own w B v xs
 f k := v.ownBlock = some k
 lt h k hk := h.lt k hk
 st h hs := own_stay h fun g hg _ => hs g hg
abbrev It.ints (B : Nat) (v : Value) (xs : List Int) : It := .row intE B v xs
def It.box (b : Nat) (C : Array Value) (t : TypeId) : It where
 P w := w.heap[b]? = some (.cells C t)
 f k := k = b
 lt h k hk := by subst hk; exact heap_lt h
 st h hs := by rw [hs _ rfl]; exact h
theorem Its.empty {α : Type} (E : El Tryz.prog α) {w0 w : World} {l : List It} (h : Its w0 l w) : Its w0 (.row E w0.heap.size (.slice none 0 0) [] :: l) w :=
 h.new (El.Own.nil E w _) (fun k hk => by cases hk) (Below.refl _ _)
theorem Its.grow {α : Type} {E : El Tryz.prog α} {w0 w w' : World} {l : List It} {v v' : Value} {xs ys : List α} (h : Its w0 (.row E w0.heap.size v xs :: l) w) (ho : E.Own w' w0.heap.size v' ys) (hg : w.grownBy w' v.ownBlock) (hb : v'.ownBlock = v.ownBlock ∨ v'.ownBlock = some w.heap.size) : Its w0 (.row E w0.heap.size v' ys :: l) w' := by
  refine h.chg ho (fun k hk => ?_) (Frm.of_grown hg)
  rcases hb with q | q
  · exact .inl (by show v.ownBlock = some k; rw [← q]; exact hk)
  · refine .inr ?_
    have hk' : v'.ownBlock = some k := hk
    rw [q] at hk'
    cases hk'
    exact Nat.le_refl _
theorem Its.fresh {α : Type} {E : El Tryz.prog α} {w0 w w' : World} {l : List It} {v : Value} {xs : List α} (h : Its w0 l w) (ho : E.Own w' w.heap.size v xs) (hb : Below w.heap.size w w') : Its w0 (.row E w0.heap.size v xs :: l) w' :=
 h.new (ho.mono h.size) (fun k hk => ho.ge k hk) hb
open Go.RowKit
def It.grp (l : List It) : It where
 P w := (∀ x ∈ l, x.P w) ∧ l.Pairwise (fun (x y : It) => ∀ k : Nat, x.f k → ¬ y.f k)
 f k := ∃ x ∈ l, x.f k
 lt h k hk := by
  obtain ⟨x, hx, q⟩ := hk
  exact x.lt (h.1 x hx) k q
 st h hs := ⟨fun x hx => x.st (h.1 x hx) fun k hk => hs k ⟨x, hx, hk⟩, h.2⟩
def It.fact (p : Prop) : It where
 P _ := p
 f _ := False
 lt _ _ h := h.elim
 st h _ := h
theorem Its.opn {w0 w : World} {a l : List It} (h : Its w0 (.grp a :: l) w) : Its w0 (a ++ l) w := by
  have h1 := h.all (.grp a) (by simp)
  refine ⟨h.bel, fun x hx => ?_, fun x hx k hk => ?_, List.pairwise_append.2 ⟨h1.2, (List.pairwise_cons.1 h.sep).2, fun x hx y hy k hk => ?_⟩⟩
  · rcases List.mem_append.1 hx with q | q
    · exact h1.1 x q
    · exact h.all x (by simp [q])
  · rcases List.mem_append.1 hx with q | q
    · exact h.ge (.grp a) (by simp) k ⟨x, q, hk⟩
    · exact h.ge x (by simp [q]) k hk
  · exact (List.pairwise_cons.1 h.sep).1 y hy k ⟨x, hx, hk⟩
theorem Its.shut {w0 w : World} {a l : List It} (h : Its w0 (a ++ l) w) : Its w0 (.grp a :: l) w := by
  have h1 := List.pairwise_append.1 h.sep
  refine ⟨h.bel, fun x hx => ?_, fun x hx k hk => ?_, List.pairwise_cons.2 ⟨fun y hy k hk => ?_, h1.2.1⟩⟩
  · rcases List.mem_cons.1 hx with rfl | q
    · exact ⟨fun y hy => h.all y (by simp [hy]), h1.1⟩
    · exact h.all x (by simp [q])
  · rcases List.mem_cons.1 hx with rfl | q
    · obtain ⟨y, hy, q⟩ := hk
      exact h.ge y (by simp [hy]) k q
    · exact h.ge x (by simp [q]) k hk
  · obtain ⟨x, hx, q⟩ := hk
    exact h1.2.2 x hx y hy k q
def sh (x : BitVec 16) : BitVec 16 := if x.msb then (x <<< 1) ^^^ 0x1021#16 else x <<< 1
def pw : Nat → BitVec 16 → BitVec 16
 | 0, x => x
 | n + 1, x => pw n (sh x)
theorem pw_add (m n : Nat) (x : BitVec 16) : pw (m + n) x = pw n (pw m x) := by
 induction m generalizing x with
 | zero => simp [pw]
 | succ m ih => rw [Nat.add_right_comm]; simp only [pw]; exact ih _
theorem pw_succ (n : Nat) (x : BitVec 16) : pw (n + 1) x = sh (pw n x) := by
 rw [pw_add]; rfl
def hi (z : Int) : BitVec 16 := BitVec.ofInt 16 (z * 256)
def stp (c : BitVec 16) (z : Int) : BitVec 16 := pw 8 (c ^^^ hi z)
def sm (c : BitVec 16) : List Int → BitVec 16
 | [] => c
 | z :: l => sm (stp c z) l
theorem sm_append (c : BitVec 16) (l m : List Int) : sm c (l ++ m) = sm (sm c l) m := by
 induction l generalizing c with
 | nil => rfl
 | cons z l ih => exact ih _
def prf : Nat → BitVec 16 → BitVec 16 → BitVec 16
 | 0, _, _ => 0#16
 | n + 1, a, b => (if b.getLsbD 0 then a else 0#16) ^^^ prf n (sh a) (b >>> 1)
def pr (a b : BitVec 16) : BitVec 16 := prf 16 a b
open Go.ChangeShapes Go.WideShapes Go.ChangeAt Go.RowKit
def uv (x : BitVec 16) : Int := (x.toNat : Int)
theorem uv_lo (x : BitVec 16) : 0 ≤ uv x := by unfold uv; omega
theorem uv_hi (x : BitVec 16) : uv x ≤ 65535 := by unfold uv; omega
theorem ofInt_uv (x : BitVec 16) : BitVec.ofInt 16 (uv x) = x := by
 apply BitVec.eq_of_toNat_eq; unfold uv; simp
theorem wrap_nat (x : BitVec 16) : IntKind.u16.wrap (x.toNat : Int) = uv x := by
 unfold IntKind.wrap uv; simp [IntKind.bits, IntKind.signed]; omega
theorem xor_uv (x y : BitVec 16) : bits .xor .u16 (uv x) (uv y) = uv (x ^^^ y) := by
 unfold bits; simp only [IntKind.bits]; rw [ofInt_uv, ofInt_uv, wrap_nat]; rfl
theorem and_uv (x y : BitVec 16) : bits .and .u16 (uv x) (uv y) = uv (x &&& y) := by
 unfold bits; simp only [IntKind.bits]; rw [ofInt_uv, ofInt_uv, wrap_nat]; rfl
theorem xor_poly (x : BitVec 16) : bits .xor .u16 (uv x) 4129 = uv (x ^^^ 0x1021#16) := by
 rw [← xor_uv]; rfl
theorem wrap_dbl (x : BitVec 16) : IntKind.u16.wrap (uv x * 2) = uv (x <<< 1) := by
 unfold IntKind.wrap uv; simp [IntKind.bits, IntKind.signed, Nat.shiftLeft_eq]
theorem xor_hi (x : BitVec 16) (z : Int) : bits .xor .u16 (uv x) (z * 256) = uv (x ^^^ hi z) := by
 unfold bits; simp only [IntKind.bits]; rw [ofInt_uv, wrap_nat]; rfl
theorem top_bit (x : BitVec 16) : (bits .and .u16 (uv x) 32768 != 0) = x.msb := by
  rw [show (32768 : Int) = uv 0x8000#16 from rfl, and_uv]
  have e : x &&& 0x8000#16 = if x.msb then 0x8000#16 else 0#16 := by
    apply BitVec.eq_of_getLsbD_eq; intro i hi
    rw [BitVec.msb_eq_getLsbD_last]
    rw [BitVec.getLsbD_and]
    by_cases h : i = 15
    · subst h; cases x.getLsbD 15 <;> rfl
    · have hz : (0x8000#16).getLsbD i = false := by revert i; decide
      rw [hz]; cases x.getLsbD (16 - 1) <;> simp [hz]
  rw [e]; cases x.msb <;> decide
theorem big_uv (x : BitVec 16) : decide (uv x ≥ 32768) = x.msb := by
 unfold uv; rw [BitVec.msb_eq_decide]; simp; omega
theorem shift_any (x : BitVec 16) (w : World) :
    Calls Tryz.prog 232 #[.int .u16 (uv x)] w fun e w' => e = .returned (.int .u16 (uv (sh x))) ∧ w' = w := by
  cases hm : x.msb
  · have hb : (bits .and .u16 (uv x) 32768 != 0) = false := by rw [top_bit, hm]
    have hs : sh x = x <<< 1 := by simp [sh, hm]
    rw [hs]
    clear hs hm
    go_enter Tryz.func232, Tryz.ntmps232
    go_wp2
    go_ret
    rw [wrap_dbl]
    exact ⟨rfl, rfl⟩
  · have hb : (bits .and .u16 (uv x) 32768 != 0) = true := by rw [top_bit, hm]
    have hs : sh x = x <<< 1 ^^^ 0x1021#16 := by simp [sh, hm]
    rw [hs]
    clear hs hm
    go_enter Tryz.func232, Tryz.ntmps232
    go_wp2
    go_ret
    rw [wrap_dbl, xor_poly]
    exact ⟨rfl, rfl⟩
theorem step_any (x : BitVec 16) (z : Int) (h0 : 0 ≤ z) (h1 : z ≤ 255) (w : World) :
    Calls Tryz.prog 206 #[.int .u16 (uv x), .int .u8 z] w fun e w' => e = .returned (.int .u16 (uv (stp x z))) ∧ w' = w := by
  go_enter Tryz.func206, Tryz.ntmps206
  go_wp2_with fail
  rw [xor_hi]
  go_loop [0, 10] (fun t i => ∃ k : Nat, k ≤ 8 ∧ i = .int .i64 k ∧ t = .int .u16 (uv (pw k (x ^^^ hi z)))) (fun _ i => 8 - (intOf i).toNat)
  case atStart => exact ⟨0, by omega, rfl, rfl⟩
  case round =>
    obtain ⟨k, hk, rfl, rfl⟩ := hrel
    by_cases hlt : k < 8
    · go_wp2_with (go_at_call 232; refine (shift_any _ _).mono ?_; rintro e w' ⟨rfl, rfl⟩)
      go_round
      case rel => exact ⟨k + 1, by omega, by go_num, by rw [pw_succ]⟩
      case measure => simp [intOf]; omega
    · have : k = 8 := by omega
      subst this
      go_wp2
      go_ret
      exact ⟨rfl, rfl⟩
theorem rstep_any (x : BitVec 16) (z : Int) (h0 : 0 ≤ z) (h1 : z ≤ 255) (w : World) :
    Calls Tryz.prog 137 #[.int .u16 (uv x), .int .u8 z] w fun e w' => e = .returned (.int .u16 (uv (stp x z))) ∧ w' = w := by
  go_enter Tryz.func137, Tryz.ntmps137
  go_wp2_with fail
  rw [xor_hi]
  go_loop [0, 5] (fun t i => ∃ k : Nat, k ≤ 8 ∧ i = .int .i64 k ∧ t = .int .u16 (uv (pw k (x ^^^ hi z)))) (fun _ i => 8 - (intOf i).toNat)
  case atStart => exact ⟨0, by omega, rfl, rfl⟩
  case round =>
    obtain ⟨k, hk, rfl, rfl⟩ := hrel
    by_cases hlt : k < 8
    · generalize hy : pw k (x ^^^ hi z) = y
      have hn : pw (k + 1) (x ^^^ hi z) = sh y := by rw [pw_succ, hy]
      have Hn := hide hn
      clear hn hy
      have hd := big_uv y
      cases hm : y.msb
      · have hb : ¬ 32768 ≤ uv y := by rw [hm] at hd; simpa using hd
        have hs : Hid (sh y = y <<< 1) := hide (by simp [sh, hm])
        clear hd hm
        go_wp2
        go_round
        case rel => exact ⟨k + 1, by omega, by go_num, by rw [wrap_dbl, unhide Hn, unhide hs]⟩
        case measure => simp [intOf]; omega
      · have hb : 32768 ≤ uv y := by rw [hm] at hd; simpa using hd
        have hs : Hid (sh y = y <<< 1 ^^^ 0x1021#16) := hide (by simp [sh, hm])
        clear hd hm
        go_wp2
        go_round
        case rel => exact ⟨k + 1, by omega, by go_num, by rw [wrap_dbl, xor_poly, unhide Hn, unhide hs]⟩
        case measure => simp [intOf]; omega
    · have : k = 8 := by omega
      subst this
      go_wp2
      go_ret
      exact ⟨rfl, rfl⟩
open Go.ChangeShapes Go.WideShapes Go.ChangeAt Go.RowKit
theorem sm_snoc (c : BitVec 16) (l : List Int) (k : Nat) (h : k < l.length) : sm c (l.take (k + 1)) = stp (sm c (l.take k)) (l[k]?.getD 0) := by
 rw [List.take_succ_eq_append_getElem h, sm_append]
 simp [sm, h]
theorem mem_bd {l : List Int} (hr : ∀ z ∈ l, 0 ≤ z ∧ z ≤ 255) (k : Nat) (h : k < l.length) : 0 ≤ l[k]?.getD 0 ∧ l[k]?.getD 0 ≤ 255 := by
 have := hr l[k] (List.getElem_mem h); simpa [h] using this
theorem sum_nil (a : Option Addr) (cap : Nat) (w : World) :
  Calls Tryz.prog 161 #[.slice a 0 cap] w fun e w' => e = .returned (.int .u16 (uv 0xFFFF#16)) ∧ w' = w := by
 go_enter Tryz.func161, Tryz.ntmps161
 go_wp2_with fail
 go_loop [3, 8] (fun t i => i = .int .i64 0 ∧ t = .int .u16 65535) (fun _ _ => 0)
 case atStart => exact ⟨rfl, rfl⟩
 case round =>
  obtain ⟨rfl, rfl⟩ := hrel
  go_wp2
  go_ret
  exact ⟨rfl, rfl⟩
theorem sum_at (b off cap len : Nat) (l : List Int) (w : World) (hl : l.length = len) (hc : ∀ i, i < len → w.cell? ⟨b, off + i, none⟩ = some (.int .u8 (l[i]?.getD 0)))
    (hr : ∀ z ∈ l, 0 ≤ z ∧ z ≤ 255) (hm : len ≤ 140737488355328) :
    Calls Tryz.prog 161 #[.slice (some ⟨b, off, none⟩) len cap] w fun e w' => e = .returned (.int .u16 (uv (sm 0xFFFF#16 l))) ∧ w' = w := by
  have Hl := hide hl
  clear hl
  go_enter Tryz.func161, Tryz.ntmps161
  go_wp2_with fail
  go_loop [3, 8] (fun t i => ∃ k : Nat, k ≤ len ∧ i = .int .i64 k ∧ t = .int .u16 (uv (sm 0xFFFF#16 (l.take k)))) (fun _ i => len - (intOf i).toNat)
  case atStart => exact ⟨0, by omega, rfl, rfl⟩
  case round =>
    obtain ⟨k, hk, rfl, rfl⟩ := hrel
    by_cases hlt : k < len
    · have hcell := hc k hlt
      have hsn := hide (sm_snoc 0xFFFF#16 l k (by rw [unhide Hl]; exact hlt))
      have hbd := mem_bd hr k (by rw [unhide Hl]; exact hlt)
      generalize l[k]?.getD 0 = z at hcell hsn hbd
      obtain ⟨hb0, hb1⟩ := hbd
      clear hc hr
      go_wp2_with (go_at_call 206; refine (step_any _ _ hb0 hb1 _).mono ?_; rintro e w' ⟨rfl, rfl⟩)
      go_round
      case rel => exact ⟨k + 1, by omega, by go_num, by rw [unhide hsn]⟩
      case measure => simp [intOf]; omega
    · have e : l.take k = l := List.take_of_length_le (by rw [unhide Hl]; omega)
      rw [e]
      clear e hc hr
      go_wp2
      go_ret
      exact ⟨rfl, rfl⟩
theorem rsum_nil (a : Option Addr) (cap : Nat) (w : World) :
  Calls Tryz.prog 61 #[.slice a 0 cap] w fun e w' => e = .returned (.int .u16 (uv 0xFFFF#16)) ∧ w' = w := by
 go_enter Tryz.func61, Tryz.ntmps61
 go_wp2_with fail
 go_loop [3, 4] (fun t i => i = .int .i64 0 ∧ t = .int .u16 65535) (fun _ _ => 0)
 case atStart => exact ⟨rfl, rfl⟩
 case round =>
  obtain ⟨rfl, rfl⟩ := hrel
  go_wp2
  go_ret
  exact ⟨rfl, rfl⟩
theorem rsum_at (b off cap len : Nat) (l : List Int) (w : World) (hl : l.length = len) (hc : ∀ i, i < len → w.cell? ⟨b, off + i, none⟩ = some (.int .u8 (l[i]?.getD 0)))
    (hr : ∀ z ∈ l, 0 ≤ z ∧ z ≤ 255) (hm : len ≤ 140737488355328) :
    Calls Tryz.prog 61 #[.slice (some ⟨b, off, none⟩) len cap] w fun e w' => e = .returned (.int .u16 (uv (sm 0xFFFF#16 l))) ∧ w' = w := by
  have Hl := hide hl
  clear hl
  go_enter Tryz.func61, Tryz.ntmps61
  go_wp2_with fail
  go_loop [3, 4] (fun t i => ∃ k : Nat, k ≤ len ∧ i = .int .i64 k ∧ t = .int .u16 (uv (sm 0xFFFF#16 (l.take k)))) (fun _ i => len - (intOf i).toNat)
  case atStart => exact ⟨0, by omega, rfl, rfl⟩
  case round =>
    obtain ⟨k, hk, rfl, rfl⟩ := hrel
    by_cases hlt : k < len
    · have hcell := hc k hlt
      have hsn := hide (sm_snoc 0xFFFF#16 l k (by rw [unhide Hl]; exact hlt))
      have hbd := mem_bd hr k (by rw [unhide Hl]; exact hlt)
      generalize l[k]?.getD 0 = z at hcell hsn hbd
      obtain ⟨hb0, hb1⟩ := hbd
      clear hc hr
      go_wp2_with (go_at_call 137; refine (rstep_any _ _ hb0 hb1 _).mono ?_; rintro e w' ⟨rfl, rfl⟩)
      go_round
      case rel => exact ⟨k + 1, by omega, by go_num, by rw [unhide hsn]⟩
      case measure => simp [intOf]; omega
    · have e : l.take k = l := List.take_of_length_le (by rw [unhide Hl]; omega)
      rw [e]
      clear e hc hr
      go_wp2
      go_ret
      exact ⟨rfl, rfl⟩
def InB (l : List Int) : Prop := ∀ z ∈ l, 0 ≤ z ∧ z ≤ 255
theorem InB.append {l m : List Int} (h : InB l) (k : InB m) : InB (l ++ m) := by
  intro z hz
  rcases List.mem_append.1 hz with h' | h'
  · exact h z h'
  · exact k z h'
theorem InB.nil : InB [] := fun z hz => by cases hz
theorem InB.cons {z : Int} {l : List Int} (h0 : 0 ≤ z ∧ z ≤ 255) (h : InB l) : InB (z :: l) := by
  intro y hy
  rcases List.mem_cons.1 hy with rfl | hy
  · exact h0
  · exact h y hy
theorem InB.right {l m : List Int} (h : InB (l ++ m)) : InB m := fun z hz => h z (List.mem_append_right _ hz)
theorem InB.take {l : List Int} (h : InB l) (k : Nat) : InB (l.take k) := fun z hz => h z (List.mem_of_mem_take hz)
theorem InB.drop {l : List Int} (h : InB l) (k : Nat) : InB (l.drop k) := fun z hz => h z (List.mem_of_mem_drop hz)
theorem InB.at {l : List Int} (h : InB l) {i : Nat} {x : Int} (hx : l[i]? = some x) : 0 ≤ x ∧ x ≤ 255 := h x (List.mem_of_getElem? hx)
structure PF {α : Type} (p : α → Prop) (f : α → List Int) : Prop where
 inj : ∀ a b r s, p a → p b → f a ++ r = f b ++ s → a = b ∧ r = s
 pos : ∀ a, f a ≠ []
theorem PF.flat {α : Type} {p : α → Prop} {f : α → List Int} (h : PF p f) : ∀ (xs ys : List α) (r s : List Int), (∀ x ∈ xs, p x) → (∀ y ∈ ys, p y) → xs.length ≤ ys.length → xs.flatMap f ++ r = ys.flatMap f ++ s → ∃ zs, ys = xs ++ zs ∧ r = zs.flatMap f ++ s := by
 intro xs
 induction xs with
 | nil => intro ys r s _ _ _ e; exact ⟨ys, rfl, by simpa using e⟩
 | cons x xs ih =>
  intro ys r s hx hy hl e
  cases ys with
  | nil => simp at hl
  | cons y ys =>
   simp only [List.flatMap_cons, List.append_assoc] at e
   obtain ⟨rfl, e2⟩ := h.inj _ _ _ _ (hx _ (by simp)) (hy _ (by simp)) e
   obtain ⟨zs, rfl, e3⟩ := ih ys r s (fun z hz => hx z (by simp [hz])) (fun z hz => hy z (by simp [hz])) (by simpa using hl) e2
   exact ⟨zs, rfl, e3⟩
def num (v : Nat) : List Int := if v < 128 then [(v : Int)] else ((v % 128 + 128 : Nat) : Int) :: num (v / 128)
termination_by v
theorem num_low {v : Nat} (h : v < 128) : num v = [(v : Int)] := by rw [num, if_pos h]
theorem num_high {v : Nat} (h : 128 ≤ v) : num v = ((v % 128 + 128 : Nat) : Int) :: num (v / 128) := by rw [num, if_neg (by omega)]
theorem num_pos (v : Nat) : num v ≠ [] := by
  rcases Nat.lt_or_ge v 128 with h | h
  · rw [num_low h]; simp
  · rw [num_high h]; simp
theorem num_one (v : Nat) : 1 ≤ (num v).length := by
 have := num_pos v
 cases h : num v with
 | nil => exact absurd h this
 | cons => simp
theorem num_in (v : Nat) : InB (num v) := by
  induction v using Nat.strongRecOn with
  | _ v ih =>
    rcases Nat.lt_or_ge v 128 with h | h
    · rw [num_low h]; exact InB.cons (by omega) InB.nil
    · rw [num_high h]; exact InB.cons (by omega) (ih _ (by omega))
theorem num_inj : ∀ (v u : Nat) (r s : List Int), num v ++ r = num u ++ s → v = u ∧ r = s := by
  intro v
  induction v using Nat.strongRecOn with
  | _ v ih =>
    intro u r s e
    rcases Nat.lt_or_ge v 128 with h | h <;> rcases Nat.lt_or_ge u 128 with h' | h'
    · rw [num_low h, num_low h'] at e
      simp only [List.cons_append, List.nil_append, List.cons.injEq] at e
      exact ⟨by omega, e.2⟩
    · rw [num_low h, num_high h'] at e
      simp only [List.cons_append, List.nil_append, List.cons.injEq] at e
      omega
    · rw [num_high h, num_low h'] at e
      simp only [List.cons_append, List.nil_append, List.cons.injEq] at e
      omega
    · rw [num_high h, num_high h'] at e
      simp only [List.cons_append, List.cons.injEq] at e
      obtain ⟨e1, e2⟩ := ih (v / 128) (by omega) _ _ _ e.2
      exact ⟨by omega, e2⟩
theorem num_pf : PF (fun _ : Nat => True) num := ⟨fun a b r s _ _ e => num_inj a b r s e, num_pos⟩
theorem num_len (k : Nat) : ∀ v, v < 128 ^ (k + 1) → (num v).length ≤ k + 1 := by
  induction k with
  | zero => intro v h; rw [num_low (by simpa using h)]; simp
  | succ k ih =>
    intro v h
    rcases Nat.lt_or_ge v 128 with h' | h'
    · rw [num_low h']; simp
    · rw [num_high h', List.length_cons]
      have := ih (v / 128) (by rw [Nat.pow_succ] at h; exact Nat.div_lt_of_lt_mul (by rw [Nat.mul_comm]; exact h))
      omega
theorem num_five {v : Nat} (h : v < 34359738368) : (num v).length ≤ 5 := num_len 4 v (by simpa using h)
def us (k : Int) : Nat := if k = 1 then 2 else if k = 2 then 3 else if k = 3 then 1 else if k = 4 then 3 else if k = 5 then 2 else if k = 6 then 1 else if k = 7 then 1 else if k = 8 then 2 else 0
theorem us_le (k : Int) : us k ≤ 3 := by unfold us; (repeat' split) <;> omega
theorem us_pos {k : Int} (h : 0 < us k) : 1 ≤ k ∧ k ≤ 8 := by
 unfold us at h
 repeat' split at h
 all_goals first | omega | (simp at h)
def okF (u i : Nat) (x : Int) : Bool := decide (0 ≤ x ∧ x ≤ 2147483647 ∧ (u ≤ i → x = 0))
def Nt.ok (n : Nt) : Bool := decide (0 < us n.kind) && okF (us n.kind) 0 n.a && okF (us n.kind) 1 n.b && okF (us n.kind) 2 n.c && decide (n.kind = 8 → n.b ≤ 1)
def Nt.fs (n : Nt) : List Int := [n.a, n.b, n.c]
def Nt.vs (n : Nt) : List Nat := (n.fs.take (us n.kind)).map Int.toNat
def Nt.body (n : Nt) : List Int := n.kind :: n.vs.flatMap num
def Nt.head (n : Nt) : List Int := (n.body.length : Int) :: n.body
def w2 (x : Int) : List Int := [x / 256, x % 256]
def Nt.bts (n : Nt) : List Int := n.head ++ w2 (uv (sm 0xFFFF#16 n.head))
def nz : Nt := ⟨0, 0, 0, 0⟩
theorem ok_iff (n : Nt) : n.ok = true ↔ 0 < us n.kind ∧ (∀ i x, n.fs[i]? = some x → 0 ≤ x ∧ x ≤ 2147483647 ∧ (us n.kind ≤ i → x = 0)) ∧ (n.kind = 8 → n.b ≤ 1) := by
  unfold Nt.ok okF Nt.fs
  simp only [Bool.and_eq_true, decide_eq_true_eq]
  constructor
  · rintro ⟨⟨⟨⟨h0, h1⟩, h2⟩, h3⟩, h4⟩
    refine ⟨h0, fun i x hx => ?_, h4⟩
    match i with
    | 0 => simp at hx; subst hx; exact h1
    | 1 => simp at hx; subst hx; exact h2
    | 2 => simp at hx; subst hx; exact h3
    | i + 3 => simp at hx
  · rintro ⟨h0, h1, h4⟩
    exact ⟨⟨⟨⟨h0, h1 0 _ rfl⟩, h1 1 _ rfl⟩, h1 2 _ rfl⟩, h4⟩
theorem vs_len (n : Nt) : n.vs.length = us n.kind := by
 have := us_le n.kind
 unfold Nt.vs Nt.fs
 rw [List.length_map, List.length_take]
 simp; omega
theorem vs_at {n : Nt} (i : Nat) (h : i < us n.kind) : n.vs[i]? = n.fs[i]?.map Int.toNat := by
 unfold Nt.vs
 rw [List.getElem?_map, List.getElem?_take_of_lt h]
theorem vs_lt {n : Nt} (h : n.ok = true) : ∀ v ∈ n.vs, v < 2147483648 := by
 intro v hv
 unfold Nt.vs at hv
 obtain ⟨x, hx, rfl⟩ := List.mem_map.1 hv
 obtain ⟨i, hi⟩ := List.mem_iff_getElem?.1 (List.mem_of_mem_take hx)
 have := ((ok_iff n).1 h).2.1 i x hi
 omega
theorem flat_len {xs : List Nat} (h : ∀ v ∈ xs, v < 34359738368) : xs.length ≤ (xs.flatMap num).length ∧ (xs.flatMap num).length ≤ 5 * xs.length := by
 induction xs with
 | nil => simp
 | cons x xs ih =>
  have h1 := ih (fun v hv => h v (by simp [hv]))
  have h2 := num_one x
  have h3 := num_five (h x (by simp))
  rw [List.flatMap_cons, List.length_append, List.length_cons]
  omega
theorem flat_in (xs : List Nat) : InB (xs.flatMap num) := by
 intro z hz
 obtain ⟨v, _, h⟩ := List.mem_flatMap.1 hz
 exact num_in v z h
theorem body_len {n : Nt} (h : n.ok = true) : 2 ≤ n.body.length ∧ n.body.length ≤ 16 := by
 have h1 := flat_len (xs := n.vs) (fun v hv => by have := vs_lt h v hv; omega)
 rw [vs_len] at h1
 have := us_le n.kind
 have := ((ok_iff n).1 h).1
 unfold Nt.body
 rw [List.length_cons]
 omega
theorem body_in {n : Nt} (h : n.ok = true) : InB n.body := by
 have := us_pos ((ok_iff n).1 h).1
 exact InB.cons (by omega) (flat_in _)
theorem head_in {n : Nt} (h : n.ok = true) : InB n.head := by
 have := body_len h
 exact InB.cons (by omega) (body_in h)
theorem w2_in (x : BitVec 16) : InB (w2 (uv x)) := by
 intro z hz
 have := uv_lo x
 have := uv_hi x
 simp [w2] at hz
 rcases hz with rfl | rfl <;> omega
theorem bts_in {n : Nt} (h : n.ok = true) : InB n.bts := (head_in h).append (w2_in _)
theorem bts_len (n : Nt) : n.bts.length = n.body.length + 3 := by simp [Nt.bts, Nt.head, w2]
theorem bts_len5 {n : Nt} (h : n.ok = true) : 5 ≤ n.bts.length ∧ n.bts.length ≤ 19 := by
 have := body_len h
 rw [bts_len]; omega
theorem nt_ext {n m : Nt} (hn : n.ok = true) (hm : m.ok = true) (hk : n.kind = m.kind) (hv : n.vs = m.vs) : n = m := by
  have h1 := (ok_iff n).1 hn
  have h2 := (ok_iff m).1 hm
  have key : ∀ (i : Nat) (x y : Int), n.fs[i]? = some x → m.fs[i]? = some y → x = y := by
    intro i x y hx hy
    have a1 := h1.2.1 i x hx
    have a2 := h2.2.1 i y hy
    rcases Nat.lt_or_ge i (us n.kind) with q | q
    · have e1 := vs_at (n := n) i q
      have e2 := vs_at (n := m) i (by rw [← hk]; exact q)
      rw [hv, e2, hx, hy] at e1
      simp at e1
      omega
    · rw [a1.2.2 q, a2.2.2 (by rw [← hk]; exact q)]
  obtain ⟨k, a, b, c⟩ := n
  obtain ⟨k', a', b', c'⟩ := m
  simp only at hk
  subst hk
  rw [show a = a' from key 0 _ _ rfl rfl, show b = b' from key 1 _ _ rfl rfl, show c = c' from key 2 _ _ rfl rfl]
theorem body_inj {n m : Nt} (hn : n.ok = true) (hm : m.ok = true) (h : n.body = m.body) : n = m := by
 unfold Nt.body at h
 simp only [List.cons.injEq] at h
 obtain ⟨hk, he⟩ := h
 obtain ⟨zs, e1, e2⟩ := num_pf.flat n.vs m.vs [] [] (fun _ _ => trivial) (fun _ _ => trivial) (by rw [vs_len, vs_len, hk]; exact Nat.le_refl _) (by simpa using he)
 have : zs = [] := by
  have := congrArg List.length e1
  rw [List.length_append, vs_len, vs_len, hk] at this
  exact List.eq_nil_of_length_eq_zero (by omega)
 subst this
 exact nt_ext hn hm hk (by simpa using e1.symm)
theorem bts_inj (n m : Nt) (r s : List Int) (hn : n.ok = true) (hm : m.ok = true) (e : n.bts ++ r = m.bts ++ s) : n = m ∧ r = s := by
 have e' := e
 unfold Nt.bts Nt.head at e
 simp only [List.cons_append, List.append_assoc, List.cons.injEq] at e
 have hl : n.body.length = m.body.length := by omega
 have := List.append_inj_left e.2 hl
 have := body_inj hn hm this
 subst this
 exact ⟨rfl, List.append_cancel_left e'⟩
theorem bts_pos (n : Nt) : n.bts ≠ [] := by simp [Nt.bts, Nt.head]
theorem bts_pf : PF (fun n : Nt => n.ok = true) Nt.bts := ⟨bts_inj, bts_pos⟩
def Fst (l : List Int) (n : Nt) : Prop := n.ok = true ∧ ∃ r, l = n.bts ++ r
theorem fst_nil (n : Nt) : ¬ Fst [] n := by
 rintro ⟨h, r, e⟩
 exact bts_pos n (List.append_eq_nil_iff.1 e.symm).1
structure NRds (l : List Int) (ns : List Nt) (r : List Int) : Prop where
 eq : l = ns.flatMap Nt.bts ++ r
 ok : ∀ n ∈ ns, n.ok = true
 no : ∀ n, ¬ Fst r n
theorem NRds.go {l r : List Int} {ns ms : List Nt} (h : NRds l ns r) (hm : ∀ n ∈ ms, n.ok = true) (s : List Int) (e : l = ms.flatMap Nt.bts ++ s) : ∃ zs, ns = ms ++ zs ∧ s = zs.flatMap Nt.bts ++ r := by
  rcases Nat.le_total ms.length ns.length with q | q
  · exact bts_pf.flat ms ns s r hm h.ok q (by rw [← e, ← h.eq])
  · obtain ⟨zs, e1, e2⟩ := bts_pf.flat ns ms r s h.ok hm q (by rw [← e, ← h.eq])
    cases zs with
    | nil => exact ⟨[], by simpa using e1.symm, by simpa using e2.symm⟩
    | cons z zs =>
      refine absurd ⟨hm z (by rw [e1]; simp), zs.flatMap Nt.bts ++ s, ?_⟩ (h.no z)
      rw [e2]; simp
theorem NRds.uniq {l r s : List Int} {ns ms : List Nt} (h : NRds l ns r) (k : NRds l ms s) : ns = ms ∧ r = s := by
 obtain ⟨zs, e1, e2⟩ := h.go k.ok s k.eq
 cases zs with
 | nil => exact ⟨by simpa using e1, by simpa using e2.symm⟩
 | cons z zs =>
  refine absurd ⟨h.ok z (by rw [e1]; simp), zs.flatMap Nt.bts ++ r, ?_⟩ (k.no z)
  rw [e2]; simp
theorem rds_all {ns : List Nt} (h : ∀ n ∈ ns, n.ok = true) : NRds (ns.flatMap Nt.bts) ns [] := ⟨by simp, h, fst_nil⟩
theorem NRds.cut {ns got : List Nt} {k : Nat} {r : List Int} (h : ∀ n ∈ ns, n.ok = true) (hk : k ≤ (ns.flatMap Nt.bts).length) (hc : NRds ((ns.flatMap Nt.bts).take k) got r) :
    got.length ≤ ns.length ∧ ns.take got.length = got ∧ (got.flatMap Nt.bts).length ≤ k ∧ (got.length = ns.length → k = (ns.flatMap Nt.bts).length) ∧ (∀ z, ns[got.length]? = some z → k - (got.flatMap Nt.bts).length < z.bts.length) := by
  have e : ns.flatMap Nt.bts = got.flatMap Nt.bts ++ (r ++ (ns.flatMap Nt.bts).drop k) := by
    rw [← List.append_assoc, ← hc.eq, List.take_append_drop]
  obtain ⟨zs, e1, e2⟩ := (rds_all h).go hc.ok _ e
  have hlen : (got.flatMap Nt.bts).length + r.length = k := by
    have := congrArg List.length hc.eq
    rw [List.length_take, List.length_append] at this
    omega
  refine ⟨by rw [e1]; simp, by rw [e1]; simp, by omega, fun q => ?_, fun z hz => ?_⟩
  · have : zs = [] := by
      have := congrArg List.length e1
      rw [List.length_append] at this
      exact List.eq_nil_of_length_eq_zero (by omega)
    subst this
    have h3 := congrArg List.length e2
    rw [List.length_append, List.length_drop, List.flatMap_nil, List.append_nil, List.length_nil] at h3
    omega
  · rcases Nat.lt_or_ge (k - (got.flatMap Nt.bts).length) z.bts.length with q | q
    · exact q
    · exfalso
      rw [e1, List.getElem?_append_right (Nat.le_refl _), Nat.sub_self] at hz
      cases zs with
      | nil => simp at hz
      | cons y zs =>
        simp at hz
        subst hz
        refine hc.no y ⟨h y (by rw [e1]; simp), r.drop y.bts.length, ?_⟩
        rw [List.flatMap_cons, List.append_nil] at e2
        have e3 : y.bts = r.take y.bts.length := by
          have := congrArg (List.take y.bts.length) e2
          rw [List.take_append_of_le_length (by omega), List.take_left] at this
          exact this.symm
        have e4 : r.take y.bts.length ++ r.drop y.bts.length = r := List.take_append_drop _ _
        rw [← e3] at e4
        exact e4.symm
def val : List Int → Nat
 | [] => 0
 | z :: t => (z % 128).toNat + 128 * val t
theorem val_snoc (p : List Int) (d : Int) : val (p ++ [d]) = val p + (d % 128).toNat * 128 ^ p.length := by
 induction p with
 | nil => simp [val]
 | cons z p ih =>
  rw [List.cons_append, val, ih, val, List.length_cons, Nat.pow_succ, Nat.mul_add]
  have : 128 * ((d % 128).toNat * 128 ^ p.length) = (d % 128).toNat * (128 ^ p.length * 128) := by rw [Nat.mul_left_comm, Nat.mul_comm 128]
  omega
theorem val_lt (p : List Int) : val p < 128 ^ p.length := by
 induction p with
 | nil => simp [val]
 | cons z p ih =>
  rw [val, List.length_cons, Nat.pow_succ]
  omega
theorem num_shape (n : Nat) : ∃ p d, num n = p ++ [d] ∧ (∀ z ∈ p, 128 ≤ z) ∧ 0 ≤ d ∧ d < 128 ∧ (p ≠ [] → d ≠ 0) ∧ (n = 0 → p = []) ∧ (n ≠ 0 → d ≠ 0) := by
  induction n using Nat.strongRecOn with
  | _ n ih =>
    rcases Nat.lt_or_ge n 128 with h | h
    · exact ⟨[], n, by rw [num_low h]; rfl, by simp, by omega, by omega, by simp, by simp, by omega⟩
    · obtain ⟨p, d, e, h1, h2, h3, h4, h5, h6⟩ := ih (n / 128) (by omega)
      refine ⟨((n % 128 + 128 : Nat) : Int) :: p, d, by rw [num_high h, e]; rfl, ?_, h2, h3, fun _ => h6 (by omega), fun q => by omega, fun _ => h6 (by omega)⟩
      intro z hz
      rcases List.mem_cons.1 hz with rfl | hz
      · omega
      · exact h1 z hz
theorem val_pos (p : List Int) (d : Int) (h0 : 0 ≤ d) (h1 : d < 128) (hd : d ≠ 0) : 1 ≤ val (p ++ [d]) := by
 rw [val_snoc]
 have : 1 ≤ (d % 128).toNat := by omega
 have h2 : 0 < 128 ^ p.length := Nat.pow_pos (by omega)
 have := Nat.mul_le_mul this h2
 omega
theorem num_val (p : List Int) (d : Int) (hp : ∀ z ∈ p, 128 ≤ z ∧ z ≤ 255) (h0 : 0 ≤ d) (h1 : d < 128) (hd : p ≠ [] → d ≠ 0) : num (val (p ++ [d])) = p ++ [d] := by
 induction p with
 | nil =>
  have e : val ([] ++ [d]) = d.toNat := by simp [val]; omega
  rw [e, num_low (by omega)]
  simp; omega
 | cons z p ih =>
  have hz := hp z (by simp)
  have hne := hd (by simp)
  have h2 := val_pos p d h0 h1 hne
  have ih' := ih (fun y hy => hp y (by simp [hy])) (fun _ => hne)
  have e : val (z :: p ++ [d]) = (z % 128).toNat + 128 * val (p ++ [d]) := rfl
  rw [e, num_high (by omega)]
  have e1 : ((z % 128).toNat + 128 * val (p ++ [d])) / 128 = val (p ++ [d]) := by omega
  have e2 : (((((z % 128).toNat + 128 * val (p ++ [d])) % 128 + 128 : Nat)) : Int) = z := by omega
  rw [e1, e2, ih']
  rfl
def NumP (l : List Int) (v s : Int) : Prop :=
 (∃ n : Nat, n < 34359738368 ∧ v = n ∧ s = (num n).length ∧ ∃ r, l = num n ++ r) ∨ (v = 0 ∧ s = 0 ∧ ∀ n, n < 34359738368 → ∀ r, l ≠ num n ++ r)
theorem take_snoc {l : List Int} {i : Nat} {z : Int} (hz : l[i]? = some z) : l.take (i + 1) = l.take i ++ [z] := by rw [List.take_add_one, hz]; rfl
theorem numP_yes {l : List Int} {i : Nat} {z : Int} (hr : InB l) (hi : i < 5) (hp : ∀ y ∈ l.take i, 128 ≤ y) (hz : l[i]? = some z) (h1 : z < 128) (hd : 0 < i → z ≠ 0) (hil : i < l.length) : NumP l (val (l.take (i + 1)) : Nat) ((i + 1 : Nat) : Int) := by
  have h0 := hr.at hz
  have hl : (l.take i).length = i := by rw [List.length_take]; omega
  have e := num_val (l.take i) z (fun y hy => ⟨hp y hy, (hr y (List.mem_of_mem_take hy)).2⟩) h0.1 h1 (fun q => hd (by
    rcases Nat.eq_zero_or_pos i with q' | q'
    · rw [q'] at q; simp at q
    · exact q'))
  rw [← take_snoc hz] at e
  refine .inl ⟨_, ?_, rfl, ?_, l.drop (i + 1), ?_⟩
  · have := val_lt (l.take (i + 1))
    rw [List.length_take] at this
    have h2 : 128 ^ min (i + 1) l.length ≤ 128 ^ 5 := Nat.pow_le_pow_right (by omega) (by omega)
    have h3 : 128 ^ 5 = 34359738368 := by decide
    omega
  · rw [e, List.length_take]; omega
  · rw [e, List.take_append_drop]
theorem num_first {l r : List Int} {n : Nat} (e : l = num n ++ r) : ∃ j d, l[j]? = some d ∧ j + 1 = (num n).length ∧ d < 128 ∧ (∀ i y, i < j → l[i]? = some y → 128 ≤ y) ∧ (0 < j → d ≠ 0) := by
 obtain ⟨p, d, h, h1, h2, h3, h4, _⟩ := num_shape n
 refine ⟨p.length, d, by rw [e, h]; simp, by rw [h]; simp, h3, fun i y hi hy => ?_, fun q => h4 (by intro e; rw [e] at q; simp at q)⟩
 rw [e, h, List.append_assoc, List.getElem?_append_left hi] at hy
 exact h1 y (List.mem_of_getElem? hy)
theorem numP_zero {l : List Int} {i : Nat} (hi : 0 < i) (hp : ∀ y ∈ l.take i, 128 ≤ y) (hz : l[i]? = some 0) : NumP l 0 0 := by
  refine .inr ⟨rfl, rfl, fun n hn r e => ?_⟩
  obtain ⟨j, d, h1, h2, h3, h4, h5⟩ := num_first e
  have hj : i = j := by
    rcases Nat.lt_trichotomy i j with q | q | q
    · have := h4 i 0 q hz; omega
    · exact q
    · have := hp d (List.mem_of_getElem? (i := j) (by rw [List.getElem?_take_of_lt q]; exact h1)); omega
  subst hj
  rw [hz] at h1
  simp at h1
  exact h5 hi h1.symm
theorem numP_none {l : List Int} {i : Nat} (hi : i = l.length ∨ i = 5) (hp : ∀ y ∈ l.take i, 128 ≤ y) : NumP l 0 0 := by
  refine .inr ⟨rfl, rfl, fun n hn r e => ?_⟩
  obtain ⟨j, d, h1, h2, h3, h4, h5⟩ := num_first e
  have h6 := num_five hn
  have hj : j < l.length := by
    rcases Nat.lt_or_ge j l.length with q | q
    · exact q
    · rw [List.getElem?_eq_none q] at h1; cases h1
  have := hp d (List.mem_of_getElem? (i := j) (by rw [List.getElem?_take_of_lt (by omega)]; exact h1))
  omega
theorem take_more {l : List Int} {i : Nat} {z : Int} (hp : ∀ y ∈ l.take i, 128 ≤ y) (hz : l[i]? = some z) (h : 128 ≤ z) : ∀ y ∈ l.take (i + 1), 128 ≤ y := by
  rw [take_snoc hz]
  intro y hy
  rcases List.mem_append.1 hy with q | q
  · exact hp y q
  · simp at q; omega
theorem val_more {l : List Int} {i : Nat} {z : Int} (hz : l[i]? = some z) (hi : i < l.length) : (val (l.take (i + 1)) : Int) = val (l.take i) + z % 128 * (128 ^ i : Nat) := by
 rw [take_snoc hz, val_snoc, List.length_take, Nat.min_eq_left (by omega)]
 rw [Int.natCast_add, Int.natCast_mul, Int.toNat_of_nonneg (Int.emod_nonneg _ (by omega))]
theorem wrap_i64 (z : Int) (h0 : 0 ≤ z) (h1 : z < 9223372036854775808) : IntKind.i64.wrap z = z := by
 unfold IntKind.wrap; simp [IntKind.bits, IntKind.signed]; omega
theorem or_add (x y k : Nat) (hx : x < 2 ^ k) (hy : y * 2 ^ k < 2 ^ 63) (hk : k ≤ 60) : bits .or .i64 (x : Int) ((y : Int) * ((2 ^ k : Nat) : Int)) = (x : Int) + (y : Int) * ((2 ^ k : Nat) : Int) := by
 have hk2 : 2 ^ k ≤ 2 ^ 60 := Nat.pow_le_pow_right (by omega) hk
 have e0 : (y : Int) * ((2 ^ k : Nat) : Int) = ((y * 2 ^ k : Nat) : Int) := by rw [Int.natCast_mul]
 rw [e0]
 have h1 : bits .or .i64 (x : Int) ((y * 2 ^ k : Nat) : Int) = IntKind.i64.wrap (((x ||| y * 2 ^ k : Nat)) : Int) := by
  show IntKind.i64.wrap ((BitVec.ofInt 64 (x : Int) ||| BitVec.ofInt 64 ((y * 2 ^ k : Nat) : Int)).toNat : Int) = _
  rw [BitVec.ofInt_natCast, BitVec.ofInt_natCast, BitVec.toNat_or, BitVec.toNat_ofNat, BitVec.toNat_ofNat, Nat.mod_eq_of_lt (by omega), Nat.mod_eq_of_lt (by omega)]
 have h2 : x ||| y * 2 ^ k = x + y * 2 ^ k := by
  have := Nat.two_pow_add_eq_or_of_lt hx y
  rw [Nat.or_comm, Nat.mul_comm y, ← this, Nat.add_comm]
 have h3 : x + y * 2 ^ k < 2 ^ 63 := by
  have : x ||| y * 2 ^ k < 2 ^ 63 := Nat.or_lt_two_pow (by omega) hy
  omega
 rw [h1, h2, wrap_i64 _ (by omega) (by omega), Int.natCast_add]
open Go.RowKit
def dvE : El Tryz.prog Dv where
 t := 198
 e := 215
 k := 6
 by' := 40
 z := .agg #[.int .i64 0, .int .i64 0, .int .i64 0, .int .i64 0, .bool false, .bool false]
 enc D := [.int .i64 D.fr, .int .i64 D.en, .int .i64 D.tt, .int .i64 D.sq, .bool D.ev, .bool D.dn]
 ht := Tryz.underlying198
 info := by kernel_rfl
 zc := rfl
 kpos := by omega
 bsm := by omega
 len _ := rfl
 one x v hv := by simp at hv; rcases hv with rfl | rfl | rfl | rfl | rfl | rfl <;> rfl
theorem dv_at {w : World} {b n c : Nat} {ds : List Dv} (h : dvE.Rd w (.slice (some ⟨b, 0, none⟩) n c) ds) (i : Nat) (p : Dv) (hp : ds[i]? = some p) :
  w.cell? ⟨b, i * 6, none⟩ = some (.int .i64 p.fr) ∧ w.cell? ⟨b, i * 6 + 1, none⟩ = some (.int .i64 p.en) ∧ w.cell? ⟨b, i * 6 + 2, none⟩ = some (.int .i64 p.tt) ∧ w.cell? ⟨b, i * 6 + 3, none⟩ = some (.int .i64 p.sq) ∧ w.cell? ⟨b, i * 6 + 4, none⟩ = some (.bool p.ev) ∧ w.cell? ⟨b, i * 6 + 5, none⟩ = some (.bool p.dn) := by
 obtain ⟨b', off, h1, h2⟩ := h.at i p hp
 simp only [Option.some.injEq, Addr.mk.injEq] at h1
 obtain ⟨rfl, rfl, _⟩ := h1
 have f : ∀ j, j < 6 → w.cell? ⟨b, 0 + i * 6 + j, none⟩ = (dvE.enc p)[j]? := fun j hj => h2 j hj
 simp only [Nat.zero_add] at f
 exact ⟨f 0 (by omega), f 1 (by omega), f 2 (by omega), f 3 (by omega), f 4 (by omega), f 5 (by omega)⟩
def mparts (B g : Nat) (H : Nat × Nat) (n m : Nat) (S : Mr) : List It := [.row dvE B (.slice (some ⟨H.2, 0, none⟩) m m) S.ds, .ints B (.slice (some ⟨H.1, 0, none⟩) n n) S.ts, .box g #[.slice (some ⟨H.1, 0, none⟩) n n, .slice (some ⟨H.2, 0, none⟩) m m] 200]
def MFact (n m : Nat) (es : List (Int × Int)) (S : Mr) : Prop := S.Ok n es ∧ es.length = m
def It.mir (B g : Nat) (H : Nat × Nat) (n m : Nat) (es : List (Int × Int)) (S : Mr) : It := .grp (.fact (MFact n m es S) :: mparts B g H n m S)
section
variable {w : World} {B g n m : Nat} {H : Nat × Nat} {es : List (Int × Int)} {S : Mr}
theorem mr_box (h : (It.mir B g H n m es S).P w) : w.heap[g]? = some (.cells #[.slice (some ⟨H.1, 0, none⟩) n n, .slice (some ⟨H.2, 0, none⟩) m m] 200) := h.1 (.box g #[.slice (some ⟨H.1, 0, none⟩) n n, .slice (some ⟨H.2, 0, none⟩) m m] 200) (by simp [mparts])
theorem mr_cells (h : (It.mir B g H n m es S).P w) : w.cell? ⟨g, 0, none⟩ = some (.slice (some ⟨H.1, 0, none⟩) n n) ∧ w.cell? ⟨g, 1, none⟩ = some (.slice (some ⟨H.2, 0, none⟩) m m) := ⟨(cells_at (mr_box h) 0).1, (cells_at (mr_box h) 1).1⟩
theorem mr_fact (h : (It.mir B g H n m es S).P w) : MFact n m es S := h.1 (.fact (MFact n m es S)) (by simp [mparts])
theorem mr_ok (h : (It.mir B g H n m es S).P w) : S.Ok n es := (mr_fact h).1
theorem mr_len (h : (It.mir B g H n m es S).P w) : S.ts.length = n ∧ S.ds.length = m ∧ n ≤ 40 ∧ m ≤ 120 := by
 have ⟨h1, h2⟩ := mr_fact h
 exact ⟨h1.ln, by rw [h1.len]; exact h2, h1.n40, by have := h1.m120; omega⟩
theorem mr_ts (h : (It.mir B g H n m es S).P w) : intE.Own w B (.slice (some ⟨H.1, 0, none⟩) n n) S.ts := h.1 (.ints B (.slice (some ⟨H.1, 0, none⟩) n n) S.ts) (by simp [mparts])
theorem mr_ds (h : (It.mir B g H n m es S).P w) : dvE.Own w B (.slice (some ⟨H.2, 0, none⟩) m m) S.ds := h.1 (.row dvE B (.slice (some ⟨H.2, 0, none⟩) m m) S.ds) (by simp [mparts])
theorem mr_t (h : (It.mir B g H n m es S).P w) {k : Nat} (hk : k < n) : ∃ x, S.ts[k]? = some x ∧ w.cell? ⟨H.1, k, none⟩ = some (.int .i64 x) ∧ w.frozen? ⟨H.1, k, none⟩ = false := by
 have hl := (mr_len h).1
 have e : S.ts[k]? = some (S.ts[k]'(by omega)) := List.getElem?_eq_getElem _
 have := El.Own.at1 (Value.int .i64) (fun _ => rfl) rfl (mr_ts h) k _ e
 exact ⟨_, e, this⟩
theorem mr_d (h : (It.mir B g H n m es S).P w) {k : Nat} {p : Dv} (hp : S.ds[k]? = some p) :
  w.cell? ⟨H.2, k * 6, none⟩ = some (.int .i64 p.fr) ∧ w.cell? ⟨H.2, k * 6 + 1, none⟩ = some (.int .i64 p.en) ∧ w.cell? ⟨H.2, k * 6 + 2, none⟩ = some (.int .i64 p.tt) ∧ w.cell? ⟨H.2, k * 6 + 3, none⟩ = some (.int .i64 p.sq) ∧ w.cell? ⟨H.2, k * 6 + 4, none⟩ = some (.bool p.ev) ∧ w.cell? ⟨H.2, k * 6 + 5, none⟩ = some (.bool p.dn) := dv_at (mr_ds h).rd k p hp
theorem mr_df (h : (It.mir B g H n m es S).P w) {k j : Nat} (hk : k < m) (hj : j < 6) : w.frozen? ⟨H.2, k * 6 + j, none⟩ = false := by
 have hl := (mr_len h).2.1
 have := (mr_ds h).cell (k * 6 + j) (by show k * 6 + j < S.ds.length * 6; omega)
 exact this.2.1
theorem Its.mopen {w0 : World} {l : List It} (h : Its w0 (.mir B g H n m es S :: l) w) : Its w0 (mparts B g H n m S ++ l) w ∧ MFact n m es S := ⟨h.opn.tail, mr_fact h.one⟩
theorem Its.mshut {w0 : World} {l : List It} (h : Its w0 (mparts B g H n m S ++ l) w) (hl : MFact n m es S) : Its w0 (.mir B g H n m es S :: l) w :=
 Its.shut (a := .fact (MFact n m es S) :: mparts B g H n m S) (h.new (x := .fact (MFact n m es S)) hl (fun k hk => hk.elim) (Below.refl _ _))
end
set_option maxRecDepth 100000 in
theorem isTote_any (t : Int) (w : World) : Calls Tryz.prog 111 #[.int .i64 t] w fun e w' => e = .returned (.bool (isT t)) ∧ w' = w := by
  by_cases h1 : 1 ≤ t
  · by_cases h2 : t ≤ 30
    · have e : isT t = true := isT_iff.2 ⟨h1, h2⟩
      rw [e]
      go_enter Tryz.func111, Tryz.ntmps111
      go_wp2_with fail
      go_ret
      exact ⟨rfl, rfl⟩
    · have e : isT t = false := decide_eq_false (fun h => h2 h.2)
      rw [e]
      go_enter Tryz.func111, Tryz.ntmps111
      go_wp2_with fail
      go_ret
      exact ⟨rfl, rfl⟩
  · have e : isT t = false := decide_eq_false (fun h => h1 h.1)
    rw [e]
    go_enter Tryz.func111, Tryz.ntmps111
    go_wp2_with fail
    go_ret
    exact ⟨rfl, rfl⟩
set_option maxRecDepth 100000 in
theorem isSeq_any (t : Int) (w : World) : Calls Tryz.prog 229 #[.int .i64 t] w fun e w' => e = .returned (.bool (isQ t)) ∧ w' = w := by
  by_cases h1 : 0 ≤ t
  · by_cases h2 : t ≤ 65535
    · have e : isQ t = true := isQ_iff.2 ⟨h1, h2⟩
      rw [e]
      go_enter Tryz.func229, Tryz.ntmps229
      go_wp2_with fail
      go_ret
      exact ⟨rfl, rfl⟩
    · have e : isQ t = false := decide_eq_false (fun h => h2 h.2)
      rw [e]
      go_enter Tryz.func229, Tryz.ntmps229
      go_wp2_with fail
      go_ret
      exact ⟨rfl, rfl⟩
  · have e : isQ t = false := decide_eq_false (fun h => h1 h.1)
    rw [e]
    go_enter Tryz.func229, Tryz.ntmps229
    go_wp2_with fail
    go_ret
    exact ⟨rfl, rfl⟩
section
variable {w : World} {B g n m : Nat} {H : Nat × Nat} {es : List (Int × Int)} {S : Mr}
set_option maxRecDepth 100000 in
theorem isNode_m (h : (It.mir B g H n m es S).P w) (x : Int) : Calls Tryz.prog 228 #[.pointer (some ⟨g, 0, none⟩), .int .i64 x] w fun e w' => e = .returned (.bool (S.isN x)) ∧ w' = w := by
  obtain ⟨c0, c1⟩ := mr_cells h
  obtain ⟨l0, l1, l2, l3⟩ := mr_len h
  have e0 : S.isN x = decide (0 ≤ x ∧ x < n) := by unfold Mr.isN; rw [l0]
  rw [e0]
  clear e0 l0 l1 h
  by_cases h1 : 0 ≤ x
  · by_cases h2 : x < n
    · rw [decide_eq_true ⟨h1, h2⟩]
      go_enter Tryz.func228, Tryz.ntmps228
      go_wp2_with fail
      go_ret
      exact ⟨rfl, rfl⟩
    · rw [decide_eq_false (fun h => h2 h.2)]
      go_enter Tryz.func228, Tryz.ntmps228
      go_wp2_with fail
      go_ret
      exact ⟨rfl, rfl⟩
  · rw [decide_eq_false (fun h => h1 h.1)]
    go_enter Tryz.func228, Tryz.ntmps228
    go_wp2_with fail
    go_ret
    exact ⟨rfl, rfl⟩
set_option maxRecDepth 100000 in
theorem isDev_m (h : (It.mir B g H n m es S).P w) (x : Int) : Calls Tryz.prog 131 #[.pointer (some ⟨g, 0, none⟩), .int .i64 x] w fun e w' => e = .returned (.bool (S.isD x)) ∧ w' = w := by
  obtain ⟨c0, c1⟩ := mr_cells h
  obtain ⟨l0, l1, l2, l3⟩ := mr_len h
  have e0 : S.isD x = decide (1 ≤ x ∧ x ≤ m) := by unfold Mr.isD; rw [l1]
  rw [e0]
  clear e0 l0 l1 h
  by_cases h1 : 1 ≤ x
  · by_cases h2 : x ≤ m
    · rw [decide_eq_true ⟨h1, h2⟩]
      go_enter Tryz.func131, Tryz.ntmps131
      go_wp2_with fail
      go_ret
      exact ⟨rfl, rfl⟩
    · rw [decide_eq_false (fun h => h2 h.2)]
      go_enter Tryz.func131, Tryz.ntmps131
      go_wp2_with fail
      go_ret
      exact ⟨rfl, rfl⟩
  · rw [decide_eq_false (fun h => h1 h.1)]
    go_enter Tryz.func131, Tryz.ntmps131
    go_wp2_with fail
    go_ret
    exact ⟨rfl, rfl⟩
set_option maxRecDepth 100000 in
theorem device_m (h : (It.mir B g H n m es S).P w) (k : Nat) (hk : k < m) : Calls Tryz.prog 132 #[.pointer (some ⟨g, 0, none⟩), .int .i64 ((k : Int) + 1)] w fun e w' => e = .returned (.pointer (some ⟨H.2, k * 6, none⟩)) ∧ w' = w := by
 obtain ⟨c0, c1⟩ := mr_cells h
 obtain ⟨l0, l1, l2, l3⟩ := mr_len h
 have k1 : (0 : Int) ≤ (k : Int) := by omega
 have k2 : (k : Int) < (m : Int) := by omega
 have k3 : wrap64 ((k : Int) + 1 - 1) = (k : Int) := by unfold wrap64; omega
 clear l0 l1 h
 go_enter Tryz.func132, Tryz.ntmps132
 go_wp2_with fail
 go_ret
 exact ⟨rfl, rfl⟩
end
open Go.RowKit
set_option maxRecDepth 100000 in
set_option maxHeartbeats 2000000 in
theorem idx_any (a : Option Addr) (c n : Nat) (ms : List Int) (d : Int) (w : World) (hn : ms.length = n) (hv : intE.Rd w (.slice a n c) ms) (hl : n ≤ 100000) :
    Calls Tryz.prog 112 #[.slice a n c, .int .i64 d] w fun e w' => e = .returned (.int .i64 (loc ms d)) ∧ w' = w := by
  have Hn := hide hn
  have Hv := hide hv
  have i0 : (n : Int) ≤ 100000 := by omega
  have yes : Hid (∀ k : Nat, ms[k]? = some d → (∀ i : Nat, i < k → ms[i]? ≠ some d) → loc ms d = k) := hide (fun k h h' => loc_yes h h')
  have no : Hid ((∀ k : Nat, k < n → ms[k]? ≠ some d) → loc ms d = -1) := hide (fun h => loc_no' (by rw [hn]; exact h))
  generalize loc ms d = res at *
  clear hn hv hl
  go_enter Tryz.func112, Tryz.ntmps112
  go_wp2_with fail
  go_loopw [8] (fun v8 wr => ∃ k : Nat, wr = w ∧ v8 = .int .i64 k ∧ k ≤ n ∧ Hid (∀ i : Nat, i < k → ms[i]? ≠ some d)) (fun v8 _ => n - (intOf v8).toNat)
  case atStart => exact ⟨0, rfl, rfl, Nat.zero_le _, hide (fun i hi => by omega)⟩
  case round =>
    obtain ⟨k, rfl, rfl, hk, HX⟩ := hrel
    by_cases hlt : k < n
    · obtain ⟨p, hp⟩ : ∃ p, ms[k]? = some p := ⟨_, List.getElem?_eq_getElem (by rw [Hn.out]; exact hlt)⟩
      obtain ⟨b, off, rfl, c0⟩ := int_at Hv.out k p hp
      have j0 : (0 : Int) ≤ (k : Int) := by omega
      have j1 : (k : Int) < (n : Int) := by omega
      have Hp := hide hp
      clear hp
      by_cases he : d = p
      · subst he
        have e1 := yes.out k Hp.out HX.out
        subst e1
        go_wp2_with fail
        go_ret
        exact ⟨rfl, rfl⟩
      · have hbe : (d == p) = false := beq_eq_false_iff_ne.2 he
        have HX1 : Hid (∀ i : Nat, i < k + 1 → ms[i]? ≠ some d) := hide (fun i hi h => by
          rcases Nat.lt_or_ge i k with g | g
          · exact HX.out i g h
          · obtain rfl : i = k := by omega
            rw [Hp.out] at h; exact he (Option.some.inj h).symm)
        go_wp2_with fail
        go_roundw
        case rel => exact ⟨k + 1, trivial, by go_num, by omega, HX1⟩
        case measure => simp [intOf]; omega
    · obtain rfl : k = n := by omega
      have j1 : ¬ (k : Int) < (k : Int) := by omega
      have e1 := no.out HX.out
      subst e1
      go_wp2_with fail
      go_ret
      exact ⟨rfl, rfl⟩
def ixI (p : Dv → Bool) (q : List Dv) : Int := if q.findIdx p < q.length then (q.findIdx p : Int) else -1
theorem ix_at {p : Dv → Bool} {q : List Dv} {i : Nat} {c : Dv} (hi : q[i]? = some c) (hp : p c = true) (hno : ∀ j d, j < i → q[j]? = some d → p d = false) : ixI p q = (i : Int) := by
 obtain ⟨hlt, he⟩ := List.getElem?_eq_some_iff.1 hi
 have : q.findIdx p = i := by
  rw [List.findIdx_eq hlt]
  exact ⟨by rw [he]; exact hp, fun j hj => by have := hno j q[j] hj (List.getElem?_eq_getElem (by omega)); simpa using this⟩
 unfold ixI
 rw [this, if_pos hlt]
theorem ix_none {p : Dv → Bool} {q : List Dv} (hno : ∀ (j : Nat) (d : Dv), j < q.length → q[j]? = some d → p d = false) : ixI p q = -1 := by
 unfold ixI
 rw [if_neg]
 have : q.findIdx p = q.length := by
  rw [List.findIdx_eq_length]
  intro c hc
  obtain ⟨j, hj, rfl⟩ := List.mem_iff_getElem.1 hc
  have := hno j _ hj (List.getElem?_eq_getElem hj)
  simpa using this
 omega
theorem ix_cases (p : Dv → Bool) (q : List Dv) : (∃ (i : Nat) (c : Dv), q[i]? = some c ∧ p c = true ∧ (∀ j d, j < i → q[j]? = some d → p d = false) ∧ ixI p q = (i : Int)) ∨ ((∀ c ∈ q, p c = false) ∧ ixI p q = -1) := by
  by_cases h : q.findIdx p < q.length
  · refine .inl ⟨q.findIdx p, q[q.findIdx p], List.getElem?_eq_getElem h, List.findIdx_getElem (w := h), fun j d hj hd => ?_, by unfold ixI; rw [if_pos h]⟩
    have := List.not_of_lt_findIdx hj
    rw [List.getElem?_eq_getElem (by omega)] at hd
    cases hd
    simpa using this
  · refine .inr ⟨fun c hc => ?_, by unfold ixI; rw [if_neg h]⟩
    cases e : p c with
    | false => rfl
    | true => exact absurd (List.findIdx_lt_length_of_exists ⟨c, hc, e⟩) h
theorem ix_any (p : Dv → Bool) (q : List Dv) : decide (0 ≤ ixI p q) = q.any p := by
  rcases ix_cases p q with ⟨i, c, hi, hp, _, e⟩ | ⟨h, e⟩
  · rw [e, decide_eq_true (by omega), List.any_eq_true.2 ⟨c, List.mem_of_getElem? hi, hp⟩]
  · rw [e, decide_eq_false (by omega)]
    symm
    rw [List.any_eq_false]
    intro c hc
    rw [h c hc]; simp
set_option maxHeartbeats 1000000 in
theorem cloC_any (D : Dv) (x : Int) (k : Nat) (w : World) (hk : k < w.heap.size) (hcell : w.cell? ⟨k, 0, none⟩ = some (.int .i64 x)) :
    Calls Tryz.prog 221 #[.agg #[.int .i64 D.fr, .int .i64 D.en, .int .i64 D.tt, .int .i64 D.sq, .bool D.ev, .bool D.dn], .pointer (some ⟨k, 0, none⟩)] w fun e w' => e = .returned (.bool (comes x D)) ∧ Below w.heap.size w w' := by
  have hne : k ≠ w.heap.size := by omega
  have hB : Hid (∀ o, Below w.heap.size w (w.alloc o)) := hide (fun o => (Below.refl _ _).alloc (Nat.le_refl _) o)
  obtain ⟨fr, en, tt, sq, ev, dn⟩ := D
  by_cases h0 : tt = 0
  · have e0 : comes x ⟨fr, en, tt, sq, ev, dn⟩ = false := by simp [comes, h0]
    rw [e0]
    subst h0
    go_enter Tryz.func221, Tryz.ntmps221
    go_wp2
    go_ret
    exact ⟨by simp_all, hB.out _⟩
  · by_cases h : en = x
    · have e0 : comes x ⟨fr, en, tt, sq, ev, dn⟩ = true := by simp [comes, h0, h]
      rw [e0]
      subst h
      go_enter Tryz.func221, Tryz.ntmps221
      go_wp2
      go_ret
      exact ⟨by simp_all, hB.out _⟩
    · have e0 : comes x ⟨fr, en, tt, sq, ev, dn⟩ = false := by simp [comes, h]
      rw [e0]
      go_enter Tryz.func221, Tryz.ntmps221
      go_wp2
      go_ret
      exact ⟨by simp_all, hB.out _⟩
set_option maxRecDepth 100000 in
set_option maxHeartbeats 2000000 in
theorem indexcomes {w : World} {bd n c : Nat} {ds : List Dv} (hv : dvE.Rd w (.slice (some ⟨bd, 0, none⟩) n c) ds) (hn : ds.length = n) (hm : n ≤ 1000) (x : Int) (k0 : Nat) (hk0 : k0 < w.heap.size) (hcell : w.cell? ⟨k0, 0, none⟩ = some (.int .i64 x)) :
    Calls Tryz.prog 241 #[.slice (some ⟨bd, 0, none⟩) n c, .func (.func 221) #[] #[.pointer (some ⟨k0, 0, none⟩)]] w fun e w' => e = .returned (.int .i64 (ixI (comes x) ds)) ∧ Below w.heap.size w w' := by
  have Hv := hide hv
  have Hn := hide hn
  have Hc := hide hcell
  have i0 : (n : Int) ≤ 1000 := by omega
  have yes : Hid (∀ (k : Nat) (p : Dv), ds[k]? = some p → comes x p = true → (∀ j d, j < k → ds[j]? = some d → comes x d = false) → ixI (comes x) ds = (k : Int)) := hide (fun k p h1 h2 h3 => ix_at h1 h2 h3)
  have no : Hid ((∀ (j : Nat) (d : Dv), j < n → ds[j]? = some d → comes x d = false) → ixI (comes x) ds = -1) := hide (fun h => ix_none (by rw [hn]; exact h))
  generalize ixI (comes x) ds = res at *
  clear hv hn hcell
  obtain ⟨w0, rfl⟩ : ∃ w0, w0 = w := ⟨_, rfl⟩
  go_enter Tryz.func241, Tryz.ntmps241
  go_wp2_with fail
  go_loopw [8] (fun v8 wr => ∃ k : Nat, k ≤ n ∧ v8 = .int .i64 k ∧ Hid (Below w0.heap.size w0 wr) ∧ Hid (∀ j d, j < k → ds[j]? = some d → comes x d = false)) (fun v8 _ => n - (intOf v8).toNat)
  case atStart => exact ⟨0, by omega, rfl, hide (Below.refl _ _), hide (fun j q h => by omega)⟩
  case round =>
    obtain ⟨k, hk, rfl, HB, Hno⟩ := hrel
    by_cases hlt : k < n
    · obtain ⟨p, hp⟩ : ∃ p, ds[k]? = some p := ⟨_, List.getElem?_eq_getElem (by rw [Hn.out]; exact hlt)⟩
      obtain ⟨d0, d1, d2, d3, d4, d5⟩ := dv_at (Hv.out.keep HB.out) k p hp
      have hqw : k0 < wr.heap.size := Nat.lt_of_lt_of_le hk0 HB.out.size
      have hcw : wr.cell? ⟨k0, 0, none⟩ = some (.int .i64 x) := by rw [HB.out.cell hk0]; exact Hc.out
      have K := hide (cloC_any p x k0 wr hqw hcw)
      have j0 : (0 : Int) ≤ (k : Int) := by omega
      have j1 : (k : Int) < (n : Int) := by omega
      have Hp := hide hp
      clear hp hcw hqw
      cases he : comes x p with
      | true =>
        rw [he] at K
        have e1 := yes.out k p Hp.out he Hno.out
        subst e1
        clear he
        go_wp2_with (go_at_call 221; refine K.out.mono ?_; rintro e w2 ⟨rfl, B2⟩; have HB2 := hide (HB.out.trans (B2.mono HB.out.size)); clear B2)
        go_ret
        exact ⟨rfl, HB2.out⟩
      | false =>
        rw [he] at K
        have HX1 : Hid (∀ j d, j < k + 1 → ds[j]? = some d → comes x d = false) := hide (fun j d hj hd => by
          rcases Nat.lt_or_ge j k with g | g
          · exact Hno.out j d g hd
          · obtain rfl : j = k := by omega
            rw [Hp.out] at hd
            cases hd
            exact he)
        clear he
        go_wp2_with (go_at_call 221; refine K.out.mono ?_; rintro e w2 ⟨rfl, B2⟩; have HB2 := hide (HB.out.trans (B2.mono HB.out.size)); clear B2)
        go_roundw
        case rel => exact ⟨k + 1, by omega, by go_num, HB2, HX1⟩
        case measure => simp [intOf]; omega
    · obtain rfl : k = n := by omega
      have j1 : ¬ (k : Int) < (k : Int) := by omega
      have e1 := no.out Hno.out
      subst e1
      go_wp2_with fail
      go_ret
      exact ⟨rfl, HB.out⟩
set_option maxRecDepth 100000 in
theorem hascomes {w : World} {bd n c : Nat} {ds : List Dv} (hv : dvE.Rd w (.slice (some ⟨bd, 0, none⟩) n c) ds) (hn : ds.length = n) (hm : n ≤ 1000) (x : Int) (k0 : Nat) (hk0 : k0 < w.heap.size) (hcell : w.cell? ⟨k0, 0, none⟩ = some (.int .i64 x)) :
  Calls Tryz.prog 220 #[.slice (some ⟨bd, 0, none⟩) n c, .func (.func 221) #[] #[.pointer (some ⟨k0, 0, none⟩)]] w fun e w' => e = .returned (.bool (ds.any (comes x))) ∧ Below w.heap.size w w' := by
 have K := hide (indexcomes hv hn hm x k0 hk0 hcell)
 have hd := ix_any (comes x) ds
 generalize ixI (comes x) ds = res at *
 generalize ds.any (comes x) = yes at *
 clear hv hn hcell
 go_enter Tryz.func220, Tryz.ntmps220
 go_wp2_with (go_at_call 241; refine K.out.mono ?_; rintro e w2 ⟨rfl, B2⟩; have HB2 := hide B2; clear B2)
 go_ret
 exact ⟨rfl, HB2.out⟩
set_option maxHeartbeats 1000000 in
theorem cloT_any (D : Dv) (x : Int) (k : Nat) (w : World) (hk : k < w.heap.size) (hcell : w.cell? ⟨k, 0, none⟩ = some (.int .i64 x)) :
    Calls Tryz.prog 248 #[.agg #[.int .i64 D.fr, .int .i64 D.en, .int .i64 D.tt, .int .i64 D.sq, .bool D.ev, .bool D.dn], .pointer (some ⟨k, 0, none⟩)] w fun e w' => e = .returned (.bool (takes x D)) ∧ Below w.heap.size w w' := by
  have hne : k ≠ w.heap.size := by omega
  have hB : Hid (∀ o, Below w.heap.size w (w.alloc o)) := hide (fun o => (Below.refl _ _).alloc (Nat.le_refl _) o)
  obtain ⟨fr, en, tt, sq, ev, dn⟩ := D
  by_cases h : tt = x
  · have e0 : takes x ⟨fr, en, tt, sq, ev, dn⟩ = true := by simp [takes, h]
    rw [e0]
    subst h
    go_enter Tryz.func248, Tryz.ntmps248
    go_wp2
    go_ret
    exact ⟨by simp_all, hB.out _⟩
  · have e0 : takes x ⟨fr, en, tt, sq, ev, dn⟩ = false := by simp [takes, h]
    rw [e0]
    go_enter Tryz.func248, Tryz.ntmps248
    go_wp2
    go_ret
    exact ⟨by simp_all, hB.out _⟩
set_option maxRecDepth 100000 in
set_option maxHeartbeats 2000000 in
theorem indextakes {w : World} {bd n c : Nat} {ds : List Dv} (hv : dvE.Rd w (.slice (some ⟨bd, 0, none⟩) n c) ds) (hn : ds.length = n) (hm : n ≤ 1000) (x : Int) (k0 : Nat) (hk0 : k0 < w.heap.size) (hcell : w.cell? ⟨k0, 0, none⟩ = some (.int .i64 x)) :
    Calls Tryz.prog 241 #[.slice (some ⟨bd, 0, none⟩) n c, .func (.func 248) #[] #[.pointer (some ⟨k0, 0, none⟩)]] w fun e w' => e = .returned (.int .i64 (ixI (takes x) ds)) ∧ Below w.heap.size w w' := by
  have Hv := hide hv
  have Hn := hide hn
  have Hc := hide hcell
  have i0 : (n : Int) ≤ 1000 := by omega
  have yes : Hid (∀ (k : Nat) (p : Dv), ds[k]? = some p → takes x p = true → (∀ j d, j < k → ds[j]? = some d → takes x d = false) → ixI (takes x) ds = (k : Int)) := hide (fun k p h1 h2 h3 => ix_at h1 h2 h3)
  have no : Hid ((∀ (j : Nat) (d : Dv), j < n → ds[j]? = some d → takes x d = false) → ixI (takes x) ds = -1) := hide (fun h => ix_none (by rw [hn]; exact h))
  generalize ixI (takes x) ds = res at *
  clear hv hn hcell
  obtain ⟨w0, rfl⟩ : ∃ w0, w0 = w := ⟨_, rfl⟩
  go_enter Tryz.func241, Tryz.ntmps241
  go_wp2_with fail
  go_loopw [8] (fun v8 wr => ∃ k : Nat, k ≤ n ∧ v8 = .int .i64 k ∧ Hid (Below w0.heap.size w0 wr) ∧ Hid (∀ j d, j < k → ds[j]? = some d → takes x d = false)) (fun v8 _ => n - (intOf v8).toNat)
  case atStart => exact ⟨0, by omega, rfl, hide (Below.refl _ _), hide (fun j q h => by omega)⟩
  case round =>
    obtain ⟨k, hk, rfl, HB, Hno⟩ := hrel
    by_cases hlt : k < n
    · obtain ⟨p, hp⟩ : ∃ p, ds[k]? = some p := ⟨_, List.getElem?_eq_getElem (by rw [Hn.out]; exact hlt)⟩
      obtain ⟨d0, d1, d2, d3, d4, d5⟩ := dv_at (Hv.out.keep HB.out) k p hp
      have hqw : k0 < wr.heap.size := Nat.lt_of_lt_of_le hk0 HB.out.size
      have hcw : wr.cell? ⟨k0, 0, none⟩ = some (.int .i64 x) := by rw [HB.out.cell hk0]; exact Hc.out
      have K := hide (cloT_any p x k0 wr hqw hcw)
      have j0 : (0 : Int) ≤ (k : Int) := by omega
      have j1 : (k : Int) < (n : Int) := by omega
      have Hp := hide hp
      clear hp hcw hqw
      cases he : takes x p with
      | true =>
        rw [he] at K
        have e1 := yes.out k p Hp.out he Hno.out
        subst e1
        clear he
        go_wp2_with (go_at_call 248; refine K.out.mono ?_; rintro e w2 ⟨rfl, B2⟩; have HB2 := hide (HB.out.trans (B2.mono HB.out.size)); clear B2)
        go_ret
        exact ⟨rfl, HB2.out⟩
      | false =>
        rw [he] at K
        have HX1 : Hid (∀ j d, j < k + 1 → ds[j]? = some d → takes x d = false) := hide (fun j d hj hd => by
          rcases Nat.lt_or_ge j k with g | g
          · exact Hno.out j d g hd
          · obtain rfl : j = k := by omega
            rw [Hp.out] at hd
            cases hd
            exact he)
        clear he
        go_wp2_with (go_at_call 248; refine K.out.mono ?_; rintro e w2 ⟨rfl, B2⟩; have HB2 := hide (HB.out.trans (B2.mono HB.out.size)); clear B2)
        go_roundw
        case rel => exact ⟨k + 1, by omega, by go_num, HB2, HX1⟩
        case measure => simp [intOf]; omega
    · obtain rfl : k = n := by omega
      have j1 : ¬ (k : Int) < (k : Int) := by omega
      have e1 := no.out Hno.out
      subst e1
      go_wp2_with fail
      go_ret
      exact ⟨rfl, HB.out⟩
set_option maxRecDepth 100000 in
theorem hastakes {w : World} {bd n c : Nat} {ds : List Dv} (hv : dvE.Rd w (.slice (some ⟨bd, 0, none⟩) n c) ds) (hn : ds.length = n) (hm : n ≤ 1000) (x : Int) (k0 : Nat) (hk0 : k0 < w.heap.size) (hcell : w.cell? ⟨k0, 0, none⟩ = some (.int .i64 x)) :
  Calls Tryz.prog 220 #[.slice (some ⟨bd, 0, none⟩) n c, .func (.func 248) #[] #[.pointer (some ⟨k0, 0, none⟩)]] w fun e w' => e = .returned (.bool (ds.any (takes x))) ∧ Below w.heap.size w w' := by
 have K := hide (indextakes hv hn hm x k0 hk0 hcell)
 have hd := ix_any (takes x) ds
 generalize ixI (takes x) ds = res at *
 generalize ds.any (takes x) = yes at *
 clear hv hn hcell
 go_enter Tryz.func220, Tryz.ntmps220
 go_wp2_with (go_at_call 241; refine K.out.mono ?_; rintro e w2 ⟨rfl, B2⟩; have HB2 := hide B2; clear B2)
 go_ret
 exact ⟨rfl, HB2.out⟩
section
variable {w : World} {B g n m : Nat} {H : Nat × Nat} {es : List (Int × Int)} {S : Mr}
set_option maxRecDepth 100000 in
theorem where_m (h : (It.mir B g H n m es S).P w) (t : Int) : Calls Tryz.prog 47 #[.pointer (some ⟨g, 0, none⟩), .int .i64 t] w fun e w' => e = .returned (.int .i64 (S.whr t)) ∧ w' = w := by
 obtain ⟨c0, c1⟩ := mr_cells h
 obtain ⟨l0, l1, l2, l3⟩ := mr_len h
 have K1 := hide (isTote_any t w)
 have K2 := hide (idx_any _ n n S.ts t w l0 (mr_ts h).rd (by omega))
 have e0 : S.whr t = if isT t = true then loc S.ts t else -1 := rfl
 rw [e0]
 generalize loc S.ts t = res at *
 clear e0 l0 l1 h
 cases hT : isT t with
 | true =>
  rw [hT] at K1
  rw [if_pos rfl]
  clear hT
  go_enter Tryz.func47, Tryz.ntmps47
  go_wp2_with (first
   | (go_at_call 111; refine K1.out.mono ?_; rintro e w1 ⟨rfl, rfl⟩)
   | (go_at_call 112; refine K2.out.mono ?_; rintro e w1 ⟨rfl, rfl⟩))
  go_ret
  exact ⟨rfl, rfl⟩
 | false =>
  rw [hT] at K1
  rw [if_neg (by simp)]
  clear hT
  go_enter Tryz.func47, Tryz.ntmps47
  go_wp2_with (go_at_call 111; refine K1.out.mono ?_; rintro e w1 ⟨rfl, rfl⟩)
  go_ret
  exact ⟨rfl, rfl⟩
set_option maxRecDepth 100000 in
theorem at_m (h : (It.mir B g H n m es S).P w) (x : Int) : Calls Tryz.prog 219 #[.pointer (some ⟨g, 0, none⟩), .int .i64 x] w fun e w' => e = .returned (.int .i64 (S.att x)) ∧ w' = w := by
 obtain ⟨c0, c1⟩ := mr_cells h
 obtain ⟨l0, l1, l2, l3⟩ := mr_len h
 have K1 := hide (isNode_m h x)
 cases hN : S.isN x with
 | true =>
  rw [hN] at K1
  have hx := Mr.isN_iff.1 hN
  rw [l0] at hx
  obtain ⟨k, rfl⟩ : ∃ k : Nat, x = (k : Int) := ⟨x.toNat, by omega⟩
  obtain ⟨p, hp, c2, _⟩ := mr_t h (k := k) (by omega)
  rw [Mr.att_nat hp]
  have k1 : (0 : Int) ≤ (k : Int) := by omega
  have k2 : (k : Int) < (n : Int) := by omega
  clear hN h l0 l1 hp hx
  go_enter Tryz.func219, Tryz.ntmps219
  go_wp2_with (go_at_call 228; refine K1.out.mono ?_; rintro e w1 ⟨rfl, rfl⟩)
  go_ret
  exact ⟨rfl, rfl⟩
 | false =>
  rw [hN] at K1
  rw [Mr.att_out hN]
  clear hN h l0 l1
  go_enter Tryz.func219, Tryz.ntmps219
  go_wp2_with (go_at_call 228; refine K1.out.mono ?_; rintro e w1 ⟨rfl, rfl⟩)
  go_ret
  exact ⟨rfl, rfl⟩
set_option maxRecDepth 100000 in
set_option maxHeartbeats 1000000 in
theorem taken_m (h : (It.mir B g H n m es S).P w) (x : Int) : Calls Tryz.prog 182 #[.pointer (some ⟨g, 0, none⟩), .int .i64 x] w fun e w' => e = .returned (.bool (S.tak x)) ∧ Below w.heap.size w w' := by
  have hf : ∀ W k, (Instr.makeFunc (.func 221) #[] #[.pointer (some ⟨k, 0, none⟩)]).run Tryz.prog W = .ok (.func (.func 221) #[] #[.pointer (some ⟨k, 0, none⟩)]) W := fun _ _ => rfl
  obtain ⟨w1, hw1⟩ : ∃ w1, w.alloc (.cells #[.int .i64 x] 3) = w1 := ⟨_, rfl⟩
  have b1 : Below w.heap.size w w1 := by rw [← hw1]; exact below_new _ _
  have h1 : (It.mir B g H n m es S).P w1 := (It.mir B g H n m es S).st h fun k hk => b1.block k ((It.mir B g H n m es S).lt h k hk)
  have hx : w1.cell? ⟨w.heap.size, 0, none⟩ = some (.int .i64 x) := by rw [← hw1]; exact (cells_at (heap_new _ _) 0).1
  have hs : w.heap.size < w1.heap.size := by rw [← hw1]; show _ < (w.heap.push _).size; simp
  obtain ⟨c0, c1⟩ := mr_cells h1
  obtain ⟨l0, l1, l2, l3⟩ := mr_len h1
  have K1 := hide (at_m h1 x)
  have K2 := hide (hascomes (mr_ds h1).rd l1 (by omega) x w.heap.size hs hx)
  have e0 : S.tak x = (decide (S.att x ≠ 0) || S.ds.any (comes x)) := rfl
  rw [e0]
  have HB := hide b1
  have HA : Hid (∀ W, Below w1.heap.size w1 W → Below w.heap.size w W) := hide (fun W b => b1.trans (b.mono b1.size))
  generalize S.att x = y at *
  generalize S.ds.any (comes x) = z at *
  subst hw1
  clear e0 l0 l1 h h1 b1 hs
  by_cases hy : y = 0
  · subst hy
    rw [show (decide ((0 : Int) ≠ 0) || z) = z by simp]
    go_enter Tryz.func182, Tryz.ntmps182
    go_wp2_with (first
      | (go_at_call 219; refine K1.out.mono ?_; rintro e w1 ⟨rfl, rfl⟩)
      | (go_at_call 220; refine K2.out.mono ?_; rintro e w2 ⟨rfl, B2⟩; have HB2 := hide (HA.out _ B2); clear B2))
    go_ret
    exact ⟨rfl, HB2.out⟩
  · rw [show (decide (y ≠ 0) || z) = true by simp [hy]]
    have hy' : (y == 0) = false := beq_eq_false_iff_ne.2 hy
    go_enter Tryz.func182, Tryz.ntmps182
    go_wp2_with (go_at_call 219; refine K1.out.mono ?_; rintro e w1 ⟨rfl, rfl⟩)
    go_ret
    exact ⟨rfl, HB.out⟩
set_option maxRecDepth 100000 in
set_option maxHeartbeats 1000000 in
theorem way_m (h : (It.mir B g H n m es S).P w) (x : Int) : Calls Tryz.prog 230 #[.pointer (some ⟨g, 0, none⟩), .int .i64 x] w fun e w' => e = .returned (.bool (S.way x)) ∧ Below w.heap.size w w' := by
 have hf : ∀ W k, (Instr.makeFunc (.func 248) #[] #[.pointer (some ⟨k, 0, none⟩)]).run Tryz.prog W = .ok (.func (.func 248) #[] #[.pointer (some ⟨k, 0, none⟩)]) W := fun _ _ => rfl
 obtain ⟨w1, hw1⟩ : ∃ w1, w.alloc (.cells #[.int .i64 x] 3) = w1 := ⟨_, rfl⟩
 have b1 : Below w.heap.size w w1 := by rw [← hw1]; exact below_new _ _
 have h1 : (It.mir B g H n m es S).P w1 := (It.mir B g H n m es S).st h fun k hk => b1.block k ((It.mir B g H n m es S).lt h k hk)
 have hx : w1.cell? ⟨w.heap.size, 0, none⟩ = some (.int .i64 x) := by rw [← hw1]; exact (cells_at (heap_new _ _) 0).1
 have hs : w.heap.size < w1.heap.size := by rw [← hw1]; show _ < (w.heap.push _).size; simp
 obtain ⟨c0, c1⟩ := mr_cells h1
 obtain ⟨l0, l1, l2, l3⟩ := mr_len h1
 have K2 := hide (hastakes (mr_ds h1).rd l1 (by omega) x w.heap.size hs hx)
 have e0 : S.way x = S.ds.any (takes x) := rfl
 rw [e0]
 have HA : Hid (∀ W, Below w1.heap.size w1 W → Below w.heap.size w W) := hide (fun W b => b1.trans (b.mono b1.size))
 generalize S.ds.any (takes x) = z at *
 subst hw1
 clear e0 l0 l1 h h1 b1 hs
 go_enter Tryz.func230, Tryz.ntmps230
 go_wp2_with (go_at_call 220; refine K2.out.mono ?_; rintro e w2 ⟨rfl, B2⟩; have HB2 := hide (HA.out _ B2); clear B2)
 go_ret
 exact ⟨rfl, HB2.out⟩
set_option maxRecDepth 100000 in
set_option maxHeartbeats 1000000 in
theorem told_m (h : (It.mir B g H n m es S).P w) (d : Int) : Calls Tryz.prog 58 #[.pointer (some ⟨g, 0, none⟩), .int .i64 d] w fun e w' => e = .returned (.tuple #[.int .i64 (S.told d).1, .int .i64 (S.told d).2.1, .bool (S.told d).2.2]) ∧ ∃ q, w' = w.drewN q := by
  obtain ⟨c0, c1⟩ := mr_cells h
  obtain ⟨l0, l1, l2, l3⟩ := mr_len h
  have K1 := hide (isDev_m h d)
  cases hD : S.isD d with
  | false =>
    rw [hD] at K1
    have e0 : S.told d = (0, 0, false) := by unfold Mr.told; rw [if_neg (by rw [hD]; simp)]
    rw [e0]
    clear e0 hD h l0 l1
    go_enter Tryz.func58, Tryz.ntmps58
    go_wp2_with (go_at_call 131; refine K1.out.mono ?_; rintro e w1 ⟨rfl, rfl⟩)
    go_ret3
    exact ⟨rfl, 0, rfl⟩
  | true =>
    rw [hD] at K1
    have hx := Mr.isD_iff.1 hD
    rw [l1] at hx
    obtain ⟨k, rfl⟩ : ∃ k : Nat, d = (k : Int) + 1 := ⟨(d - 1).toNat, by omega⟩
    have hp : S.ds[k]? = some (S.dev ((k : Int) + 1)) := by
      have := (Mr.dev_at hD).1
      rwa [show ((k : Int) + 1 - 1).toNat = k by omega] at this
    have K2 := hide (device_m h k (by omega))
    obtain ⟨d0, d1, d2, d3, d4, d5⟩ := mr_d h hp
    have e0 : ∀ D, S.dev ((k : Int) + 1) = D → S.told ((k : Int) + 1) = if D.tt ≠ 0 then (D.tt, D.sq, true) else (0, 0, false) := fun D e => by
      unfold Mr.told; rw [e]; by_cases z : D.tt = 0 <;> simp [z, hD]
    rw [e0 _ rfl]
    generalize S.dev ((k : Int) + 1) = D at *
    obtain ⟨fr, en, tt, sq, ev, dn⟩ := D
    dsimp only at *
    clear e0 hD h l0 l1 hp hx
    by_cases z : tt = 0
    · subst z
      rw [if_neg (by simp)]
      go_enter Tryz.func58, Tryz.ntmps58
      go_wp2_with (first
        | (go_at_call 131; refine K1.out.mono ?_; rintro e w1 ⟨rfl, rfl⟩)
        | (go_at_call 132; refine K2.out.mono ?_; rintro e w1 ⟨rfl, rfl⟩))
      go_ret3
      exact ⟨rfl, 0, rfl⟩
    · rw [if_pos z]
      have z' : (tt == 0) = false := beq_eq_false_iff_ne.2 z
      go_enter Tryz.func58, Tryz.ntmps58
      go_wp2_with (first
        | (go_at_call 131; refine K1.out.mono ?_; rintro e w1 ⟨rfl, rfl⟩)
        | (go_at_call 132; refine K2.out.mono ?_; rintro e w1 ⟨rfl, rfl⟩))
      go_quiet (fail)
      go_wp2_with fail
      go_ret3
      exact ⟨rfl, _, rfl⟩
set_option maxRecDepth 100000 in
set_option maxHeartbeats 1000000 in
theorem last_m (h : (It.mir B g H n m es S).P w) (d : Int) : Calls Tryz.prog 183 #[.pointer (some ⟨g, 0, none⟩), .int .i64 d] w fun e w' => e = .returned (.tuple #[.int .i64 (S.last d).1, .bool (S.last d).2]) ∧ ∃ q, w' = w.drewN q := by
 obtain ⟨c0, c1⟩ := mr_cells h
 obtain ⟨l0, l1, l2, l3⟩ := mr_len h
 have K1 := hide (isDev_m h d)
 cases hD : S.isD d with
 | false =>
  rw [hD] at K1
  have e0 : S.last d = (0, false) := by unfold Mr.last; rw [if_neg (by rw [hD]; simp)]
  rw [e0]
  clear e0 hD h l0 l1
  go_enter Tryz.func183, Tryz.ntmps183
  go_wp2_with (go_at_call 131; refine K1.out.mono ?_; rintro e w1 ⟨rfl, rfl⟩)
  go_ret2
  exact ⟨rfl, 0, rfl⟩
 | true =>
  rw [hD] at K1
  have hx := Mr.isD_iff.1 hD
  rw [l1] at hx
  obtain ⟨k, rfl⟩ : ∃ k : Nat, d = (k : Int) + 1 := ⟨(d - 1).toNat, by omega⟩
  have hp : S.ds[k]? = some (S.dev ((k : Int) + 1)) := by
   have := (Mr.dev_at hD).1
   rwa [show ((k : Int) + 1 - 1).toNat = k by omega] at this
  have K2 := hide (device_m h k (by omega))
  obtain ⟨d0, d1, d2, d3, d4, d5⟩ := mr_d h hp
  have e0 : S.last ((k : Int) + 1) = ((S.dev ((k : Int) + 1)).sq, (S.dev ((k : Int) + 1)).ev) := by unfold Mr.last; rw [if_pos hD]
  rw [e0]
  generalize S.dev ((k : Int) + 1) = D at *
  obtain ⟨fr, en, tt, sq, ev, dn⟩ := D
  dsimp only at *
  clear e0 hD h l0 l1 hp hx
  go_enter Tryz.func183, Tryz.ntmps183
  go_wp2_with (first
   | (go_at_call 131; refine K1.out.mono ?_; rintro e w1 ⟨rfl, rfl⟩)
   | (go_at_call 132; refine K2.out.mono ?_; rintro e w1 ⟨rfl, rfl⟩))
  go_quiet (fail)
  go_wp2_with fail
  go_ret2
  exact ⟨rfl, _, rfl⟩
end
open Go.RowKit
theorem Its.tset {w0 w : World} {l : List It} {B bt n : Nat} {ts : List Int} (h : Its w0 (.ints B (.slice (some ⟨bt, 0, none⟩) n n) ts :: l) w) (k : Nat) (x : Int) : Its w0 (.ints B (.slice (some ⟨bt, 0, none⟩) n n) (ts.set k x) :: l) (w.setCell ⟨bt, k, none⟩ (.int .i64 x)) :=
 h.chg (El.Own.set (Value.int .i64) (fun _ => rfl) rfl h.one k x) (fun _ hk => .inl hk) ((Frm.set w bt k _).mono (fun j _ hj => by subst hj; rfl))
theorem Its.dset {w0 w : World} {l : List It} {B bd m : Nat} {ds : List Dv} (h : Its w0 (.row dvE B (.slice (some ⟨bd, 0, none⟩) m m) ds :: l) w) {k : Nat} {x : Dv} (hx : ds[k]? = some x) (z : Dv) (j : Nat) (u : Value) (hj : j < 6) (he : dvE.enc z = (dvE.enc x).set j u) :
  Its w0 (.row dvE B (.slice (some ⟨bd, 0, none⟩) m m) (ds.set k z) :: l) (w.setCell ⟨bd, k * 6 + j, none⟩ u) :=
 h.chg (own_setC h.one (i := k) (j := j) hx hj he) (fun _ hk => .inl hk) ((Frm.set w bd (k * 6 + j) u).mono (fun j _ hj => by subst hj; rfl))
section
variable {w0 w : World} {l : List It} {B g n m : Nat} {H : Nat × Nat} {es : List (Int × Int)} {S : Mr}
set_option maxRecDepth 100000 in
set_option maxHeartbeats 1000000 in
theorem putS (h : Its w0 (.mir B g H n m es S :: l) w) (t x : Int) : Calls Tryz.prog 196 #[.pointer (some ⟨g, 0, none⟩), .int .i64 t, .int .i64 x] w fun e w' => e = .returned (.int .i64 (S.put t x).1) ∧ Its w0 (.mir B g H n m es (S.put t x).2 :: l) w' := by
  have h1 := h.one
  have hok := (mr_ok h1).put t x
  obtain ⟨c0, c1⟩ := mr_cells h1
  obtain ⟨l0, l1, l2, l3⟩ := mr_len h1
  have K1 := hide (isTote_any t w)
  have K2 := hide (isNode_m h1 x)
  have K3 := hide (where_m h1 t)
  have K4 := hide (taken_m h1 x)
  have HI := hide h
  have e0 : S.put t x = if (isT t && S.isN x) = false then (1, S) else if S.whr t ≠ -1 then (2, S) else if S.tak x = true then (100, S) else (0, { S with ts := S.ts.set x.toNat t }) := rfl
  rw [e0] at hok ⊢
  cases hT : isT t with
  | false =>
    rw [hT] at K1
    rw [if_pos (show (false && S.isN x) = false from rfl)]
    clear hT e0 h h1 l0 l1 hok
    go_enter Tryz.func196, Tryz.ntmps196
    go_wp2_with (go_at_call 111; refine K1.out.mono ?_; rintro e w1 ⟨rfl, rfl⟩)
    go_ret
    exact ⟨rfl, HI.out⟩
  | true =>
    rw [hT] at K1 hok
    cases hN : S.isN x with
    | false =>
      rw [hN] at K2
      rw [if_pos (show (true && false) = false from rfl)]
      clear hT hN e0 h h1 l0 l1 hok
      go_enter Tryz.func196, Tryz.ntmps196
      go_wp2_with (first
        | (go_at_call 111; refine K1.out.mono ?_; rintro e w1 ⟨rfl, rfl⟩)
        | (go_at_call 228; refine K2.out.mono ?_; rintro e w1 ⟨rfl, rfl⟩))
      go_ret
      exact ⟨rfl, HI.out⟩
    | true =>
      rw [hN] at K2 hok
      rw [if_neg (by simp)] at hok ⊢
      by_cases hw : S.whr t = -1
      · rw [hw] at K3
        rw [if_neg (by simpa using hw)] at hok ⊢
        cases hk : S.tak x with
        | true =>
          rw [hk] at K4 hok
          rw [if_pos rfl] at hok ⊢
          clear hT hN hw hk e0 h h1 l0 l1 hok
          go_enter Tryz.func196, Tryz.ntmps196
          go_wp2_with (first
            | (go_at_call 111; refine K1.out.mono ?_; rintro e w1 ⟨rfl, rfl⟩)
            | (go_at_call 228; refine K2.out.mono ?_; rintro e w1 ⟨rfl, rfl⟩)
            | (go_at_call 47; refine K3.out.mono ?_; rintro e w1 ⟨rfl, rfl⟩)
            | (go_at_call 182; refine K4.out.mono ?_; rintro e w1 ⟨rfl, B1⟩; have H1 := hide (HI.out.keep B1); clear B1))
          go_ret
          exact ⟨rfl, H1.out⟩
        | false =>
          rw [hk] at K4 hok
          rw [if_neg (by simp)] at hok ⊢
          have hx := Mr.isN_iff.1 hN
          rw [l0] at hx
          obtain ⟨k, rfl⟩ : ∃ k : Nat, x = (k : Int) := ⟨x.toNat, by omega⟩
          rw [show ((k : Int)).toNat = k by omega] at hok ⊢
          have HF : Hid (MFact n m es { S with ts := S.ts.set k t }) := hide ⟨hok, (mr_fact h1).2⟩
          have X : Hid (∀ W, Its w0 (.mir B g H n m es S :: l) W → W.cell? ⟨g, 0, none⟩ = some (.slice (some ⟨H.1, 0, none⟩) n n) ∧ (∃ p, W.cell? ⟨H.1, k, none⟩ = some (.int .i64 p)) ∧ W.frozen? ⟨H.1, k, none⟩ = false) := hide (fun W hW => by
            obtain ⟨p, _, q1, q2⟩ := mr_t hW.one (k := k) (by omega)
            exact ⟨(mr_cells hW.one).1, ⟨p, q1⟩, q2⟩)
          have k1 : (0 : Int) ≤ (k : Int) := by omega
          have k2 : (k : Int) < (n : Int) := by omega
          clear hT hN hw hk e0 h h1 l0 l1 hok hx
          go_enter Tryz.func196, Tryz.ntmps196
          go_wp2_with (first
            | (go_at_call 111; refine K1.out.mono ?_; rintro e w1 ⟨rfl, rfl⟩)
            | (go_at_call 228; refine K2.out.mono ?_; rintro e w1 ⟨rfl, rfl⟩)
            | (go_at_call 47; refine K3.out.mono ?_; rintro e w1 ⟨rfl, rfl⟩)
            | (go_at_call 182; refine K4.out.mono ?_; rintro e w1 ⟨rfl, B1⟩; have H1 := hide (HI.out.keep B1); clear B1; obtain ⟨y0, ⟨p, y1⟩, y2⟩ := X.out _ H1.out))
          go_ret
          exact ⟨rfl, (H1.out.mopen.1.swap.tset k t).swap.mshut HF.out⟩
      · rw [if_pos hw] at hok ⊢
        have hw' : (S.whr t == -1) = false := beq_eq_false_iff_ne.2 hw
        generalize S.whr t = y at *
        clear hT hN e0 h h1 l0 l1 hok
        go_enter Tryz.func196, Tryz.ntmps196
        go_wp2_with (first
          | (go_at_call 111; refine K1.out.mono ?_; rintro e w1 ⟨rfl, rfl⟩)
          | (go_at_call 228; refine K2.out.mono ?_; rintro e w1 ⟨rfl, rfl⟩)
          | (go_at_call 47; refine K3.out.mono ?_; rintro e w1 ⟨rfl, rfl⟩))
        go_ret
        exact ⟨rfl, HI.out⟩
theorem dev_k (h : (It.mir B g H n m es S).P w) {d : Int} (hD : S.isD d = true) : ∃ k : Nat, d = (k : Int) + 1 ∧ k < m ∧ (d - 1).toNat = k ∧ S.ds[k]? = some (S.dev d) := by
 have hx := Mr.isD_iff.1 hD
 rw [(mr_len h).2.1] at hx
 exact ⟨(d - 1).toNat, by omega, by omega, rfl, (Mr.dev_at hD).1⟩
set_option maxRecDepth 100000 in
set_option maxHeartbeats 1000000 in
theorem maskS (h : Its w0 (.mir B g H n m es S :: l) w) (d : Int) (b : Bool) : Calls Tryz.prog 200 #[.pointer (some ⟨g, 0, none⟩), .int .i64 d, .bool b] w fun e w' => e = .returned (.int .i64 (S.msk d b).1) ∧ Its w0 (.mir B g H n m es (S.msk d b).2 :: l) w' := by
 have h1 := h.one
 have hok := (mr_ok h1).msk d b
 have K1 := hide (isDev_m h1 d)
 have HI := hide h
 have e0 : S.msk d b = if S.isD d = false then (1, S) else (0, S.setD d { S.dev d with dn := b }) := rfl
 rw [e0] at hok ⊢
 cases hD : S.isD d with
 | false =>
  rw [hD] at K1
  rw [if_pos rfl]
  clear hD e0 h h1 hok
  go_enter Tryz.func200, Tryz.ntmps200
  go_wp2_with (go_at_call 131; refine K1.out.mono ?_; rintro e w1 ⟨rfl, rfl⟩)
  go_ret
  exact ⟨rfl, HI.out⟩
 | true =>
  obtain ⟨k, hd, hk, hk', hp⟩ := dev_k h1 hD
  rw [hD] at K1 hok
  rw [if_neg (by simp)] at hok ⊢
  have K2 := hide (device_m h1 k hk)
  obtain ⟨d0, d1, d2, d3, d4, d5⟩ := mr_d h1 hp
  have f5 := mr_df h1 hk (j := 5) (by omega)
  have HX : Hid (Its w0 (.mir B g H n m es (S.setD d { S.dev d with dn := b }) :: l) (w.setCell ⟨H.2, k * 6 + 5, none⟩ (.bool b))) := hide (by
   have := h.mopen.1.dset hp { S.dev d with dn := b } 5 (.bool b) (by omega) rfl
   refine Its.mshut (S := S.setD d { S.dev d with dn := b }) ?_ ⟨hok, (mr_fact h1).2⟩
   unfold Mr.setD mparts
   rw [hk']
   exact this)
  subst hd
  generalize S.dev ((k : Int) + 1) = D at *
  generalize S.setD ((k : Int) + 1) { D with dn := b } = S' at *
  clear hD e0 h h1 hok hp hk'
  go_enter Tryz.func200, Tryz.ntmps200
  go_wp2_with (first
   | (go_at_call 131; refine K1.out.mono ?_; rintro e w1 ⟨rfl, rfl⟩)
   | (go_at_call 132; refine K2.out.mono ?_; rintro e w1 ⟨rfl, rfl⟩))
  go_ret
  exact ⟨rfl, HX.out⟩
set_option maxRecDepth 100000 in
set_option maxHeartbeats 1000000 in
theorem dropS (h : Its w0 (.mir B g H n m es S :: l) w) (d : Int) : Calls Tryz.prog 199 #[.pointer (some ⟨g, 0, none⟩), .int .i64 d] w fun e w' => e = .returned (.int .i64 (S.drp d).1) ∧ Its w0 (.mir B g H n m es (S.drp d).2 :: l) w' := by
  have h1 := h.one
  have hok := (mr_ok h1).drp d
  have K1 := hide (isDev_m h1 d)
  have HI := hide h
  have e0 : S.drp d = if S.isD d = false then (1, S) else if (S.dev d).tt = 0 then (4, S) else (0, S.setD d { S.dev d with tt := 0 }) := rfl
  rw [e0] at hok ⊢
  cases hD : S.isD d with
  | false =>
    rw [hD] at K1
    rw [if_pos rfl]
    clear hD e0 h h1 hok
    go_enter Tryz.func199, Tryz.ntmps199
    go_wp2_with (go_at_call 131; refine K1.out.mono ?_; rintro e w1 ⟨rfl, rfl⟩)
    go_ret
    exact ⟨rfl, HI.out⟩
  | true =>
    obtain ⟨k, hd, hk, hk', hp⟩ := dev_k h1 hD
    rw [hD] at K1 hok
    rw [if_neg (by simp)] at hok ⊢
    have K2 := hide (device_m h1 k hk)
    obtain ⟨d0, d1, d2, d3, d4, d5⟩ := mr_d h1 hp
    have f2 := mr_df h1 hk (j := 2) (by omega)
    by_cases z : (S.dev d).tt = 0
    · rw [if_pos z]
      rw [z] at d2
      subst hd
      generalize S.dev ((k : Int) + 1) = D at *
      clear hD e0 h h1 hok hp hk' z
      go_enter Tryz.func199, Tryz.ntmps199
      go_wp2_with (first
        | (go_at_call 131; refine K1.out.mono ?_; rintro e w1 ⟨rfl, rfl⟩)
        | (go_at_call 132; refine K2.out.mono ?_; rintro e w1 ⟨rfl, rfl⟩))
      go_ret
      exact ⟨rfl, HI.out⟩
    · rw [if_neg z] at hok ⊢
      have HX : Hid (Its w0 (.mir B g H n m es (S.setD d { S.dev d with tt := 0 }) :: l) (w.setCell ⟨H.2, k * 6 + 2, none⟩ (.int .i64 0))) := hide (by
        have := h.mopen.1.dset hp { S.dev d with tt := 0 } 2 (.int .i64 0) (by omega) rfl
        refine Its.mshut (S := S.setD d { S.dev d with tt := 0 }) ?_ ⟨hok, (mr_fact h1).2⟩
        unfold Mr.setD mparts
        rw [hk']
        exact this)
      subst hd
      have z' : ((S.dev ((k : Int) + 1)).tt == 0) = false := beq_eq_false_iff_ne.2 z
      generalize S.dev ((k : Int) + 1) = D at *
      generalize S.setD ((k : Int) + 1) { D with tt := 0 } = S' at *
      clear hD e0 h h1 hok hp hk'
      go_enter Tryz.func199, Tryz.ntmps199
      go_wp2_with (first
        | (go_at_call 131; refine K1.out.mono ?_; rintro e w1 ⟨rfl, rfl⟩)
        | (go_at_call 132; refine K2.out.mono ?_; rintro e w1 ⟨rfl, rfl⟩))
      go_ret
      exact ⟨rfl, HX.out⟩
end
open Go.RowKit
section
variable {w0 w : World} {l : List It} {B g n m : Nat} {H : Nat × Nat} {es : List (Int × Int)} {S : Mr}
def Rds (g n m k kf ke : Nat) (H : Nat × Nat) (x y : Int) (D : Dv) (W : World) : Prop :=
 W.cell? ⟨g, 0, none⟩ = some (.slice (some ⟨H.1, 0, none⟩) n n) ∧ W.cell? ⟨H.1, kf, none⟩ = some (.int .i64 x) ∧ W.cell? ⟨H.1, ke, none⟩ = some (.int .i64 y) ∧
  W.cell? ⟨H.2, k * 6, none⟩ = some (.int .i64 (kf : Int)) ∧ W.cell? ⟨H.2, k * 6 + 1, none⟩ = some (.int .i64 (ke : Int)) ∧ W.cell? ⟨H.2, k * 6 + 2, none⟩ = some (.int .i64 D.tt) ∧ W.cell? ⟨H.2, k * 6 + 5, none⟩ = some (.bool D.dn) ∧ W.cell? ⟨H.2, k * 6 + 3, none⟩ = some (.int .i64 D.sq) ∧ W.cell? ⟨H.2, k * 6 + 4, none⟩ = some (.bool D.ev) ∧
  (∀ i, i < 6 → W.frozen? ⟨H.2, k * 6 + i, none⟩ = false) ∧ W.frozen? ⟨H.1, kf, none⟩ = false ∧ W.frozen? ⟨H.1, ke, none⟩ = false
theorem rds_of (h : (It.mir B g H n m es S).P w) {d : Int} (hD : S.isD d = true) : ∃ k kf ke : Nat, d = (k : Int) + 1 ∧ k < m ∧ (d - 1).toNat = k ∧ S.ds[k]? = some (S.dev d) ∧ (S.dev d).fr = (kf : Int) ∧ kf < n ∧ (S.dev d).en = (ke : Int) ∧ ke < n ∧ kf ≠ ke ∧
  ∀ (w0 : World) (l : List It) (W : World), Its w0 (.mir B g H n m es S :: l) W → Rds g n m k kf ke H (S.att (S.dev d).fr) (S.att (S.dev d).en) (S.dev d) W := by
 obtain ⟨k, hd, hk, hk', hp⟩ := dev_k h hD
 obtain ⟨f1, f2, f3⟩ := (mr_ok h).ins (Mr.dev_at hD).2
 have l0 := (mr_len h).1
 have g1 := Mr.isN_iff.1 f1
 have g2 := Mr.isN_iff.1 f2
 obtain ⟨kf, ef⟩ : ∃ kf : Nat, (S.dev d).fr = (kf : Int) := ⟨(S.dev d).fr.toNat, by omega⟩
 obtain ⟨ke, ee⟩ : ∃ ke : Nat, (S.dev d).en = (ke : Int) := ⟨(S.dev d).en.toNat, by omega⟩
 refine ⟨k, kf, ke, hd, hk, hk', hp, ef, by omega, ee, by omega, fun q => f3 (by rw [ef, ee, q]), fun w0 l W hW => ?_⟩
 have hW1 := hW.one
 obtain ⟨d0, d1, d2, d3, d4, d5⟩ := mr_d hW1 hp
 obtain ⟨x, hx, x1, x2⟩ := mr_t hW1 (k := kf) (by omega)
 obtain ⟨y, hy, y1, y2⟩ := mr_t hW1 (k := ke) (by omega)
 rw [ef, ee, Mr.att_nat hx, Mr.att_nat hy]
 rw [ef] at d0
 rw [ee] at d1
 exact ⟨(mr_cells hW1).1, x1, y1, d0, d1, d2, d5, d3, d4, fun i hi => mr_df hW1 hk hi, x2, y2⟩
set_option maxRecDepth 100000 in
set_option maxHeartbeats 2000000 in
theorem sendS (h : Its w0 (.mir B g H n m es S :: l) w) (d t q : Int) : Calls Tryz.prog 197 #[.pointer (some ⟨g, 0, none⟩), .int .i64 d, .int .i64 t, .int .i64 q] w fun e w' => e = .returned (.int .i64 (S.snd d t q).1) ∧ Its w0 (.mir B g H n m es (S.snd d t q).2 :: l) w' := by
 have h1 := h.one
 have hok := (mr_ok h1).snd d t q
 have K1 := hide (isDev_m h1 d)
 have K2 := hide (isTote_any t w)
 have K3 := hide (isSeq_any q w)
 have HI := hide h
 have e0 : S.snd d t q = if (S.isD d && isT t && isQ q) = false then (1, S) else if ((S.dev d).dn || decide ((S.dev d).tt ≠ 0)) = true then (140, S) else if (decide (S.att (S.dev d).fr ≠ t) || S.way t) = true then (160, S) else if S.tak (S.dev d).en = true then (100, S) else (0, S.setD d { S.dev d with tt := t, sq := q, ev := true }) := rfl
 rw [e0] at hok ⊢
 cases hD : S.isD d with
 | false =>
  rw [hD] at K1
  rw [if_pos (show (false && isT t && isQ q) = false from rfl)]
  clear hD e0 h h1 hok
  go_enter Tryz.func197, Tryz.ntmps197
  go_wp2_with (go_at_call 131; refine K1.out.mono ?_; rintro e w1 ⟨rfl, rfl⟩)
  go_ret
  exact ⟨rfl, HI.out⟩
 | true =>
 rw [hD] at K1 hok
 cases hT : isT t with
 | false =>
  rw [hT] at K2
  rw [if_pos (show (true && false && isQ q) = false from rfl)]
  clear hD hT e0 h h1 hok
  go_enter Tryz.func197, Tryz.ntmps197
  go_wp2_with (first
   | (go_at_call 131; refine K1.out.mono ?_; rintro e w1 ⟨rfl, rfl⟩)
   | (go_at_call 111; refine K2.out.mono ?_; rintro e w1 ⟨rfl, rfl⟩))
  go_ret
  exact ⟨rfl, HI.out⟩
 | true =>
 rw [hT] at K2 hok
 cases hQ : isQ q with
 | false =>
  rw [hQ] at K3
  rw [if_pos (show (true && true && false) = false from rfl)]
  clear hD hT hQ e0 h h1 hok
  go_enter Tryz.func197, Tryz.ntmps197
  go_wp2_with (first
   | (go_at_call 131; refine K1.out.mono ?_; rintro e w1 ⟨rfl, rfl⟩)
   | (go_at_call 111; refine K2.out.mono ?_; rintro e w1 ⟨rfl, rfl⟩)
   | (go_at_call 229; refine K3.out.mono ?_; rintro e w1 ⟨rfl, rfl⟩))
  go_ret
  exact ⟨rfl, HI.out⟩
 | true =>
 rw [hQ] at K3 hok
 rw [if_neg (show ¬ (true && true && true) = false by simp)] at hok ⊢
 obtain ⟨k, kf, ke, hd, hk, hk', hp, ef, hkf, ee, hke, hne, X0⟩ := rds_of h1 hD
 have X := hide (X0 w0 l)
 clear X0
 have K4 := hide (device_m h1 k hk)
 have K5 : Hid (∀ W, Its w0 (.mir B g H n m es S :: l) W → Calls Tryz.prog 230 #[.pointer (some ⟨g, 0, none⟩), .int .i64 t] W fun e w' => e = .returned (.bool (S.way t)) ∧ Below W.heap.size W w') := hide (fun W hW => way_m hW.one t)
 have K6 : Hid (∀ W, Its w0 (.mir B g H n m es S :: l) W → Calls Tryz.prog 182 #[.pointer (some ⟨g, 0, none⟩), .int .i64 (ke : Int)] W fun e w' => e = .returned (.bool (S.tak (ke : Int))) ∧ Below W.heap.size W w') := hide (fun W hW => taken_m hW.one ke)
 obtain ⟨c0, c1, c2, c3, c4, c5, c6, cq, cv, c7, c8, c9⟩ := X.out _ HI.out
 have j0 : (0 : Int) ≤ (kf : Int) := by omega
 have j1 : (kf : Int) < (n : Int) := by omega
 have fi : Hid (MFact n m es S) := hide (mr_fact h1)
 rw [ee] at hok ⊢
 have hok' := hide hok
 clear hok
 cases hdn : (S.dev d).dn with
 | true =>
  rw [if_pos (by simp)]
  rw [hdn] at c6
  subst hd
  clear hD hT hQ e0 h h1 hp hk' ef ee hdn hok' hne
  generalize S.dev ((k : Int) + 1) = D at *
  go_enter Tryz.func197, Tryz.ntmps197
  go_wp2_with (first
   | (go_at_call 131; refine K1.out.mono ?_; rintro e w1 ⟨rfl, rfl⟩)
   | (go_at_call 111; refine K2.out.mono ?_; rintro e w1 ⟨rfl, rfl⟩)
   | (go_at_call 229; refine K3.out.mono ?_; rintro e w1 ⟨rfl, rfl⟩)
   | (go_at_call 132; refine K4.out.mono ?_; rintro e w1 ⟨rfl, rfl⟩))
  go_ret
  exact ⟨rfl, HI.out⟩
 | false =>
 rw [hdn] at c6 hok'
 by_cases z : (S.dev d).tt = 0
 case neg =>
  rw [if_pos (by simp [z])]
  have z' : ((S.dev d).tt == 0) = false := beq_eq_false_iff_ne.2 z
  subst hd
  clear hD hT hQ e0 h h1 hp hk' ef ee hdn hok' hne
  generalize S.dev ((k : Int) + 1) = D at *
  go_enter Tryz.func197, Tryz.ntmps197
  go_wp2_with (first
   | (go_at_call 131; refine K1.out.mono ?_; rintro e w1 ⟨rfl, rfl⟩)
   | (go_at_call 111; refine K2.out.mono ?_; rintro e w1 ⟨rfl, rfl⟩)
   | (go_at_call 229; refine K3.out.mono ?_; rintro e w1 ⟨rfl, rfl⟩)
   | (go_at_call 132; refine K4.out.mono ?_; rintro e w1 ⟨rfl, rfl⟩))
  go_ret
  exact ⟨rfl, HI.out⟩
 case pos =>
 rw [if_neg (by simp [z])]
 replace hok' := hok'.out
 rw [if_neg (by simp [z])] at hok'
 have c5' : w.cell? ⟨H.2, k * 6 + 2, none⟩ = some (.int .i64 0) := by rw [← z]; exact c5
 clear c5
 by_cases ha : S.att (S.dev d).fr = t
 case neg =>
  rw [if_pos (by simp [ha])]
  have ha' : (S.att (S.dev d).fr == t) = false := beq_eq_false_iff_ne.2 ha
  generalize S.att (S.dev d).fr = xa at *
  generalize S.att (S.dev d).en = ya at *
  subst hd
  clear hD hT hQ e0 h h1 hp hk' ef ee hdn hok' hne z
  generalize S.dev ((k : Int) + 1) = D at *
  go_enter Tryz.func197, Tryz.ntmps197
  go_wp2_with (first
   | (go_at_call 131; refine K1.out.mono ?_; rintro e w1 ⟨rfl, rfl⟩)
   | (go_at_call 111; refine K2.out.mono ?_; rintro e w1 ⟨rfl, rfl⟩)
   | (go_at_call 229; refine K3.out.mono ?_; rintro e w1 ⟨rfl, rfl⟩)
   | (go_at_call 132; refine K4.out.mono ?_; rintro e w1 ⟨rfl, rfl⟩))
  go_quiet (fail)
  go_wp2_with fail
  go_ret
  exact ⟨rfl, HI.out.drew _⟩
 case pos =>
 rw [ha] at c1 X hok'
 have hyes : decide (S.att (S.dev d).fr ≠ t) = false := by simp [ha]
 rw [hyes]
 rw [show decide (t ≠ t) = false by simp] at hok'
 rw [Bool.false_or] at hok' ⊢
 cases hw : S.way t with
 | true =>
  rw [hw] at K5
  rw [if_pos rfl]
  generalize S.att (S.dev d).en = ya at *
  subst hd
  clear hD hT hQ e0 h h1 hp hk' ef ee hdn hok' hne z ha hyes hw
  generalize S.dev ((k : Int) + 1) = D at *
  go_enter Tryz.func197, Tryz.ntmps197
  go_wp2_with (first
   | (go_at_call 131; refine K1.out.mono ?_; rintro e w1 ⟨rfl, rfl⟩)
   | (go_at_call 111; refine K2.out.mono ?_; rintro e w1 ⟨rfl, rfl⟩)
   | (go_at_call 229; refine K3.out.mono ?_; rintro e w1 ⟨rfl, rfl⟩)
   | (go_at_call 132; refine K4.out.mono ?_; rintro e w1 ⟨rfl, rfl⟩))
  go_region_with (first
   | (go_at_call 230; refine (K5.out _ HI.out).mono ?_; rintro e w2 ⟨rfl, B2⟩; have H2 := hide (HI.out.keep B2); clear B2; obtain ⟨y0, y1, y2, y3, y4, y5, y6, yq, yv, y7, y8, y9⟩ := X.out _ H2.out)
   | (go_at_call 230; refine (K5.out _ (HI.out.drew _)).mono ?_; rintro e w2 ⟨rfl, B2⟩; have H2 := hide ((HI.out.drew _).keep B2); clear B2; obtain ⟨y0, y1, y2, y3, y4, y5, y6, yq, yv, y7, y8, y9⟩ := X.out _ H2.out))
  all_goals go_wp2_with fail
  all_goals go_ret
  all_goals exact ⟨rfl, H2.out⟩
 | false =>
 rw [hw] at K5 hok'
 rw [if_neg (by simp)] at hok' ⊢
 cases htk : S.tak (ke : Int) with
 | true =>
  rw [htk] at K6
  rw [if_pos rfl]
  generalize S.att (S.dev d).en = ya at *
  subst hd
  clear hD hT hQ e0 h h1 hp hk' ef ee hdn hok' hne z ha hyes hw htk
  generalize S.dev ((k : Int) + 1) = D at *
  go_enter Tryz.func197, Tryz.ntmps197
  go_wp2_with (first
   | (go_at_call 131; refine K1.out.mono ?_; rintro e w1 ⟨rfl, rfl⟩)
   | (go_at_call 111; refine K2.out.mono ?_; rintro e w1 ⟨rfl, rfl⟩)
   | (go_at_call 229; refine K3.out.mono ?_; rintro e w1 ⟨rfl, rfl⟩)
   | (go_at_call 132; refine K4.out.mono ?_; rintro e w1 ⟨rfl, rfl⟩))
  go_region_with (first
   | (go_at_call 230; refine (K5.out _ HI.out).mono ?_; rintro e w2 ⟨rfl, B2⟩; have H2 := hide (HI.out.keep B2); clear B2; obtain ⟨y0, y1, y2, y3, y4, y5, y6, yq, yv, y7, y8, y9⟩ := X.out _ H2.out)
   | (go_at_call 230; refine (K5.out _ (HI.out.drew _)).mono ?_; rintro e w2 ⟨rfl, B2⟩; have H2 := hide ((HI.out.drew _).keep B2); clear B2; obtain ⟨y0, y1, y2, y3, y4, y5, y6, yq, yv, y7, y8, y9⟩ := X.out _ H2.out))
  all_goals go_wp2_with (go_at_call 182; refine (K6.out _ H2.out).mono ?_; rintro e w3 ⟨rfl, B3⟩; have H3 := hide (H2.out.keep B3); clear B3; obtain ⟨z0, z1, z2, z3, z4, z5, z6, zq, zv, z7, z8, z9⟩ := X.out _ H3.out)
  all_goals go_ret
  all_goals exact ⟨rfl, H3.out⟩
 | false =>
  rw [htk] at K6 hok'
  rw [if_neg (by simp)] at hok' ⊢
  have HX : Hid (∀ W, Its w0 (.mir B g H n m es S :: l) W → Its w0 (.mir B g H n m es (S.setD d { S.dev d with tt := t, sq := q, ev := true }) :: l) (((W.setCell ⟨H.2, k * 6 + 2, none⟩ (.int .i64 t)).setCell ⟨H.2, k * 6 + 3, none⟩ (.int .i64 q)).setCell ⟨H.2, k * 6 + 4, none⟩ (.bool true))) := hide (fun W hW => by
   have a1 := hW.mopen.1.dset hp { S.dev d with tt := t } 2 (.int .i64 t) (by omega) rfl
   have a2 := Its.dset a1 (set_at hp) { S.dev d with tt := t, sq := q } 3 (.int .i64 q) (by omega) rfl
   have a3 := Its.dset a2 (set_at (set_at hp)) { S.dev d with tt := t, sq := q, ev := true } 4 (.bool true) (by omega) rfl
   rw [List.set_set, List.set_set] at a3
   refine Its.mshut (S := S.setD d { S.dev d with tt := t, sq := q, ev := true }) ?_ ⟨hok', fi.out.2⟩
   unfold Mr.setD mparts
   rw [hk']
   exact a3)
  generalize S.att (S.dev d).en = ya at *
  subst hd
  generalize S.setD ((k : Int) + 1) { S.dev ((k : Int) + 1) with tt := t, sq := q, ev := true } = S' at *
  clear hD hT hQ e0 h h1 hp hk' ef ee hdn hok' hne z ha hyes hw htk
  generalize S.dev ((k : Int) + 1) = D at *
  go_enter Tryz.func197, Tryz.ntmps197
  go_wp2_with (first
   | (go_at_call 131; refine K1.out.mono ?_; rintro e w1 ⟨rfl, rfl⟩)
   | (go_at_call 111; refine K2.out.mono ?_; rintro e w1 ⟨rfl, rfl⟩)
   | (go_at_call 229; refine K3.out.mono ?_; rintro e w1 ⟨rfl, rfl⟩)
   | (go_at_call 132; refine K4.out.mono ?_; rintro e w1 ⟨rfl, rfl⟩))
  go_region_with (first
   | (go_at_call 230; refine (K5.out _ HI.out).mono ?_; rintro e w2 ⟨rfl, B2⟩; have H2 := hide (HI.out.keep B2); clear B2; obtain ⟨y0, y1, y2, y3, y4, y5, y6, yq, yv, y7, y8, y9⟩ := X.out _ H2.out)
   | (go_at_call 230; refine (K5.out _ (HI.out.drew _)).mono ?_; rintro e w2 ⟨rfl, B2⟩; have H2 := hide ((HI.out.drew _).keep B2); clear B2; obtain ⟨y0, y1, y2, y3, y4, y5, y6, yq, yv, y7, y8, y9⟩ := X.out _ H2.out))
  all_goals go_wp2_with (go_at_call 182; refine (K6.out _ H2.out).mono ?_; rintro e w3 ⟨rfl, B3⟩; have H3 := hide (H2.out.keep B3); clear B3; have u2 := (X.out _ H3.out).2.2.2.2.2.2.2.2.2.1 2 (by omega); have u3 := (X.out _ H3.out).2.2.2.2.2.2.2.2.2.1 3 (by omega); have u4 := (X.out _ H3.out).2.2.2.2.2.2.2.2.2.1 4 (by omega); obtain ⟨z0, z1, z2, z3, z4, z5, z6, zq, zv, z7, z8, z9⟩ := X.out _ H3.out)
  all_goals go_ret
  all_goals exact ⟨rfl, HX.out _ H3.out⟩
end
end Go.Proofs.YtocmngpoemfpkabGreatDoor
