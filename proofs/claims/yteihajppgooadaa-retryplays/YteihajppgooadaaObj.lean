/- An intake as its object lies in memory, and as plain data; New, Next, Ready, Get. -/
import Derived.Test.YteihajppgooadaaLone
import Derived.Test.YteihajppgooadaaEls
import Derived.Deep.CutRange
import Derived.Deep.DeepCutAuto
import Derived.Deep.QuietTactic
import Derived.BigQuiet
import Derived.Maps.Own
import Derived.OpenShut
import Derived.WideShapes4
import Derived.Maps.OwnOps
import Derived.Maps.OwnSet
import Derived.Maps.Views
import Derived.Conc.SmallLaws
namespace Go.Proofs.Yteihajppgooadaa
open Go.Conc Go.RowKit Go.Maps Go.ChangeMaps
set_option linter.unusedVariables false

/-- an element as it is -/
def raw (v : Value) : Option (DataW Value × List MemPlace) := some (.held v, [])
theorem law : Keyed Try.prog 22 := int_keyed Try.underlying22
theorem zero33 (w : World) : (zeroValue 36).run Try.prog w = .ok (.slice none 0 0) w := by kernel_rfl

/-- a piece of data: its block, its bytes -/
abbrev Dt := Nat × List Int
/-- where an intake lies: its struct, its map, its channel -/
structure Hd where
  g : Nat
  mb : Nat
  c : Nat
/-- an intake: window, next, what waits, the queue; n: a bound on how many pieces ever came -/
structure Ik where
  win : Int
  nx : Int
  wait : Int → Option Dt
  q : List Dt
  n : Nat

/-- the value is a slice of the program's own that reads as the piece -/
def Dat (w : World) (v : Value) (p : Dt) : Prop := bytesE.Own w 0 v p.2 ∧ ∀ b, v.ownBlock = some b → b = p.1
def key (x : Int) : Lit := .int .u16 x
/-- what the map's datum has at a number -/
def Mp (w : World) (D : DataW Value) (wait : Int → Option Dt) : Prop :=
  ∀ x, 0 ≤ x → x ≤ 65535 → match wait x with
    | none => has D (key x) = false
    | some p => ∃ v, has D (key x) = true ∧ (∀ z, D.atKey (key x) z = .held v) ∧ Dat w v p
/-- what a list of values reads as -/
inductive Qs (w : World) : List Value → List Dt → Prop
  | nil : Qs w [] []
  | cons {v p vs ps} : Dat w v p → Qs w vs ps → Qs w (v :: vs) (p :: ps)

def cellsOf (h : Hd) (S : Ik) : Array Value := #[.int .i64 S.win, .int .u16 S.nx, .map (some h.mb), .chan (some h.c)]
structure Has (w : World) (h : Hd) (S : Ik) : Prop where
  win : 1 ≤ S.win ∧ S.win ≤ 64
  nx : 0 ≤ S.nx ∧ S.nx ≤ 65535
  box : w.heap[h.g]? = some (.cells (cellsOf h S) 99)
  map : ∃ D, w.ownsMap Try.prog 22 raw h.mb S.n D ∧ Mp w D S.wait
  chan : ∃ buf s r, w.heap[h.c]? = some (.chan (2 * S.win - 1).toNat (buf : List Value).toArray false s r false) ∧ Qs w buf S.q

/-- but for the object's three blocks all is as it was -/
structure Only (h : Hd) (w w' : World) : Prop where
  os : w'.os = w.os
  tape : w'.tape = w.tape
  output : w'.output = w.output
  size : w.heap.size ≤ w'.heap.size
  block : ∀ k, k < w.heap.size → k ≠ h.g → k ≠ h.mb → k ≠ h.c → w'.heap[k]? = w.heap[k]?

theorem Only.refl (h : Hd) (w : World) : Only h w w := ⟨rfl, rfl, rfl, Nat.le_refl _, fun _ _ _ _ _ => rfl⟩
theorem Only.trans {h : Hd} {a b c : World} (x : Only h a b) (y : Only h b c) : Only h a c :=
  ⟨y.os.trans x.os, y.tape.trans x.tape, y.output.trans x.output, Nat.le_trans x.size y.size, fun k hk h1 h2 h3 => (y.block k (Nat.lt_of_lt_of_le hk x.size) h1 h2 h3).trans (x.block k hk h1 h2 h3)⟩
theorem Only.below {h : Hd} {a w w' : World} {B : Nat} (x : Only h w w') (hb : Below B a w) (hB : B ≤ w.heap.size) (h1 : B ≤ h.g) (h2 : B ≤ h.mb) (h3 : B ≤ h.c) : Below B a w' :=
  ⟨x.os.trans hb.os, x.tape.trans hb.tape, x.output.trans hb.output, Nat.le_trans hb.size x.size, fun k hk => (x.block k (by omega) (by omega) (by omega) (by omega)).trans (hb.block k hk)⟩
theorem Only.of_below {h : Hd} {w w' : World} (hb : Below w.heap.size w w') : Only h w w' := ⟨hb.os, hb.tape, hb.output, hb.size, fun k hk _ _ _ => hb.block k hk⟩

theorem heap_lt {w : World} {g : Nat} {o : Obj} (h : w.heap[g]? = some o) : g < w.heap.size := by
  rcases Nat.lt_or_ge g w.heap.size with h' | h'
  · exact h'
  · rw [Array.getElem?_eq_none h'] at h; cases h

/-- a row stays where its block stays -/
theorem own_stay {α : Type} {E : El Try.prog α} {w w' : World} {B : Nat} {v : Value} {xs : List α} (h : E.Own w B v xs) (hs : ∀ g, v.ownBlock = some g → g < w.heap.size → w'.heap[g]? = w.heap[g]?) : E.Own w' B v xs := by
  obtain ⟨h0, h⟩ := h
  refine ⟨h0, ?_⟩
  rcases h with h | ⟨g, cap, cur, h1, h2, h3, h4⟩
  · exact .inl h
  · refine .inr ⟨g, cap, cur, h1, h2, ?_, h4⟩
    rw [hs g (by rw [h1]; rfl) (heap_lt h3)]; exact h3
/-- a row's block is a block of cells -/
theorem own_cells {α : Type} {E : El Try.prog α} {w : World} {B : Nat} {v : Value} {xs : List α} (h : E.Own w B v xs) (g : Nat) (hg : v.ownBlock = some g) : ∃ cur, w.heap[g]? = some (.cells cur E.e) ∧ B ≤ g := by
  obtain ⟨h0, h⟩ := h
  rcases h with ⟨rfl, _⟩ | ⟨g', cap, cur, rfl, h2, h3, _⟩
  · cases hg
  · simp [Value.ownBlock] at hg
    subst hg
    exact ⟨cur, h3, h2⟩

theorem Has.apart {w : World} {h : Hd} {S : Ik} (H : Has w h S) : h.g ≠ h.mb ∧ h.g ≠ h.c ∧ h.mb ≠ h.c := by
  obtain ⟨D, ⟨es, clock, hb, _⟩, _⟩ := H.map
  obtain ⟨buf, s, r, hc, _⟩ := H.chan
  have hx := H.box
  refine ⟨fun e => ?_, fun e => ?_, fun e => ?_⟩
  · rw [e, hb] at hx; cases hx
  · rw [e, hc] at hx; cases hx
  · rw [e, hc] at hb; cases hb

/-- a row of another kind of elements is none of the object's three blocks -/
theorem Has.off {α : Type} {E : El Try.prog α} {w : World} {h : Hd} {S : Ik} (H : Has w h S) (he : E.e ≠ 99) {B : Nat} {v : Value} {xs : List α} (ho : E.Own w B v xs) (g : Nat) (hg : v.ownBlock = some g) : g ≠ h.g ∧ g ≠ h.mb ∧ g ≠ h.c := by
  obtain ⟨cur, hc, _⟩ := own_cells ho g hg
  obtain ⟨D, ⟨es, clock, hb, _⟩, _⟩ := H.map
  obtain ⟨buf, s, r, hc', _⟩ := H.chan
  refine ⟨fun e => ?_, fun e => ?_, fun e => ?_⟩
  · subst e; rw [H.box] at hc; simp only [Option.some.injEq, Obj.cells.injEq] at hc; exact he hc.2.1.symm
  · subst e; rw [hb] at hc; cases hc
  · subst e; rw [hc'] at hc; cases hc
/-- such a row outlives what the object does -/
theorem Has.row {α : Type} {E : El Try.prog α} {w w' : World} {h : Hd} {S : Ik} (H : Has w h S) (he : E.e ≠ 99) {B : Nat} {v : Value} {xs : List α} (ho : E.Own w B v xs) (hw : Only h w w') : E.Own w' B v xs :=
  own_stay ho fun g hg hlt => by
    obtain ⟨h1, h2, h3⟩ := H.off he ho g hg
    exact hw.block g hlt h1 h2 h3

theorem bytes58 : bytesE.e ≠ 99 := by decide

/-- data stay where the blocks of rows stay -/
theorem Dat.stay {w w' : World} {v : Value} {p : Dt} (h : Dat w v p) (hs : ∀ g cur, w.heap[g]? = some (.cells cur 5) → g = p.1 → w'.heap[g]? = w.heap[g]?) : Dat w' v p :=
  ⟨own_stay h.1 fun g hg hlt => by
    obtain ⟨cur, hc, _⟩ := own_cells h.1 g hg
    exact hs g cur hc (h.2 g hg), h.2⟩
theorem Qs.stay {w w' : World} {vs : List Value} {ps : List Dt} (h : Qs w vs ps) (hs : ∀ g cur, w.heap[g]? = some (.cells cur 5) → (∃ p ∈ ps, g = p.1) → w'.heap[g]? = w.heap[g]?) : Qs w' vs ps := by
  induction h with
  | nil => exact .nil
  | cons hd _ ih => exact .cons (hd.stay fun g cur hc e => hs g cur hc ⟨_, by simp, e⟩) (ih fun g cur hc ⟨p, hp, e⟩ => hs g cur hc ⟨p, by simp [hp], e⟩)
theorem Mp.stay {w w' : World} {D : DataW Value} {wait : Int → Option Dt} (h : Mp w D wait) (hs : ∀ g cur, w.heap[g]? = some (.cells cur 5) → (∃ x p, wait x = some p ∧ g = p.1) → w'.heap[g]? = w.heap[g]?) : Mp w' D wait := by
  intro x h0 h1
  have := h x h0 h1
  cases hw : wait x with
  | none => rw [hw] at this; exact this
  | some p =>
    rw [hw] at this
    obtain ⟨v, k1, k2, k3⟩ := this
    exact ⟨v, k1, k2, k3.stay fun g cur hc e => hs g cur hc ⟨x, p, hw, e⟩⟩
theorem Qs.len {w : World} {vs : List Value} {ps : List Dt} (h : Qs w vs ps) : vs.length = ps.length := by
  induction h with
  | nil => rfl
  | cons _ _ ih => simp [ih]
theorem Qs.push {w : World} {vs : List Value} {ps : List Dt} (h : Qs w vs ps) {v : Value} {p : Dt} (hd : Dat w v p) : Qs w (vs ++ [v]) (ps ++ [p]) := by
  induction h with
  | nil => exact .cons hd .nil
  | cons h1 _ ih => exact .cons h1 ih

/-- the object stays where its blocks and its data's stay -/
theorem Has.stay {w w' : World} {h : Hd} {S : Ik} (H : Has w h S) (hs : ∀ k, k < w.heap.size → (k = h.g ∨ k = h.mb ∨ k = h.c ∨ (∃ p ∈ S.q, k = p.1) ∨ ∃ x p, S.wait x = some p ∧ k = p.1) → w'.heap[k]? = w.heap[k]?) : Has w' h S where
  win := H.win
  nx := H.nx
  box := by rw [hs h.g (heap_lt H.box) (.inl rfl)]; exact H.box
  map := by
    obtain ⟨D, ⟨es, clock, hb, hr⟩, hM⟩ := H.map
    exact ⟨D, ⟨es, clock, by rw [hs h.mb (heap_lt hb) (.inr (.inl rfl))]; exact hb, hr⟩, hM.stay fun g cur hc e => hs g (heap_lt hc) (.inr (.inr (.inr (.inr e))))⟩
  chan := by
    obtain ⟨buf, s, r, hc, hq⟩ := H.chan
    exact ⟨buf, s, r, by rw [hs h.c (heap_lt hc) (.inr (.inr (.inl rfl)))]; exact hc, hq.stay fun g cur hc e => hs g (heap_lt hc) (.inr (.inr (.inr (.inl e))))⟩
theorem Has.keep {w w' : World} {h : Hd} {S : Ik} (H : Has w h S) (hb : Below w.heap.size w w') : Has w' h S := H.stay fun k hk _ => hb.block k hk
theorem Has.drewN {w : World} {h : Hd} {S : Ik} (H : Has w h S) (n : Nat) : Has (w.drewN n) h S := H.stay fun k hk _ => rfl

theorem Has.cells {w : World} {h : Hd} {S : Ik} (H : Has w h S) : w.cell? ⟨h.g, 0, none⟩ = some (.int .i64 S.win) ∧ w.cell? ⟨h.g, 1, none⟩ = some (.int .u16 S.nx) ∧ w.cell? ⟨h.g, 2, none⟩ = some (.map (some h.mb)) ∧ w.cell? ⟨h.g, 3, none⟩ = some (.chan (some h.c)) := by
  have hx := H.box
  unfold World.cell?
  simp only [hx]
  exact ⟨rfl, rfl, rfl, rfl⟩
theorem Has.cold {w : World} {h : Hd} {S : Ik} (H : Has w h S) (i : Nat) : w.frozen? ⟨h.g, i, none⟩ = false := by
  have hx := H.box
  unfold World.frozen?
  simp [hx]

end Go.Proofs.Yteihajppgooadaa
