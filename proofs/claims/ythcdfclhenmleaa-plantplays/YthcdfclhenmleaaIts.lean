/- Things that lie side by side in memory, each with blocks of its own: one of them changes, the others stay. -/
import Derived.Test.YthcdfclhenmleaaCba
namespace Go.Proofs.Ythcdfclhenmleaa
open Go.RowKit
set_option linter.unusedVariables false

/-- a thing in memory, and its blocks -/
structure It where
  P : World → Prop
  f : Nat → Prop
  lt : ∀ {w : World}, P w → ∀ k, f k → k < w.heap.size
  st : ∀ {w w' : World}, P w → (∀ k, f k → w'.heap[k]? = w.heap[k]?) → P w'

/-- but for some blocks all stays -/
structure Frm (f : Nat → Prop) (w w' : World) : Prop where
  os : w'.os = w.os
  tape : w'.tape = w.tape
  output : w'.output = w.output
  size : w.heap.size ≤ w'.heap.size
  block : ∀ k, k < w.heap.size → ¬ f k → w'.heap[k]? = w.heap[k]?
theorem Frm.refl (f : Nat → Prop) (w : World) : Frm f w w := ⟨rfl, rfl, rfl, Nat.le_refl _, fun _ _ _ => rfl⟩
theorem Frm.trans {f : Nat → Prop} {a b c : World} (x : Frm f a b) (y : Frm f b c) : Frm f a c :=
  ⟨y.os.trans x.os, y.tape.trans x.tape, y.output.trans x.output, Nat.le_trans x.size y.size, fun k hk hf => (y.block k (Nat.lt_of_lt_of_le hk x.size) hf).trans (x.block k hk hf)⟩
theorem Frm.mono {f f' : Nat → Prop} {a b : World} (x : Frm f a b) (h : ∀ k, k < a.heap.size → f k → f' k) : Frm f' a b := ⟨x.os, x.tape, x.output, x.size, fun k hk hf => x.block k hk (fun q => hf (h k hk q))⟩
/-- what came anew counts for nothing -/
theorem Frm.trans' {f f' : Nat → Prop} {a b c : World} (x : Frm f a b) (y : Frm f' b c) (h : ∀ k, k < a.heap.size → f' k → f k) : Frm f a c :=
  ⟨y.os.trans x.os, y.tape.trans x.tape, y.output.trans x.output, Nat.le_trans x.size y.size, fun k hk hf => (y.block k (Nat.lt_of_lt_of_le hk x.size) (fun q => hf (h k hk q))).trans (x.block k hk hf)⟩
theorem Frm.of_below {f : Nat → Prop} {w w' : World} (h : Below w.heap.size w w') : Frm f w w' := ⟨h.os, h.tape, h.output, h.size, fun k hk _ => h.block k hk⟩
theorem Frm.of_grown {w w' : World} {r : Option Nat} (h : w.grownBy w' r) : Frm (fun k => r = some k) w w' := ⟨h.os, h.tape, h.output, h.size, fun k hk hf => h.block k hk (fun e => hf e.symm)⟩
theorem Frm.below {f : Nat → Prop} {w0 w w' : World} {B : Nat} (x : Frm f w w') (hb : Below B w0 w) (hB : B ≤ w.heap.size) (hf : ∀ k, f k → B ≤ k) : Below B w0 w' :=
  ⟨x.os.trans hb.os, x.tape.trans hb.tape, x.output.trans hb.output, Nat.le_trans hb.size x.size, fun k hk => (x.block k (by omega) (fun q => by have := hf k q; omega)).trans (hb.block k hk)⟩
theorem Frm.set (w : World) (g i : Nat) (u : Value) : Frm (fun k => k = g) w (w.setCell ⟨g, i, none⟩ u) := ⟨rfl, rfl, rfl, by simp [World.setCell], fun k _ hk => Below.heap_setCell _ _ _ _ hk⟩
theorem Frm.drew {f : Nat → Prop} {w w' : World} (x : Frm f w w') (q : Nat) : Frm f w (w'.drewN q) := ⟨x.os, x.tape, x.output, x.size, x.block⟩
theorem below_drew (w : World) (q : Nat) : Below w.heap.size w (w.drewN q) := ⟨rfl, rfl, rfl, Nat.le_refl _, fun _ _ => rfl⟩
theorem below_new (w : World) (o : Obj) : Below w.heap.size w (w.alloc o) := (Below.refl _ _).alloc (Nat.le_refl _) o

/-- things side by side, all made since the call began -/
structure Its (w0 : World) (l : List It) (w : World) : Prop where
  bel : Below w0.heap.size w0 w
  all : ∀ x ∈ l, x.P w
  ge : ∀ x ∈ l, ∀ k, x.f k → w0.heap.size ≤ k
  sep : l.Pairwise (fun x y => ∀ k, x.f k → ¬ y.f k)

theorem Its.nil (w : World) : Its w [] w := ⟨Below.refl _ _, by simp, by simp, .nil⟩
theorem Its.size {w0 w : World} {l : List It} (h : Its w0 l w) : w0.heap.size ≤ w.heap.size := h.bel.size
theorem Its.chg {w0 w w' : World} {x x' : It} {l : List It} (h : Its w0 (x :: l) w) (hp : x'.P w') (hf : ∀ k, x'.f k → x.f k ∨ w.heap.size ≤ k) (hw : Frm x.f w w') : Its w0 (x' :: l) w' := by
  have hs := List.pairwise_cons.1 h.sep
  refine ⟨hw.below h.bel h.size (h.ge x (by simp)), ?_, ?_, ?_⟩
  · intro y hy
    rcases List.mem_cons.1 hy with rfl | hy
    · exact hp
    · have hy' := h.all y (by simp [hy])
      exact y.st hy' fun k hk => hw.block k (y.lt hy' k hk) (fun q => hs.1 y hy k q hk)
  · intro y hy k hk
    rcases List.mem_cons.1 hy with rfl | hy
    · rcases hf k hk with q | q
      · exact h.ge x (by simp) k q
      · have := h.size; omega
    · exact h.ge y (by simp [hy]) k hk
  · refine List.pairwise_cons.2 ⟨fun y hy k hk hk' => ?_, hs.2⟩
    rcases hf k hk with q | q
    · exact hs.1 y hy k q hk'
    · have := y.lt (h.all y (by simp [hy])) k hk'
      omega
theorem Its.keep {w0 w w' : World} {l : List It} (h : Its w0 l w) (hb : Below w.heap.size w w') : Its w0 l w' :=
  ⟨(Frm.of_below (f := fun _ => False) hb).below h.bel h.size (fun _ q => q.elim), fun y hy => y.st (h.all y hy) fun k hk => hb.block k (y.lt (h.all y hy) k hk), h.ge, h.sep⟩
theorem Its.drew {w0 w : World} {l : List It} (h : Its w0 l w) (q : Nat) : Its w0 l (w.drewN q) := h.keep (below_drew w q)
theorem Its.alloc {w0 w : World} {l : List It} (h : Its w0 l w) (o : Obj) : Its w0 l (w.alloc o) := h.keep (below_new w o)
theorem Its.new {w0 w w' : World} {x : It} {l : List It} (h : Its w0 l w) (hp : x.P w') (hf : ∀ k, x.f k → w.heap.size ≤ k) (hb : Below w.heap.size w w') : Its w0 (x :: l) w' := by
  have h' := h.keep hb
  refine ⟨h'.bel, ?_, ?_, List.pairwise_cons.2 ⟨fun y hy k hk hk' => ?_, h.sep⟩⟩
  · intro y hy
    rcases List.mem_cons.1 hy with rfl | hy
    · exact hp
    · exact h'.all y hy
  · intro y hy k hk
    rcases List.mem_cons.1 hy with rfl | hy
    · have := hf k hk; have := h.size; omega
    · exact h.ge y hy k hk
  · have := hf k hk
    have := y.lt (h.all y hy) k hk'
    omega
/-- what was there already and reads alike -/
theorem Its.as {w0 w : World} {x x' : It} {l : List It} (h : Its w0 (x :: l) w) (hp : x'.P w) (hf : ∀ k, x'.f k → x.f k) : Its w0 (x' :: l) w := h.chg hp (fun k hk => .inl (hf k hk)) (Frm.refl _ _)
theorem Its.tail {w0 w : World} {x : It} {l : List It} (h : Its w0 (x :: l) w) : Its w0 l w := ⟨h.bel, fun y hy => h.all y (by simp [hy]), fun y hy => h.ge y (by simp [hy]), (List.pairwise_cons.1 h.sep).2⟩
theorem Its.perm {w0 w : World} {l l' : List It} (h : Its w0 l w) (hp : l.Perm l') : Its w0 l' w :=
  ⟨h.bel, fun y hy => h.all y (hp.mem_iff.2 hy), fun y hy => h.ge y (hp.mem_iff.2 hy), (hp.pairwise_iff (fun {a b} q k hk hk' => q k hk' hk)).1 h.sep⟩
theorem Its.swap {w0 w : World} {x y : It} {l : List It} (h : Its w0 (x :: y :: l) w) : Its w0 (y :: x :: l) w := h.perm (.swap y x l)
/-- the third to the front -/
theorem Its.rot3 {w0 w : World} {x y z : It} {l : List It} (h : Its w0 (x :: y :: z :: l) w) : Its w0 (z :: x :: y :: l) w := h.perm ((List.Perm.cons x (.swap z y l)).trans (.swap z x _))
theorem Its.rot3' {w0 w : World} {x y z : It} {l : List It} (h : Its w0 (z :: x :: y :: l) w) : Its w0 (x :: y :: z :: l) w := h.perm ((List.Perm.swap x z _).trans (.cons x (.swap y z l)))
/-- the fourth to the front -/
theorem Its.rot4 {w0 w : World} {x y z t : It} {l : List It} (h : Its w0 (x :: y :: z :: t :: l) w) : Its w0 (t :: x :: y :: z :: l) w := h.perm ((List.Perm.cons x ((List.Perm.cons y (.swap t z l)).trans (.swap t y _))).trans (.swap t x _))
theorem Its.rot4' {w0 w : World} {x y z t : It} {l : List It} (h : Its w0 (t :: x :: y :: z :: l) w) : Its w0 (x :: y :: z :: t :: l) w := h.perm ((List.Perm.cons x ((List.Perm.cons y (.swap t z l)).trans (.swap t y _))).trans (.swap t x _)).symm
theorem Its.one {w0 w : World} {x : It} {l : List It} (h : Its w0 (x :: l) w) : x.P w := h.all x (by simp)
theorem Its.two {w0 w : World} {x y : It} {l : List It} (h : Its w0 (x :: y :: l) w) : y.P w := h.all y (by simp)
theorem Its.three {w0 w : World} {x y z : It} {l : List It} (h : Its w0 (x :: y :: z :: l) w) : z.P w := h.all z (by simp)
theorem Its.four {w0 w : World} {x y z t : It} {l : List It} (h : Its w0 (x :: y :: z :: t :: l) w) : t.P w := h.all t (by simp)

/-- a slice of the call's own -/
def It.row {α : Type} (E : El Try.prog α) (B : Nat) (v : Value) (xs : List α) : It where
  P w := E.Own w B v xs
  f k := v.ownBlock = some k
  lt h k hk := h.lt k hk
  st h hs := own_stay h fun g hg _ => hs g hg
abbrev It.ints (B : Nat) (v : Value) (xs : List Int) : It := .row intE B v xs
/-- a box -/
def It.box (b : Nat) (C : Array Value) (t : TypeId) : It where
  P w := w.heap[b]? = some (.cells C t)
  f k := k = b
  lt h k hk := by subst hk; exact heap_lt h
  st h hs := by rw [hs _ rfl]; exact h
/-- a slice of nothing -/
theorem Its.empty {α : Type} (E : El Try.prog α) {w0 w : World} {l : List It} (h : Its w0 l w) : Its w0 (.row E w0.heap.size (.slice none 0 0) [] :: l) w :=
  h.new (El.Own.nil E w _) (fun k hk => by cases hk) (Below.refl _ _)
/-- append onto a slice of the call's own -/
theorem Its.grow {α : Type} {E : El Try.prog α} {w0 w w' : World} {l : List It} {v v' : Value} {xs ys : List α} (h : Its w0 (.row E w0.heap.size v xs :: l) w) (ho : E.Own w' w0.heap.size v' ys) (hg : w.grownBy w' v.ownBlock) (hb : v'.ownBlock = v.ownBlock ∨ v'.ownBlock = some w.heap.size) : Its w0 (.row E w0.heap.size v' ys :: l) w' := by
  refine h.chg ho (fun k hk => ?_) (Frm.of_grown hg)
  rcases hb with q | q
  · exact .inl (by show v.ownBlock = some k; rw [← q]; exact hk)
  · refine .inr ?_
    have hk' : v'.ownBlock = some k := hk
    rw [q] at hk'
    cases hk'
    exact Nat.le_refl _
/-- a new slice -/
theorem Its.fresh {α : Type} {E : El Try.prog α} {w0 w w' : World} {l : List It} {v : Value} {xs : List α} (h : Its w0 l w) (ho : E.Own w' w.heap.size v xs) (hb : Below w.heap.size w w') : Its w0 (.row E w0.heap.size v xs :: l) w' :=
  h.new (ho.mono h.size) (fun k hk => ho.ge k hk) hb
/-- one changes, and a new one is made -/
theorem Its.chgNew {w0 w w' : World} {x x' y : It} {l : List It} (h : Its w0 (x :: l) w) (hp : x'.P w') (hf : ∀ k, x'.f k → x.f k) (hw : Frm x.f w w') (hy : y.P w') (hn : ∀ k, y.f k → w.heap.size ≤ k) : Its w0 (y :: x' :: l) w' := by
  have h' := h.chg hp (fun k hk => .inl (hf k hk)) hw
  refine ⟨h'.bel, ?_, ?_, List.pairwise_cons.2 ⟨fun z hz k hk hk' => ?_, h'.sep⟩⟩
  · intro z hz
    rcases List.mem_cons.1 hz with rfl | hz
    · exact hy
    · exact h'.all z hz
  · intro z hz k hk
    rcases List.mem_cons.1 hz with rfl | hz
    · have := hn k hk; have := h.size; omega
    · exact h'.ge z hz k hk
  · have := hn k hk
    rcases List.mem_cons.1 hz with rfl | hz
    · have := x.lt h.one k (hf k hk'); omega
    · have := z.lt (h.all z (by simp [hz])) k hk'; omega
end Go.Proofs.Ythcdfclhenmleaa
