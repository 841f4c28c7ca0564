/- A sender as its object lies in memory, and as plain data: what stays, what a store makes of it. -/
import Derived.Test.YteihajppgooadaaObj
namespace Go.Proofs.Yteihajppgooadaa
open Go.RowKit
set_option linter.unusedVariables false

/-- the 16 bits of a number -/
def sq (first n : Int) : Int := (first + n) % 65536
theorem sq_in (first n : Int) : 0 ≤ sq first n ∧ sq first n ≤ 65535 := by unfold sq; omega

/-- a piece: its number, which doesn't go round; its data's slice, and the bytes; how often it was sent; how many ticks ago -/
structure Pc where
  n : Int
  a : Option Addr
  l : Nat
  c : Nat
  d : List Int
  sent : Int
  ago : Int
abbrev Pc.v (p : Pc) : Value := .slice p.a p.l p.c

def pcE (first : Int) : El Try.prog Pc where
  t := 77
  e := 83
  k := 4
  by' := 48
  z := .agg #[.int .u16 0, .slice none 0 0, .int .i64 0, .int .i64 0]
  enc p := [.int .u16 (sq first p.n), .slice p.a p.l p.c, .int .i64 p.sent, .int .i64 p.ago]
  ht := Try.underlying77
  info := by kernel_rfl
  zc := rfl
  kpos := by omega
  bsm := by omega
  len _ := rfl
  one x v hv := by simp at hv; rcases hv with rfl | rfl | rfl | rfl <;> rfl

/-- a sender: the settings, the first number, how many there were, the slice of the pieces, the pieces, whether it is dead -/
structure Sd where
  win : Int
  pause : Int
  times : Int
  first : Int
  count : Int
  v : Value
  ps : List Pc
  dead : Bool

structure Sd.Lim (S : Sd) : Prop where
  win : 1 ≤ S.win ∧ S.win ≤ 64
  pause : 1 ≤ S.pause ∧ S.pause ≤ 1000
  times : 1 ≤ S.times ∧ S.times ≤ 20
  first : 0 ≤ S.first ∧ S.first ≤ 65535

def boxS (S : Sd) : Array Value := #[.int .i64 S.win, .int .i64 S.pause, .int .i64 S.times, .int .u16 (sq S.first S.count), S.v, .bool S.dead]

/-- where the pieces lie -/
structure Lies (w : World) (B : Nat) (first : Int) (v : Value) (ps : List Pc) : Prop where
  row : (pcE first).Own w B v ps
  dat : ∀ p ∈ ps, bytesE.Own w 0 p.v p.d

structure Snd (w : World) (g B : Nat) (S : Sd) : Prop where
  lim : S.Lim
  base : B ≤ g
  box : w.heap[g]? = some (.cells (boxS S) 79)
  lies : Lies w B S.first S.v S.ps

/-- the numbers of a sender that lives: rising, within a window, sent so often as they may be -/
structure Sd.Ok (S : Sd) : Prop where
  ord : S.ps.Pairwise (fun p q => p.n < q.n)
  num : ∀ p ∈ S.ps, S.count - S.win ≤ p.n ∧ p.n < S.count
  tim : ∀ p ∈ S.ps, 0 ≤ p.sent ∧ p.sent ≤ S.times ∧ 0 ≤ p.ago ∧ p.ago < S.pause

theorem rise_len : ∀ (l : List Pc) (lo hi : Int), l.Pairwise (fun p q => p.n < q.n) → (∀ p ∈ l, lo ≤ p.n ∧ p.n < hi) → lo ≤ hi → (l.length : Int) ≤ hi - lo
  | [], lo, hi, _, _, h => by simp; omega
  | p :: l, lo, hi, hp, hb, h => by
    obtain ⟨h1, h2⟩ := List.pairwise_cons.1 hp
    have h3 := hb p (by simp)
    have := rise_len l (p.n + 1) hi h2 (fun q hq => ⟨by have := h1 q hq; omega, (hb q (by simp [hq])).2⟩) (by omega)
    simp only [List.length_cons]
    omega
theorem Sd.Ok.len {S : Sd} (h : S.Ok) (hw : 1 ≤ S.win) : (S.ps.length : Int) ≤ S.win := by
  have := rise_len S.ps (S.count - S.win) S.count h.ord h.num (by omega)
  omega

/-- but for the object's block and its pieces' all is as it was -/
structure Chg (g : Nat) (v : Value) (w w' : World) : Prop where
  os : w'.os = w.os
  tape : w'.tape = w.tape
  output : w'.output = w.output
  size : w.heap.size ≤ w'.heap.size
  block : ∀ k, k < w.heap.size → k ≠ g → v.ownBlock ≠ some k → w'.heap[k]? = w.heap[k]?

theorem Chg.refl (g : Nat) (v : Value) (w : World) : Chg g v w w := ⟨rfl, rfl, rfl, Nat.le_refl _, fun _ _ _ _ => rfl⟩
theorem Chg.of_below {g : Nat} {v : Value} {w w' : World} (hb : Below w.heap.size w w') : Chg g v w w' := ⟨hb.os, hb.tape, hb.output, hb.size, fun k hk _ _ => hb.block k hk⟩
/-- one behind the other; the second one's row is the first one's, or new -/
theorem Chg.trans {g : Nat} {v v' : Value} {a b c : World} (x : Chg g v a b) (y : Chg g v' b c) (hv : ∀ k, v'.ownBlock = some k → v.ownBlock = some k ∨ a.heap.size ≤ k) : Chg g v a c :=
  ⟨y.os.trans x.os, y.tape.trans x.tape, y.output.trans x.output, Nat.le_trans x.size y.size, fun k hk h1 h2 => (y.block k (Nat.lt_of_lt_of_le hk x.size) h1 (fun e => by rcases hv k e with h | h; exact h2 h; omega)).trans (x.block k hk h1 h2)⟩
theorem Chg.trans' {g : Nat} {v : Value} {a b c : World} (x : Chg g v a b) (y : Chg g v b c) : Chg g v a c := x.trans y (fun k h => .inl h)
theorem Chg.below {g : Nat} {v : Value} {a w w' : World} {B : Nat} (x : Chg g v w w') (hb : Below B a w) (hB : B ≤ w.heap.size) (h1 : B ≤ g) (h2 : ∀ k, v.ownBlock = some k → B ≤ k) : Below B a w' :=
  ⟨x.os.trans hb.os, x.tape.trans hb.tape, x.output.trans hb.output, Nat.le_trans hb.size x.size, fun k hk => (x.block k (by omega) (by omega) (fun e => by have := h2 k e; omega)).trans (hb.block k hk)⟩

/-- a row stays where its block stays -/
theorem own_chg {α : Type} {E : El Try.prog α} {w w' : World} {B : Nat} {v : Value} {xs : List α} (h : E.Own w B v xs) (hs : ∀ g cur, v.ownBlock = some g → w.heap[g]? = some (.cells cur E.e) → w'.heap[g]? = w.heap[g]?) : E.Own w' B v xs :=
  own_stay h fun g hg _ => by
    obtain ⟨cur, hc, _⟩ := own_cells h g hg
    exact hs g cur hg hc

theorem Lies.stay {w w' : World} {B : Nat} {first : Int} {v : Value} {ps : List Pc} (h : Lies w B first v ps) (h1 : ∀ g cur, v.ownBlock = some g → w.heap[g]? = some (.cells cur 83) → w'.heap[g]? = w.heap[g]?) (h2 : ∀ g cur, w.heap[g]? = some (.cells cur 5) → (∃ p ∈ ps, p.v.ownBlock = some g) → w'.heap[g]? = w.heap[g]?) : Lies w' B first v ps :=
  ⟨own_chg h.row h1, fun p hp => own_chg (h.dat p hp) fun g cur hg hc => h2 g cur hc ⟨p, hp, hg⟩⟩
theorem Lies.keep {w w' : World} {B : Nat} {first : Int} {v : Value} {ps : List Pc} (h : Lies w B first v ps) (hb : Below w.heap.size w w') : Lies w' B first v ps :=
  h.stay (fun g cur _ hc => hb.block g (heap_lt hc)) (fun g cur hc _ => hb.block g (heap_lt hc))

theorem Snd.stay {w w' : World} {g B : Nat} {S : Sd} (H : Snd w g B S) (hs : ∀ k, k < w.heap.size → (k = g ∨ S.v.ownBlock = some k ∨ ∃ p ∈ S.ps, p.v.ownBlock = some k) → w'.heap[k]? = w.heap[k]?) : Snd w' g B S :=
  ⟨H.lim, H.base, by rw [hs g (heap_lt H.box) (.inl rfl)]; exact H.box, H.lies.stay (fun k cur h1 h2 => hs k (heap_lt h2) (.inr (.inl h1))) (fun k cur h1 h2 => hs k (heap_lt h1) (.inr (.inr h2)))⟩
theorem Snd.keep {w w' : World} {g B : Nat} {S : Sd} (H : Snd w g B S) (hb : Below w.heap.size w w') : Snd w' g B S := H.stay fun k hk _ => hb.block k hk
theorem Snd.drewN {w : World} {g B : Nat} {S : Sd} (H : Snd w g B S) (n : Nat) : Snd (w.drewN n) g B S := H.stay fun _ _ _ => rfl

theorem Snd.cells {w : World} {g B : Nat} {S : Sd} (H : Snd w g B S) : w.cell? ⟨g, 0, none⟩ = some (.int .i64 S.win) ∧ w.cell? ⟨g, 1, none⟩ = some (.int .i64 S.pause) ∧ w.cell? ⟨g, 2, none⟩ = some (.int .i64 S.times) ∧ w.cell? ⟨g, 3, none⟩ = some (.int .u16 (sq S.first S.count)) ∧ w.cell? ⟨g, 4, none⟩ = some S.v ∧ w.cell? ⟨g, 5, none⟩ = some (.bool S.dead) := by
  have hx := H.box
  unfold World.cell?
  simp only [hx]
  exact ⟨rfl, rfl, rfl, rfl, rfl, rfl⟩
theorem Snd.cold {w : World} {g B : Nat} {S : Sd} (H : Snd w g B S) (i : Nat) : w.frozen? ⟨g, i, none⟩ = false := by
  have hx := H.box
  unfold World.frozen?
  simp [hx]

/-- a row of another kind of elements is none of the object's blocks -/
theorem Snd.off {α : Type} {E : El Try.prog α} {w : World} {g B : Nat} {S : Sd} (H : Snd w g B S) (he : E.e ≠ 79) (he' : E.e ≠ 83) {B' : Nat} {v : Value} {xs : List α} (ho : E.Own w B' v xs) (k : Nat) (hk : v.ownBlock = some k) : k ≠ g ∧ S.v.ownBlock ≠ some k := by
  obtain ⟨cur, hc, _⟩ := own_cells ho k hk
  refine ⟨fun e => ?_, fun e => ?_⟩
  · subst e; rw [H.box] at hc; simp only [Option.some.injEq, Obj.cells.injEq] at hc; exact he hc.2.1.symm
  · obtain ⟨cur', hc', _⟩ := own_cells H.lies.row k e
    rw [hc'] at hc; simp only [Option.some.injEq, Obj.cells.injEq] at hc; exact he' hc.2.1.symm
/-- such a row outlives what the object does -/
theorem Snd.other {α : Type} {E : El Try.prog α} {w w' : World} {g B : Nat} {S : Sd} (H : Snd w g B S) (he : E.e ≠ 79) (he' : E.e ≠ 83) {B' : Nat} {v : Value} {xs : List α} (ho : E.Own w B' v xs) (hw : Chg g S.v w w') : E.Own w' B' v xs :=
  own_stay ho fun k hk hlt => by
    obtain ⟨h1, h2⟩ := H.off he he' ho k hk
    exact hw.block k hlt h1 h2
theorem b79 : bytesE.e ≠ 79 := by decide
theorem b83 : bytesE.e ≠ 83 := by decide

theorem heap_put {w : World} {g i : Nat} {C : Array Value} {t : TypeId} (h : w.heap[g]? = some (.cells C t)) (u : Value) : (w.setCell ⟨g, i, none⟩ u).heap[g]? = some (.cells (C.setIfInBounds i u) t) := by
  simp [World.setCell, Array.getElem?_modify, h]

/-- the pieces stay while the object's block is written -/
theorem Lies.box {w : World} {g B : Nat} {C : Array Value} {first : Int} {v : Value} {ps : List Pc} (h : Lies w B first v ps) (hb : w.heap[g]? = some (.cells C 79)) (i : Nat) (u : Value) : Lies (w.setCell ⟨g, i, none⟩ u) B first v ps :=
  h.stay (fun k cur _ hc => Below.heap_setCell _ _ _ _ fun e => by
      have e' : k = g := e
      rw [e', hb] at hc; simp only [Option.some.injEq, Obj.cells.injEq] at hc; exact absurd hc.2.1 (by decide))
    (fun k cur hc _ => Below.heap_setCell _ _ _ _ fun e => by
      have e' : k = g := e
      rw [e', hb] at hc; simp only [Option.some.injEq, Obj.cells.injEq] at hc; exact absurd hc.2.1 (by decide))
theorem chg_box (g i : Nat) (v u : Value) (w : World) : Chg g v w (w.setCell ⟨g, i, none⟩ u) :=
  ⟨rfl, rfl, rfl, by simp [World.setCell], fun k _ h1 _ => Below.heap_setCell _ _ _ _ h1⟩

/-- it is dead -/
theorem Snd.die {w : World} {g B : Nat} {S : Sd} (H : Snd w g B S) : Snd (w.setCell ⟨g, 5, none⟩ (.bool true)) g B { S with dead := true } :=
  ⟨⟨H.lim.win, H.lim.pause, H.lim.times, H.lim.first⟩, H.base, by rw [heap_put H.box]; rfl, H.lies.box H.box _ _⟩
/-- its pieces are others -/
theorem Snd.putV {w : World} {g B : Nat} {S : Sd} (H : S.Lim) (hB : B ≤ g) (hb : w.heap[g]? = some (.cells (boxS S) 79)) {v : Value} {ps : List Pc} (hl : Lies w B S.first v ps) : Snd (w.setCell ⟨g, 4, none⟩ v) g B { S with v := v, ps := ps } :=
  ⟨⟨H.win, H.pause, H.times, H.first⟩, hB, by rw [heap_put hb]; rfl, hl.box hb _ _⟩
/-- the next number -/
theorem Snd.putN {w : World} {g B : Nat} {S : Sd} (H : Snd w g B S) (n : Int) : Snd (w.setCell ⟨g, 3, none⟩ (.int .u16 (sq S.first n))) g B { S with count := n } :=
  ⟨⟨H.lim.win, H.lim.pause, H.lim.times, H.lim.first⟩, H.base, by rw [heap_put H.box]; rfl, H.lies.box H.box _ _⟩

/-- where the pieces lie, if there are some -/
theorem Lies.form {w : World} {B : Nat} {first : Int} {v : Value} {ps : List Pc} (h : Lies w B first v ps) : ∃ a c, v = .slice a ps.length c ∧ ps.length ≤ c ∧ c ≤ maxLen ∧ (a = none → ps = []) ∧ ∀ x, a = some x → ∃ b, x = ⟨b, 0, none⟩ ∧ B ≤ b := by
  rcases h.row.2 with ⟨h1, h2⟩ | ⟨g, cap, cur, h1, hb, _, hn, hm, _⟩
  · exact ⟨none, 0, by rw [h1, h2], by omega, by unfold maxLen; omega, fun _ => List.eq_nil_of_length_eq_zero h2, fun x hx => by cases hx⟩
  · exact ⟨some ⟨g, 0, none⟩, cap, h1, hn, hm, (fun h => by cases h), fun x hx => by cases hx; exact ⟨g, rfl, hb⟩⟩
theorem Lies.full {w : World} {B : Nat} {first : Int} {v : Value} {ps : List Pc} (h : Lies w B first v ps) (hp : 0 < ps.length) : ∃ b c, v = .slice (some ⟨b, 0, none⟩) ps.length c ∧ ps.length ≤ c ∧ c ≤ maxLen ∧ B ≤ b := by
  obtain ⟨a, c, h1, h2, h3, h4, h5⟩ := h.form
  cases a with
  | none => rw [h4 rfl] at hp; simp at hp
  | some x =>
    obtain ⟨b, rfl, hb⟩ := h5 x rfl
    exact ⟨b, c, h1, h2, h3, hb⟩
/-- a piece's cells -/
theorem Lies.at {w : World} {B b n c : Nat} {first : Int} {ps : List Pc} (h : Lies w B first (.slice (some ⟨b, 0, none⟩) n c) ps) (i : Nat) (p : Pc) (hp : ps[i]? = some p) :
    w.cell? ⟨b, i * 4, none⟩ = some (.int .u16 (sq first p.n)) ∧ w.cell? ⟨b, i * 4 + 1, none⟩ = some (.slice p.a p.l p.c) ∧ w.cell? ⟨b, i * 4 + 2, none⟩ = some (.int .i64 p.sent) ∧ w.cell? ⟨b, i * 4 + 3, none⟩ = some (.int .i64 p.ago) ∧ ∀ j, j < 4 → w.frozen? ⟨b, i * 4 + j, none⟩ = false := by
  have hi : i < ps.length := by
    rcases Nat.lt_or_ge i ps.length with h' | h'
    · exact h'
    · rw [List.getElem?_eq_none h'] at hp; cases hp
  have hc : ∀ j, j < 4 → w.cell? ⟨b, i * 4 + j, none⟩ = ((pcE first).enc p)[j]? ∧ w.frozen? ⟨b, i * 4 + j, none⟩ = false := fun j hj => by
    obtain ⟨h1, h2, _⟩ := h.row.cell (i * 4 + j) (by show i * 4 + j < ps.length * 4; omega)
    refine ⟨?_, h2⟩
    rw [h1]
    exact (pcE first).fl_at ps i j p hp hj
  exact ⟨(hc 0 (by omega)).1, (hc 1 (by omega)).1, (hc 2 (by omega)).1, (hc 3 (by omega)).1, fun j hj => (hc j hj).2⟩

/-- an element's cell is written -/
theorem El.fl_set {P : Program} {α : Type} (E : El P α) : ∀ (xs : List α) (i j : Nat) (x y : α) (u : Value), xs[i]? = some x → j < E.k → E.enc y = (E.enc x).set j u → (E.fl xs).set (i * E.k + j) u = E.fl (xs.set i y)
  | [], i, j, x, y, u, h, _, _ => by simp at h
  | z :: xs, 0, j, x, y, u, h, hj, he => by
    simp at h
    subst h
    show (E.enc z ++ E.fl xs).set (0 * E.k + j) u = E.enc y ++ E.fl xs
    rw [Nat.zero_mul, Nat.zero_add, List.set_append_left _ _ (by rw [E.len]; exact hj), he]
  | z :: xs, i + 1, j, x, y, u, h, hj, he => by
    show (E.enc z ++ E.fl xs).set ((i + 1) * E.k + j) u = E.enc z ++ E.fl (xs.set i y)
    rw [List.set_append_right _ _ (by rw [E.len, Nat.succ_mul]; omega), E.len, show (i + 1) * E.k + j - E.k = i * E.k + j by rw [Nat.succ_mul]; omega, El.fl_set E xs i j x y u (by simpa using h) hj he]
theorem El.Own.put {α : Type} {E : El Try.prog α} {w : World} {B g cap n : Nat} {xs : List α} (h : E.Own w B (.slice (some ⟨g, 0, none⟩) n cap) xs) (i j : Nat) (x y : α) (u : Value) (hx : xs[i]? = some x) (hj : j < E.k) (he : E.enc y = (E.enc x).set j u) :
    E.Own (w.setCell ⟨g, i * E.k + j, none⟩ u) B (.slice (some ⟨g, 0, none⟩) n cap) (xs.set i y) := by
  obtain ⟨h0, h⟩ := h
  refine ⟨by rw [E.fl_len], ?_⟩
  rcases h with ⟨h1, _⟩ | ⟨g', cap', cur, h1, hb, hg, hn, hm, hs, ht⟩
  · cases h1
  · simp only [Value.slice.injEq, Option.some.injEq, Addr.mk.injEq] at h1
    obtain ⟨⟨rfl, _⟩, rfl, rfl⟩ := h1
    refine .inr ⟨g, cap, cur.setIfInBounds (i * E.k + j) u, by rw [List.length_set], hb, ?_, by rw [List.length_set]; exact hn, hm, by simpa using hs, ?_⟩
    · exact heap_put hg u
    · rw [List.length_set, Array.toList_setIfInBounds, List.take_set, ht]
      exact E.fl_set xs i j x y u hx hj he
theorem chg_row (g b i n c : Nat) (u : Value) (w : World) : Chg g (.slice (some ⟨b, 0, none⟩) n c) w (w.setCell ⟨b, i, none⟩ u) :=
  ⟨rfl, rfl, rfl, by simp [World.setCell], fun k _ _ h => Below.heap_setCell _ _ _ _ fun e => h (by rw [show k = b from e]; rfl)⟩

/-- a piece's number is written -/
theorem Snd.putP {w : World} {g B b n c : Nat} {S : Sd} (H : Snd w g B S) (hv : S.v = .slice (some ⟨b, 0, none⟩) n c) (i j : Nat) (p q : Pc) (hp : S.ps[i]? = some p) (u : Value) (hj : j < 4) (he : (pcE S.first).enc q = ((pcE S.first).enc p).set j u) (hd : q.v = p.v ∧ q.d = p.d) :
    Snd (w.setCell ⟨b, i * 4 + j, none⟩ u) g B { S with ps := S.ps.set i q } := by
  have hrow := H.lies.row
  rw [hv] at hrow
  have hne : ∀ k C t, t ≠ 83 → w.heap[k]? = some (Obj.cells C t) → (w.setCell ⟨b, i * 4 + j, none⟩ u).heap[k]? = w.heap[k]? := fun k C t ht hk => Below.heap_setCell _ _ _ _ fun e => by
    obtain ⟨cur, hc, _⟩ := own_cells hrow b rfl
    rw [show k = b from e, hc] at hk
    simp only [Option.some.injEq, Obj.cells.injEq] at hk
    exact ht hk.2.1.symm
  refine ⟨⟨H.lim.win, H.lim.pause, H.lim.times, H.lim.first⟩, H.base, ?_, ?_, ?_⟩
  · rw [hne g _ 79 (by decide) H.box]; exact H.box
  · show (pcE S.first).Own _ B S.v (S.ps.set i q)
    rw [hv]
    exact hrow.put i j p q u hp hj he
  · intro x hx
    have : bytesE.Own w 0 x.v x.d := by
      rcases List.mem_or_eq_of_mem_set hx with h | rfl
      · exact H.lies.dat x h
      · rw [hd.1, hd.2]; exact H.lies.dat p (List.mem_of_getElem? hp)
    exact own_chg this fun k cur _ hc => hne k cur 5 (by decide) hc
end Go.Proofs.Yteihajppgooadaa
