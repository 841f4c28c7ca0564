/- Data and answers that are changed from outside: a write into a block that is none of the sender's; a sender of one piece. -/
import Derived.Test.YteihajppgooadaaAckM
namespace Go.Proofs.Yteihajppgooadaa
open Go.RowKit
set_option linter.unusedVariables false

theorem fl_map {α : Type} (E : El Try.prog α) (f : α → Value) (hE : ∀ x, E.enc x = [f x]) (xs : List α) : E.fl xs = xs.map f := by
  induction xs with
  | nil => rfl
  | cons x xs ih =>
    show E.enc x ++ E.fl xs = _
    rw [hE, ih]; rfl
theorem El.Own.set {α : Type} {E : El Try.prog α} (f : α → Value) (hE : ∀ x, E.enc x = [f x]) (hk : E.k = 1) {w : World} {B g cap n : Nat} {l : List α} (h : E.Own w B (.slice (some ⟨g, 0, none⟩) n cap) l) (i : Nat) (z : α) :
    E.Own (w.setCell ⟨g, i, none⟩ (f z)) B (.slice (some ⟨g, 0, none⟩) n cap) (l.set i z) := by
  obtain ⟨h0, h⟩ := h
  refine ⟨by rw [E.fl_len], ?_⟩
  rcases h with ⟨h1, _⟩ | ⟨g', cap', cur, h1, hb, hg, hn, hm, hs, ht⟩
  · cases h1
  · simp only [Value.slice.injEq, Option.some.injEq, Addr.mk.injEq] at h1
    obtain ⟨⟨rfl, _⟩, rfl, rfl⟩ := h1
    refine .inr ⟨g, cap, cur.setIfInBounds i (f z), by rw [List.length_set], hb, ?_, by rw [List.length_set]; exact hn, hm, by simpa using hs, ?_⟩
    · simp only [World.setCell, Array.getElem?_modify]
      rw [hg]
      simp
    · rw [hk, fl_map E f hE] at ht
      rw [hk, fl_map E f hE, List.length_set, Array.toList_setIfInBounds, List.take_set, ht, List.map_set]
theorem El.Own.at1 {α : Type} {E : El Try.prog α} (f : α → Value) (hE : ∀ x, E.enc x = [f x]) (hk : E.k = 1) {w : World} {B g cap n : Nat} {l : List α} (h : E.Own w B (.slice (some ⟨g, 0, none⟩) n cap) l) (i : Nat) (hi : i < l.length) :
    w.cell? ⟨g, i, none⟩ = some (f l[i]) ∧ w.frozen? ⟨g, i, none⟩ = false := by
  obtain ⟨h1, h2, _⟩ := h.cell i (by rw [hk]; omega)
  refine ⟨?_, h2⟩
  rw [h1, fl_map E f hE]
  simp [hi]
theorem El.Own.where' {α : Type} {E : El Try.prog α} {w : World} {B : Nat} {a : Option Addr} {n cap : Nat} {xs : List α} (h : E.Own w B (.slice a n cap) xs) (hx : 0 < xs.length) : ∃ g, a = some ⟨g, 0, none⟩ := by
  rcases h.2 with ⟨_, h0⟩ | ⟨g, c, cur, h1, _⟩
  · omega
  · simp only [Value.slice.injEq] at h1
    exact ⟨g, h1.1⟩

/-- a write into a block that is none of the object's -/
theorem Snd.write {w : World} {g B b : Nat} {S : Sd} (H : Snd w g B S) (h1 : b ≠ g) (h2 : S.v.ownBlock ≠ some b) (h3 : ∀ p ∈ S.ps, p.v.ownBlock ≠ some b) (i : Nat) (u : Value) : Snd (w.setCell ⟨b, i, none⟩ u) g B S := by
  refine H.stay fun k _ hk => Below.heap_setCell _ _ _ _ (fun e => ?_)
  have e' : k = b := e
  subst e'
  rcases hk with rfl | hk | ⟨p, hp, hk⟩
  · exact h1 rfl
  · exact h2 hk
  · exact h3 p hp hk
/-- a row of other elements outlives a write -/
theorem own_set {α β : Type} {E : El Try.prog α} {F : El Try.prog β} {w : World} {B B' b n c i : Nat} {v u : Value} {xs : List α} {ys : List β} (h : E.Own w B v xs) (h' : F.Own w B' (.slice (some ⟨b, 0, none⟩) n c) ys) (hne : E.e ≠ F.e) : E.Own (w.setCell ⟨b, i, none⟩ u) B v xs :=
  own_chg h fun k cur _ hc => Below.heap_setCell _ _ _ _ fun e => by
    obtain ⟨cur', hc', _⟩ := own_cells h' b rfl
    rw [show k = b from e, hc'] at hc; simp only [Option.some.injEq, Obj.cells.injEq] at hc; exact hne hc.2.1.symm

/-- one piece that is sent at every tick -/
structure One (first : Int) (d : List Int) (k : Int) (S : Sd) (p : Pc) : Prop where
  ps : S.ps = [p]
  d : p.d = d
  n : p.n = 0
  sent : p.sent = k
  ago : p.ago = 0
  pause : S.pause = 1
  times : S.times = 9
  first : S.first = first
  dead : S.dead = false

theorem One.due {first : Int} {d : List Int} {k : Int} {S : Sd} {p : Pc} (h : One first d k S p) : due S.pause p = true := decide_eq_true (.inr (by rw [h.ago, h.pause]; rfl))
theorem One.dies {first : Int} {d : List Int} {k : Int} {S : Sd} {p : Pc} (h : One first d k S p) (hk : k ≠ 9) : S.dies = false := by
  unfold Sd.dies
  rw [h.ps]
  simp only [List.any_cons, List.any_nil, Bool.or_false]
  unfold ends
  rw [h.sent, h.times, decide_eq_false hk, Bool.and_false]
theorem One.outs {first : Int} {d : List Int} {k : Int} {S : Sd} {p : Pc} (h : One first d k S p) : S.outs = [(sq first 0, d)] := by
  unfold Sd.outs
  rw [h.ps, List.filter_cons, if_pos h.due]
  simp [h.first, h.n, h.d]
theorem One.tick {first : Int} {d : List Int} {k : Int} {S : Sd} {p : Pc} (h : One first d k S p) : ∃ p', One first d (k + 1) S.tick p' ∧ p'.v = p.v := by
  refine ⟨tk S.pause p, ⟨?_, ?_, ?_, ?_, ?_, h.pause, h.times, h.first, h.dead⟩, (tk_n _ _).2.2⟩
  · show S.ps.map (tk S.pause) = _
    rw [h.ps]; rfl
  · rw [(tk_n _ _).2.1, h.d]
  · rw [(tk_n _ _).1, h.n]
  · unfold tk; rw [if_pos h.due]; simp only; rw [h.sent]
  · unfold tk; rw [if_pos h.due]
theorem One.nums {first : Int} {d : List Int} {k : Int} {S : Sd} {p : Pc} (h : One first d k S p) (hf : 0 ≤ first ∧ first ≤ 65535) : S.nums = [first] := by
  unfold Sd.nums
  rw [h.ps]
  simp only [List.map_cons, List.map_nil, List.cons.injEq, and_true]
  rw [h.first, h.n]
  unfold sq; omega
end Go.Proofs.Yteihajppgooadaa
