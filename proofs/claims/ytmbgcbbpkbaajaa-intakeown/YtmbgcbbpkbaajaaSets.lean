/- A store into a slice of the call's own whose elements are one cell each; a slice that is made. -/
import Derived.Test.YtmbgcbbpkbaajaaFillM
import Derived.OwnWalk
namespace Go.Proofs.Ytmbgcbbpkbaajaa
open Go.RowKit
set_option linter.unusedVariables false

theorem fl_map {α : Type} (E : El Try.prog α) (f : α → Value) (hE : ∀ x, E.enc x = [f x]) (xs : List α) : E.fl xs = xs.map f := by
  induction xs with
  | nil => rfl
  | cons x xs ih =>
    show E.enc x ++ E.fl xs = _
    rw [hE, ih]; rfl

theorem El.Own.set {α : Type} {E : El Try.prog α} (f : α → Value) (hE : ∀ x, E.enc x = [f x]) (hk : E.k = 1) {w : World} {B g cap n : Nat} {l : List α} (h : E.Own w B (.slice (some ⟨g, 0, none⟩) n cap) l) (i : Nat) (z : α) :
    E.Own (w.setCell ⟨g, i, none⟩ (f z)) B (.slice (some ⟨g, 0, none⟩) n cap) (l.set i z) := by
  obtain ⟨h0, h⟩ := h
  refine ⟨by rw [E.fl_len], ?_⟩
  rcases h with ⟨h1, _⟩ | ⟨g', cap', cur, h1, hb, hg, hn, hm, hs, ht⟩
  · cases h1
  · simp only [Value.slice.injEq, Option.some.injEq, Addr.mk.injEq] at h1
    obtain ⟨⟨rfl, _⟩, rfl, rfl⟩ := h1
    refine .inr ⟨g, cap, cur.setIfInBounds i (f z), by rw [List.length_set], hb, ?_, by rw [List.length_set]; exact hn, hm, by simpa using hs, ?_⟩
    · simp only [World.setCell, Array.getElem?_modify]
      rw [hg]
      simp
    · rw [hk, fl_map E f hE] at ht
      rw [hk, fl_map E f hE, List.length_set, Array.toList_setIfInBounds, List.take_set, ht, List.map_set]

theorem El.Own.at1 {α : Type} {E : El Try.prog α} (f : α → Value) (hE : ∀ x, E.enc x = [f x]) (hk : E.k = 1) {w : World} {B g cap n : Nat} {l : List α} (h : E.Own w B (.slice (some ⟨g, 0, none⟩) n cap) l) (i : Nat) (hi : i < l.length) :
    w.cell? ⟨g, i, none⟩ = some (f l[i]) ∧ w.frozen? ⟨g, i, none⟩ = false := by
  obtain ⟨h1, h2, _⟩ := h.cell i (by rw [hk]; omega)
  refine ⟨?_, h2⟩
  rw [h1, fl_map E f hE]
  simp [hi]

theorem made_zeros (n : Nat) : (madeCells #[Value.int .i64 0] (n * 1)).toList = (List.replicate n (0 : Int)).map (Value.int .i64) := by
  rw [toList_madeCells_one, Nat.mul_one, List.map_replicate]
theorem info3 : (Try.prog.info? 3).map (fun i => (i.zero, i.size, i.bytes)) = some (some (.int .i64 0), 1, 8) := by kernel_rfl
theorem make_ints (w : World) (n : Nat) (hn : n ≤ 100000) : ∃ w', (Instr.makeSlice 43 (.int .i64 (n : Int)) (.int .i64 (n : Int))).run Try.prog w = .ok (.slice (some ⟨w.heap.size, 0, none⟩) n n) w' ∧
    intsE.Own w' w.heap.size (.slice (some ⟨w.heap.size, 0, none⟩) n n) (List.replicate n 0) ∧ Below w.heap.size w w' ∧ w.heap.size < w'.heap.size := by
  obtain ⟨i, hi, he⟩ := Option.map_eq_some_iff.1 info3
  have e1 : i.zero = some (.int .i64 0) := congrArg Prod.fst he
  have e2 : i.size = 1 := congrArg (fun p => p.2.1) he
  have e3 : i.bytes = 8 := congrArg (fun p => p.2.2) he
  obtain ⟨w', h1, h2, h3⟩ := run_make_full (P := Try.prog) w w.heap.size 43 3 i (.int .i64 0) 1 Try.underlying43 hi e1 e2 .i64 .i64 n (by rw [e3]; omega) (by unfold maxLen; omega) (Nat.le_refl _)
  have ho : intsE.Own w' w.heap.size (.slice (some ⟨w.heap.size, 0, none⟩) n n) (List.replicate n 0) := by
    unfold El.Own
    rw [fl_map intsE (Value.int .i64) (fun _ => rfl), List.length_replicate, ← made_zeros]
    exact h2
  refine ⟨w', h1, ho, (Below.refl _ _).grown h3 (Nat.le_refl _) (by simp), ?_⟩
  exact ho.lt w.heap.size rfl
end Go.Proofs.Ytmbgcbbpkbaajaa
