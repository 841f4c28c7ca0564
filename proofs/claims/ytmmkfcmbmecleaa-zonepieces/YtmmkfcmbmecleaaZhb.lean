/- Holders of the call's own: made, their lists grown, their wants set. -/
import Derived.Test.YtmmkfcmbmecleaaZrg
namespace Go.Proofs.Ytmmkfcmbmecleaa
open Go.RowKit
set_option linter.unusedVariables false

theorem El.fl_set {P : Program} {α : Type} (E : El P α) (l : List α) (i j : Nat) (x z : α) (u : Value) (hx : l[i]? = some x) (hj : j < E.k) (he : E.enc z = (E.enc x).set j u) : E.fl (l.set i z) = (E.fl l).set (i * E.k + j) u := by
  induction l generalizing i with
  | nil => simp at hx
  | cons y t ih =>
    have e : ∀ (q : α) (r : List α), E.fl (q :: r) = E.enc q ++ E.fl r := fun _ _ => rfl
    cases i with
    | zero =>
      simp at hx
      subst hx
      rw [List.set_cons_zero, e, e, he, Nat.zero_mul, Nat.zero_add, List.set_append_left _ _ (by rw [E.len]; exact hj)]
    | succ i =>
      rw [List.set_cons_succ, e, e, ih i (by simpa using hx), List.set_append_right _ _ (by rw [E.len, Nat.succ_mul]; omega), E.len]
      congr 2
      rw [Nat.succ_mul]; omega

theorem own_setC {P : Program} {α : Type} {E : El P α} {w : World} {B g cap n : Nat} {l : List α} (h : E.Own w B (.slice (some ⟨g, 0, none⟩) n cap) l) {i j : Nat} {x z : α} {u : Value} (hx : l[i]? = some x) (hj : j < E.k) (he : E.enc z = (E.enc x).set j u) :
    E.Own (w.setCell ⟨g, i * E.k + j, none⟩ u) B (.slice (some ⟨g, 0, none⟩) n cap) (l.set i z) := by
  obtain ⟨h0, h⟩ := h
  refine ⟨by rw [E.fl_len], ?_⟩
  rcases h with ⟨h1, _⟩ | ⟨g', cap', cur, h1, hb, hg, hn, hm, hs, ht⟩
  · cases h1
  · simp only [Value.slice.injEq, Option.some.injEq, Addr.mk.injEq] at h1
    obtain ⟨⟨rfl, _⟩, rfl, rfl⟩ := h1
    refine .inr ⟨g, cap, cur.setIfInBounds (i * E.k + j) u, by rw [List.length_set], hb, ?_, by rw [List.length_set]; exact hn, hm, by simpa using hs, ?_⟩
    · simp only [World.setCell, Array.getElem?_modify]
      rw [hg]
      simp
    · rw [List.length_set, Array.toList_setIfInBounds, List.take_set, ht, E.fl_set l i j x z u hx hj he]

theorem made_cells_two (a b : Value) (n : Nat) : (madeCells #[a, b] (n * 2)).toList = (List.replicate n ()).flatMap (fun _ => [a, b]) := by
  apply List.ext_getElem?
  intro i
  have key : ∀ n i : Nat, i < n * 2 → ((List.replicate n ()).flatMap (fun _ => [a, b]))[i]? = some (if i % 2 = 0 then a else b) := by
    intro n
    induction n with
    | zero => intro i h; omega
    | succ n ih =>
      intro i h
      rw [List.replicate_succ, List.flatMap_cons]
      rcases Nat.lt_or_ge i 2 with g | g
      · rw [List.getElem?_append_left (by simpa using g)]
        rcases i with _ | _ | i
        · rfl
        · rfl
        · omega
      · rw [List.getElem?_append_right (by simpa using g)]
        have := ih (i - 2) (by omega)
        simp only [List.length_cons, List.length_nil]
        rw [this]
        congr 2
        simp only [eq_iff_iff]; omega
  have hl : ((List.replicate n ()).flatMap (fun _ => [a, b])).length = n * 2 := by
    induction n with
    | zero => rfl
    | succ n ih => rw [List.replicate_succ, List.flatMap_cons, List.length_append, ih]; simp; omega
  rcases Nat.lt_or_ge i (n * 2) with h | h
  · rw [key n i h]
    unfold madeCells
    rw [Array.getElem?_toList, Array.getElem?_map, Array.getElem?_range]
    rw [if_pos h]
    simp only [Option.map_some, Option.some.injEq]
    rcases Nat.mod_two_eq_zero_or_one i with e | e
    · rw [if_pos e]; simp [e]
    · rw [if_neg (by omega)]; simp [e]
  · rw [List.getElem?_eq_none (by rw [Array.length_toList, size_madeCells]; exact h), List.getElem?_eq_none (by rw [hl]; exact h)]

theorem made_holders (w : World) (n : Nat) (hn : n ≤ 100000) : ∃ w', (Instr.makeSlice 52 (.int .i64 (n : Int)) (.int .i64 (n : Int))).run Try.prog w = .ok (.slice (some ⟨w.heap.size, 0, none⟩) n n) w' ∧
    hvE.Own w' w.heap.size (.slice (some ⟨w.heap.size, 0, none⟩) n n) (List.replicate n ⟨none, 0, 0, 0⟩) ∧ Below w.heap.size w w' := by
  obtain ⟨i, hi, he⟩ := Option.map_eq_some_iff.1 hvE.info
  have e1 : i.zero = some hvE.z := congrArg Prod.fst he
  have e2 : i.size = 2 := congrArg (fun p => p.2.1) he
  have e3 : i.bytes = 32 := congrArg (fun p => p.2.2) he
  obtain ⟨w', h1, h2, h3⟩ := run_make_full (P := Try.prog) w w.heap.size 52 62 i hvE.z 2 Try.underlying52 hi e1 e2 .i64 .i64 n (by rw [e3]; omega) (by unfold maxLen; omega) (Nat.le_refl _)
  refine ⟨w', h1, ?_, (Below.refl _ _).grown h3 (Nat.le_refl _) (by simp)⟩
  unfold El.Own
  rw [List.length_replicate]
  have : hvE.fl (List.replicate n ⟨none, 0, 0, 0⟩) = (madeCells hvE.z.cells (n * 2)).toList := by
    rw [show hvE.z.cells = #[.slice none 0 0, .int .i64 0] from rfl, made_cells_two]
    unfold El.fl
    clear h1 h2 h3 hn
    induction n with
    | zero => rfl
    | succ n ih => rw [List.replicate_succ, List.flatMap_cons, ih, List.replicate_succ, List.flatMap_cons]; rfl
  rw [this]
  exact h2

structure Hb (W0 w : World) (g n : Nat) (vs : List Hv) (hs : List Hl) : Prop where
  bel : Below W0.heap.size W0 w
  own : hvE.Own w W0.heap.size (.slice (some ⟨g, 0, none⟩) n n) vs
  len : vs.length = n
  hlen : hs.length = n
  el : ∀ (i : Nat) (v : Hv) (p : Hl), vs[i]? = some v → hs[i]? = some p → v.want = p.want ∧ intE.Own w W0.heap.size (.slice v.a v.l v.c) p.has
  sep : ∀ (i j : Nat) (v u : Hv), i ≠ j → vs[i]? = some v → vs[j]? = some u → Sep (.slice v.a v.l v.c) (.slice u.a u.l u.c)

theorem Hb.keep {W0 w w' : World} {g n : Nat} {vs : List Hv} {hs : List Hl} (h : Hb W0 w g n vs hs) (hb : Below w.heap.size w w') : Hb W0 w' g n vs hs :=
  ⟨h.bel.trans (hb.mono h.bel.size), h.own.keep hb, h.len, h.hlen, fun i v p hv hp => ⟨(h.el i v p hv hp).1, (h.el i v p hv hp).2.keep hb⟩, h.sep⟩
theorem Hb.hds {W0 w : World} {g n : Nat} {vs : List Hv} {hs : List Hl} (h : Hb W0 w g n vs hs) : Hds hvE w (.slice (some ⟨g, 0, none⟩) n n) hs :=
  ⟨vs, h.own.rd, by rw [h.len, h.hlen], fun i v p hv hp => ⟨(h.el i v p hv hp).1, (h.el i v p hv hp).2.rd⟩⟩
theorem Hb.start (W0 w : World) (g n : Nat) (hb : Below W0.heap.size W0 w) (ho : hvE.Own w W0.heap.size (.slice (some ⟨g, 0, none⟩) n n) (List.replicate n ⟨none, 0, 0, 0⟩)) : Hb W0 w g n (List.replicate n ⟨none, 0, 0, 0⟩) (List.replicate n ⟨[], 0⟩) := by
  have k1 : ∀ (i : Nat) (v : Hv), (List.replicate n (⟨none, 0, 0, 0⟩ : Hv))[i]? = some v → v = ⟨none, 0, 0, 0⟩ := fun i v h => by
    rw [List.getElem?_replicate] at h; split at h <;> simp at h; exact h.symm
  have k2 : ∀ (i : Nat) (v : Hl), (List.replicate n (⟨[], 0⟩ : Hl))[i]? = some v → v = ⟨[], 0⟩ := fun i v h => by
    rw [List.getElem?_replicate] at h; split at h <;> simp at h; exact h.symm
  refine ⟨hb, ho, by simp, by simp, fun i v p hv hp => ?_, fun i j v u _ hv hu => ?_⟩
  · rw [k1 i v hv, k2 i p hp]; exact ⟨rfl, El.Own.nil _ _ _⟩
  · rw [k1 i v hv]; intro g hg; cases hg
/-- a holder's cells -/
theorem Hb.at {W0 w : World} {g n : Nat} {vs : List Hv} {hs : List Hl} (h : Hb W0 w g n vs hs) (i : Nat) (p : Hl) (hp : hs[i]? = some p) :
    ∃ v : Hv, vs[i]? = some v ∧ v.l = p.has.length ∧ w.cell? ⟨g, i * 2, none⟩ = some (.slice v.a p.has.length v.c) ∧ w.frozen? ⟨g, i * 2, none⟩ = false ∧ w.cell? ⟨g, i * 2 + 1, none⟩ = some (.int .i64 p.want) ∧ w.frozen? ⟨g, i * 2 + 1, none⟩ = false ∧ intE.Own w W0.heap.size (.slice v.a p.has.length v.c) p.has := by
  have hi : i < vs.length := by rw [h.len, ← h.hlen]; exact idx_lt hp
  obtain ⟨v, hv⟩ : ∃ v, vs[i]? = some v := ⟨_, List.getElem?_eq_getElem hi⟩
  obtain ⟨e1, e2⟩ := h.el i v p hv hp
  obtain ⟨a', c', e3⟩ := e2.rd.form
  simp only [Value.slice.injEq] at e3
  have h0 := h.own.cell (i * 2) (by show _ < _ * 2; omega)
  have h1 := h.own.cell (i * 2 + 1) (by show _ < _ * 2; omega)
  have f0 := hvE.fl_at vs i 0 v hv (by decide)
  have f1 := hvE.fl_at vs i 1 v hv (by decide)
  refine ⟨v, hv, e3.2.1, ?_, h0.2.1, ?_, h1.2.1, ?_⟩
  · rw [h0.1]; rw [← e3.2.1]; exact f0
  · rw [h1.1, ← e1]; exact f1
  · rw [← e3.2.1]; exact e2
theorem Hb.gne {W0 w : World} {g n : Nat} {vs : List Hv} {hs : List Hl} (h : Hb W0 w g n vs hs) {u : Value} {l : List Int} {B : Nat} (ho : intE.Own w B u l) : u.ownBlock ≠ some g := fun e => by
  obtain ⟨c1, h1⟩ := own_type h.own g rfl
  exact zown_ne ho h1 (by decide) e
/-- a holder's list grows -/
theorem Hb.app {W0 w w' : World} {g n i : Nat} {vs : List Hv} {hs : List Hl} {p : Hl} {v : Hv} {x : Int} {pa : Option Addr} {pl pc : Nat} (h : Hb W0 w g n vs hs) (hp : hs[i]? = some p) (hv : vs[i]? = some v) (ho : intE.Own w' W0.heap.size (.slice pa pl pc) (p.has ++ [x]))
    (hg : w.grownBy w' (Value.slice v.a v.l v.c).ownBlock) (hv' : (Value.slice pa pl pc).ownBlock = (Value.slice v.a v.l v.c).ownBlock ∨ (Value.slice pa pl pc).ownBlock = some w.heap.size) :
    (w'.cell? ⟨g, i * 2, none⟩ = some (.slice v.a v.l v.c) ∧ w'.frozen? ⟨g, i * 2, none⟩ = false) ∧ Hb W0 (w'.setCell ⟨g, i * 2, none⟩ (.slice pa pl pc)) g n (vs.set i ⟨pa, pl, pc, v.want⟩) (hs.set i ⟨p.has ++ [x], p.want⟩) := by
  have hov := (h.el i v p hv hp).2
  have hne := h.gne hov
  have hi : i < vs.length := idx_lt hv
  have hown' : hvE.Own w' W0.heap.size (.slice (some ⟨g, 0, none⟩) n n) vs := World.ownsRow.kept h.own hg (.inr (fun e => hne e.symm))
  have hbel' : Below W0.heap.size W0 w' := h.bel.grown hg h.bel.size (fun k hk => hov.ge k hk)
  have hg' : ∀ {u : Value} {l : List Int}, intE.Own w' W0.heap.size u l → u.ownBlock ≠ some g := fun ho => by
    obtain ⟨c1, h1⟩ := own_type hown' g rfl
    exact zown_ne ho h1 (by decide)
  have hge : W0.heap.size ≤ g := h.own.ge g rfl
  obtain ⟨q0, q1, _⟩ := hown'.cell (i * 2) (by show _ < _ * 2; omega)
  have f0 := hvE.fl_at vs i 0 v hv (by decide)
  refine ⟨⟨by rw [q0]; exact f0, q1⟩, hbel'.setCell (p := ⟨g, i * 2, none⟩) hge _, ?_, by rw [List.length_set]; exact h.len, by rw [List.length_set]; exact h.hlen, ?_, ?_⟩
  · exact own_setC (E := hvE) (j := 0) (x := v) (z := ⟨pa, pl, pc, v.want⟩) (u := .slice pa pl pc) hown' hv (by decide) rfl
  · intro j u q hu hq
    rw [List.getElem?_set] at hu hq
    by_cases e : i = j
    · subst e
      rw [if_pos rfl, if_pos hi] at hu
      rw [if_pos rfl, if_pos (idx_lt hp)] at hq
      cases hu
      cases hq
      exact ⟨(h.el i v p hv hp).1, own_set_other ho (hg' ho)⟩
    · rw [if_neg e] at hu hq
      have h1 := (h.el j u q hu hq)
      have h2 := El.Own.kept (h.sep i j v u e hv hu) h1.2 hg
      exact ⟨h1.1, own_set_other h2 (hg' h2)⟩
  · intro j k u u' hjk hu hu'
    rw [List.getElem?_set] at hu hu'
    have oth : ∀ (k : Nat) (u' : Hv), i ≠ k → vs[k]? = some u' → Sep (.slice pa pl pc) (.slice u'.a u'.l u'.c) := fun k u' e hu' => by
      obtain ⟨q, hq⟩ : ∃ q, hs[k]? = some q := ⟨_, List.getElem?_eq_getElem (by rw [h.hlen, ← h.len]; exact idx_lt hu')⟩
      exact El.Own.sep (h.sep i k v u' e hv hu') (h.el k u' q hu' hq).2 hv'
    by_cases e : i = j
    · subst e
      rw [if_pos rfl, if_pos hi] at hu
      rw [if_neg hjk] at hu'
      cases hu
      exact oth k u' hjk hu'
    · rw [if_neg e] at hu
      by_cases e' : i = k
      · subst e'
        rw [if_pos rfl, if_pos hi] at hu'
        cases hu'
        exact (oth j u e hu).symm
      · rw [if_neg e'] at hu'
        exact h.sep j k u u' hjk hu hu'
/-- a holder's want is set -/
theorem Hb.want {W0 w : World} {g n i : Nat} {vs : List Hv} {hs : List Hl} {p : Hl} {v : Hv} (h : Hb W0 w g n vs hs) (hp : hs[i]? = some p) (hv : vs[i]? = some v) (x : Int) :
    Hb W0 (w.setCell ⟨g, i * 2 + 1, none⟩ (.int .i64 x)) g n (vs.set i ⟨v.a, v.l, v.c, x⟩) (hs.set i ⟨p.has, x⟩) := by
  have hi : i < vs.length := idx_lt hv
  have hge : W0.heap.size ≤ g := h.own.ge g rfl
  refine ⟨h.bel.setCell (p := ⟨g, i * 2 + 1, none⟩) hge _, ?_, by rw [List.length_set]; exact h.len, by rw [List.length_set]; exact h.hlen, ?_, ?_⟩
  · exact own_setC (E := hvE) (j := 1) (x := v) (z := ⟨v.a, v.l, v.c, x⟩) (u := .int .i64 x) h.own hv (by decide) rfl
  · intro j u q hu hq
    rw [List.getElem?_set] at hu hq
    by_cases e : i = j
    · subst e
      rw [if_pos rfl, if_pos hi] at hu
      rw [if_pos rfl, if_pos (idx_lt hp)] at hq
      cases hu
      cases hq
      have := (h.el i v p hv hp).2
      exact ⟨rfl, own_set_other this (h.gne this)⟩
    · rw [if_neg e] at hu hq
      have h1 := (h.el j u q hu hq)
      exact ⟨h1.1, own_set_other h1.2 (h.gne h1.2)⟩
  · intro j k u u' hjk hu hu'
    rw [List.getElem?_set] at hu hu'
    by_cases e : i = j
    · subst e
      rw [if_pos rfl, if_pos hi] at hu
      rw [if_neg hjk] at hu'
      cases hu
      exact h.sep i k v u' hjk hv hu'
    · rw [if_neg e] at hu
      by_cases e' : i = k
      · subst e'
        rw [if_pos rfl, if_pos hi] at hu'
        cases hu'
        exact h.sep j i u v hjk hu hv
      · rw [if_neg e'] at hu'
        exact h.sep j k u u' hjk hu hu'

theorem index8i (f : Nat → Int) (k : Nat) (hk : k < 8) (w : World) : (Instr.index 60 (.agg #[.int .i64 (f 0), .int .i64 (f 1), .int .i64 (f 2), .int .i64 (f 3), .int .i64 (f 4), .int .i64 (f 5), .int .i64 (f 6), .int .i64 (f 7)]) (.int .i64 (k : Int))).run Try.prog w = .ok (.int .i64 (f k)) w := by
  rcases k with _ | _ | _ | _ | _ | _ | _ | _ | k
  · kernel_rfl
  · kernel_rfl
  · kernel_rfl
  · kernel_rfl
  · kernel_rfl
  · kernel_rfl
  · kernel_rfl
  · kernel_rfl
  · omega
end Go.Proofs.Ytmmkfcmbmecleaa
