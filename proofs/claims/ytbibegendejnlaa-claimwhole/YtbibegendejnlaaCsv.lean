/- ClaimServed: its mathematics, and its world. -/
import Derived.Test.YtbibegendejnlaaCrm
import Derived.Deep.MidRow
namespace Go.Proofs.Ytbibegendejnlaa
open Go.RowKit
set_option linter.unusedVariables false

def totes (T : Tb) : List Int := T.q.map (·.tote)
/-- who is granted waited, and waits no longer -/
theorem Gr.perm {T T' : Tb} {l : List Int} (h : Gr T T' l) : (totes T).Perm (l ++ totes T') := by
  induction h with
  | done T h => exact List.Perm.refl _
  | step T i c T' l hc hm hf hG ih =>
    have hlt := idx_lt hc
    have e : T.q = T.q.take i ++ c :: T.q.drop (i + 1) := by
      rw [List.getElem?_eq_getElem hlt] at hc
      cases hc
      rw [List.getElem_cons_drop, List.take_append_drop]
    have h1 : (totes T).Perm (c.tote :: totes (grant T i c)) := by
      unfold totes
      show (T.q.map (·.tote)).Perm (c.tote :: (T.q.take i ++ T.q.drop (i + 1)).map (·.tote))
      rw [e]
      conv => rhs; rw [← e]
      rw [List.map_append, List.map_cons, List.map_append]
      exact List.perm_middle
    exact h1.trans (List.Perm.cons _ ih)
theorem Gr.nil {T T' : Tb} (h : Gr T T' []) : T' = T := by cases h; rfl

/-- how often each was granted -/
def cntL (G : List Int) : List Int := (List.range 31).map (fun (k : Nat) => if (k : Int) ∈ G then 1 else 0)
theorem cntL_len (G : List Int) : (cntL G).length = 31 := by simp [cntL]
theorem cntL_at (G : List Int) (k : Nat) (hk : k < 31) : (cntL G)[k]? = some (if (k : Int) ∈ G then 1 else 0) := by simp [cntL, hk]
theorem cntL_put (G : List Int) (g : Nat) (hg : g < 31) : cntL (G ++ [(g : Int)]) = (cntL G).set g 1 := by
  apply List.ext_getElem?
  intro j
  rcases Nat.lt_or_ge j 31 with h | h
  · rw [cntL_at _ j h, List.getElem?_set]
    by_cases e : g = j
    · subst e
      have hl : g < (cntL G).length := by rw [cntL_len]; exact h
      rw [if_pos rfl, if_pos hl]
      simp
    · rw [if_neg e, cntL_at _ j h]
      have : (j : Int) ∈ G ++ [(g : Int)] ↔ (j : Int) ∈ G := by
        rw [List.mem_append, List.mem_singleton]
        exact ⟨fun h => h.elim id (fun h => by omega), .inl⟩
      by_cases hj : (j : Int) ∈ G
      · rw [if_pos hj, if_pos (this.2 hj)]
      · rw [if_neg hj, if_neg (fun h => hj (this.1 h))]
  · rw [List.getElem?_eq_none (by rw [cntL_len]; exact h), List.getElem?_eq_none (by rw [List.length_set, cntL_len]; exact h)]
/-- how many were granted from a number on -/
def frm (G : List Int) (k : Nat) : Nat := (G.filter (fun g => decide ((k : Int) ≤ g))).length
theorem frm_step {G : List Int} (hn : G.Nodup) (k : Nat) : frm G k = (if (k : Int) ∈ G then 1 else 0) + frm G (k + 1) := by
  induction G with
  | nil => rfl
  | cons x G ih =>
    have hx := List.nodup_cons.1 hn
    have ih := ih hx.2
    unfold frm at ih ⊢
    by_cases e : x = (k : Int)
    · subst e
      have h1 : decide ((k : Int) ≤ (k : Int)) = true := decide_eq_true (Int.le_refl _)
      have h2 : decide (((k + 1 : Nat) : Int) ≤ (k : Int)) = false := decide_eq_false (by omega)
      have h3 : (k : Int) ∈ (k : Int) :: G := by simp
      rw [if_neg hx.1] at ih
      rw [if_pos h3]
      simp only [List.filter_cons, h1, h2, if_true, List.length_cons, Bool.false_eq_true, if_false]
      omega
    · have hm : (k : Int) ∈ x :: G ↔ (k : Int) ∈ G := by
        rw [List.mem_cons]
        exact ⟨fun h => h.elim (fun h => absurd h.symm e) id, .inr⟩
      have hif : (if (k : Int) ∈ x :: G then 1 else 0) = (if (k : Int) ∈ G then 1 else 0) := by
        by_cases h : (k : Int) ∈ G
        · rw [if_pos h, if_pos (hm.2 h)]
        · rw [if_neg h, if_neg (fun h' => h (hm.1 h'))]
      rw [hif]
      by_cases hle : (k : Int) ≤ x
      · have h1 : decide ((k : Int) ≤ x) = true := decide_eq_true hle
        have h2 : decide (((k + 1 : Nat) : Int) ≤ x) = true := decide_eq_true (by omega)
        simp only [List.filter_cons, h1, h2, if_true, List.length_cons]
        omega
      · have h1 : decide ((k : Int) ≤ x) = false := decide_eq_false hle
        have h2 : decide (((k + 1 : Nat) : Int) ≤ x) = false := decide_eq_false (by omega)
        simp only [List.filter_cons, h1, h2, Bool.false_eq_true, if_false]
        exact ih
theorem frm_zero {G : List Int} (h : ∀ g ∈ G, 1 ≤ g) : frm G 0 = G.length := by
  unfold frm
  rw [List.filter_eq_self.2 (fun g hg => decide_eq_true (by have := h g hg; omega))]
theorem frm_end {G : List Int} (h : ∀ g ∈ G, g ≤ 30) : frm G 31 = 0 := by
  unfold frm
  rw [List.filter_eq_nil_iff.2 (fun g hg => by have := h g hg; simp; omega)]; rfl

/-- where the law stands: the table, who was granted, the last tote that claimed -/
structure SV (N i : Nat) (T : Tb) (G : List Int) : Prop where
  wf : Wf T
  set : Set' T
  len : T.hold.length = N
  nd : (G ++ totes T).Nodup
  rng : ∀ x ∈ G ++ totes T, 1 ≤ x ∧ x ≤ (i : Int)
theorem SV.start (N : Nat) (hN : N ≤ 1000) : SV N 0 ⟨List.replicate N 0, []⟩ [] := ⟨wf_new N hN, fun i => mayB_out (by simp), by simp, by simp [totes], by simp [totes]⟩
theorem SV.mono {N i : Nat} {T : Tb} {G : List Int} (h : SV N i T G) : SV N (i + 1) T G := ⟨h.wf, h.set, h.len, h.nd, fun x hx => by have := h.rng x hx; omega⟩
theorem SV.fnd {N i : Nat} {T : Tb} {G : List Int} (h : SV N i T G) : fnd ((i : Int) + 1) T.q < 0 := fnd_neg fun c hc e => by
  have := h.rng c.tote (List.mem_append.2 (.inr (List.mem_map.2 ⟨c, hc, rfl⟩)))
  omega
theorem SV.claim {N i : Nat} {T T' : Tb} {G l ns : List Int} (h : SV N i T G) (hG : Gr ⟨T.hold, T.q ++ [⟨(i : Int) + 1, ns⟩]⟩ T' l) (hwa : Wf ⟨T.hold, T.q ++ [⟨(i : Int) + 1, ns⟩]⟩) :
    ((l.length = 1 ∧ SV N (i + 1) T' (G ++ [(i : Int) + 1])) ∨ (l.length = 0 ∧ SV N (i + 1) T' G)) ∧ T'.q.length + l.length = T.q.length + 1 := by
  have hlen := hG.len.2
  have hl1 : (T.q ++ [(⟨(i : Int) + 1, ns⟩ : Cl)]).length = T.q.length + 1 := by simp
  refine ⟨?_, by rw [hlen]; exact hl1⟩
  have hnew : (i : Int) + 1 ∉ G ++ totes T := fun hm => by have := h.rng _ hm; omega
  rcases gr_add h.set hwa hG with ⟨_, e1, e2⟩ | ⟨_, e1, e2⟩
  · subst e2
    refine .inl ⟨by rw [e1]; rfl, hG.wf hwa, hG.settled, by show (setL _ _ _).length = _; rw [setL_len, h.len], ?_, fun x hx => ?_⟩
    · have hp : ((G ++ [(i : Int) + 1]) ++ totes T).Perm (((i : Int) + 1) :: (G ++ totes T)) := by
        rw [List.append_assoc]
        exact List.perm_middle
      exact hp.nodup_iff.2 (List.nodup_cons.2 ⟨hnew, h.nd⟩)
    · have hx' : x ∈ (G ++ [(i : Int) + 1]) ++ totes T := hx
      rw [List.append_assoc, List.mem_append] at hx'
      rcases hx' with hx' | hx'
      · have := h.rng x (List.mem_append.2 (.inl hx')); omega
      · rw [List.singleton_append, List.mem_cons] at hx'
        rcases hx' with rfl | hx'
        · omega
        · have := h.rng x (List.mem_append.2 (.inr hx')); omega
  · subst e2
    have ht : totes ⟨T.hold, T.q ++ [⟨(i : Int) + 1, ns⟩]⟩ = totes T ++ [(i : Int) + 1] := by unfold totes; rw [List.map_append]; rfl
    refine .inr ⟨by rw [e1]; rfl, hwa, hG.settled, h.len, ?_, fun x hx => ?_⟩
    · rw [ht, ← List.append_assoc, List.nodup_append]
      exact ⟨h.nd, by simp, fun a ha b hb => by simp at hb; subst hb; rintro rfl; exact hnew ha⟩
    · rw [ht, ← List.append_assoc, List.mem_append] at hx
      rcases hx with hx | hx
      · have := h.rng x hx; omega
      · simp at hx; omega
theorem SV.rel {N i : Nat} {T T' : Tb} {G l : List Int} (h : SV N i T G) (n : Int) (hG : Gr ⟨T.hold.set n.toNat 0, T.q⟩ T' l) : SV N i T' (G ++ l) ∧ T'.q.length + l.length = T.q.length ∧ (l = [] → T' = ⟨T.hold.set n.toNat 0, T.q⟩) := by
  have hwf : Wf ⟨T.hold.set n.toNat 0, T.q⟩ := h.wf.setH 0 (by omega) [n]
  have hp : (totes T).Perm (l ++ totes T') := hG.perm
  have hp2 : (G ++ totes T).Perm ((G ++ l) ++ totes T') := by rw [List.append_assoc]; exact hp.append_left G
  refine ⟨⟨hG.wf hwf, hG.settled, by rw [hG.len.1]; show (T.hold.set _ _).length = _; rw [List.length_set, h.len], hp2.nodup_iff.1 h.nd, fun x hx => h.rng x (hp2.mem_iff.2 hx)⟩, hG.len.2, fun e => ?_⟩
  subst e
  exact hG.nil
/-- where all is free, none waits -/
theorem SV.free {N i : Nat} {T : Tb} {G : List Int} (h : SV N i T G) (hf : ∀ k : Int, 0 ≤ k → k < (N : Int) → hat T.hold k = 0) : T.q = [] := by
  cases hq : T.q with
  | nil => rfl
  | cons c q =>
    have h0 := h.set 0
    rw [mayB_at (T := T) (c := c) (by rw [hq]; rfl)] at h0
    have : mayC T.hold (T.q.take 0) c = true := mayC_true fun n hn => ⟨.inl (by
      have := (h.wf.nodes c (by rw [hq]; simp)).1 n hn
      rw [h.len] at this
      exact hf n this.1 this.2), fun d hd => by simp at hd⟩
    rw [this] at h0; cases h0

theorem Tbl.stayT {w w' : World} {B g gh : Nat} {b : Nat → Prop} {T : Tb} (h : Tbl w B g gh b T) (hs : ∀ (k : Nat) (cur : Array Value) (t : TypeId), w.heap[k]? = some (Obj.cells cur t) → (t = 63 ∨ t = 3 ∨ t = 67) → w'.heap[k]? = w.heap[k]?) : Tbl w' B g gh b T := by
  obtain ⟨vw, cs, h⟩ := h
  exact ⟨vw, cs, h.base, by rw [hs g _ 63 h.box (.inl rfl)]; exact h.box, own_chg h.hold fun k cur hk hc => hs k cur 3 hc (.inr (.inl rfl)), h.qs.stay (fun k cur hk hc => hs k cur 67 hc (.inr (.inr rfl))) (fun k cur _ _ _ hc => hs k cur 3 hc (.inr (.inl rfl)))⟩

/-- the law's world: the table, the counts, a row of nodes -/
structure SW (w0 : World) (B g gh bc Bn : Nat) (v : Value) (xs : List Int) (G : List Int) (w : World) (T : Tb) : Prop where
  tbl : Tbl w B g gh (bl v) T
  box : w.heap[bc]? = some (.cells ((cntL G).map (Value.int .i64)).toArray 55)
  own : intE.Own w Bn v xs
  bel : Below w0.heap.size w0 w
  size : Bn ≤ w.heap.size
/-- what is always so of the places -/
structure SP (w0 : World) (B g gh bc Bn : Nat) : Prop where
  g : w0.heap.size ≤ g ∧ g < Bn
  gh : w0.heap.size ≤ gh ∧ gh < Bn
  bc : Bn ≤ bc
  B : w0.heap.size ≤ B
theorem SW.keep {w0 w w' : World} {B g gh bc Bn : Nat} {v : Value} {xs G : List Int} {T : Tb} (h : SW w0 B g gh bc Bn v xs G w T) (hb : Below w.heap.size w w') : SW w0 B g gh bc Bn v xs G w' T :=
  ⟨h.tbl.keep hb, by rw [hb.block bc (heap_lt h.box)]; exact h.box, h.own.keep hb, h.bel.trans (hb.mono h.bel.size), Nat.le_trans h.size hb.size⟩
theorem SW.fr {w0 w w' : World} {B g gh bc Bn : Nat} {v : Value} {xs G : List Int} {T T' : Tb} (p : SP w0 B g gh bc Bn) (h : SW w0 B g gh bc Bn v xs G w T) (hT : Tbl w' B g gh (bl v) T') (hF : Fr B g gh w w') : SW w0 B g gh bc Bn v xs G w' T' := by
  have h1 := p.g
  have h2 := p.gh
  have h3 := p.bc
  refine ⟨hT, ?_, hF.ownN h.own h1.2 h2.2, hF.below h.bel h.bel.size h1.1 h2.1 p.B, Nat.le_trans h.size hF.size⟩
  rw [hF.block bc (heap_lt h.box) (by omega) (by omega) (.inr fun cur hc => by
    rw [h.box] at hc
    simp only [Option.some.injEq, Obj.cells.injEq] at hc
    exact absurd hc.2.1 (show ¬ (55 : TypeId) = 67 by decide))]
  exact h.box
theorem SW.app {w0 w w2 : World} {B g gh bc Bn : Nat} {v v' : Value} {xs xs' G : List Int} {T : Tb} {o : Obj} (p : SP w0 B g gh bc Bn) (h : SW w0 B g gh bc Bn v xs G w T) (ho : intE.Own w2 Bn v' xs') (hg : (w.alloc o).grownBy w2 v.ownBlock) (hs : v'.ownBlock = v.ownBlock ∨ v'.ownBlock = some (w.alloc o).heap.size) : SW w0 B g gh bc Bn v' xs' G w2 T := by
  have hb : Below w.heap.size w (w.alloc o) := (Below.refl _ _).alloc (Nat.le_refl _) o
  have hbel := h.bel.trans (hb.mono h.bel.size)
  have h1 := p.g
  have h2 := p.gh
  refine ⟨h.tbl.rowApp h.own hg hs h1.2 h2.2, ?_, ho, hbel.grown hg hbel.size (fun k hk => ?_), Nat.le_trans h.size (Nat.le_trans hb.size hg.size)⟩
  · rw [hg.block bc (Nat.lt_of_lt_of_le (heap_lt h.box) hb.size) (fun e => by
      exact zown_ne h.own h.box (by decide) e.symm), hb.block bc (heap_lt h.box)]
    exact h.box
  · have e1 := h.own.ge k hk
    omega
/-- the row is let go -/
theorem SW.nil {w0 w : World} {B g gh bc Bn : Nat} {v : Value} {xs G : List Int} {T : Tb} (h : SW w0 B g gh bc Bn v xs G w T) : SW w0 B g gh bc Bn (.slice none 0 0) [] G w T :=
  ⟨h.tbl.apart (fun k hk => by cases hk), h.box, El.Own.nil _ _ _, h.bel, h.size⟩
/-- one more was granted -/
theorem SW.cnt {w0 w : World} {B g gh bc Bn : Nat} {v : Value} {xs G : List Int} {T : Tb} (p : SP w0 B g gh bc Bn) (h : SW w0 B g gh bc Bn v xs G w T) (k : Nat) (hk : k < 31) : SW w0 B g gh bc Bn v xs (G ++ [(k : Int)]) (w.setCell ⟨bc, k, none⟩ (.int .i64 1)) T := by
  have hne : ∀ (j : Nat) (cur : Array Value) (t : TypeId), w.heap[j]? = some (.cells cur t) → t ≠ 55 → j ≠ bc := fun j cur t hc ht e => by
    rw [e, h.box] at hc
    simp only [Option.some.injEq, Obj.cells.injEq] at hc
    exact ht hc.2.1.symm
  have h1 := p.g
  have h2 := p.bc
  refine ⟨h.tbl.stayT (fun j cur t hc ht => Below.heap_setCell _ _ _ _ (hne j cur t hc (by rcases ht with rfl | rfl | rfl <;> decide))), ?_, own_set_other h.own (zown_ne h.own h.box (by decide)), h.bel.setCell (p := ⟨bc, k, none⟩) (by show _ ≤ bc; omega) _, by simpa [World.setCell] using h.size⟩
  rw [heap_put h.box]
  congr 2
  rw [cntL_put G k hk, List.map_set]
  simp
theorem SW.at {w0 w : World} {B g gh bc Bn : Nat} {v : Value} {xs G : List Int} {T : Tb} (h : SW w0 B g gh bc Bn v xs G w T) (k : Nat) (hk : k < 31) : w.cell? ⟨bc, k, none⟩ = some (.int .i64 (if (k : Int) ∈ G then 1 else 0)) ∧ w.frozen? ⟨bc, k, none⟩ = false := by
  refine ⟨?_, (cells_at h.box k).2⟩
  rw [(cells_at h.box k).1]
  simp [cntL, hk]
theorem SW.range {w0 w : World} {B g gh bc Bn : Nat} {v : Value} {xs G : List Int} {T : Tb} (h : SW w0 B g gh bc Bn v xs G w T) : w.rangeAt bc 0 ((cntL G).map (Value.int .i64)) := fun j u hu => by
  rw [Nat.zero_add, (cells_at h.box j).1]
  simpa using hu
theorem index31 (G : List Int) (k : Nat) (hk : k < 31) (w : World) : (Instr.index 55 (.agg ((cntL G).map (Value.int .i64)).toArray) (.int .i64 (k : Int))).run Try.prog w = .ok (.int .i64 (if (k : Int) ∈ G then 1 else 0)) w := by
  have h1 : (0 : Int) ≤ (k : Int) ∧ (k : Int) < 31 := by omega
  simp [Instr.index, run_underlying Try.underlying55, asIntOf, h1, part, go_sem]
  rw [if_pos hk, cntL_at G k hk]
  rfl
theorem boxz : (#[.int .i64 0, .int .i64 0, .int .i64 0, .int .i64 0, .int .i64 0, .int .i64 0, .int .i64 0, .int .i64 0, .int .i64 0, .int .i64 0, .int .i64 0, .int .i64 0, .int .i64 0, .int .i64 0, .int .i64 0, .int .i64 0, .int .i64 0, .int .i64 0, .int .i64 0, .int .i64 0, .int .i64 0, .int .i64 0, .int .i64 0, .int .i64 0, .int .i64 0, .int .i64 0, .int .i64 0, .int .i64 0, .int .i64 0, .int .i64 0, .int .i64 0] : Array Value) = ((cntL []).map (Value.int .i64)).toArray := by rfl
end Go.Proofs.Ytbibegendejnlaa
