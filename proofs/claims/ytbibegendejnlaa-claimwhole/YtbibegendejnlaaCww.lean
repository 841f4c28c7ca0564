/- ClaimWhole: its world. -/
import Derived.Test.YtbibegendejnlaaCwm
namespace Go.Proofs.Ytbibegendejnlaa
open Go.RowKit Go.Maps Go.ChangeMaps
set_option linter.unusedVariables false

/-- the table, and the map that has the claims Q -/
structure WW (w0 : World) (B g gh mb Bn : Nat) (v : Value) (xs : List Int) (w : World) (T : Tb) (Q : List Cl) (n : Nat) (f : Int → Option Value) : Prop where
  tbl : Tbl w B g gh (bl v) T
  map : Mp w mb n Q.length f
  own : intE.Own w Bn v xs
  bel : Below w0.heap.size w0 w
  size : Bn ≤ w.heap.size
  yes : ∀ c ∈ Q, ∃ u ns, f c.tote = some u ∧ intE.Own w Bn u ns ∧ (∀ k, u.ownBlock = some k → v.ownBlock ≠ some k) ∧ (∀ m, m ∈ ns ↔ m ∈ c.nodes) ∧ ns ≠ [] ∧ ns.length ≤ 5
  non : ∀ x, 1 ≤ x → x ≤ 30 → (∀ c ∈ Q, c.tote ≠ x) → f x = none
  tot : ∀ c ∈ Q, 1 ≤ c.tote ∧ c.tote ≤ 30
/-- what is always so of the places -/
structure WP (w0 : World) (B g gh mb Bn : Nat) : Prop where
  g : w0.heap.size ≤ g ∧ g < Bn
  gh : w0.heap.size ≤ gh ∧ gh < Bn
  mb : Bn ≤ mb
  B : w0.heap.size ≤ B
theorem WW.keep {w0 w w' : World} {B g gh mb Bn n : Nat} {v : Value} {xs : List Int} {T : Tb} {Q : List Cl} {f : Int → Option Value} (h : WW w0 B g gh mb Bn v xs w T Q n f) (hb : Below w.heap.size w w') : WW w0 B g gh mb Bn v xs w' T Q n f :=
  ⟨h.tbl.keep hb, h.map.keep (hb.block mb h.map.lt), h.own.keep hb, h.bel.trans (hb.mono h.bel.size), Nat.le_trans h.size hb.size, fun c hc => by
    obtain ⟨u, ns, h1, h2, h3⟩ := h.yes c hc
    exact ⟨u, ns, h1, h2.keep hb, h3⟩, h.non, h.tot⟩
theorem WW.fr {w0 w w' : World} {B g gh mb Bn n : Nat} {v : Value} {xs : List Int} {T T' : Tb} {Q : List Cl} {f : Int → Option Value} (p : WP w0 B g gh mb Bn) (h : WW w0 B g gh mb Bn v xs w T Q n f) (hT : Tbl w' B g gh (bl v) T') (hF : Fr B g gh w w') : WW w0 B g gh mb Bn v xs w' T' Q n f := by
  have h1 := p.g
  have h2 := p.gh
  have h3 := p.mb
  refine ⟨hT, h.map.keep (hF.block mb h.map.lt (by omega) (by omega) (.inr fun cur => h.map.obj cur 67)), hF.ownN h.own h1.2 h2.2, hF.below h.bel h.bel.size h1.1 h2.1 p.B, Nat.le_trans h.size hF.size, fun c hc => ?_, h.non, h.tot⟩
  obtain ⟨u, ns, k1, k2, k3⟩ := h.yes c hc
  exact ⟨u, ns, k1, hF.ownN k2 h1.2 h2.2, k3⟩
theorem WW.app {w0 w w2 : World} {B g gh mb Bn n : Nat} {v v' : Value} {xs xs' : List Int} {T : Tb} {Q : List Cl} {f : Int → Option Value} {o : Obj} (p : WP w0 B g gh mb Bn) (h : WW w0 B g gh mb Bn v xs w T Q n f) (ho : intE.Own w2 Bn v' xs') (hg : (w.alloc o).grownBy w2 v.ownBlock) (hs : v'.ownBlock = v.ownBlock ∨ v'.ownBlock = some (w.alloc o).heap.size) : WW w0 B g gh mb Bn v' xs' w2 T Q n f := by
  have hb : Below w.heap.size w (w.alloc o) := (Below.refl _ _).alloc (Nat.le_refl _) o
  have hbel := h.bel.trans (hb.mono h.bel.size)
  have h1 := p.g
  have h2 := p.gh
  refine ⟨h.tbl.rowApp h.own hg hs h1.2 h2.2, h.map.keep ?_, ho, hbel.grown hg hbel.size (fun k hk => by have := h.own.ge k hk; omega), Nat.le_trans h.size (Nat.le_trans hb.size hg.size), fun c hc => ?_, h.non, h.tot⟩
  · rw [hg.block mb (Nat.lt_of_lt_of_le h.map.lt hb.size) (fun e => by
      obtain ⟨cur, hc⟩ := own_type h.own mb e.symm
      exact h.map.obj cur _ hc)]
    exact hb.block mb h.map.lt
  · obtain ⟨u, ns, k1, k2, k3, k4⟩ := h.yes c hc
    refine ⟨u, ns, k1, own_stay k2 fun k hk hlt => ?_, fun k hk e => ?_, k4⟩
    · rw [hg.block k (Nat.lt_of_lt_of_le hlt hb.size) (fun e => k3 k hk e.symm)]
      exact hb.block k hlt
    · rcases hs with hs | hs
      · exact k3 k hk (by rw [← hs]; exact e)
      · have e1 := k2.lt k hk
        rw [hs] at e
        have e2 : (w.alloc o).heap.size = k := by simpa using e
        have e3 := hb.size
        omega
theorem WW.nil {w0 w : World} {B g gh mb Bn n : Nat} {v : Value} {xs : List Int} {T : Tb} {Q : List Cl} {f : Int → Option Value} (h : WW w0 B g gh mb Bn v xs w T Q n f) : WW w0 B g gh mb Bn (.slice none 0 0) [] w T Q n f :=
  ⟨h.tbl.apart (fun k hk => by cases hk), h.map, El.Own.nil _ _ _, h.bel, h.size, fun c hc => by
    obtain ⟨u, ns, k1, k2, k3, k4⟩ := h.yes c hc
    exact ⟨u, ns, k1, k2, (fun k _ e => by cases e), k4⟩, h.non, h.tot⟩
theorem Om.own {mb : Nat} {w w' : World} (x : Om mb w w') {B : Nat} {v : Value} {xs : List Int} (ho : intE.Own w B v xs) (hm : ∀ cur t, w.heap[mb]? ≠ some (.cells cur t)) : intE.Own w' B v xs :=
  own_stay ho fun k hk hlt => x.block k (fun e => by
    obtain ⟨cur, hc⟩ := own_type ho k hk
    exact hm cur _ (e ▸ hc))
theorem Om.tbl {mb : Nat} {w w' : World} (x : Om mb w w') {B g gh : Nat} {b : Nat → Prop} {T : Tb} (h : Tbl w B g gh b T) (hm : ∀ cur t, w.heap[mb]? ≠ some (.cells cur t)) : Tbl w' B g gh b T :=
  h.stayT fun k cur t hc _ => x.block k (fun e => hm cur t (e ▸ hc))
theorem Om.below {mb : Nat} {w0 w w' : World} (x : Om mb w w') (hb : Below w0.heap.size w0 w) (hm : w0.heap.size ≤ mb) : Below w0.heap.size w0 w' :=
  ⟨x.os.trans hb.os, x.tape.trans hb.tape, x.output.trans hb.output, by rw [x.size]; exact hb.size, fun k hk => by rw [x.block k (by omega)]; exact hb.block k hk⟩
/-- a claim is noted -/
theorem WW.put {w0 w : World} {B g gh mb Bn n : Nat} {T : Tb} {Q : List Cl} {f : Int → Option Value} (p : WP w0 B g gh mb Bn) (h : WW w0 B g gh mb Bn (.slice none 0 0) [] w T Q n f) {x : Int} (h0 : 1 ≤ x) (h1 : x ≤ 30) {u : Value} {ns ms : List Int} (ho : intE.Own w Bn u ns) (hm : ∀ m, m ∈ ns ↔ m ∈ ms) (hne : ns ≠ []) (hl : ns.length ≤ 5) (hn : n ≤ 1000000) (hx : ∀ c ∈ Q, c.tote ≠ x) :
    ∃ w', (Instr.mapUpdate 51 (.map (some mb)) (.int .i64 x) u).run Try.prog w = .ok () w' ∧ WW w0 B g gh mb Bn (.slice none 0 0) [] w' T (Q ++ [⟨x, ms⟩]) (n + 1) (fun y => if y = x then some u else f y) := by
  obtain ⟨w', hr, hM, hO⟩ := h.map.put h0 h1 u hn (h.non x h0 h1 hx)
  have h2 := p.g
  have h3 := p.mb
  refine ⟨w', hr, hO.tbl h.tbl h.map.obj, by rw [List.length_append]; exact hM, El.Own.nil _ _ _, hO.below h.bel (by omega), by rw [hO.size]; exact h.size, fun c hc => ?_, fun y y0 y1 hy => ?_, fun c hc => ?_⟩
  · rcases List.mem_append.1 hc with hc | hc
    · obtain ⟨u', ns', k1, k2, k3⟩ := h.yes c hc
      exact ⟨u', ns', by rw [if_neg (hx c hc)]; exact k1, hO.own k2 h.map.obj, k3⟩
    · rw [List.mem_singleton] at hc
      subst hc
      exact ⟨u, ns, if_pos rfl, hO.own ho h.map.obj, (fun k _ e => by cases e), hm, hne, hl⟩
  · rw [if_neg (fun e => hy ⟨x, ms⟩ (by simp) e.symm)]
    exact h.non y y0 y1 (fun c hc => hy c (List.mem_append.2 (.inl hc)))
  · rcases List.mem_append.1 hc with hc | hc
    · exact h.tot c hc
    · rw [List.mem_singleton] at hc; subst hc; exact ⟨h0, h1⟩
/-- a claim is struck -/
theorem WW.del {w0 w : World} {B g gh mb Bn n : Nat} {T : Tb} {Q Q' : List Cl} {f : Int → Option Value} (p : WP w0 B g gh mb Bn) (h : WW w0 B g gh mb Bn (.slice none 0 0) [] w T Q n f) {x : Int} {c0 : Cl} (hc0 : c0 ∈ Q) (hx0 : c0.tote = x) (hQ : ∀ c, c ∈ Q' ↔ c ∈ Q ∧ c.tote ≠ x) (hl : Q'.length + 1 = Q.length) :
    ∃ w', (∀ ty, (Builtin.delete_ #[51, 3] ty #[.map (some mb), .int .i64 x]).run Try.prog w = .ok (.tuple #[]) w') ∧ WW w0 B g gh mb Bn (.slice none 0 0) [] w' T Q' n (fun y => if y = x then none else f y) ∧ Om mb w w' ∧ (∀ cur t, w.heap[mb]? ≠ some (.cells cur t)) := by
  have ht := h.tot c0 hc0
  rw [hx0] at ht
  have hM := h.map
  rw [← hl] at hM
  obtain ⟨u0, ns0, k0, _⟩ := h.yes c0 hc0
  rw [hx0] at k0
  obtain ⟨w', hr, hM', hO⟩ := hM.del ht.1 ht.2 (by rw [k0]; rfl)
  have h2 := p.g
  have h3 := p.mb
  refine ⟨w', hr, ⟨hO.tbl h.tbl h.map.obj, hM', El.Own.nil _ _ _, hO.below h.bel (by omega), by rw [hO.size]; exact h.size, fun c hc => ?_, fun y y0 y1 hy => ?_, fun c hc => h.tot c ((hQ c).1 hc).1⟩, hO, h.map.obj⟩
  · obtain ⟨hc1, hc2⟩ := (hQ c).1 hc
    obtain ⟨u', ns', k1, k2, k3⟩ := h.yes c hc1
    exact ⟨u', ns', by rw [if_neg hc2]; exact k1, hO.own k2 h.map.obj, k3⟩
  · by_cases e : y = x
    · exact if_pos e
    · rw [if_neg e]
      exact h.non y y0 y1 (fun c hc e' => hy c ((hQ c).2 ⟨hc, by rw [e']; exact e⟩) e')
theorem WW.look {w0 w : World} {B g gh mb Bn n : Nat} {v : Value} {xs : List Int} {T : Tb} {Q : List Cl} {f : Int → Option Value} (h : WW w0 B g gh mb Bn v xs w T Q n f) {c : Cl} (hc : c ∈ Q) : ∃ a ns cp, (Instr.lookup 51 (.map (some mb)) (.int .i64 c.tote) false).run Try.prog w = .ok (.slice a ns.length cp) w ∧ intE.Own w Bn (.slice a ns.length cp) ns ∧ (∀ m, m ∈ ns ↔ m ∈ c.nodes) ∧ ns ≠ [] ∧ ns.length ≤ 5 := by
  obtain ⟨u, ns, k1, k2, _, k3, k4, k5⟩ := h.yes c hc
  obtain ⟨a, cp, rfl⟩ := k2.rd.form
  have := h.map.look (h.tot c hc).1 (h.tot c hc).2
  rw [k1] at this
  exact ⟨a, ns, cp, this, k2, k3, k4, k5⟩

/-- what was granted, the table behind it, what the map has -/
structure GP (N : Nat) (l : List Int) (T : Tb) (Q : List Cl) : Prop where
  wf : Wf T
  set : Set' T
  len : T.hold.length = N
  nd : l.Nodup
  from' : ∀ x ∈ l, ∃ c ∈ Q, c.tote = x ∧ ∀ m ∈ c.nodes, hat T.hold m = x
  left : ∀ c, c ∈ T.q ↔ c ∈ Q ∧ c.tote ∉ l
  cnt : Q.length = T.q.length + l.length
  once : (Q.map (·.tote)).Nodup
theorem GP.of {N : Nat} {l : List Int} {T1 T : Tb} (h : Gr T1 T l) (hw : Wf T1) (hl : T1.hold.length = N) : GP N l T T1.q :=
  ⟨h.wf hw, h.settled, by rw [h.len.1, hl], (h.from hw).1, fun x hx => by
    obtain ⟨c, hc, e⟩ := (h.from hw).2 x hx
    exact ⟨c, hc, e, fun m hm => by rw [← e]; exact h.held hw c hc (by rw [e]; exact hx) m hm⟩, h.left hw, h.len.2.symm, hw.once⟩
theorem GP.same {N : Nat} {T : Tb} (hw : Wf T) (hs : Set' T) (hl : T.hold.length = N) : GP N [] T T.q := GP.of (.done T hs) hw hl
/-- without a tote -/
theorem strike (Q : List Cl) (hn : (Q.map (·.tote)).Nodup) {c : Cl} (hc : c ∈ Q) : ∃ Q' : List Cl, (∀ d, d ∈ Q' ↔ d ∈ Q ∧ d.tote ≠ c.tote) ∧ Q'.length + 1 = Q.length ∧ (Q'.map (·.tote)).Nodup := by
  obtain ⟨i, hi⟩ := List.getElem?_of_mem hc
  have hlt := idx_lt hi
  have e : Q = Q.take i ++ c :: Q.drop (i + 1) := by
    rw [List.getElem?_eq_getElem hlt] at hi
    have hi' := Option.some.inj hi
    rw [← hi', List.getElem_cons_drop, List.take_append_drop]
  refine ⟨Q.take i ++ Q.drop (i + 1), fun d => ?_, by rw [List.length_append, List.length_take, List.length_drop]; omega, ?_⟩
  · have hn' := hn
    rw [e, List.map_append, List.map_cons] at hn'
    have hp : (List.map (·.tote) (Q.take i) ++ c.tote :: List.map (·.tote) (Q.drop (i + 1))).Perm (c.tote :: (List.map (·.tote) (Q.take i) ++ List.map (·.tote) (Q.drop (i + 1)))) := List.perm_middle
    have hn2 := hp.nodup_iff.1 hn'
    rw [List.nodup_cons, ← List.map_append] at hn2
    constructor
    · intro h
      refine ⟨mem_del h, fun e' => hn2.1 ?_⟩
      rw [← e']
      exact List.mem_map.2 ⟨d, h, rfl⟩
    · rintro ⟨h1, h2⟩
      rw [e] at h1
      rcases List.mem_append.1 h1 with h | h
      · exact List.mem_append.2 (.inl h)
      · rcases List.mem_cons.1 h with rfl | h
        · exact absurd rfl h2
        · exact List.mem_append.2 (.inr h)
  · refine List.Nodup.sublist (List.Sublist.map _ ?_) hn
    conv => rhs; rw [e]
    exact List.Sublist.append (List.Sublist.refl _) (List.sublist_cons_self _ _)
/-- while the granted ones are gone through -/
structure GJ (N : Nat) (l : List Int) (j : Nat) (T : Tb) (Q0 Q : List Cl) : Prop where
  mem : ∀ c, c ∈ Q ↔ c ∈ Q0 ∧ c.tote ∉ l.take j
  cnt : Q.length + j = Q0.length
  once : (Q.map (·.tote)).Nodup
theorem GJ.start {N : Nat} {l : List Int} {T : Tb} {Q : List Cl} (h : GP N l T Q) : GJ N l 0 T Q Q := ⟨fun c => by simp, rfl, h.once⟩
theorem GJ.step {N : Nat} {l : List Int} {j : Nat} {T : Tb} {Q0 Q : List Cl} (h : GP N l T Q0) (hj : GJ N l j T Q0 Q) {x : Int} (hx : l[j]? = some x) : ∃ c Q', c ∈ Q ∧ c.tote = x ∧ (∀ m ∈ c.nodes, hat T.hold m = x) ∧ (∀ d, d ∈ Q' ↔ d ∈ Q ∧ d.tote ≠ x) ∧ Q'.length + 1 = Q.length ∧ GJ N l (j + 1) T Q0 Q' := by
  obtain ⟨c, hc, e, hh⟩ := h.from' x (List.mem_of_getElem? hx)
  have hxn : x ∉ l.take j := fun hm => by
    have hlt := idx_lt hx
    have el : l = l.take j ++ x :: l.drop (j + 1) := by
      rw [List.getElem?_eq_getElem hlt] at hx
      have hx' := Option.some.inj hx
      rw [← hx', List.getElem_cons_drop, List.take_append_drop]
    have := h.nd
    rw [el, List.nodup_append] at this
    exact this.2.2 _ hm x (by simp) rfl
  have hcQ : c ∈ Q := (hj.mem c).2 ⟨hc, by rw [e]; exact hxn⟩
  obtain ⟨Q', h1, h2, h3⟩ := strike Q hj.once hcQ
  rw [e] at h1
  refine ⟨c, Q', hcQ, e, hh, h1, h2, fun d => ?_, by have := hj.cnt; omega, h3⟩
  rw [h1, hj.mem, List.take_add_one, hx]
  constructor
  · rintro ⟨⟨k1, k2⟩, k3⟩
    exact ⟨k1, fun hm => by
      rcases List.mem_append.1 hm with hm | hm
      · exact k2 hm
      · simp at hm; exact k3 hm⟩
  · rintro ⟨k1, k2⟩
    exact ⟨⟨k1, fun hm => k2 (List.mem_append.2 (.inl hm))⟩, fun e' => k2 (List.mem_append.2 (.inr (by simp [e'])))⟩
theorem GJ.fin {N : Nat} {l : List Int} {T : Tb} {Q0 Q : List Cl} (h : GP N l T Q0) (hj : GJ N l l.length T Q0 Q) : (∀ c, c ∈ Q ↔ c ∈ T.q) ∧ Q.length = T.q.length := by
  refine ⟨fun c => ?_, by have := hj.cnt; have := h.cnt; omega⟩
  rw [hj.mem, h.left, List.take_of_length_le (Nat.le_refl _)]
theorem WW.perm {w0 w : World} {B g gh mb Bn n : Nat} {v : Value} {xs : List Int} {T : Tb} {Q Q' : List Cl} {f : Int → Option Value} (h : WW w0 B g gh mb Bn v xs w T Q n f) (hm : ∀ c, c ∈ Q ↔ c ∈ Q') (hl : Q.length = Q'.length) : WW w0 B g gh mb Bn v xs w T Q' n f :=
  ⟨h.tbl, by rw [← hl]; exact h.map, h.own, h.bel, h.size, fun c hc => h.yes c ((hm c).2 hc), fun x x0 x1 hx => h.non x x0 x1 (fun c hc => hx c ((hm c).1 hc)), fun c hc => h.tot c ((hm c).2 hc)⟩
end Go.Proofs.Ytbibegendejnlaa
