/- ClaimPlays: its world. -/
import Derived.Test.YtbibegendejnlaaCpm
namespace Go.Proofs.Ytbibegendejnlaa
open Go.RowKit
set_option linter.unusedVariables false

/-- rows of the document: neither the program's holders nor the copy; nodes: handed in -/
def ppV (B gh : Nat) (v : Value) : Nat → Nat → Prop := fun i k => if i = 0 then k ≠ gh ∧ v.ownBlock ≠ some k else k < B
/-- kept apart from the claims' nodes: the box of the document's table, the copy -/
def bV (hm : Nat) (v : Value) : Nat → Prop := fun k => k = hm ∨ v.ownBlock = some k

theorem DT.mono {pp pp' : Nat → Nat → Prop} {w : World} {aH aQ : Option Addr} {cH cQ : Nat} {U : Tb} (h : DT pp w aH cH aQ cQ U) (h0 : ∀ k, k < w.heap.size → pp 0 k → pp' 0 k) (h1 : ∀ k, pp 1 k → pp' 1 k) : DT pp' w aH cH aQ cQ U := by
  obtain ⟨k1, ⟨cs, k2, k3, k4⟩, k5, k6, k7, k8⟩ := h
  refine ⟨k1, ⟨cs, k2, k3, fun i x p hx hp => ⟨(k4 i x p hx hp).1, (k4 i x p hx hp).2.1, fun y hy => h1 _ ((k4 i x p hx hp).2.2 y hy)⟩⟩, fun x hx => h0 _ ?_ (k5 x hx), fun x hx => h0 _ ?_ (k6 x hx), k7, k8⟩
  · obtain ⟨C, hC⟩ := k7 x hx
    exact heap_lt hC
  · obtain ⟨C, hC⟩ := k8 x hx
    exact heap_lt hC
/-- rows stay where their blocks stay -/
theorem DT.stay {pp : Nat → Nat → Prop} {w w' : World} {aH aQ : Option Addr} {cH cQ : Nat} {U : Tb} (h : DT pp w aH cH aQ cQ U) (h0 : ∀ (k : Nat) (C : Array Value) (e : TypeId), w.heap[k]? = some (.cells C e) → (e = 3 ∨ e = 71) → pp 0 k → w'.heap[k]? = w.heap[k]?) (h1 : ∀ k, k < w.heap.size → pp 1 k → w'.heap[k]? = w.heap[k]?) : DT pp w' aH cH aQ cQ U := by
  obtain ⟨k1, ⟨cs, k2, k3, k4⟩, k5, k6, k7, k8⟩ := h
  have sH : ∀ x, aH = some x → w'.heap[x.block]? = w.heap[x.block]? := fun x hx => by
    obtain ⟨C, hC⟩ := k7 x hx
    exact h0 _ C 3 hC (.inl rfl) (k5 x hx)
  have sQ : ∀ x, aQ = some x → w'.heap[x.block]? = w.heap[x.block]? := fun x hx => by
    obtain ⟨C, hC⟩ := k8 x hx
    exact h0 _ C 71 hC (.inr rfl) (k6 x hx)
  refine ⟨rd_blk k1 (fun x hx _ => sH x hx), ⟨cs, rd_blk k2 (fun x hx _ => sQ x hx), k3, fun i x p hx hp => ?_⟩, k5, k6, fun x hx => ?_, fun x hx => ?_⟩
  · obtain ⟨e1, e2, e3⟩ := k4 i x p hx hp
    exact ⟨e1, rd_blk e2 (fun y hy hlt => h1 _ hlt (e3 y hy)), e3⟩
  · obtain ⟨C, hC⟩ := k7 x hx
    exact ⟨C, by rw [sH x hx]; exact hC⟩
  · obtain ⟨C, hC⟩ := k8 x hx
    exact ⟨C, by rw [sQ x hx]; exact hC⟩

/-- the law's world: the program's table T, the document's U in the box hm; v: the copy of the nodes -/
structure CW (w0 : World) (B g gh hm N : Nat) (v : Value) (T U : Tb) (aH : Option Addr) (cH : Nat) (aQ : Option Addr) (cQ M : Nat) (w : World) : Prop where
  tbl : Tbl w B g gh (bV hm v) T
  box : w.heap[hm]? = some (.cells #[.slice aH N cH, .slice aQ M cQ] 31)
  dt : DT (ppV B gh v) w aH cH aQ cQ U
  wf : Wf U
  hn : U.hold.length = N
  hM : U.q.length = M
  cap : M ≤ cQ
  bel : Below w0.heap.size w0 w
/-- what is always so of the places -/
structure CP (w0 : World) (B g gh hm N : Nat) : Prop where
  pB : w0.heap.size ≤ B
  pg : B ≤ g
  pgh : B ≤ gh
  phm : w0.heap.size ≤ hm
  n1 : 1 ≤ N
  n40 : N ≤ 40

variable {w0 w w' : World} {B g gh hm N : Nat} {v : Value} {T T' U U' : Tb} {aH aQ : Option Addr} {cH cQ M : Nat}

theorem Tbl.places {b : Nat → Prop} (h : Tbl w B g gh b T) : (∃ C, w.heap[g]? = some (.cells C 63)) ∧ ∃ C, w.heap[gh]? = some (.cells C 3) := by
  obtain ⟨vw, cs, h⟩ := h
  obtain ⟨C, hC⟩ := own_type h.hold gh rfl
  exact ⟨⟨_, h.box⟩, C, hC⟩
theorem ne_of_type {k j : Nat} {C D : Array Value} {e f : TypeId} (hk : w.heap[k]? = some (.cells C e)) (hj : w.heap[j]? = some (.cells D f)) (hne : e ≠ f) : k ≠ j := fun e' => by
  rw [e', hj] at hk
  simp only [Option.some.injEq, Obj.cells.injEq] at hk
  exact hne hk.2.1.symm
theorem CW.keep (x : CW w0 B g gh hm N v T U aH cH aQ cQ M w) (hb : Below w.heap.size w w') : CW w0 B g gh hm N v T U aH cH aQ cQ M w' :=
  ⟨x.tbl.keep hb, (hb.block _ (heap_lt x.box)).trans x.box, x.dt.keep hb, x.wf, x.hn, x.hM, x.cap, x.bel.trans (hb.mono x.bel.size)⟩
/-- a box that isn't the table's stays -/
theorem CW.boxFr (x : CW w0 B g gh hm N v T U aH cH aQ cQ M w) (hF : Fr B g gh w w') {k : Nat} {C : Array Value} {e : TypeId} (hk : w.heap[k]? = some (.cells C e)) (h1 : e ≠ 63) (h2 : e ≠ 3) (h3 : e ≠ 67) : w'.heap[k]? = some (.cells C e) := by
  obtain ⟨⟨C1, hg⟩, C2, hgh⟩ := x.tbl.places
  rw [hF.block k (heap_lt hk) (ne_of_type hk hg h1) (ne_of_type hk hgh h2) (.inr fun cur hc => by
    rw [hk] at hc
    simp only [Option.some.injEq, Obj.cells.injEq] at hc
    exact h3 hc.2.1)]
  exact hk
/-- a call of the program -/
theorem CW.fr (p : CP w0 B g gh hm N) (x : CW w0 B g gh hm N v T U aH cH aQ cQ M w) (hT : Tbl w' B g gh (bV hm v) T') (hF : Fr B g gh w w') : CW w0 B g gh hm N v T' U aH cH aQ cQ M w' := by
  obtain ⟨⟨C1, hg⟩, C2, hgh⟩ := x.tbl.places
  have p1 := p.pB
  have p2 := p.pg
  have p3 := p.pgh
  refine ⟨hT, x.boxFr hF x.box (by decide) (by decide) (by decide), x.dt.stay (fun k C e hk he hp => ?_) (fun k hk hp => ?_), x.wf, x.hn, x.hM, x.cap, hF.below x.bel x.bel.size (by omega) (by omega) (by omega)⟩
  · have hp' : k ≠ gh ∧ v.ownBlock ≠ some k := hp
    refine hF.block k (heap_lt hk) (ne_of_type hk hg (by rcases he with rfl | rfl <;> decide)) hp'.1 (.inr fun cur hc => ?_)
    rw [hk] at hc
    simp only [Option.some.injEq, Obj.cells.injEq] at hc
    rcases he with rfl | rfl
    · exact absurd hc.2.1 (by decide)
    · exact absurd hc.2.1 (by decide)
  · have hp' : k < B := hp
    exact hF.block k hk (by omega) (by omega) (.inl hp')
/-- a new block of the document's is none of those -/
theorem CW.hp (x : CW w0 B g gh hm N v T U aH cH aQ cQ M w) (hv : ∀ k, v.ownBlock = some k → k < w.heap.size) : ∀ k, w.heap.size ≤ k → ppV B gh v 0 k := fun k hk => by
  obtain ⟨_, C2, hgh⟩ := x.tbl.places
  have := heap_lt hgh
  exact ⟨by omega, fun e => by have := hv k e; omega⟩
/-- the document's answer is laid into the box -/
theorem CW.put (p : CP w0 B g gh hm N) (x : CW w0 B g gh hm N v T U aH cH aQ cQ M w) (hb : Below w.heap.size w w') {aH' aQ' : Option Addr} {cH' cQ' M' : Nat} (hd : DR (ppV B gh v) w w' aH' cH' aQ' cQ' N M' U') (hw : Wf U') :
    CW w0 B g gh hm N v T U' aH' cH' aQ' cQ' M' ((w'.setCell ⟨hm, 0, none⟩ (.slice aH' N cH')).setCell ⟨hm, 1, none⟩ (.slice aQ' M' cQ')) := by
  have y := x.keep hb
  obtain ⟨⟨C1, hg⟩, C2, hgh⟩ := y.tbl.places
  have hs : ∀ k, k ≠ hm → ((w'.setCell ⟨hm, 0, none⟩ (.slice aH' N cH')).setCell ⟨hm, 1, none⟩ (.slice aQ' M' cQ')).heap[k]? = w'.heap[k]? := fun k hk => by rw [Below.heap_setCell _ _ _ _ hk, Below.heap_setCell _ _ _ _ hk]
  have hgr : w'.grownBy ((w'.setCell ⟨hm, 0, none⟩ (.slice aH' N cH')).setCell ⟨hm, 1, none⟩ (.slice aQ' M' cQ')) (some hm) := ⟨rfl, rfl, rfl, by simp [World.setCell], fun k _ hk => hs k (fun e => hk (by rw [e]))⟩
  refine ⟨y.tbl.grown hgr (fun k hk => ?_), by rw [heap_put (heap_put y.box _)]; rfl, DT.box y.box (fun k _ hk => hs k hk) hd.dt, hw, hd.hn, hd.hm, hd.cap, (y.bel.setCell (p := ⟨hm, 0, none⟩) p.phm _).setCell (p := ⟨hm, 1, none⟩) p.phm _⟩
  cases hk
  refine ⟨ne_of_type y.box hg (by decide), ne_of_type y.box hgh (by decide), .inl rfl, fun cur hc => ?_⟩
  rw [y.box] at hc
  simp only [Option.some.injEq, Obj.cells.injEq] at hc
  exact absurd hc.2.1 (by decide)
/-- a row of numbers outlives that -/
theorem CW.ownPut (x : CW w0 B g gh hm N v T U aH cH aQ cQ M w) {C : Nat} {u z1 z2 : Value} {l : List Int} (ho : intE.Own w C u l) : intE.Own ((w.setCell ⟨hm, 0, none⟩ z1).setCell ⟨hm, 1, none⟩ z2) C u l :=
  own_set_other (own_set_other ho (zown_ne ho x.box (by decide))) (zown_ne ho x.box (by decide))
/-- a copy is made -/
theorem CW.arm (x : CW w0 B g gh hm N (.slice none 0 0) T U aH cH aQ cQ M w) (hb : Below w.heap.size w w') {l : List Int} (ho : intE.Own w' w.heap.size v l) : CW w0 B g gh hm N v T U aH cH aQ cQ M w' := by
  have y : CW w0 B g gh hm N v T U aH cH aQ cQ M w := ⟨x.tbl.apart (fun k hk => by
      rcases hk with hk | hk
      · exact .inl (.inl hk)
      · exact .inr (.inr (ho.ge k hk))), x.box, x.dt.mono (fun k hk hp => ⟨hp.1, fun e => by have := ho.ge k e; omega⟩) (fun k hk => hk), x.wf, x.hn, x.hM, x.cap, x.bel⟩
  exact y.keep hb
/-- the copy is no longer looked at -/
theorem CW.rest (x : CW w0 B g gh hm N v T U aH cH aQ cQ M w) : CW w0 B g gh hm N (.slice none 0 0) T U aH cH aQ cQ M w :=
  ⟨x.tbl.apart (fun k hk => by
    rcases hk with hk | hk
    · exact .inl (.inl hk)
    · cases hk), x.box, x.dt.mono (fun k hk hp => ⟨hp.1, fun e => by cases e⟩) (fun k hk => hk), x.wf, x.hn, x.hM, x.cap, x.bel⟩
/-- a cell of the copy is written -/
theorem CW.cell (p : CP w0 B g gh hm N) {bi n c : Nat} (x : CW w0 B g gh hm N (.slice (some ⟨bi, 0, none⟩) n c) T U aH cH aQ cQ M w) {C : Nat} {l : List Int} (ho : intE.Own w C (.slice (some ⟨bi, 0, none⟩) n c) l) (hC : gh < C) (hB : B ≤ C) (i : Nat) (z : Value) : CW w0 B g gh hm N (.slice (some ⟨bi, 0, none⟩) n c) T U aH cH aQ cQ M (w.setCell ⟨bi, i, none⟩ z) := by
  obtain ⟨⟨C1, hg⟩, C2, hgh⟩ := x.tbl.places
  obtain ⟨cur, hbi⟩ := own_type ho bi rfl
  have hge : C ≤ bi := ho.ge bi rfl
  have hs : ∀ k, k ≠ bi → (w.setCell ⟨bi, i, none⟩ z).heap[k]? = w.heap[k]? := fun k hk => Below.heap_setCell _ _ _ _ hk
  have hgr : w.grownBy (w.setCell ⟨bi, i, none⟩ z) (some bi) := ⟨rfl, rfl, rfl, by simp [World.setCell], fun k _ hk => hs k (fun e => hk (by rw [e]))⟩
  have p1 := p.pB
  have p2 := p.pgh
  refine ⟨x.tbl.grown hgr (fun k hk => ?_), by rw [hs hm (ne_of_type x.box hbi (show (31 : TypeId) ≠ 3 by decide))]; exact x.box, x.dt.stay (fun k C e hk he hp => hs k (fun e' => hp.2 (by rw [e']; rfl))) (fun k hk hp => ?_), x.wf, x.hn, x.hM, x.cap, x.bel.setCell (p := ⟨bi, i, none⟩) (by show w0.heap.size ≤ bi; omega) _⟩
  · cases hk
    refine ⟨ne_of_type hbi hg (show (3 : TypeId) ≠ 63 by decide), by omega, .inr rfl, fun cur' hc => ?_⟩
    rw [hbi] at hc
    simp only [Option.some.injEq, Obj.cells.injEq] at hc
    exact absurd hc.2.1 (show ¬ (3 : TypeId) = 67 by decide)
  · have hp' : k < B := hp
    exact hs k (by omega)
theorem CW.cells (x : CW w0 B g gh hm N v T U aH cH aQ cQ M w) : w.cell? ⟨hm, 0, none⟩ = some (.slice aH N cH) ∧ w.cell? ⟨hm, 1, none⟩ = some (.slice aQ M cQ) ∧ ∀ i, w.frozen? ⟨hm, i, none⟩ = false := ⟨(cells_at x.box 0).1, (cells_at x.box 1).1, fun i => (cells_at x.box i).2⟩
end Go.Proofs.Ytbibegendejnlaa
