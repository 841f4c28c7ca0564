/- The document's table in a box: how its boxes are written. -/
import Derived.Test.YtbibegendejnlaaCgd
namespace Go.Proofs.Ytbibegendejnlaa
open Go.RowKit
set_option linter.unusedVariables false
variable {pp : Nat → Nat → Prop}

/-- a row whose elements begin with a number lies in no box of two slices -/
theorem rd_box {α : Type} {E : El Try.prog α} (hE : ∀ x, ∃ z, (E.enc x)[0]? = some (.int .i64 z)) {w w' : World} {h : Nat} {a1 a2 : Option Addr} {n1 n2 c1 c2 : Nat} (hb : w.heap[h]? = some (.cells #[.slice a1 n1 c1, .slice a2 n2 c2] 31)) (hs : ∀ k, k < w.heap.size → k ≠ h → w'.heap[k]? = w.heap[k]?) {v : Value} {xs : List α} (hr : E.Rd w v xs) : E.Rd w' v xs := by
  obtain ⟨a, cap, rfl⟩ := hr.form
  cases xs with
  | nil =>
    rcases hr with ⟨h1, _⟩ | ⟨x, c, h1, _⟩
    · exact .inl ⟨h1, rfl⟩
    · exact .inr ⟨x, c, h1, fun n hn => by simp at hn⟩
  | cons y ys =>
    obtain ⟨b, off, rfl, hc⟩ := hr.at 0 y rfl
    have h0 := hc 0 E.kpos
    obtain ⟨z, hz⟩ := hE y
    rw [hz, Nat.zero_mul, Nat.add_zero] at h0
    have hne : b ≠ h := fun e => by
      subst e
      rw [(cells_at hb off).1] at h0
      rcases off with _ | _ | off
      · simp at h0
      · simp at h0
      · simp at h0
    have hlt : b < w.heap.size := cell_lt h0
    rcases hr with ⟨h1, _⟩ | ⟨x, c, h1, h2⟩
    · cases h1
    · refine .inr ⟨x, c, h1, fun n hn => ?_⟩
      simp only [Value.slice.injEq, Option.some.injEq] at h1
      obtain ⟨rfl, _, _⟩ := h1
      rw [← h2 n hn, addr_plain]
      exact World.cell?_of_block (w := w) (hs b hlt hne)
theorem int_first : ∀ x : Int, ∃ z, (intE.enc x)[0]? = some (.int .i64 z) := fun x => ⟨x, rfl⟩
theorem rc_first : ∀ x : Cv, ∃ z, (rcE.enc x)[0]? = some (.int .i64 z) := fun x => ⟨x.tote, rfl⟩
theorem typ_box {w w' : World} {h : Nat} {C0 : Array Value} {e : TypeId} (he : e ≠ 31) (hb : w.heap[h]? = some (.cells C0 31)) (hs : ∀ k, k < w.heap.size → k ≠ h → w'.heap[k]? = w.heap[k]?) {a : Option Addr} (ht : typ w a e) : typ w' a e := fun x hx => by
  obtain ⟨C, hC⟩ := ht x hx
  refine ⟨C, ?_⟩
  rw [hs _ (heap_lt hC) (fun e' => ?_)]
  · exact hC
  · rw [e', hb] at hC
    simp only [Option.some.injEq, Obj.cells.injEq] at hC
    exact he hC.2.1.symm
theorem DT.box {w w' : World} {h : Nat} {a1 a2 : Option Addr} {n1 n2 c1 c2 : Nat} (hb : w.heap[h]? = some (.cells #[.slice a1 n1 c1, .slice a2 n2 c2] 31)) (hs : ∀ k, k < w.heap.size → k ≠ h → w'.heap[k]? = w.heap[k]?) {aH aQ : Option Addr} {cH cQ : Nat} {U : Tb} (hd : DT pp w aH cH aQ cQ U) : DT pp w' aH cH aQ cQ U := by
  obtain ⟨h1, ⟨cs, h2, h3, h4⟩, h5, h6, h7, h8⟩ := hd
  exact ⟨rd_box int_first hb hs h1, ⟨cs, rd_box rc_first hb hs h2, h3, fun i x p hx hp => ⟨(h4 i x p hx hp).1, rd_box int_first hb hs (h4 i x p hx hp).2.1, (h4 i x p hx hp).2.2⟩⟩, h5, h6, typ_box (by decide) hb hs h7, typ_box (by decide) hb hs h8⟩

/-- the box of the table, the box of the answer -/
structure DB (pp : Nat → Nat → Prop) (w0 w : World) (h0 : Nat) (aH : Option Addr) (cH : Nat) (aQ : Option Addr) (cQ N M : Nat) (U : Tb) : Prop where
  box : w.heap[h0]? = some (.cells #[.slice aH N cH, .slice aQ M cQ] 31)
  ans : w.heap[h0 + 1]? = some (.cells #[.slice none 0 0, .slice none 0 0] 31)
  dt : DT pp w aH cH aQ cQ U
  bel : Below w0.heap.size w0 w
  hn : U.hold.length = N
  hm : U.q.length = M
  cap : M ≤ cQ
  hh : w0.heap.size = h0
  hp : ∀ k, h0 ≤ k → pp 0 k
theorem DB.hpw {w0 w : World} {h0 : Nat} {aH aQ : Option Addr} {cH cQ N M : Nat} {U : Tb} (h : DB pp w0 w h0 aH cH aQ cQ N M U) : ∀ k, w.heap.size ≤ k → pp 0 k := fun k hk => h.hp k (by have := heap_lt h.box; omega)
theorem DB.cells {w0 w : World} {h0 : Nat} {aH aQ : Option Addr} {cH cQ N M : Nat} {U : Tb} (h : DB pp w0 w h0 aH cH aQ cQ N M U) : (w.cell? ⟨h0, 0, none⟩ = some (.slice aH N cH) ∧ w.frozen? ⟨h0, 0, none⟩ = false) ∧ (w.cell? ⟨h0, 1, none⟩ = some (.slice aQ M cQ) ∧ w.frozen? ⟨h0, 1, none⟩ = false) ∧ (w.cell? ⟨h0 + 1, 0, none⟩ = some (.slice none 0 0) ∧ w.frozen? ⟨h0 + 1, 0, none⟩ = false) ∧ (w.cell? ⟨h0 + 1, 1, none⟩ = some (.slice none 0 0) ∧ w.frozen? ⟨h0 + 1, 1, none⟩ = false) :=
  ⟨cells_at h.box 0, cells_at h.box 1, cells_at h.ans 0, cells_at h.ans 1⟩
theorem DB.start {w0 W1 : World} {aH aQ : Option Addr} {cH cQ N M : Nat} {U : Tb} (hT : DT pp w0 aH cH aQ cQ U) (hn : U.hold.length = N) (hm : U.q.length = M) (hc : M ≤ cQ) (hp : ∀ k, w0.heap.size ≤ k → pp 0 k) (hW1 : W1 = (w0.alloc (.cells #[.slice aH N cH, .slice aQ M cQ] 31)).alloc (.cells #[.slice none 0 0, .slice none 0 0] 31)) : DB pp w0 W1 w0.heap.size aH cH aQ cQ N M U := by
  have hz : (w0.alloc (.cells #[.slice aH N cH, .slice aQ M cQ] 31)).heap.size = w0.heap.size + 1 := Array.size_push _
  have hB1 : Below w0.heap.size w0 W1 := by rw [hW1]; exact ((Below.refl _ _).alloc (Nat.le_refl _) _).alloc (by rw [hz]; omega) _
  refine ⟨?_, ?_, hT.keep hB1, hB1, hn, hm, hc, rfl, hp⟩
  · rw [hW1, Below.heap_alloc _ _ _ (by rw [hz]; omega)]; exact heap_new _ _
  · rw [hW1]
    have := heap_new (w0.alloc (.cells #[.slice aH N cH, .slice aQ M cQ] 31)) (.cells #[.slice none 0 0, .slice none 0 0] 31)
    rw [hz] at this
    exact this
theorem DB.keep {w0 w w' : World} {h0 : Nat} {aH aQ : Option Addr} {cH cQ N M : Nat} {U : Tb} (h : DB pp w0 w h0 aH cH aQ cQ N M U) (hb : Below w.heap.size w w') : DB pp w0 w' h0 aH cH aQ cQ N M U :=
  ⟨by rw [hb.block _ (heap_lt h.box)]; exact h.box, by rw [hb.block _ (heap_lt h.ans)]; exact h.ans, h.dt.keep hb, h.bel.trans (hb.mono h.bel.size), h.hn, h.hm, h.cap, h.hh, h.hp⟩
/-- what a call of the document answers -/
structure DR (pp : Nat → Nat → Prop) (w0 w : World) (aH : Option Addr) (cH : Nat) (aQ : Option Addr) (cQ N M : Nat) (U : Tb) : Prop where
  dt : DT pp w aH cH aQ cQ U
  hn : U.hold.length = N
  hm : U.q.length = M
  cap : M ≤ cQ
theorem DB.done {w0 w : World} {h0 : Nat} {aH aQ : Option Addr} {cH cQ N M : Nat} {U : Tb} (h : DB pp w0 w h0 aH cH aQ cQ N M U) : DR pp w0 ((w.setCell ⟨h0 + 1, 0, none⟩ (.slice aH N cH)).setCell ⟨h0 + 1, 1, none⟩ (.slice aQ M cQ)) aH cH aQ cQ N M U ∧ Below w0.heap.size w0 ((w.setCell ⟨h0 + 1, 0, none⟩ (.slice aH N cH)).setCell ⟨h0 + 1, 1, none⟩ (.slice aQ M cQ)) := by
  have hh := h.hh
  refine ⟨⟨DT.box h.ans (fun k hk hne => ?_) h.dt, h.hn, h.hm, h.cap⟩, (h.bel.setCell (p := ⟨h0 + 1, 0, none⟩) (by show _ ≤ h0 + 1; omega) _).setCell (p := ⟨h0 + 1, 1, none⟩) (by show _ ≤ h0 + 1; omega) _⟩
  rw [Below.heap_setCell _ _ _ _ hne, Below.heap_setCell _ _ _ _ hne]
/-- the holders are copied, one is written -/
theorem DB.put {w0 w w7 : World} {h0 : Nat} {aH aQ : Option Addr} {cH cQ N M : Nat} {U : Tb} (h : DB pp w0 w h0 aH cH aQ cQ N M U) (hb : Below w.heap.size w w7) {bh c7 : Nat} (ho : intE.Own w7 w.heap.size (.slice (some ⟨bh, 0, none⟩) N c7) U.hold) (x : Nat) (z : Int) :
    DB pp w0 ((w7.setCell ⟨h0, 0, none⟩ (.slice (some ⟨bh, 0, none⟩) N c7)).setCell ⟨bh, x, none⟩ (.int .i64 z)) h0 (some ⟨bh, 0, none⟩) c7 aQ cQ N M ⟨U.hold.set x z, U.q⟩ := by
  have h7 := h.keep hb
  have hbh : w.heap.size ≤ bh := ho.ge bh rfl
  have l0 := heap_lt h.box
  have l1 := heap_lt h.ans
  have hh := h.hh
  have n0 : h0 ≠ bh := by omega
  refine ⟨by rw [Below.heap_setCell _ _ _ _ n0]; exact heap_put h7.box _, by rw [Below.heap_setCell _ _ _ _ (by show h0 + 1 ≠ bh; omega), Below.heap_setCell _ _ _ _ (by show h0 + 1 ≠ h0; omega)]; exact h7.ans, ?_, ?_, by simp only [List.length_set]; exact h.hn, h.hm, h.cap, h.hh, h.hp⟩
  · have hx := (own_set_other (i := 0) (u := .slice (some ⟨bh, 0, none⟩) N c7) ho (g := h0) (fun e => by simp [Value.ownBlock] at e; omega)).set (Value.int .i64) (fun _ => rfl) rfl x z
    have hd : DT pp ((w7.setCell ⟨h0, 0, none⟩ (.slice (some ⟨bh, 0, none⟩) N c7)).setCell ⟨bh, x, none⟩ (.int .i64 z)) aH cH aQ cQ U := DT.box h.box (fun k hk hne => by
      rw [Below.heap_setCell _ _ _ _ (by show k ≠ bh; omega), Below.heap_setCell _ _ _ _ hne]
      exact hb.block k hk) h.dt
    refine ⟨?_, hd.q, own_blk ho h.hpw, hd.pQ, own_typ hx, hd.tQ⟩
    simp only [List.length_set, h.hn]
    exact hx.rd
  · exact (h7.bel.setCell (p := ⟨h0, 0, none⟩) (by show _ ≤ h0; omega) _).setCell (p := ⟨bh, x, none⟩) (by show _ ≤ bh; have := h.bel.size; omega) _
theorem DB.copy {w0 w w7 : World} {h0 : Nat} {aH aQ : Option Addr} {cH cQ N M : Nat} {U : Tb} (h : DB pp w0 w h0 aH cH aQ cQ N M U) {v7 : Value} {r : Option Nat} (ho : intE.Own w7 w.heap.size v7 U.hold) (hg : (w.alloc (.cells #[] 3)).grownBy w7 r) (hr : ∀ k, r = some k → w.heap.size ≤ k) (k : Nat) (hk : k < N) (z : Int) :
    ∃ bh c7, v7 = .slice (some ⟨bh, 0, none⟩) N c7 ∧ DB pp w0 ((w7.setCell ⟨h0, 0, none⟩ (.slice (some ⟨bh, 0, none⟩) N c7)).setCell ⟨bh, k, none⟩ (.int .i64 z)) h0 (some ⟨bh, 0, none⟩) c7 aQ cQ N M ⟨U.hold.set k z, U.q⟩ ∧ w7.cell? ⟨h0, 0, none⟩ = some (.slice aH N cH) ∧ w7.frozen? ⟨h0, 0, none⟩ = false ∧ (∃ u, (w7.setCell ⟨h0, 0, none⟩ (.slice (some ⟨bh, 0, none⟩) N c7)).cell? ⟨bh, k, none⟩ = some (.int .i64 u)) ∧ (w7.setCell ⟨h0, 0, none⟩ (.slice (some ⟨bh, 0, none⟩) N c7)).frozen? ⟨bh, k, none⟩ = false ∧ (w7.setCell ⟨h0, 0, none⟩ (.slice (some ⟨bh, 0, none⟩) N c7)).cell? ⟨h0, 0, none⟩ = some (.slice (some ⟨bh, 0, none⟩) N c7) := by
  have b6 : Below w.heap.size w (w.alloc (.cells #[] 3)) := (Below.refl _ _).alloc (Nat.le_refl _) _
  have b7 : Below w.heap.size w w7 := b6.grown hg b6.size hr
  obtain ⟨bh, c7, hv, _⟩ := ho.some (fun e => by have := h.hn; rw [e] at this; simp at this; omega)
  rw [h.hn] at hv
  subst hv
  have l0 := heap_lt h.box
  have hbh : w.heap.size ≤ bh := ho.ge bh rfl
  have h7 := h.keep b7
  have ho' := own_set_other (i := 0) (u := .slice (some ⟨bh, 0, none⟩) N c7) ho (g := h0) (fun e => by simp [Value.ownBlock] at e; omega)
  have h1 := ho'.at1 (Value.int .i64) (fun _ => rfl) rfl k _ (List.getElem?_eq_getElem (by rw [h.hn]; exact hk))
  exact ⟨bh, c7, rfl, h.put b7 ho k z, h7.cells.1.1, h7.cells.1.2, ⟨_, h1.1⟩, h1.2, (cells_at (heap_put h7.box _) 0).1⟩
/-- other claims -/
theorem DB.putQ {w0 w w7 : World} {h0 : Nat} {aH aQ : Option Addr} {cH cQ N M : Nat} {U : Tb} (h : DB pp w0 w h0 aH cH aQ cQ N M U) (hb : Below w.heap.size w w7) {a8 : Option Addr} {c8 M' : Nat} {cs : List Cv} {q' : List Cl} (ho : rcE.Own w7 w.heap.size (.slice a8 M' c8) cs) (hq : Crd pp w7 cs q') (hM : q'.length = M') :
    DB pp w0 (w7.setCell ⟨h0, 1, none⟩ (.slice a8 M' c8)) h0 aH cH a8 c8 N M' ⟨U.hold, q'⟩ := by
  have h7 := h.keep hb
  have l0 := heap_lt h.box
  have hh := h.hh
  refine ⟨heap_put h7.box _, by rw [Below.heap_setCell _ _ _ _ (by show h0 + 1 ≠ h0; omega)]; exact h7.ans, ?_, h7.bel.setCell (p := ⟨h0, 1, none⟩) (by show _ ≤ h0; omega) _, h.hn, hM, own_cap ho, h.hh, h.hp⟩
  have hs : ∀ k, k < w7.heap.size → k ≠ h0 → (w7.setCell ⟨h0, 1, none⟩ (.slice a8 M' c8)).heap[k]? = w7.heap[k]? := fun k _ hne => Below.heap_setCell _ _ _ _ hne
  subst hM
  exact ⟨rd_box int_first h7.box hs h7.dt.hold, ⟨cs, rd_box rc_first h7.box hs ho.rd, hq.1, fun i x p hx hp => ⟨(hq.2 i x p hx hp).1, rd_box int_first h7.box hs (hq.2 i x p hx hp).2.1, (hq.2 i x p hx hp).2.2⟩⟩, h7.dt.pH, own_blk ho h.hpw, typ_box (by decide) h7.box hs h7.dt.tH, typ_box (by decide) h7.box hs (own_typ ho)⟩
/-- behind Grants -/
theorem DB.grants {w0 w w' : World} {h0 : Nat} {aH aQ aH' aQ' : Option Addr} {cH cQ cH' cQ' nQ' N M : Nat} {U : Tb} {v : Value} (h : DB pp w0 w h0 aH cH aQ cQ N M U) (hb : Below w.heap.size w w') (hg : GRet pp w w' aH' cH' aQ' nQ' cQ' v U) : ∃ U' l, Gr U U' l ∧ DB pp w0 ((w'.setCell ⟨h0, 0, none⟩ (.slice aH' N cH')).setCell ⟨h0, 1, none⟩ (.slice aQ' nQ' cQ')) h0 aH' cH' aQ' cQ' N nQ' U' ∧ intE.Own ((w'.setCell ⟨h0, 0, none⟩ (.slice aH' N cH')).setCell ⟨h0, 1, none⟩ (.slice aQ' nQ' cQ')) (h0 + 2) v l := by
  obtain ⟨U', l, e1, e2, e3, e4, e5, e6⟩ := hg
  have h7 := h.keep hb
  have l1 := heap_lt h.ans
  have hh := h.hh
  have hne : v.ownBlock ≠ some h0 := fun e => by have := e6.ge _ e; omega
  refine ⟨U', l, e4, ⟨heap_put (heap_put h7.box _) _, by rw [Below.heap_setCell _ _ _ _ (by show h0 + 1 ≠ h0; omega), Below.heap_setCell _ _ _ _ (by show h0 + 1 ≠ h0; omega)]; exact h7.ans, DT.box h7.box (fun k hk hne => ?_) e5, (h7.bel.setCell (p := ⟨h0, 0, none⟩) (by show _ ≤ h0; omega) _).setCell (p := ⟨h0, 1, none⟩) (by show _ ≤ h0; omega) _, e3.trans h.hn, e1.symm, e2, h.hh, h.hp⟩, (own_set_other (own_set_other e6 hne) hne).mono (by omega)⟩
  rw [Below.heap_setCell _ _ _ _ hne, Below.heap_setCell _ _ _ _ hne]
end Go.Proofs.Ytbibegendejnlaa
