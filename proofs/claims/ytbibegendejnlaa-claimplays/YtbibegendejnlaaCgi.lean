/- Grants of the document: while a claim is granted. -/
import Derived.Test.YtbibegendejnlaaCgs
namespace Go.Proofs.Ytbibegendejnlaa
open Go.RowKit
set_option linter.unusedVariables false
variable {pp : Nat → Nat → Prop}

theorem own_cap {α : Type} {E : El Try.prog α} {w : World} {B : Nat} {a : Option Addr} {n c : Nat} {xs : List α} (h : E.Own w B (.slice a n c) xs) : n ≤ c := by
  rcases h.2 with ⟨h1, _⟩ | ⟨g', c', cur, h1, hb, hg, hn, _⟩
  · cases h1; exact Nat.le_refl _
  · simp only [Value.slice.injEq] at h1
    obtain ⟨_, rfl, rfl⟩ := h1
    exact hn
theorem fl_cut {α : Type} (E : El Try.prog α) (xs : List α) (j : Nat) (hj : j ≤ xs.length) (n : Nat) : (E.fl (xs.drop j))[n]? = (E.fl xs)[j * E.k + n]? := by
  have e : E.fl xs = E.fl (xs.take j) ++ E.fl (xs.drop j) := by rw [← E.fl_app, List.take_append_drop]
  have hlen : (E.fl (xs.take j)).length = j * E.k := by rw [E.fl_len, List.length_take, Nat.min_eq_left hj]
  rw [e, List.getElem?_append_right (by omega), hlen, Nat.add_sub_cancel_left]
theorem fl_pre {α : Type} (E : El Try.prog α) (xs : List α) (j : Nat) (hj : j ≤ xs.length) (n : Nat) (hn : n < j * E.k) : (E.fl (xs.take j))[n]? = (E.fl xs)[n]? := by
  have e : E.fl xs = E.fl (xs.take j) ++ E.fl (xs.drop j) := by rw [← E.fl_app, List.take_append_drop]
  have hlen : (E.fl (xs.take j)).length = j * E.k := by rw [E.fl_len, List.length_take, Nat.min_eq_left hj]
  rw [e, List.getElem?_append_left (by omega)]
theorem rd_take {α : Type} {E : El Try.prog α} {w : World} {b o M c : Nat} {xs : List α} (h : E.Rd w (.slice (some ⟨b, o, none⟩) M c) xs) (i : Nat) (hi : i ≤ xs.length) : E.Rd w (.slice (some ⟨b, o, none⟩) i c) (xs.take i) := by
  rcases h with ⟨h1, _⟩ | ⟨x, cap, h1, h2⟩
  · cases h1
  · simp only [Value.slice.injEq, Option.some.injEq] at h1
    obtain ⟨rfl, rfl, rfl⟩ := h1
    refine .inr ⟨_, c, by rw [List.length_take, Nat.min_eq_left hi], fun n hn => ?_⟩
    rw [List.length_take, Nat.min_eq_left hi] at hn
    have hm : i * E.k ≤ xs.length * E.k := Nat.mul_le_mul_right _ hi
    rw [h2 n (by omega), fl_pre E xs i hi n hn]
theorem rd_drop {α : Type} {E : El Try.prog α} {w : World} {b o M c : Nat} {xs : List α} (h : E.Rd w (.slice (some ⟨b, o, none⟩) M c) xs) (hc : xs.length ≤ c) (j : Nat) (hj : j ≤ xs.length) : E.Rd w (.slice (if c = j then some ⟨b, o, none⟩ else some ⟨b, o + j * E.k, none⟩) (M - j) (c - j)) (xs.drop j) := by
  rcases h with ⟨h1, _⟩ | ⟨x, cap, h1, h2⟩
  · cases h1
  · simp only [Value.slice.injEq, Option.some.injEq] at h1
    obtain ⟨rfl, rfl, rfl⟩ := h1
    by_cases e : c = j
    · rw [if_pos e]
      refine .inr ⟨_, _, by rw [List.length_drop], fun n hn => ?_⟩
      rw [List.length_drop, show xs.length - j = 0 by omega] at hn
      omega
    · rw [if_neg e]
      refine .inr ⟨_, _, by rw [List.length_drop], fun n hn => ?_⟩
      rw [List.length_drop, Nat.sub_mul] at hn
      have := h2 (j * E.k + n) (by omega)
      rw [fl_cut E xs j hj n, ← this, addr_plain, addr_plain, Nat.add_assoc]
/-- a claim of the queue, whatever becomes of boxes and row -/
theorem DS.at {w : World} {h0 : Nat} {v : Value} {aH aQ : Option Addr} {cH cQ : Nat} {U : Tb} {cs : List Cv} (h : DS pp w h0 v aH cH aQ cQ U cs) (i : Nat) (p : Cl) (hp : U.q[i]? = some p) :
    ∃ b off a' c', aQ = some ⟨b, off, none⟩ ∧ ∀ w', Agr h0 v w w' → w'.cell? ⟨b, off + i * 2, none⟩ = some (.int .i64 p.tote) ∧ w'.cell? ⟨b, off + i * 2 + 1, none⟩ = some (.slice a' p.nodes.length c') ∧ intE.Rd w' (.slice a' p.nodes.length c') p.nodes := by
  obtain ⟨x, hx⟩ : ∃ x, cs[i]? = some x := ⟨_, List.getElem?_eq_getElem (by rw [(h.el w (Agr.refl _ _ _)).1]; exact idx_lt hp)⟩
  obtain ⟨b, off, e, _⟩ := (h.q w (Agr.refl _ _ _)).at i x hx
  refine ⟨b, off, x.a, x.c, e, fun w' ha => ?_⟩
  obtain ⟨b', off', e', hc⟩ := (h.q w' ha).at i x hx
  rw [e] at e'
  simp only [Option.some.injEq, Addr.mk.injEq] at e'
  obtain ⟨rfl, rfl, _⟩ := e'
  obtain ⟨e1, e2, _⟩ := (h.el w' ha).2 i x p hx hp
  obtain ⟨a', c', e3⟩ := e2.form
  simp only [Value.slice.injEq] at e3
  have e5 : x.l = p.nodes.length := e3.2.1
  refine ⟨?_, ?_, by rw [← e5]; exact e2⟩
  · rw [← e1]; exact hc 0 (by decide)
  · rw [← e5]; exact hc 1 (by decide)
/-- while the document grants a claim: Wb the world ahead of it -/
structure GI (w0 Wb w : World) (h0 : Nat) (v4 : Value) (bh cH : Nat) (aQ : Option Addr) (nq cQ : Nat) (t : Int) (vn : Value) (gs : List Int) (hold : List Int) : Prop where
  agr : Agr h0 v4 Wb w
  size : Wb.heap.size < w.heap.size
  box : w.heap[h0]? = some (.cells #[.slice (some ⟨bh, 0, none⟩) hold.length cH, .slice aQ nq cQ] 31)
  ans : w.heap[h0 + 1]? = some (.cells #[.slice none 0 0, .slice none 0 0] 31)
  cbox : w.heap[Wb.heap.size]? = some (.cells #[.int .i64 t, vn] 71)
  row : intE.Own w (Wb.heap.size + 1) (.slice (some ⟨bh, 0, none⟩) hold.length cH) hold
  own : intE.Own w (h0 + 2) v4 gs
  ne : v4.ownBlock ≠ some bh
  bel : Below w0.heap.size w0 w
theorem GI.start {w0 Wb w7 : World} {h0 : Nat} {v4 : Value} {aH aQ : Option Addr} {cH cQ : Nat} {U U1 : Tb} {cs : List Cv} {gs : List Int} {i : Nat} (h : GL pp w0 Wb h0 v4 aH cH aQ cQ U U1 cs gs i) (hh : w0.heap.size = h0) {t : Int} {vn : Value} {bh c7 : Nat}
    (ho : intE.Own w7 (Wb.heap.size + 1) (.slice (some ⟨bh, 0, none⟩) U1.hold.length c7) U1.hold) (hb : Below (Wb.alloc (.cells #[.int .i64 t, vn] 71)).heap.size (Wb.alloc (.cells #[.int .i64 t, vn] 71)) w7) :
    GI w0 Wb (w7.setCell ⟨h0, 0, none⟩ (.slice (some ⟨bh, 0, none⟩) U1.hold.length c7)) h0 v4 bh c7 aQ U1.q.length cQ t vn gs U1.hold := by
  have b5 : Below Wb.heap.size Wb (Wb.alloc (.cells #[.int .i64 t, vn] 71)) := (Below.refl _ _).alloc (Nat.le_refl _) _
  have b7 : Below Wb.heap.size Wb w7 := b5.trans (hb.mono b5.size)
  have hs5 : (Wb.alloc (.cells #[.int .i64 t, vn] 71)).heap.size = Wb.heap.size + 1 := Array.size_push _
  have hbh : Wb.heap.size + 1 ≤ bh := ho.ge bh rfl
  have hz := h.size
  have hlt : Wb.heap.size < w7.heap.size := by have := hb.size; omega
  have hbox : w7.heap[h0]? = some (.cells #[.slice aH U1.hold.length cH, .slice aQ U1.q.length cQ] 31) := by rw [b7.block _ (heap_lt h.box)]; exact h.box
  refine ⟨(Agr.of_below b7).trans agr_box b7.size (fun k hk => .inl hk), by rw [set_size]; exact hlt, heap_put hbox _, ?_, ?_, own_set_other ho (fun e => ?_), own_set_other (h.own.keep b7) (fun e => by have := (h.own).ge _ e; omega), fun e => ?_, (h.bel.trans (b7.mono h.bel.size)).setCell (p := ⟨h0, 0, none⟩) (by show _ ≤ h0; omega) _⟩
  · rw [Below.heap_setCell _ _ _ _ (by show h0 + 1 ≠ h0; omega), b7.block _ (heap_lt h.ans)]; exact h.ans
  · rw [Below.heap_setCell _ _ _ _ (by show Wb.heap.size ≠ h0; omega), hb.block _ (by omega)]; exact heap_new _ _
  · simp [Value.ownBlock] at e; omega
  · have := h.own.lt _ e; omega
theorem GI.cells {w0 Wb w : World} {h0 : Nat} {v4 : Value} {bh cH : Nat} {aQ : Option Addr} {nq cQ : Nat} {t : Int} {vn : Value} {gs hold : List Int} (h : GI w0 Wb w h0 v4 bh cH aQ nq cQ t vn gs hold) {N : Nat} (hN : hold.length = N) :
    w.cell? ⟨h0, 0, none⟩ = some (.slice (some ⟨bh, 0, none⟩) N cH) ∧ w.cell? ⟨h0, 1, none⟩ = some (.slice aQ nq cQ) ∧ w.frozen? ⟨h0, 1, none⟩ = false ∧ w.cell? ⟨Wb.heap.size, 0, none⟩ = some (.int .i64 t) ∧ w.cell? ⟨Wb.heap.size, 1, none⟩ = some vn ∧ ∀ x : Nat, x < N → (∃ u, w.cell? ⟨bh, x, none⟩ = some (.int .i64 u)) ∧ w.frozen? ⟨bh, x, none⟩ = false := by
  subst hN
  refine ⟨(cells_at h.box 0).1, (cells_at h.box 1).1, (cells_at h.box 1).2, (cells_at h.cbox 0).1, (cells_at h.cbox 1).1, fun x hx => ?_⟩
  have h1 := h.row.at1 (Value.int .i64) (fun _ => rfl) rfl x _ (List.getElem?_eq_getElem hx)
  exact ⟨⟨_, h1.1⟩, h1.2⟩
theorem GI.keep {w0 Wb w w' : World} {h0 : Nat} {v4 : Value} {bh cH : Nat} {aQ : Option Addr} {nq cQ : Nat} {t : Int} {vn : Value} {gs hold : List Int} (h : GI w0 Wb w h0 v4 bh cH aQ nq cQ t vn gs hold) (hb : Below w.heap.size w w') : GI w0 Wb w' h0 v4 bh cH aQ nq cQ t vn gs hold :=
  ⟨h.agr.trans (Agr.of_below hb) (Nat.le_of_lt h.size) (fun k hk => .inl hk), Nat.lt_of_lt_of_le h.size hb.size, by rw [hb.block _ (heap_lt h.box)]; exact h.box, by rw [hb.block _ (heap_lt h.ans)]; exact h.ans, by rw [hb.block _ (heap_lt h.cbox)]; exact h.cbox, h.row.keep hb, h.own.keep hb, h.ne, h.bel.trans (hb.mono h.bel.size)⟩
theorem GI.put {w0 Wb w : World} {h0 : Nat} {v4 : Value} {bh cH : Nat} {aQ : Option Addr} {nq cQ : Nat} {t : Int} {vn : Value} {gs hold : List Int} (h : GI w0 Wb w h0 v4 bh cH aQ nq cQ t vn gs hold) (hz : h0 + 2 ≤ Wb.heap.size) (hh : w0.heap.size = h0) (x : Nat) : GI w0 Wb (w.setCell ⟨bh, x, none⟩ (.int .i64 t)) h0 v4 bh cH aQ nq cQ t vn gs (hold.set x t) := by
  have hbh : Wb.heap.size + 1 ≤ bh := h.row.ge bh rfl
  refine ⟨fun k hk h1 h2 => by rw [Below.heap_setCell _ _ _ _ (by show k ≠ bh; omega)]; exact h.agr k hk h1 h2, by rw [set_size]; exact h.size, ?_, ?_, ?_, ?_, own_set_other h.own h.ne, h.ne, h.bel.setCell (p := ⟨bh, x, none⟩) (by show _ ≤ bh; omega) _⟩
  · rw [Below.heap_setCell _ _ _ _ (by show h0 ≠ bh; omega), List.length_set]; exact h.box
  · rw [Below.heap_setCell _ _ _ _ (by show h0 + 1 ≠ bh; omega)]; exact h.ans
  · rw [Below.heap_setCell _ _ _ _ (by show Wb.heap.size ≠ bh; omega)]; exact h.cbox
  · simp only [List.length_set]
    exact h.row.set (Value.int .i64) (fun _ => rfl) rfl x t
/-- its claim is out of the queue -/
structure GK (pp : Nat → Nat → Prop) (w0 w : World) (h0 : Nat) (v4 : Value) (aH : Option Addr) (cH : Nat) (aQ : Option Addr) (cQ : Nat) (hc : Nat) (t : Int) (vn : Value) (U1 : Tb) (cs : List Cv) (gs : List Int) : Prop where
  box : w.heap[h0]? = some (.cells #[.slice aH U1.hold.length cH, .slice aQ U1.q.length cQ] 31)
  ans : w.heap[h0 + 1]? = some (.cells #[.slice none 0 0, .slice none 0 0] 31)
  cbox : w.heap[hc]? = some (.cells #[.int .i64 t, vn] 71)
  ds : DS pp w h0 v4 aH cH aQ cQ U1 cs
  own : intE.Own w (h0 + 2) v4 gs
  bel : Below w0.heap.size w0 w
  size : h0 + 2 ≤ w.heap.size
  cap : U1.q.length ≤ cQ
theorem GI.cut {w0 Wb w w8 : World} {h0 : Nat} {v4 : Value} {aH aQ : Option Addr} {cH cQ : Nat} {U U1 : Tb} {cs : List Cv} {i : Nat} {bh c7 : Nat} {t : Int} {vn : Value} {gs hold : List Int} (hg : GL pp w0 Wb h0 v4 aH cH aQ cQ U U1 cs gs i) (hh : w0.heap.size = h0) (h : GI w0 Wb w h0 v4 bh c7 aQ U1.q.length cQ t vn gs hold) (hi : i < U1.q.length)
    (hb : Below w.heap.size w w8) {a8 : Option Addr} {n8 c8 : Nat} (hn : n8 = (U1.q.take i ++ U1.q.drop (i + 1)).length) (ho : rcE.Own w8 w.heap.size (.slice a8 n8 c8) (cs.take i ++ cs.drop (i + 1))) :
    GK pp w0 (w8.setCell ⟨h0, 1, none⟩ (.slice a8 n8 c8)) h0 v4 (some ⟨bh, 0, none⟩) c7 a8 c8 Wb.heap.size t vn ⟨hold, U1.q.take i ++ U1.q.drop (i + 1)⟩ (cs.take i ++ cs.drop (i + 1)) gs := by
  subst hn
  have h8 := h.keep hb
  have hz := hg.size
  have hbh : Wb.heap.size + 1 ≤ bh := h.row.ge bh rfl
  have hs := h.size
  have ha : Agr h0 v4 Wb (w8.setCell ⟨h0, 1, none⟩ (.slice a8 (U1.q.take i ++ U1.q.drop (i + 1)).length c8)) := h8.agr.trans agr_box (Nat.le_of_lt h8.size) (fun k hk => .inl hk)
  have hv4 : ∀ k, v4.ownBlock = some k → k < Wb.heap.size := fun k hk => hg.own.lt k hk
  have d1 : DS pp (w8.setCell ⟨h0, 1, none⟩ (.slice a8 (U1.q.take i ++ U1.q.drop (i + 1)).length c8)) h0 v4 aH cH aQ cQ U1 cs := hg.ds.go ha (by rw [set_size]; exact Nat.le_of_lt h8.size) (fun k hk => .inl hk)
  have d2 := d1.setQ (B := w.heap.size) hi (own_set_other ho (fun e => by have := ho.ge _ e; omega)) (fun k hk => hg.hp k (by omega)) (by omega) (fun k hk e => by have := hv4 k e; have := ho.ge k hk; omega)
  have d3 := d2.setH (B := Wb.heap.size + 1) (hold := hold) (own_set_other h8.row (fun e => by simp [Value.ownBlock] at e; omega)) (fun k hk => hg.hp k (by omega)) (by omega) (fun k hk e => by have := hv4 k e; have := h8.row.ge k hk; omega)
  refine ⟨heap_put h8.box _, ?_, ?_, d3, own_set_other h8.own (fun e => by have := h8.own.ge _ e; omega), h8.bel.setCell (p := ⟨h0, 1, none⟩) (by show _ ≤ h0; omega) _, by rw [set_size]; have := h8.size; omega, own_cap ho⟩
  · rw [Below.heap_setCell _ _ _ _ (by show h0 + 1 ≠ h0; omega)]; exact h8.ans
  · rw [Below.heap_setCell _ _ _ _ (by show Wb.heap.size ≠ h0; omega)]; exact h8.cbox
theorem GK.done {w0 Wb w w10 : World} {h0 : Nat} {v4 v10 : Value} {aH aQ aH' aQ' : Option Addr} {cH cQ cH' cQ' hc : Nat} {U U1 : Tb} {cs cs' : List Cv} {i : Nat} {vn : Value} {gs : List Int} {cl : Cl} (hg : GL pp w0 Wb h0 v4 aH cH aQ cQ U U1 cs gs i) (hcl : U1.q[i]? = some cl) (hm : mayB U1 i = true) (hh : w0.heap.size = h0)
    (h : GK pp w0 w h0 v4 aH' cH' aQ' cQ' hc cl.tote vn (grant U1 i cl) cs' gs) {o : Obj} (ho : intE.Own w10 (h0 + 2) v10 (gs ++ [cl.tote])) (hgr : (w.alloc o).grownBy w10 v4.ownBlock) (hz : v10.ownBlock = v4.ownBlock ∨ v10.ownBlock = some (w.alloc o).heap.size) :
    GL pp w0 w10 h0 v10 aH' cH' aQ' cQ' U (grant U1 i cl) cs' (gs ++ [cl.tote]) 0 := by
  have b9 : Below w.heap.size w (w.alloc o) := (Below.refl _ _).alloc (Nat.le_refl _) _
  have hs := h.size
  have ha : Agr h0 v4 w w10 := fun k hk h1 h2 => by
    rw [hgr.block k (Nat.lt_of_lt_of_le hk b9.size) (fun e => h2 e.symm), b9.block k hk]
  have hs10 : w.heap.size ≤ w10.heap.size := Nat.le_trans b9.size hgr.size
  have hge : ∀ k, v4.ownBlock = some k → h0 + 2 ≤ k := fun k hk => h.own.ge k hk
  have blk : ∀ k, k < h0 + 2 → w10.heap[k]? = w.heap[k]? := fun k hk => by
    rw [hgr.block k (by have := b9.size; omega) (fun e => by have := hge k e.symm; omega), b9.block k (by omega)]
  have hi := idx_lt hcl
  have hl := len_grant (c := cl) hi
  have hc2 := hg.cnt
  refine ⟨by rw [blk h0 (by omega)]; exact h.box, by rw [blk (h0 + 1) (by omega)]; exact h.ans, h.ds.go ha hs10 (fun k hk => ?_), ho, (h.bel.trans (b9.mono h.bel.size)).grown hgr (Nat.le_trans h.bel.size b9.size) (fun k hk => by have := hge k hk; omega), by omega, hg.wf.grant hcl, ?_, ?_, fun T' l hT => ?_, fun j hj => by omega, Nat.zero_le _, h.cap, hg.hp⟩
  · rcases hz with e | e
    · exact .inl (e ▸ hk)
    · rw [e] at hk; have := Option.some.inj hk; have := b9.size; right; omega
  · show (setL _ _ _).length = _
    rw [setL_len]; exact hg.nl
  · simp only [List.length_append, List.length_cons, List.length_nil]; omega
  · rw [List.append_assoc]
    exact hg.gr T' _ (.step U1 i cl T' l hcl hm hg.less hT)
end Go.Proofs.Ytbibegendejnlaa
