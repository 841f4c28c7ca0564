/- Grants of the document: rows that stay while its boxes are written. -/
import Derived.Test.YtbibegendejnlaaCrf
namespace Go.Proofs.Ytbibegendejnlaa
open Go.RowKit
set_option linter.unusedVariables false
variable {pp : Nat → Nat → Prop}

/-- but for two boxes and a row's block all stays -/
def Agr (h0 : Nat) (v : Value) (w w' : World) : Prop := ∀ k, k < w.heap.size → (k < h0 ∨ h0 + 1 < k) → v.ownBlock ≠ some k → w'.heap[k]? = w.heap[k]?
/-- the document's table reads so, whatever becomes of the box and of the row -/
structure DS (pp : Nat → Nat → Prop) (w : World) (h0 : Nat) (v : Value) (aH : Option Addr) (cH : Nat) (aQ : Option Addr) (cQ : Nat) (U : Tb) (cs : List Cv) : Prop where
  hold : ∀ w', Agr h0 v w w' → intE.Rd w' (.slice aH U.hold.length cH) U.hold
  q : ∀ w', Agr h0 v w w' → rcE.Rd w' (.slice aQ U.q.length cQ) cs
  el : ∀ w', Agr h0 v w w' → Crd pp w' cs U.q
  pH : blk (pp 0) aH
  pQ : blk (pp 0) aQ
  tH : ∀ w', Agr h0 v w w' → typ w' aH 3
  tQ : ∀ w', Agr h0 v w w' → typ w' aQ 71
theorem Agr.refl (h0 : Nat) (v : Value) (w : World) : Agr h0 v w w := fun _ _ _ _ => rfl
theorem Agr.of_below {h0 : Nat} {v : Value} {w w' : World} (hb : Below w.heap.size w w') : Agr h0 v w w' := fun k hk _ _ => hb.block k hk
theorem Agr.trans {h0 : Nat} {v v' : Value} {a b c : World} (x : Agr h0 v a b) (y : Agr h0 v' b c) (hs : a.heap.size ≤ b.heap.size) (hv : ∀ k, v'.ownBlock = some k → v.ownBlock = some k ∨ a.heap.size ≤ k) : Agr h0 v a c := fun k hk h1 h2 => by
  rw [y k (by omega) h1 (fun e => by rcases hv k e with h | h; exact h2 h; omega)]
  exact x k hk h1 h2
theorem DS.dt {w w' : World} {h0 : Nat} {v : Value} {aH aQ : Option Addr} {cH cQ : Nat} {U : Tb} {cs : List Cv} (h : DS pp w h0 v aH cH aQ cQ U cs) (ha : Agr h0 v w w') : DT pp w' aH cH aQ cQ U := ⟨h.hold w' ha, ⟨cs, h.q w' ha, h.el w' ha⟩, h.pH, h.pQ, h.tH w' ha, h.tQ w' ha⟩
theorem DS.start {w0 w : World} {aH aQ : Option Addr} {cH cQ h0 : Nat} {U : Tb} (h : DT pp w0 aH cH aQ cQ U) (hb : Below w0.heap.size w0 w) (hh : w0.heap.size ≤ h0) : ∃ cs, DS pp w h0 (.slice none 0 0) aH cH aQ cQ U cs := by
  obtain ⟨h1, ⟨cs, h2, h3⟩, h4, h5, h6, h7⟩ := h
  have key : ∀ w', Agr h0 (.slice none 0 0) w w' → ∀ k, k < w0.heap.size → w'.heap[k]? = w0.heap[k]? := fun w' ha k hk => by
    rw [ha k (Nat.lt_of_lt_of_le hk hb.size) (.inl (by omega)) (fun e => by cases e)]
    exact hb.block k hk
  have rd : ∀ {α : Type} (E : El Try.prog α) (v : Value) (xs : List α) (w' : World), Agr h0 (.slice none 0 0) w w' → E.Rd w0 v xs → E.Rd w' v xs := fun E v xs w' ha hr => by
    rcases hr with hr | ⟨x, cap, e1, e2⟩
    · exact .inl hr
    · refine .inr ⟨x, cap, e1, fun n hn => ?_⟩
      have h := e2 n hn
      have hl : n < (E.fl xs).length := by rw [E.fl_len]; exact hn
      rw [List.getElem?_eq_getElem hl] at h ⊢
      rw [World.cell?_of_block (w := w0) (key w' ha _ (cell_lt h))]; exact h
  exact ⟨cs, fun w' ha => rd intE _ _ w' ha h1, fun w' ha => rd rcE _ _ w' ha h2, fun w' ha => ⟨h3.1, fun i x p hx hp => ⟨(h3.2 i x p hx hp).1, rd intE _ _ w' ha (h3.2 i x p hx hp).2.1, (h3.2 i x p hx hp).2.2⟩⟩, h4, h5, fun w' ha x hx => by obtain ⟨C, hC⟩ := h6 x hx; exact ⟨C, by rw [key w' ha _ (heap_lt hC)]; exact hC⟩, fun w' ha x hx => by obtain ⟨C, hC⟩ := h7 x hx; exact ⟨C, by rw [key w' ha _ (heap_lt hC)]; exact hC⟩⟩
/-- what was told ahead is told behind -/
theorem DS.go {w w' : World} {h0 : Nat} {v v' : Value} {aH aQ : Option Addr} {cH cQ : Nat} {U : Tb} {cs : List Cv} (h : DS pp w h0 v aH cH aQ cQ U cs) (ha : Agr h0 v w w') (hs : w.heap.size ≤ w'.heap.size) (hv : ∀ k, v'.ownBlock = some k → v.ownBlock = some k ∨ w.heap.size ≤ k) : DS pp w' h0 v' aH cH aQ cQ U cs :=
  ⟨fun w2 h2 => h.hold w2 (ha.trans h2 hs hv), fun w2 h2 => h.q w2 (ha.trans h2 hs hv), fun w2 h2 => h.el w2 (ha.trans h2 hs hv), h.pH, h.pQ, fun w2 h2 => h.tH w2 (ha.trans h2 hs hv), fun w2 h2 => h.tQ w2 (ha.trans h2 hs hv)⟩
theorem own_agr {α : Type} {E : El Try.prog α} {w w' : World} {B h0 : Nat} {u v : Value} {xs : List α} (ho : E.Own w B u xs) (ha : Agr h0 v w w') (h1 : h0 + 2 ≤ B) (h2 : ∀ k, u.ownBlock = some k → v.ownBlock ≠ some k) : E.Own w' B u xs :=
  own_stay ho fun k hk hlt => ha k hlt (.inr (by have := ho.ge k hk; omega)) (h2 k hk)
theorem own_typ {α : Type} {E : El Try.prog α} {w : World} {B : Nat} {a : Option Addr} {n c : Nat} {xs : List α} (h : E.Own w B (.slice a n c) xs) : typ w a E.e := fun x hx => by
  rcases h.2 with ⟨h1, _⟩ | ⟨g', c', cur, h1, hb, hg, _⟩
  · cases h1; cases hx
  · simp only [Value.slice.injEq] at h1
    obtain ⟨rfl, _, _⟩ := h1
    cases hx
    exact ⟨cur, hg⟩
theorem own_blk {rr : Nat → Prop} {α : Type} {E : El Try.prog α} {w : World} {B : Nat} {a : Option Addr} {n c : Nat} {xs : List α} (h : E.Own w B (.slice a n c) xs) (hp : ∀ k, B ≤ k → rr k) : blk rr a := fun x hx => by
  rcases h.2 with ⟨h1, _⟩ | ⟨g', c', cur, h1, hb, _⟩
  · cases h1; cases hx
  · simp only [Value.slice.injEq] at h1
    obtain ⟨rfl, _, _⟩ := h1
    cases hx
    exact hp _ hb
/-- other holders -/
theorem DS.setH {w : World} {h0 : Nat} {v : Value} {aH aH' aQ : Option Addr} {cH cH' cQ B : Nat} {U : Tb} {cs : List Cv} {hold : List Int} (h : DS pp w h0 v aH cH aQ cQ U cs) (ho : intE.Own w B (.slice aH' hold.length cH') hold) (hp : ∀ k, B ≤ k → pp 0 k) (h1 : h0 + 2 ≤ B) (h2 : ∀ k, (Value.slice aH' hold.length cH').ownBlock = some k → v.ownBlock ≠ some k) : DS pp w h0 v aH' cH' aQ cQ ⟨hold, U.q⟩ cs :=
  ⟨fun w2 ha => (own_agr ho ha h1 h2).rd, h.q, h.el, own_blk ho hp, h.pQ, fun w2 ha => own_typ (own_agr ho ha h1 h2), h.tQ⟩
theorem crd_del {w : World} {cs : List Cv} {q : List Cl} {i : Nat} (h : Crd pp w cs q) (hi : i < q.length) : Crd pp w (cs.take i ++ cs.drop (i + 1)) (q.take i ++ q.drop (i + 1)) := by
  refine ⟨by rw [List.length_append, List.length_append, List.length_take, List.length_take, List.length_drop, List.length_drop, h.1], fun j x p hx hp => h.2 _ x p (map_del (by rw [h.1]; exact hi) hx) (map_del hi hp)⟩
/-- the queue without a claim -/
theorem DS.setQ {w : World} {h0 : Nat} {v : Value} {aH aQ aQ' : Option Addr} {cH cQ cQ' B i : Nat} {U : Tb} {cs : List Cv} (h : DS pp w h0 v aH cH aQ cQ U cs) (hi : i < U.q.length) (ho : rcE.Own w B (.slice aQ' (U.q.take i ++ U.q.drop (i + 1)).length cQ') (cs.take i ++ cs.drop (i + 1))) (hp : ∀ k, B ≤ k → pp 0 k) (h1 : h0 + 2 ≤ B) (h2 : ∀ k, (Value.slice aQ' (U.q.take i ++ U.q.drop (i + 1)).length cQ').ownBlock = some k → v.ownBlock ≠ some k) : DS pp w h0 v aH cH aQ' cQ' ⟨U.hold, U.q.take i ++ U.q.drop (i + 1)⟩ (cs.take i ++ cs.drop (i + 1)) :=
  ⟨h.hold, fun w2 ha => (own_agr ho ha h1 h2).rd, fun w2 ha => crd_del (h.el w2 ha) hi, h.pH, own_blk ho hp, h.tH, fun w2 ha => own_typ (own_agr ho ha h1 h2)⟩
theorem agr_box {h0 i : Nat} {v u : Value} {w : World} : Agr h0 v w (w.setCell ⟨h0, i, none⟩ u) := fun k _ h1 _ => Below.heap_setCell _ _ _ _ (by show k ≠ h0; omega)
theorem agr_ans {h0 i : Nat} {v u : Value} {w : World} : Agr h0 v w (w.setCell ⟨h0 + 1, i, none⟩ u) := fun k _ h1 _ => Below.heap_setCell _ _ _ _ (by show k ≠ h0 + 1; omega)
theorem set_size (w : World) (p : Addr) (u : Value) : (w.setCell p u).heap.size = w.heap.size := by simp [World.setCell]

/-- where Grants stands -/
structure GL (pp : Nat → Nat → Prop) (w0 w : World) (h0 : Nat) (v4 : Value) (aH : Option Addr) (cH : Nat) (aQ : Option Addr) (cQ : Nat) (U U1 : Tb) (cs : List Cv) (gs : List Int) (i : Nat) : Prop where
  box : w.heap[h0]? = some (.cells #[.slice aH U1.hold.length cH, .slice aQ U1.q.length cQ] 31)
  ans : w.heap[h0 + 1]? = some (.cells #[.slice none 0 0, .slice none 0 0] 31)
  ds : DS pp w h0 v4 aH cH aQ cQ U1 cs
  own : intE.Own w (h0 + 2) v4 gs
  bel : Below w0.heap.size w0 w
  size : h0 + 2 ≤ w.heap.size
  wf : Wf U1
  nl : U1.hold.length = U.hold.length
  cnt : U1.q.length + gs.length = U.q.length
  gr : ∀ T' l, Gr U1 T' l → Gr U T' (gs ++ l)
  less : ∀ j, j < i → mayB U1 j = false
  ile : i ≤ U1.q.length
  cap : U1.q.length ≤ cQ
  hp : ∀ k, h0 ≤ k → pp 0 k
theorem GL.keep {w0 w w' : World} {h0 : Nat} {v4 : Value} {aH aQ : Option Addr} {cH cQ : Nat} {U U1 : Tb} {cs : List Cv} {gs : List Int} {i : Nat} (h : GL pp w0 w h0 v4 aH cH aQ cQ U U1 cs gs i) (hb : Below w.heap.size w w') : GL pp w0 w' h0 v4 aH cH aQ cQ U U1 cs gs i :=
  ⟨by rw [hb.block _ (heap_lt h.box)]; exact h.box, by rw [hb.block _ (heap_lt h.ans)]; exact h.ans, h.ds.go (Agr.of_below hb) hb.size (fun k hk => .inl hk), h.own.keep hb, h.bel.trans (hb.mono h.bel.size), Nat.le_trans h.size hb.size, h.wf, h.nl, h.cnt, h.gr, h.less, h.ile, h.cap, h.hp⟩
theorem GL.next {w0 w : World} {h0 : Nat} {v4 : Value} {aH aQ : Option Addr} {cH cQ : Nat} {U U1 : Tb} {cs : List Cv} {gs : List Int} {i : Nat} (h : GL pp w0 w h0 v4 aH cH aQ cQ U U1 cs gs i) (hm : mayB U1 i = false) (hi : i < U1.q.length) : GL pp w0 w h0 v4 aH cH aQ cQ U U1 cs gs (i + 1) :=
  ⟨h.box, h.ans, h.ds, h.own, h.bel, h.size, h.wf, h.nl, h.cnt, h.gr, fun j hj => by
    rcases Nat.lt_or_ge j i with g | g
    · exact h.less j g
    · obtain rfl : j = i := by omega
      exact hm, hi, h.cap, h.hp⟩
end Go.Proofs.Ytbibegendejnlaa
