/- ClaimRow: totes that claim one node; rows of the law's own beside a table. -/
import Derived.Test.YtbibegendejnlaaCan
namespace Go.Proofs.Ytbibegendejnlaa
open Go.RowKit
set_option linter.unusedVariables false

/-- a row's own block -/
def bl (v : Value) : Nat → Prop := fun k => v.ownBlock = some k

theorem notCl {w : World} {B : Nat} {v : Value} {xs : List Int} (ho : intE.Own w B v xs) (k : Nat) (hk : v.ownBlock = some k) : ∀ cur, w.heap[k]? ≠ some (.cells cur 67) := fun cur hc => by
  obtain ⟨cur', hc'⟩ := own_type ho k hk
  rw [hc] at hc'
  simp only [Option.some.injEq, Obj.cells.injEq] at hc'
  exact absurd hc'.2.1 (show ¬ (67 : TypeId) = 3 by decide)
/-- the row that is kept apart grows -/
theorem Tbl.rowApp {w w2 : World} {B g gh B' : Nat} {T : Tb} {v v' : Value} {xs : List Int} {o : Obj} (h : Tbl w B g gh (bl v) T) (ho : intE.Own w B' v xs) (hg : (w.alloc o).grownBy w2 v.ownBlock) (hs : v'.ownBlock = v.ownBlock ∨ v'.ownBlock = some (w.alloc o).heap.size) (h1 : g < B') (h2 : gh < B') : Tbl w2 B g gh (bl v') T := by
  have hb : Below w.heap.size w (w.alloc o) := (Below.refl _ _).alloc (Nat.le_refl _) o
  have h3 : Tbl (w.alloc o) B g gh (fun k => v.ownBlock = some k ∨ k = (w.alloc o).heap.size) T := (h.keep hb).apart (fun k hk => by
    rcases hk with hk | hk
    · exact .inl hk
    · exact .inr (.inr (by omega)))
  have h4 := h3.grown hg (fun k hk => by
    have hge := ho.ge k hk
    exact ⟨by omega, by omega, .inl hk, notCl (ho.keep hb) k hk⟩)
  refine h4.apart (fun k hk => .inl ?_)
  have hk' : v'.ownBlock = some k := hk
  rcases hs with hs | hs
  · exact .inl (by rw [← hs]; exact hk')
  · rw [hs] at hk'
    exact .inr (by simpa using hk'.symm)

/-- a claim of nodes in new memory, rows kept apart -/
theorem claim_rowb {W : World} {B g gh : Nat} {b : Nat → Prop} {T : Tb} (hT : Tbl W B g gh b T) (hav : ∀ k, b k → k < W.heap.size) (hw : Wf T) (t : Int) (ns : List Int) (n : Nat) (hn : ns.length = n) (C : Array Value) (hC : C.toList = ns.map (Value.int .i64)) (hl : n ≤ 100000) (hbad : badC T.hold.length t ns = false) (hf : fnd t T.q < 0) :
    Calls Try.prog 11 #[.pointer (some ⟨g, 0, none⟩), .int .i64 t, .slice (some ⟨W.heap.size, 0, none⟩) n n] (W.alloc (.cells C 3)) fun e w' => ∃ l : List Int, e = .returned (.tuple #[.bool (decide (0 < l.length)), .int .i64 0]) ∧ ∃ T', Gr ⟨T.hold, T.q ++ [⟨t, onc ns⟩]⟩ T' l ∧ Wf T' ∧ Wf ⟨T.hold, T.q ++ [⟨t, onc ns⟩]⟩ ∧ Tbl w' B g gh b T' ∧ Fr B g gh W w' := by
  have hb : Below W.heap.size W (W.alloc (.cells C 3)) := (Below.refl _ _).alloc (Nat.le_refl _) _
  have ho := row_new W ns C hC (by omega) _ n n rfl hn.symm hn.symm
  refine (claim_ok (hT.keep hb) hw (fun k hk => Nat.lt_of_lt_of_le (hav k hk) hb.size) t _ _ n ns hn ho.rd hl hbad hf).mono ?_
  rintro e w' ⟨l, rfl, T', hG, hT', hF⟩
  have hwa := Wf.add hw (badC_no hbad).1 (fun e => (badC_no hbad).2.1 (by rw [e]; rfl)) (badC_no hbad).2.2 (by rw [hn]; exact hl) hf
  exact ⟨l, rfl, T', hG, hG.wf hwa, hwa, hT', (Fr.of_below hb).trans hF⟩

def rwQ (d : Int) (l : List Int) : List Cl := l.map (fun t => ⟨t, onc [d]⟩)
structure RW (d : Int) (ord : List Int) (T : Tb) : Prop where
  wf : Wf T
  set : Set' T
  len : T.hold.length = 5
  nd : ord.Nodup
  tot : ∀ t ∈ ord, 1 ≤ t ∧ t ≤ 30
  head : hat T.hold d = ord.headD 0
  q : T.q = rwQ d ord.tail
theorem onc1m (d m : Int) : m ∈ onc [d] ↔ m = d := by rw [onc_mem]; simp
theorem rw_in {d : Int} (hd : 0 ≤ d ∧ d < 5) {N : Nat} (hN : N = 5) : inT N (onc [d]) := fun m hm => by rw [(onc1m d m).1 hm]; omega
theorem want_rw {d : Int} {l : List Int} : wantB (rwQ d l) d = decide (l ≠ []) := by
  cases l with
  | nil => rfl
  | cons x l =>
    unfold wantB rwQ
    rw [List.map_cons, List.any_cons]
    simp [onc1m]
theorem RW.start (d : Int) : RW d [] ⟨List.replicate 5 0, []⟩ := ⟨wf_new 5 (by omega), fun i => mayB_out (by simp), by simp, by simp, by simp, hat_rep _ _, rfl⟩
theorem RW.new {d : Int} (hd : 0 ≤ d ∧ d < 5) {ord : List Int} {T T' : Tb} {l : List Int} {t : Int} (h : RW d ord T) (ht : 1 ≤ t ∧ t ≤ 30) (hn : t ∉ ord) (hG : Gr ⟨T.hold, T.q ++ [⟨t, onc [d]⟩]⟩ T' l) (hw : Wf T') (hwa : Wf ⟨T.hold, T.q ++ [⟨t, onc [d]⟩]⟩) : decide (0 < l.length) = decide (ord = []) ∧ RW d (ord ++ [t]) T' := by
  have hnd : (ord ++ [t]).Nodup := by
    rw [List.nodup_append]
    exact ⟨h.nd, by simp, fun a ha b hb => by simp at hb; subst hb; rintro rfl; exact hn ha⟩
  have htt : ∀ x ∈ ord ++ [t], 1 ≤ x ∧ x ≤ 30 := fun x hx => by
    rcases List.mem_append.1 hx with hx | hx
    · exact h.tot x hx
    · simp at hx; subst hx; exact ht
  cases ord with
  | nil =>
    have hq : T.q = [] := h.q
    have h0 : hat T.hold d = 0 := h.head
    rcases gr_add h.set hwa hG with ⟨_, e1, e2⟩ | ⟨hm, _, _⟩
    · subst e2
      refine ⟨by rw [e1]; rfl, hw, hG.settled, by show (setL _ _ _).length = 5; rw [setL_len, h.len], hnd, htt, ?_, hq⟩
      show hat (setL T.hold t (onc [d])) d = t
      rw [hat_setL _ _ _ (rw_in hd h.len), if_pos ((onc1m d d).2 rfl)]
    · have : mayC T.hold T.q ⟨t, onc [d]⟩ = true := mayC_true fun n hn => by
        rw [(onc1m d n).1 hn]
        exact ⟨.inl h0, fun c hc => by rw [hq] at hc; simp at hc⟩
      rw [this] at hm; cases hm
  | cons f r =>
    have h0 : hat T.hold d = f := h.head
    have hf := h.tot f (by simp)
    have hft : f ≠ t := fun e => hn (by rw [e]; simp)
    rcases gr_add h.set hwa hG with ⟨hm, _, _⟩ | ⟨_, e1, e2⟩
    · have : mayC T.hold T.q ⟨t, onc [d]⟩ = false := mayC_false (n := d) ((onc1m d d).2 rfl) (by
        unfold barB
        rw [show heldB T.hold t d = true from heldB_true.2 ⟨by rw [h0]; omega, by rw [h0]; exact hft⟩]; rfl)
      rw [this] at hm; cases hm
    · subst e2
      refine ⟨by rw [e1]; simp, hw, hG.settled, h.len, hnd, htt, h0, ?_⟩
      show T.q ++ [_] = rwQ d (r ++ [t])
      rw [h.q]
      unfold rwQ
      simp
theorem RW.fnd {d : Int} {ord : List Int} {T : Tb} {t : Int} (h : RW d ord T) (hn : t ∉ ord.tail) : fnd t T.q < 0 := fnd_neg fun c hc e => by
  rw [h.q] at hc
  unfold rwQ at hc
  obtain ⟨x, hx, rfl⟩ := List.mem_map.1 hc
  exact hn (e ▸ hx)
theorem RW.fndY {d : Int} {ord : List Int} {T : Tb} {t : Int} (h : RW d ord T) (hn : t ∈ ord.tail) : 0 ≤ Ytbibegendejnlaa.fnd t T.q := by
  by_cases hlt : Ytbibegendejnlaa.fnd t T.q < 0
  · have := fnd_not hlt ⟨t, onc [d]⟩ (by rw [h.q]; unfold rwQ; exact List.mem_map.2 ⟨t, hn, rfl⟩)
    exact absurd rfl this
  · omega
theorem RW.own1 {d : Int} (hd : 0 ≤ d ∧ d < 5) {T T' : Tb} {l : List Int} {t : Int} (h : RW d [t] T) (hG : Gr ⟨T.hold, T.q ++ [⟨t, onc [d]⟩]⟩ T' l) (hw : Wf T') (hwa : Wf ⟨T.hold, T.q ++ [⟨t, onc [d]⟩]⟩) : l.length = 1 ∧ RW d [t] T' := by
  have hq : T.q = [] := h.q
  have h0 : hat T.hold d = t := h.head
  rcases gr_add h.set hwa hG with ⟨_, e1, e2⟩ | ⟨hm, _, _⟩
  · subst e2
    refine ⟨by rw [e1]; rfl, hw, hG.settled, by show (setL _ _ _).length = 5; rw [setL_len, h.len], h.nd, h.tot, ?_, hq⟩
    show hat (setL T.hold t (onc [d])) d = t
    rw [hat_setL _ _ _ (rw_in hd h.len), if_pos ((onc1m d d).2 rfl)]
  · have : mayC T.hold T.q ⟨t, onc [d]⟩ = true := mayC_true fun n hn => by
      rw [(onc1m d n).1 hn]
      exact ⟨.inr h0, fun c hc => by rw [hq] at hc; simp at hc⟩
    rw [this] at hm; cases hm
theorem RW.own2 {d : Int} {T T' : Tb} {l : List Int} {t x : Int} {r : List Int} (h : RW d (t :: x :: r) T) (hG : Gr ⟨T.hold, T.q ++ [⟨t, onc [d]⟩]⟩ T' l) (hwa : Wf ⟨T.hold, T.q ++ [⟨t, onc [d]⟩]⟩) : l = [] ∧ T' = ⟨T.hold, T.q ++ [⟨t, onc [d]⟩]⟩ := by
  rcases gr_add h.set hwa hG with ⟨hm, _, _⟩ | ⟨_, e1, e2⟩
  · have : mayC T.hold T.q ⟨t, onc [d]⟩ = false := mayC_false (n := d) ((onc1m d d).2 rfl) (by
      unfold barB
      rw [h.q, show (t :: x :: r).tail = x :: r from rfl, want_rw]
      simp)
    rw [this] at hm; cases hm
  · exact ⟨e1, e2⟩
theorem fnd_last {t : Int} {q : List Cl} {ns : List Int} (h : fnd t q < 0) : fnd t (q ++ [⟨t, ns⟩]) = (q.length : Int) := by
  unfold fnd
  refine ix_at (c := ⟨t, ns⟩) (by simp) (decide_eq_true rfl) (fun j d hj hd => ?_)
  rw [List.getElem?_append_left hj] at hd
  exact decide_eq_false (fnd_not h d (List.mem_of_getElem? hd))
theorem del_last (q : List Cl) (c : Cl) : (q ++ [c]).take q.length ++ (q ++ [c]).drop (q.length + 1) = q := by simp
theorem RW.rel {d : Int} (hd : 0 ≤ d ∧ d < 5) {T T' : Tb} {l : List Int} {f : Int} {r : List Int} (h : RW d (f :: r) T) (hG : Gr ⟨T.hold.set d.toNat 0, T.q⟩ T' l) : l = r.take 1 ∧ RW d r T' := by
  have hh := hat_set T.hold 0 d (by rw [h.len]; omega)
  have hwf : Wf ⟨T.hold.set d.toNat 0, T.q⟩ := h.wf.setH 0 (by omega) [d]
  have hq : T.q = rwQ d r := h.q
  have hnd := (List.nodup_cons.1 h.nd).2
  have htt : ∀ x ∈ r, 1 ≤ x ∧ x ≤ 30 := fun x hx => h.tot x (List.mem_cons_of_mem _ hx)
  have hl : (T.hold.set d.toNat 0).length = 5 := by rw [List.length_set, h.len]
  cases r with
  | nil =>
    have : Gr ⟨T.hold.set d.toNat 0, T.q⟩ ⟨T.hold.set d.toNat 0, T.q⟩ [] := .done _ (fun i => mayB_out (by show T.q.length ≤ i; rw [hq]; simp [rwQ]))
    obtain ⟨e1, e2⟩ := hG.uniq this
    subst e1
    exact ⟨e2, hwf, hG.settled, hl, by simp, by simp, (hh d).trans (if_pos rfl), hq⟩
  | cons x r =>
    have hx := htt x (by simp)
    have hq0 : T.q = ⟨x, onc [d]⟩ :: rwQ d r := hq
    have hgr : grant ⟨T.hold.set d.toNat 0, T.q⟩ 0 ⟨x, onc [d]⟩ = ⟨setL (T.hold.set d.toNat 0) x (onc [d]), rwQ d r⟩ := by
      unfold grant
      congr 1
      show T.q.take 0 ++ T.q.drop (0 + 1) = _
      rw [hq0]; rfl
    have hd' : hat (setL (T.hold.set d.toNat 0) x (onc [d])) d = x := by rw [hat_setL _ _ _ (rw_in hd hl), if_pos ((onc1m d d).2 rfl)]
    have hset : Set' ⟨setL (T.hold.set d.toNat 0) x (onc [d]), rwQ d r⟩ := fun i => by
      rcases Nat.lt_or_ge i (rwQ d r).length with g | g
      · have hc : (rwQ d r)[i]? = some (rwQ d r)[i] := List.getElem?_eq_getElem g
        rw [mayB_at (T := ⟨setL (T.hold.set d.toNat 0) x (onc [d]), rwQ d r⟩) hc]
        have hm := List.getElem_mem g
        generalize (rwQ d r)[i] = c at hm
        unfold rwQ at hm
        obtain ⟨y, hy, rfl⟩ := List.mem_map.1 hm
        refine mayC_false (n := d) ((onc1m d d).2 rfl) ?_
        unfold barB
        rw [show heldB (setL (T.hold.set d.toNat 0) x (onc [d])) y d = true from heldB_true.2 ⟨by rw [hd']; omega, by rw [hd']; rintro rfl; exact (List.nodup_cons.1 hnd).1 hy⟩]; rfl
      · exact mayB_out g
    have : Gr ⟨T.hold.set d.toNat 0, T.q⟩ ⟨setL (T.hold.set d.toNat 0) x (onc [d]), rwQ d r⟩ [x] := by
      refine .step _ 0 ⟨x, onc [d]⟩ _ _ (by show T.q[0]? = _; rw [hq0]; rfl) ?_ (fun j hj => by omega) (by rw [hgr]; exact .done _ hset)
      rw [mayB_at (T := ⟨T.hold.set d.toNat 0, T.q⟩) (c := ⟨x, onc [d]⟩) (by show T.q[0]? = _; rw [hq0]; rfl)]
      refine mayC_true fun n hn => ?_
      rw [(onc1m d n).1 hn]
      exact ⟨.inl ((hh d).trans (if_pos rfl)), fun c hc => by simp at hc⟩
    obtain ⟨e1, e2⟩ := hG.uniq this
    subst e1
    exact ⟨e2, hG.wf hwf, hset, by show (setL _ _ _).length = 5; rw [setL_len, hl], hnd, htt, hd', rfl⟩
/-- how a claim of the node ends -/
def RCase (B g gh : Nat) (v : Value) (d t : Int) (ord : List Int) (yes : Bool) (code : Int) (w : World) : Prop :=
  (ord = [] ∧ yes = true ∧ code = 0 ∧ ∃ T, Tbl w B g gh (bl v) T ∧ RW d (ord ++ [t]) T) ∨
  (∃ f r, ord = f :: r ∧ f ≠ t ∧ t ∉ r ∧ yes = false ∧ code = 0 ∧ ∃ T, Tbl w B g gh (bl v) T ∧ RW d (ord ++ [t]) T) ∨
  (∃ f r, ord = f :: r ∧ f ≠ t ∧ t ∈ r ∧ yes = false ∧ code = 2 ∧ ∃ T, Tbl w B g gh (bl v) T ∧ RW d ord T) ∨
  (ord = [t] ∧ yes = true ∧ code = 0 ∧ ∃ T, Tbl w B g gh (bl v) T ∧ RW d ord T) ∨
  (∃ x r, ord = t :: x :: r ∧ yes = false ∧ code = 0 ∧ ∃ T, RW d ord T ∧ Wf ⟨T.hold, T.q ++ [⟨t, onc [d]⟩]⟩ ∧ Tbl w B g gh (bl v) ⟨T.hold, T.q ++ [⟨t, onc [d]⟩]⟩)

theorem row_claim {W : World} {B g gh B' : Nat} {v : Value} {d t : Int} {ord : List Int} {T : Tb} (hT : Tbl W B g gh (bl v) T) (ho : intE.Own W B' v ord) (hd : 0 ≤ d ∧ d < 5) (ht : 1 ≤ t ∧ t ≤ 30) (h : RW d ord T) :
    Calls Try.prog 11 #[.pointer (some ⟨g, 0, none⟩), .int .i64 t, .slice (some ⟨W.heap.size, 0, none⟩) 1 1] (W.alloc (.cells #[.int .i64 d] 3)) fun e w' => ∃ yes code, e = .returned (.tuple #[.bool yes, .int .i64 code]) ∧ RCase B g gh v d t ord yes code w' ∧ Fr B g gh W w' := by
  have hbad : badC T.hold.length t [d] = false := badC_yes ht (by simp) (fun n hn => by simp at hn; rw [h.len]; omega)
  have hb : Below W.heap.size W (W.alloc (.cells #[.int .i64 d] 3)) := (Below.refl _ _).alloc (Nat.le_refl _) _
  have hav : ∀ k, bl v k → k < W.heap.size := fun k hk => ho.lt k hk
  by_cases htl : t ∈ ord.tail
  · have hrd := row_new W [d] #[.int .i64 d] rfl (by simp) _ 1 1 rfl rfl rfl
    refine (claim_twice (hT.keep hb) h.wf t _ _ 1 [d] rfl hrd.rd (by omega) hbad (h.fndY htl)).mono ?_
    rintro e w' ⟨rfl, hb'⟩
    refine ⟨false, 2, rfl, .inr (.inr (.inl ?_)), (Fr.of_below hb).trans (Fr.of_below hb')⟩
    cases ord with
    | nil => simp at htl
    | cons f r => exact ⟨f, r, rfl, fun e => (List.nodup_cons.1 h.nd).1 (e ▸ htl), htl, rfl, rfl, T, (hT.keep hb).keep hb', h⟩
  · refine (claim_rowb hT hav h.wf t [d] 1 rfl _ rfl (by omega) hbad (h.fnd htl)).mono ?_
    rintro e w' ⟨l, rfl, T', hG, hwf, hwa, hT', hF⟩
    refine ⟨_, 0, rfl, ?_, hF⟩
    cases ord with
    | nil =>
      obtain ⟨e1, e2⟩ := h.new hd ht (by simp) hG hwf hwa
      exact .inl ⟨rfl, by rw [e1]; rfl, rfl, T', hT', e2⟩
    | cons f r =>
      by_cases hf : f = t
      · subst hf
        cases r with
        | nil =>
          obtain ⟨e1, e2⟩ := h.own1 hd hG hwf hwa
          exact .inr (.inr (.inr (.inl ⟨rfl, by rw [e1]; rfl, rfl, T', hT', e2⟩)))
        | cons x r =>
          obtain ⟨e1, e2⟩ := h.own2 hG hwa
          exact .inr (.inr (.inr (.inr ⟨x, r, rfl, by rw [e1]; rfl, rfl, T, h, hwa, e2 ▸ hT'⟩)))
      · obtain ⟨e1, e2⟩ := h.new hd ht (by intro hm; rcases List.mem_cons.1 hm with e | e; exact hf e.symm; exact htl e) hG hwf hwa
        exact .inr (.inl ⟨f, r, rfl, hf, htl, by rw [e1]; rfl, rfl, T', hT', e2⟩)
theorem row_drop {W : World} {B g gh : Nat} {b : Nat → Prop} {d t : Int} {ord : List Int} {T : Tb} (hT : Tbl W B g gh b ⟨T.hold, T.q ++ [⟨t, onc [d]⟩]⟩) (h : RW d ord T) (hwa : Wf ⟨T.hold, T.q ++ [⟨t, onc [d]⟩]⟩) (ht : 1 ≤ t ∧ t ≤ 30) (hn : t ∉ ord.tail) :
    Calls Try.prog 16 #[.pointer (some ⟨g, 0, none⟩), .int .i64 t] W fun e w' => (∃ v, e = .returned (.tuple #[v, .int .i64 0])) ∧ Tbl w' B g gh b T ∧ Fr B g gh W w' := by
  refine (drop_ok hT hwa t (decide_eq_true ht) T.q.length (by simp) (fnd_last (h.fnd hn))).mono ?_
  rintro e w' ⟨v, rfl, T', l, _, hG, hT', hF⟩
  have e0 : (⟨T.hold, (T.q ++ [(⟨t, onc [d]⟩ : Cl)]).take T.q.length ++ (T.q ++ [(⟨t, onc [d]⟩ : Cl)]).drop (T.q.length + 1)⟩ : Tb) = T := by
    show (⟨T.hold, _⟩ : Tb) = ⟨T.hold, T.q⟩
    rw [del_last]
  have hG' : Gr ⟨T.hold, (T.q ++ [(⟨t, onc [d]⟩ : Cl)]).take T.q.length ++ (T.q ++ [(⟨t, onc [d]⟩ : Cl)]).drop (T.q.length + 1)⟩ T' l := hG
  rw [e0] at hG'
  obtain ⟨e1, _⟩ := hG'.uniq (.done T h.set)
  subst e1
  exact ⟨⟨v, rfl⟩, hT', hF⟩
end Go.Proofs.Ytbibegendejnlaa
