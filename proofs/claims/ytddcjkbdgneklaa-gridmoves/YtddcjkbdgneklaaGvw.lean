/- GridMoves, the walk. -/
import Derived.Test.YtddcjkbdgneklaaGpn
import Derived.Test.YtddcjkbdgneklaaGag
import Derived.Deep.CutBlock
namespace Go.Proofs.Ytddcjkbdgneklaa
open Go.RowKit
set_option linter.unusedVariables false

/-- a move and its way back -/
theorem do_back {R : Rack} (hw : Wf R) (hf : Fit R) {t f o : Int} (hc : doC R ⟨t, f, o⟩ = 0) (ho : 0 ≤ o) : whr (doR R ⟨t, f, o⟩) t = o ∧ doC (doR R ⟨t, f, o⟩) ⟨t, o, f⟩ = 0 ∧ doR (doR R ⟨t, f, o⟩) ⟨t, o, f⟩ = R := by
  rcases do_form R ⟨t, f, o⟩ with ⟨e, _⟩ | ⟨_, i, l, hi, hl, ht, ⟨h, _⟩ | ⟨j, n, hj, hij, hn, hr, e⟩⟩
  · exact absurd hc e
  · simp only at h; omega
  simp only at hi hj ht e
  subst hi hj
  have hwd := hw.doR ⟨t, i, j⟩
  rw [e] at hwd ⊢
  have hset : (R.set i (l.1, l.2.dropLast))[j]? = some n := by rw [set_off hij]; exact hn
  have h1 : ((R.set i (l.1, l.2.dropLast)).set j (n.1, n.2 ++ [t]))[j]? = some (n.1, n.2 ++ [t]) := set_at hset
  have h2 : ((R.set i (l.1, l.2.dropLast)).set j (n.1, n.2 ++ [t]))[i]? = some (l.1, l.2.dropLast) := by rw [set_off (fun e => hij e.symm)]; exact set_at hl
  obtain ⟨ys, hys⟩ := List.getLast?_eq_some_iff.1 ht
  have hle := hf i l hl
  have hil := idx_lt hl
  have hjl := idx_lt hn
  have hlen : ((R.set i (l.1, l.2.dropLast)).set j (n.1, n.2 ++ [t])).length = R.length := by rw [List.length_set, List.length_set]
  generalize hR' : (R.set i (l.1, l.2.dropLast)).set j (n.1, n.2 ++ [t]) = R' at *
  have hc2 : doC R' ⟨t, j, i⟩ = 0 := by
    unfold doC
    rw [if_neg (by simp only; rw [hlen]; omega), if_neg, if_neg]
    · simp only [Int.toNat_natCast, ln_at h2, hys]; rw [hys] at hle; simp at hle ⊢; omega
    · simp only [Int.toNat_natCast, ln_at h1]; simp
  refine ⟨?_, hc2, ?_⟩
  · rcases whr_form R' t with ⟨_, h⟩ | ⟨k, q, h, _, hq, hm, _⟩
    · exact absurd (by simp) (h j _ h1)
    · rw [h]
      have := hwd.dj k j q _ t hq h1 hm (by simp)
      omega
  · rcases do_form R' ⟨t, j, i⟩ with ⟨e2, _⟩ | ⟨_, i2, l2, hi2, hl2, _, ⟨h, _⟩ | ⟨j2, n2, hj2, _, hn2, _, e2⟩⟩
    · exact absurd hc2 e2
    · simp only at h; omega
    · simp only at hi2 hj2 e2
      obtain rfl : j = i2 := by omega
      obtain rfl : i = j2 := by omega
      rw [h1] at hl2
      cases hl2
      rw [h2] at hn2
      cases hn2
      rw [e2, ← hR']
      have e3 : (n.2 ++ [t]).dropLast = n.2 := List.dropLast_concat
      have e4 : l.2.dropLast ++ [t] = l.2 := by rw [hys, List.dropLast_concat]
      simp only [e3, e4]
      apply List.ext_getElem?
      intro q
      by_cases hqi : i = q
      · subst hqi
        rw [hl, List.getElem?_set, if_pos rfl, if_pos (by simp; exact hil)]
      · rw [set_off hqi]
        by_cases hqj : j = q
        · subst hqj
          rw [hn, List.getElem?_set, if_pos rfl, if_pos (by simp; exact hjl)]
        · rw [set_off hqj, set_off hqj, set_off hqi]
/-- a move out -/
theorem do_away {R : Rack} (hw : Wf R) {t f o : Int} (hc : doC R ⟨t, f, o⟩ = 0) (ho : o < 0) : whr (doR R ⟨t, f, o⟩) t = -1 ∧ ∃ i : Nat, f = i ∧ i < R.length ∧ (lnx (doR R ⟨t, f, o⟩) (i : Int)).length + 1 = (lnx R (i : Int)).length := by
  rcases do_form R ⟨t, f, o⟩ with ⟨e, _⟩ | ⟨_, i, l, hi, hl, ht, ⟨h, e⟩ | ⟨j, n, hj, hij, hn, hr, e⟩⟩
  · exact absurd hc e
  · simp only at hi h ht
    refine ⟨?_, i, hi, idx_lt hl, ?_⟩
    · rcases whr_on (doR R ⟨t, f, o⟩) t with ⟨h1, _⟩ | ⟨_, _, h1⟩
      · exact h1
      · rw [do_out_on hw _ hc h] at h1
        exact absurd rfl h1.2
    · rw [e]
      have h3 : 0 < l.2.length := List.length_pos_of_mem (List.mem_of_getLast? ht)
      have hil := idx_lt hl
      unfold lnx
      rw [if_pos (by rw [List.length_set]; omega), if_pos (by omega), Int.toNat_natCast, ln_at (set_at hl), ln_at hl]
      simp
      omega
  · simp only at hj; omega

/-- slices of slices -/
def slE : El Try.prog (Option Addr × Nat × Nat) where
  t := 66
  e := 22
  k := 1
  by' := 24
  z := .slice none 0 0
  enc x := [.slice x.1 x.2.1 x.2.2]
  ht := Try.underlying66
  info := by kernel_rfl
  zc := rfl
  kpos := by omega
  bsm := by omega
  len _ := rfl
  one x v hv := by simp at hv; subst hv; rfl
theorem sl_at {w : World} {a : Option Addr} {n c : Nat} {xs : List (Option Addr × Nat × Nat)} (h : slE.Rd w (.slice a n c) xs) (i : Nat) (p : Option Addr × Nat × Nat) (hp : xs[i]? = some p) : ∃ b off, a = some ⟨b, off, none⟩ ∧ w.cell? ⟨b, off + i, none⟩ = some (.slice p.1 p.2.1 p.2.2) := by
  obtain ⟨b, off, h1, h2⟩ := h.at i p hp
  refine ⟨b, off, h1, ?_⟩
  have := h2 0 (by show 0 < 1; omega)
  simpa [slE] using this
theorem sl_new (w : World) (x : Option Addr) (n c : Nat) (g : Nat) (hg : g = w.heap.size) : slE.Rd (w.alloc (.cells #[.slice x n c] 22)) (.slice (some ⟨g, 0, none⟩) 1 1) [(x, n, c)] :=
  (El.Own.new slE w w.heap.size (Nat.le_refl _) _ [(x, n, c)] rfl (by simp) _ _ _ hg rfl rfl).rd

/-- the law's world: the rack, the move in its box, what the lanes held -/
structure MW (w0 : World) (B r : Nat) (a : Option Addr) (c : Nat) (gs : List Nat) (R R0 : Rack) (g5 : Nat) (t f o : Int) (v8 : Value) (vs : List (Option Addr × Nat × Nat)) (W : World) : Prop where
  rw' : RW w0 B r a c gs R W
  bx : W.heap[g5]? = some (.cells #[.int .i64 t, .int .i64 f, .int .i64 o] 50)
  row : slE.Own W w0.heap.size v8 vs
  els : ∀ (i : Nat) (p : Option Addr × Nat × Nat), vs[i]? = some p → p.2.1 = (lnx R0 (i : Int)).length ∧ intE.Own W w0.heap.size (.slice p.1 p.2.1 p.2.2) (lnx R0 (i : Int))
section
variable {w0 : World} {B r : Nat} {a : Option Addr} {c : Nat} {gs : List Nat} {R R0 R' : Rack} {g5 : Nat} {t f o : Int} {v8 : Value} {vs : List (Option Addr × Nat × Nat)} {W W' : World}
theorem MW.keep (h : MW w0 B r a c gs R R0 g5 t f o v8 vs W) (hb : Below W.heap.size W W') : MW w0 B r a c gs R R0 g5 t f o v8 vs W' :=
  ⟨h.rw'.keep hb, by rw [hb.block _ (heap_lt h.bx)]; exact h.bx, h.row.keep hb, fun i p hp => ⟨(h.els i p hp).1, (h.els i p hp).2.keep hb⟩⟩
theorem MW.drewN (h : MW w0 B r a c gs R R0 g5 t f o v8 vs W) (q : Nat) : MW w0 B r a c gs R R0 g5 t f o v8 vs (W.drewN q) := h.keep (below_drewN _ _)
theorem MW.fr (h : MW w0 B r a c gs R R0 g5 t f o v8 vs W) (hr : RW w0 B r a c gs R' W') (hf : Fr B W W') : MW w0 B r a c gs R' R0 g5 t f o v8 vs W' :=
  ⟨hr, hf.other h.bx (by decide), own_fr h.row hf (by decide), fun i p hp => ⟨(h.els i p hp).1, own_fr (h.els i p hp).2 hf (by decide)⟩⟩
theorem MW.cells (h : MW w0 B r a c gs R R0 g5 t f o v8 vs W) : W.cell? ⟨g5, 0, none⟩ = some (.int .i64 t) ∧ W.cell? ⟨g5, 1, none⟩ = some (.int .i64 f) ∧ W.cell? ⟨g5, 2, none⟩ = some (.int .i64 o) := ⟨(cells_at h.bx 0).1, (cells_at h.bx 1).1, (cells_at h.bx 2).1⟩
/-- one more lane is remembered -/
theorem MW.more (h : MW w0 B r a c gs R R0 g5 t f o v8 vs W) {a9 : Option Addr} {n9 c9 : Nat} {v9 : Value} (hn : n9 = (lnx R0 (vs.length : Int)).length) (ho : intE.Own W w0.heap.size (.slice a9 n9 c9) (lnx R0 (vs.length : Int))) (hr : slE.Own W' w0.heap.size v9 (vs ++ [(a9, n9, c9)])) (hg : W.grownBy W' v8.ownBlock) : MW w0 B r a c gs R R0 g5 t f o v9 (vs ++ [(a9, n9, c9)]) W' := by
  have st : ∀ (k : Nat) (C : Array Value) (tt : TypeId), W.heap[k]? = some (.cells C tt) → tt ≠ 22 → W'.heap[k]? = W.heap[k]? := fun k C tt hk ht => hg.block k (heap_lt hk) fun e => zown_ne h.row hk ht e.symm
  have io : ∀ {v : Value} {xs : List Int}, intE.Own W w0.heap.size v xs → intE.Own W' w0.heap.size v xs := fun hh => own_chg hh fun g cur _ hc => st g cur _ hc (by decide)
  refine ⟨h.rw'.grow h.row (by decide) hg, by rw [st _ _ _ h.bx (by decide)]; exact h.bx, hr, fun i p hp => ?_⟩
  rcases Nat.lt_or_ge i vs.length with hi | hi
  · rw [List.getElem?_append_left hi] at hp
    exact ⟨(h.els i p hp).1, io (h.els i p hp).2⟩
  · have hi2 := idx_lt hp
    simp at hi2
    obtain rfl : i = vs.length := by omega
    rw [List.getElem?_append_right (Nat.le_refl _)] at hp
    simp at hp
    subst hp
    exact ⟨hn, io ho⟩
end

set_option maxRecDepth 100000 in
set_option maxHeartbeats 16000000 in
theorem moves_walk (a b : Option Addr) (n m c d : Nat) (ds ts : List Int) (t f o : Int) (w : World) (hn : ds.length = n) (hv : intE.Rd w (.slice a n c) ds) (hm : ts.length = m) (hu : intE.Rd w (.slice b m d) ts) :
    Calls Try.prog 8 #[.slice a n c, .slice b m d, .agg #[.int .i64 t, .int .i64 f, .int .i64 o]] w fun e w' => e = .returned (.bool true) ∧ Below w.heap.size w w' := by
  obtain ⟨w0, rfl⟩ : ∃ w0, w0 = w := ⟨_, rfl⟩
  have KA := hide awake_any
  have Hn := hide hn
  obtain ⟨g5, hg5⟩ : ∃ g, w0.heap.size = g := ⟨_, rfl⟩
  have HC : Hid (∀ W, Below (w0.alloc (.cells #[.int .i64 t, .int .i64 f, .int .i64 o] 50)).heap.size (w0.alloc (.cells #[.int .i64 t, .int .i64 f, .int .i64 o] 50)) W → W.heap[g5]? = some (.cells #[.int .i64 t, .int .i64 f, .int .i64 o] 50) ∧ Below w0.heap.size w0 W) := hide (fun W hb => by
    have hn := heap_new w0 (.cells #[.int .i64 t, .int .i64 f, .int .i64 o] 50)
    have hb0 : Below w0.heap.size w0 (w0.alloc (.cells #[.int .i64 t, .int .i64 f, .int .i64 o] 50)) := (Below.refl _ _).alloc (Nat.le_refl _) _
    rw [← hb.block _ (heap_lt hn), hg5] at hn
    exact ⟨hn, hb0.trans (hb.mono hb0.size)⟩)
  have K21 : Hid (∀ W, Below w0.heap.size w0 W → Calls Try.prog 21 #[.slice a n c, .slice b m d] W (FilP w0 W ds)) := hide (fun W hb => filled_any (w0 := w0) a b n m c d ds ts W hb hn hm (hv.keep hb) hu)
  by_cases hk : Okd ds
  · have K21' : Hid (∀ W, Below w0.heap.size w0 W → W.heap[g5]? = some (.cells #[.int .i64 t, .int .i64 f, .int .i64 o] 50) → Calls Try.prog 21 #[.slice a n c, .slice b m d] W fun e w' => ∃ B r a c gs R, e = .returned (.pointer (some ⟨r, 0, none⟩)) ∧ MW w0 B r a c gs R R g5 t f o (.slice none 0 0) [] w' ∧ R.length = n) := hide (fun W hb hx => (K21.out W hb).mono (by
      rintro e w' (⟨h, _⟩ | ⟨_, r, a, c, gs, R, h1, h2, h3, h4⟩)
      · exact absurd hk h
      · exact ⟨_, r, a, c, gs, R, h1, ⟨h2, h4.other hx (by decide), El.Own.nil _ _ _, fun i p hp => by cases hp⟩, by rw [fld_len h3]; exact hn⟩))
    have hn32 : n ≤ 32 := by have := hk.1; omega
    have i0 : (n : Int) ≤ 32 := by omega
    clear hk hn hv hm hu K21
    go_enter Try.func8, Try.ntmps8
    go_upto_region 6 with (first
      | (go_at_call 9; refine (KA.out _).mono ?_; rintro e W1 ⟨rfl, hb1⟩; obtain ⟨hbx, hb⟩ := HC.out _ hb1; have HB := hide hb; have HX := hide hbx; clear hb1 hb hbx)
      | (go_at_call 21; refine (K21'.out _ HB.out HX.out).mono ?_; rintro e W2 ⟨BB, r, a1, c1, gs, R, rfl, hM, hRl⟩; have HM := hide hM; have HRl := hide hRl; clear hM hRl))
    try rw [hg5]
    clear hg5 HC K21' KA HB HX
    have K23 : Hid (∀ (W : World) (R1 : Rack) (v8 : Value) (vs : List (Option Addr × Nat × Nat)) (i : Int), MW w0 BB r a1 c1 gs R1 R g5 t f o v8 vs W → Calls Try.prog 23 #[.pointer (some ⟨r, 0, none⟩), .int .i64 i] W fun e w' => ∃ a' c', e = .returned (.slice a' (lnx R1 i).length c') ∧ intE.Own w' W.heap.size (.slice a' (lnx R1 i).length c') (lnx R1 i) ∧ MW w0 BB r a1 c1 gs R1 R g5 t f o v8 vs w') := hide (fun W R1 v8 vs i h => (h.rw'.lane i).mono (by
      rintro e w' ⟨a', c', rfl, h1, _, h2⟩
      exact ⟨a', c', rfl, h1, h.keep h2⟩))
    go_wp2_with fail
    go_loopw [8, 21] (fun v8 v21 wr => ∃ (k : Nat) (vs : List (Option Addr × Nat × Nat)), v21 = .int .i64 k ∧ k ≤ n ∧ Hid (vs.length = k) ∧ Hid (MW w0 BB r a1 c1 gs R R g5 t f o v8 vs wr)) (fun v8 v21 _ => n - (intOf v21).toNat)
    case atStart => exact ⟨0, [], rfl, Nat.zero_le _, hide rfl, HM⟩
    case round =>
      obtain ⟨k, vs, rfl, hk, Hvl, HMk⟩ := hrel
      by_cases hlt : k < n
      · have q0 : (0 : Int) ≤ (k : Int) := by omega
        have q1 : (k : Int) < (n : Int) := by omega
        have K := hide (K23.out wr R u8 vs (k : Int) HMk.out)
        obtain ⟨q, hq⟩ : ∃ q, (lnx R (k : Int)).length = q := ⟨_, rfl⟩
        rw [hq] at K
        have Hq := hide hq
        have HLn : Hid (∀ x, vs.length + [(x : Option Addr × Nat × Nat)].length ≤ 1000000) := hide (fun x => by rw [Hvl.out]; simp; omega)
        have Hvl1 : Hid (∀ x : Option Addr × Nat × Nat, (vs ++ [x]).length = k + 1) := hide (fun x => by rw [List.length_append, Hvl.out]; rfl)
        have HBa : Hid (∀ (W : World) (o' : Obj), Below W.heap.size W (W.alloc o')) := hide (fun W o' => (Below.refl _ _).alloc (Nat.le_refl _) o')
        have HNx : Hid (∀ (a9 : Option Addr) (c9 : Nat) (W9 W' : World) (v9 : Value), MW w0 BB r a1 c1 gs R R g5 t f o u8 vs W9 → intE.Own W9 wr.heap.size (.slice a9 q c9) (lnx R (k : Int)) → slE.Own W' w0.heap.size v9 (vs ++ [(a9, q, c9)]) → W9.grownBy W' u8.ownBlock → MW w0 BB r a1 c1 gs R R g5 t f o v9 (vs ++ [(a9, q, c9)]) W') := hide (fun a9 c9 W9 W' v9 h1 h2 h3 h4 => h1.more (by rw [Hvl.out, Hq.out]) (by rw [Hvl.out]; exact h2.mono HMk.out.rw'.bel.size) h3 h4)
        clear hq hlt
        go_wp2_with (first
          | (go_at_call 23; refine K.out.mono ?_; rintro e W3 ⟨a3, c3, rfl, ho, hM⟩; have HM4 := hide (hM.keep (HBa.out _ (.cells #[.slice a3 q c3] 22))); have HO4 := hide (ho.keep (HBa.out _ (.cells #[.slice a3 q c3] 22))); have HNw : Hid (slE.Rd (W3.alloc (.cells #[.slice a3 q c3] 22)) (.slice (some ⟨W3.heap.size, 0, none⟩) 1 1) [(a3, q, c3)]) := hide (sl_new _ _ _ _ _ rfl); clear ho hM)
          | (at_builtin; refine slE.wp (w0 := w0) HM4.out.rw'.bel (by rfl) _ _ rfl _ _ rfl rfl _ [(a3, q, c3)] HM4.out.row HNw.out (HLn.out _) ?_; intro v' w' ho hg hs hb; have HM5 := hide (HNx.out _ _ _ _ _ HM4.out HO4.out ho hg); clear ho hg hs hb))
        go_roundw
        case rel => exact ⟨k + 1, vs ++ [(a3, q, c3)], by go_num, by omega, hide (Hvl1.out _), HM5⟩
        case measure => simp [intOf]; omega
      · obtain rfl : k = n := by omega
        have q1 : ¬ (k : Int) < (k : Int) := by omega
        clear hlt
        go_upto_region 12 with fail
        obtain ⟨a8, c8, e8⟩ := HMk.out.row.rd.form
        rw [Hvl.out] at e8
        subst e8
        obtain ⟨wx, hwx⟩ : ∃ W, W = wr := ⟨_, rfl⟩
        rw [← hwx] at HMk ⊢
        clear hwx
        obtain ⟨z0, z1, z2⟩ := HMk.out.cells
        have hwf := HMk.out.rw'.wf
        have hfit := HMk.out.rw'.fit
        have K18 : Hid (Calls Try.prog 18 #[.pointer (some ⟨r, 0, none⟩), .agg #[.int .i64 t, .int .i64 f, .int .i64 o]] wx fun e w' => e = .returned (.int .i64 (doC R ⟨t, f, o⟩)) ∧ MW w0 BB r a1 c1 gs (doR R ⟨t, f, o⟩) R g5 t f o (.slice a8 k c8) vs w') := hide ((HMk.out.rw'.do t f o).mono (by
          rintro e w' ⟨rfl, h1, h2⟩
          exact ⟨rfl, HMk.out.fr h1 h2⟩))
        by_cases hc : doC R ⟨t, f, o⟩ = 0
        · rw [hc] at K18
          by_cases ho : 0 ≤ o
          · obtain ⟨hb1, hb2, hb3⟩ := do_back hwf hfit hc ho
            generalize doR R ⟨t, f, o⟩ = R' at *
            have K22 : Hid (∀ W, MW w0 BB r a1 c1 gs R' R g5 t f o (.slice a8 k c8) vs W → Calls Try.prog 22 #[.pointer (some ⟨r, 0, none⟩), .int .i64 t] W fun e w' => e = .returned (.int .i64 o) ∧ MW w0 BB r a1 c1 gs R' R g5 t f o (.slice a8 k c8) vs w') := hide (fun W h => (h.rw'.whr t).mono (by
              rintro e w' ⟨rfl, _, h2⟩
              exact ⟨by rw [hb1], h.keep h2⟩))
            have K18b : Hid (∀ W, MW w0 BB r a1 c1 gs R' R g5 t f o (.slice a8 k c8) vs W → Calls Try.prog 18 #[.pointer (some ⟨r, 0, none⟩), .agg #[.int .i64 t, .int .i64 o, .int .i64 f]] W fun e w' => e = .returned (.int .i64 0) ∧ MW w0 BB r a1 c1 gs R R g5 t f o (.slice a8 k c8) vs w') := hide (fun W h => (h.rw'.do t o f).mono (by
              rintro e w' ⟨rfl, h1, h2⟩
              rw [hb3] at h1
              exact ⟨by rw [hb2], h.fr h1 h2⟩))
            obtain ⟨S0, hS0⟩ : ∃ S : World → Prop, ∀ W, S W ↔ (W.cell? ⟨g5, 0, none⟩ = some (.int .i64 t) ∧ W.cell? ⟨g5, 1, none⟩ = some (.int .i64 f) ∧ W.cell? ⟨g5, 2, none⟩ = some (.int .i64 o)) := ⟨_, fun _ => Iff.rfl⟩
            have SD : Hid (∀ W, S0 W → W.cell? ⟨g5, 0, none⟩ = some (.int .i64 t) ∧ W.cell? ⟨g5, 1, none⟩ = some (.int .i64 f) ∧ W.cell? ⟨g5, 2, none⟩ = some (.int .i64 o)) := hide (fun W h => (hS0 W).1 h)
            have SI : Hid (∀ W, MW w0 BB r a1 c1 gs R' R g5 t f o (.slice a8 k c8) vs W → S0 W) := hide (fun W h => (hS0 W).2 h.cells)
            have SI2 : Hid (∀ W, MW w0 BB r a1 c1 gs R R g5 t f o (.slice a8 k c8) vs W → S0 W) := hide (fun W h => (hS0 W).2 h.cells)
            have v0 : o ≥ 0 := ho
            have v1 : (o != o) = false := bne_self_eq_false _
            clear hb1 hb2 hb3 hc hwf hfit hS0 HM
            go_upto_region 13 with (go_at_call 18; refine K18.out.mono ?_; rintro e W5 ⟨rfl, hd⟩; have HM5 := hide hd; clear hd)
            obtain ⟨y0, y1, y2⟩ := HM5.out.cells
            clear z0 z1 z2
            go_upto_region 14 with fail
            refine wp_region_held_drew (S := S0) (by kernel_rfl) (SI.out _ (HM5.out.drewN 1)) (fun hS0 => ?_)
            refine wpAnyH_take (i := 0) (v := .pointer (some ⟨r, 0, none⟩)) rfl (by kernel_rfl) (by kernel_rfl) (by kernel_rfl) (fun _ _ _ h => h) (Or.inl ⟨by kernel_rfl, fun W' hW => by go_simp⟩) hS0 ?_
            refine wpAnyH_take (i := 1) (v := .pointer (some ⟨g5, 0, none⟩)) rfl (by kernel_rfl) (by kernel_rfl) (by kernel_rfl) (fun _ _ _ h => h) (Or.inl ⟨by kernel_rfl, fun W' hW => by go_simp⟩) hS0 ?_
            refine wpAnyH_take (i := 2) (v := .int .i64 t) rfl (by kernel_rfl) (by kernel_rfl) (by kernel_rfl) (fun _ _ _ h => h) (Or.inl ⟨by kernel_rfl, fun W' hW => by have z0 := SD.out W' hW; go_simp⟩) hS0 ?_
            refine wpAnyH_take (i := 4) (v := .pointer (some ⟨g5, 2, none⟩)) rfl (by kernel_rfl) (by kernel_rfl) (by kernel_rfl) (fun _ _ _ h => h) (Or.inl ⟨by kernel_rfl, fun W' hW => by go_simp⟩) hS0 ?_
            refine wpAnyH_take (i := 5) (v := .int .i64 o) rfl (by kernel_rfl) (by kernel_rfl) (by kernel_rfl) (fun _ _ _ h => h) (Or.inl ⟨by kernel_rfl, fun W' hW => by have z0 := SD.out W' hW; go_simp⟩) hS0 ?_
            refine wpAnyH_ready (rs := [3]) (by kernel_rfl) (by simp) ?_
            refine AllReadyH.cons rfl (fun K hK => ?_) AllReadyH.nil
            go_simp
            go_at_call 22
            refine (K22.out _ (HM5.out.drewN 1)).mono ?_
            rintro e W6 ⟨rfl, hd⟩
            have HM6 := hide hd; clear hd
            go_simp
            refine hK.out _ _ (SI.out _ HM6.out) (fun _ => ?_)
            clear hK K
            refine wpAnyH_ready (rs := [6]) (by kernel_rfl) (by simp) ?_
            refine AllReadyH.cons rfl (fun K hK => ?_) AllReadyH.nil
            go_simp
            refine hK.out _ _ (SI.out _ HM6.out) (fun _ => ?_)
            clear hK K
            refine wpAnyH_ready (rs := [7]) (by kernel_rfl) (by simp) ?_
            refine AllReadyH.cons rfl (fun K hK => ?_) AllReadyH.nil
            go_simp
            refine hK.out _ _ (SI.out _ HM6.out) (fun _ => ?_)
            clear hK K
            refine wpAnyH_take (i := 8) (v := .pointer (some ⟨r, 0, none⟩)) rfl (by kernel_rfl) (by kernel_rfl) (by kernel_rfl) (fun _ _ _ h => h) (Or.inl ⟨by kernel_rfl, fun W' hW => by go_simp⟩) (SI.out _ HM6.out) ?_
            refine wpAnyH_take (i := 9) (v := .pointer (some ⟨g5, 0, none⟩)) rfl (by kernel_rfl) (by kernel_rfl) (by kernel_rfl) (fun _ _ _ h => h) (Or.inl ⟨by kernel_rfl, fun W' hW => by go_simp⟩) (SI.out _ HM6.out) ?_
            refine wpAnyH_take (i := 10) (v := .int .i64 t) rfl (by kernel_rfl) (by kernel_rfl) (by kernel_rfl) (fun _ _ _ h => h) (Or.inl ⟨by kernel_rfl, fun W' hW => by have z0 := SD.out W' hW; go_simp⟩) (SI.out _ HM6.out) ?_
            refine wpAnyH_take (i := 11) (v := .pointer (some ⟨g5, 2, none⟩)) rfl (by kernel_rfl) (by kernel_rfl) (by kernel_rfl) (fun _ _ _ h => h) (Or.inl ⟨by kernel_rfl, fun W' hW => by go_simp⟩) (SI.out _ HM6.out) ?_
            refine wpAnyH_take (i := 12) (v := .int .i64 o) rfl (by kernel_rfl) (by kernel_rfl) (by kernel_rfl) (fun _ _ _ h => h) (Or.inl ⟨by kernel_rfl, fun W' hW => by have z0 := SD.out W' hW; go_simp⟩) (SI.out _ HM6.out) ?_
            refine wpAnyH_take (i := 13) (v := .pointer (some ⟨g5, 1, none⟩)) rfl (by kernel_rfl) (by kernel_rfl) (by kernel_rfl) (fun _ _ _ h => h) (Or.inl ⟨by kernel_rfl, fun W' hW => by go_simp⟩) (SI.out _ HM6.out) ?_
            refine wpAnyH_take (i := 14) (v := .int .i64 f) rfl (by kernel_rfl) (by kernel_rfl) (by kernel_rfl) (fun _ _ _ h => h) (Or.inl ⟨by kernel_rfl, fun W' hW => by have z0 := SD.out W' hW; go_simp⟩) (SI.out _ HM6.out) ?_
            refine wpAnyH_ready (rs := [15]) (by kernel_rfl) (by simp) ?_
            refine AllReadyH.cons rfl (fun K hK => ?_) AllReadyH.nil
            go_simp
            refine hK.out _ _ (SI.out _ HM6.out) (fun _ => ?_)
            clear hK K
            refine wpAnyH_ready (rs := [16]) (by kernel_rfl) (by simp) ?_
            refine AllReadyH.cons rfl (fun K hK => ?_) AllReadyH.nil
            go_simp
            go_at_call 18
            refine (K18b.out _ HM6.out).mono ?_
            rintro e W7 ⟨rfl, hd⟩
            have HM7 := hide hd; clear hd
            go_simp
            refine hK.out _ _ (SI2.out _ HM7.out) (fun _ => ?_)
            clear hK K
            refine wpAnyH_ready (rs := [17]) (by kernel_rfl) (by simp) ?_
            refine AllReadyH.cons rfl (fun K hK => ?_) AllReadyH.nil
            go_simp
            refine hK.out _ _ (SI2.out _ HM7.out) (fun _ => ?_)
            clear hK K
            refine wpAnyH_ready (rs := [18]) (by kernel_rfl) (by simp) ?_
            refine AllReadyH.cons rfl (fun K hK => ?_) AllReadyH.nil
            go_simp
            refine hK.out _ _ (SI2.out _ HM7.out) (fun _ => ?_)
            clear hK K
            refine wpAnyH_done (by kernel_rfl) ?_ _
            clear hS0 SI SI2 SD y0 y1 y2 HM5 HM6 K22 K18b K18 HMk
            go_upto_region 18 with fail
            go_wp2_with fail
            go_loopw [84] (fun v84 wq => ∃ q : Nat, v84 = .int .i64 q ∧ q ≤ k ∧ Hid (MW w0 BB r a1 c1 gs R R g5 t f o (.slice a8 k c8) vs wq)) (fun v84 _ => k - (intOf v84).toNat)
            case atStart => exact ⟨0, rfl, Nat.zero_le _, HM7⟩
            case round =>
              obtain ⟨q, rfl, hq, HMq⟩ := hrel
              obtain ⟨wq, hwq⟩ : ∃ W, W = wr := ⟨_, rfl⟩
              rw [← hwq] at HMq ⊢
              clear hwq
              by_cases hlt : q < k
              · obtain ⟨⟨p1, p2, p3⟩, hp⟩ : ∃ p, vs[q]? = some p := ⟨_, List.getElem?_eq_getElem (by rw [Hvl.out]; exact hlt)⟩
                obtain ⟨b8, off8, e8, z8⟩ := sl_at HMq.out.row.rd q _ hp
                simp only at z8
                have hpl := (HMq.out.els q _ hp).1
                simp only at hpl
                have K23c : Hid (∀ W, MW w0 BB r a1 c1 gs R R g5 t f o (.slice a8 k c8) vs W → Calls Try.prog 23 #[.pointer (some ⟨r, 0, none⟩), .int .i64 q] W fun e w' => ∃ a' c', e = .returned (.slice a' p2 c') ∧ intE.Rd w' (.slice a' p2 c') (lnx R (q : Int)) ∧ MW w0 BB r a1 c1 gs R R g5 t f o (.slice a8 k c8) vs w') := hide (fun W h => (K23.out W R _ vs (q : Int) h).mono (by
                  rintro e w' ⟨a', c', rfl, h1, h2⟩
                  rw [← hpl] at h1
                  exact ⟨a', c', by rw [hpl], h1.rd, h2⟩))
                have hl8 : p2 ≤ 8 := by
                  rw [hpl]
                  obtain ⟨l, hl⟩ : ∃ l, R[q]? = some l := ⟨_, List.getElem?_eq_getElem (by rw [HRl.out]; exact hlt)⟩
                  have := HMq.out.rw'.dep q l hl
                  have e : lnx R (q : Int) = l.2 := by unfold lnx; rw [if_pos (by rw [HRl.out]; omega), Int.toNat_natCast, ln_at hl]
                  rw [e]; omega
                have K12 : Hid (∀ (W : World) (a' : Option Addr) (c' : Nat), MW w0 BB r a1 c1 gs R R g5 t f o (.slice a8 k c8) vs W → intE.Rd W (.slice a' p2 c') (lnx R (q : Int)) → Calls Try.prog 12 #[.slice a' p2 c', .slice p1 p2 p3] W fun e w' => e = .returned (.bool true) ∧ ∃ qq, w' = W.drewN qq) := hide (fun W a' c' h h1 => (ints_any a' p1 c' p3 p2 p2 _ _ W hpl.symm hpl.symm h1 (h.els q _ hp).2.rd (by omega)).mono (by
                  rintro e w' ⟨rfl, hq⟩
                  exact ⟨by rw [decide_eq_true rfl], hq⟩))
                obtain ⟨S0, hS0⟩ : ∃ S : World → Prop, ∀ W, S W ↔ W.cell? ⟨b8, off8 + q, none⟩ = some (.slice p1 p2 p3) := ⟨_, fun _ => Iff.rfl⟩
                have SD : Hid (∀ W, S0 W → W.cell? ⟨b8, off8 + q, none⟩ = some (.slice p1 p2 p3)) := hide (fun W h => (hS0 W).1 h)
                have SI : Hid (∀ W, MW w0 BB r a1 c1 gs R R g5 t f o (.slice a8 k c8) vs W → S0 W) := hide (fun W h => (hS0 W).2 (by
                  obtain ⟨b, off, e, z⟩ := sl_at h.row.rd q _ hp
                  rw [e8] at e
                  cases e
                  exact z))
                subst e8
                have q2 : (0 : Int) ≤ (q : Int) := by omega
                have q3 : (q : Int) < (k : Int) := by omega
                clear hp hpl z8 hS0 hl8 hlt
                go_upto_region 21 with fail
                refine wp_region_held_drew (S := S0) (by kernel_rfl) (SI.out _ (HMq.out.drewN 1)) (fun hS0 => ?_)
                refine wpAnyH_take (i := 0) (v := .pointer (some ⟨r, 0, none⟩)) rfl (by kernel_rfl) (by kernel_rfl) (by kernel_rfl) (fun _ _ _ h => h) (Or.inl ⟨by kernel_rfl, fun W' hW => by go_simp⟩) hS0 ?_
                refine wpAnyH_take (i := 1) (v := .int .i64 q) rfl (by kernel_rfl) (by kernel_rfl) (by kernel_rfl) (fun _ _ _ h => h) (Or.inl ⟨by kernel_rfl, fun W' hW => by go_simp⟩) hS0 ?_
                refine wpAnyH_take (i := 3) (v := .slice (some ⟨b8, off8, none⟩) k c8) rfl (by kernel_rfl) (by kernel_rfl) (by kernel_rfl) (fun _ _ _ h => h) (Or.inl ⟨by kernel_rfl, fun W' hW => by go_simp⟩) hS0 ?_
                refine wpAnyH_take (i := 4) (v := .int .i64 q) rfl (by kernel_rfl) (by kernel_rfl) (by kernel_rfl) (fun _ _ _ h => h) (Or.inl ⟨by kernel_rfl, fun W' hW => by go_simp⟩) hS0 ?_
                refine wpAnyH_take (i := 5) (v := .pointer (some ⟨b8, off8 + q, none⟩)) rfl (by kernel_rfl) (by kernel_rfl) (by kernel_rfl) (fun _ _ _ h => h) (Or.inl ⟨by kernel_rfl, fun W' hW => by go_simp⟩) hS0 ?_
                refine wpAnyH_take (i := 6) (v := .slice p1 p2 p3) rfl (by kernel_rfl) (by kernel_rfl) (by kernel_rfl) (fun _ _ _ h => h) (Or.inl ⟨by kernel_rfl, fun W' hW => by have z0 := SD.out W' hW; go_simp⟩) hS0 ?_
                refine wpAnyH_ready (rs := [2]) (by kernel_rfl) (by simp) ?_
                refine AllReadyH.cons rfl (fun K hK => ?_) AllReadyH.nil
                go_simp
                go_at_call 23
                refine (K23c.out _ (HMq.out.drewN 1)).mono ?_
                rintro e W9 ⟨a9, c9, rfl, ho, hd⟩
                have HM9 := hide hd; have HO9 := hide ho; clear hd ho
                go_simp
                refine hK.out _ _ (SI.out _ HM9.out) (fun _ => ?_)
                clear hK K
                refine wpAnyH_ready (rs := [7]) (by kernel_rfl) (by simp) ?_
                refine AllReadyH.cons rfl (fun K hK => ?_) AllReadyH.nil
                go_simp
                go_at_call 12
                refine (K12.out _ _ _ HM9.out HO9.out).mono ?_
                rintro e W10 ⟨rfl, qq, rfl⟩
                have HM10 := hide (HM9.out.drewN qq)
                go_simp
                refine hK.out _ _ (SI.out _ HM10.out) (fun _ => ?_)
                clear hK K
                refine wpAnyH_ready (rs := [8]) (by kernel_rfl) (by simp) ?_
                refine AllReadyH.cons rfl (fun K hK => ?_) AllReadyH.nil
                go_simp
                refine hK.out _ _ (SI.out _ HM10.out) (fun _ => ?_)
                clear hK K
                refine wpAnyH_done (by kernel_rfl) ?_ _
                go_wp2_with fail
                go_roundw
                case rel => exact ⟨q + 1, by go_num, by omega, HM10⟩
                case measure => simp [intOf]; omega
              · obtain rfl : q = k := by omega
                have q2 : ¬ (q : Int) < (q : Int) := by omega
                clear hlt
                go_wp2_with fail
                go_ret
                exact ⟨rfl, HMq.out.rw'.bel⟩
          · obtain ⟨hb1, fi, hfi, hfl, hlen⟩ := do_away hwf hc (by omega)
            generalize doR R ⟨t, f, o⟩ = R' at *
            subst hfi
            have hfk : fi < k := by rw [← HRl.out]; exact hfl
            obtain ⟨⟨p1, p2, p3⟩, hp⟩ : ∃ p, vs[fi]? = some p := ⟨_, List.getElem?_eq_getElem (by rw [Hvl.out]; exact hfk)⟩
            obtain ⟨b8, off8, e8, z8⟩ := sl_at HMk.out.row.rd fi _ hp
            subst e8
            have hpl := (HMk.out.els fi _ hp).1
            simp only at hpl z8
            obtain ⟨lo, hlo⟩ : ∃ lo, (lnx R' (fi : Int)).length = lo := ⟨_, rfl⟩
            rw [hlo, ← hpl] at hlen
            have hp8 : p2 ≤ 8 := by
              rw [hpl]
              obtain ⟨l, hl⟩ : ∃ l, R[fi]? = some l := ⟨_, List.getElem?_eq_getElem hfl⟩
              have := HMk.out.rw'.dep fi l hl
              have e : lnx R (fi : Int) = l.2 := by unfold lnx; rw [if_pos (by omega), Int.toNat_natCast, ln_at hl]
              rw [e]; omega
            have K22 : Hid (∀ W, MW w0 BB r a1 c1 gs R' R g5 t fi o (.slice (some ⟨b8, off8, none⟩) k c8) vs W → Calls Try.prog 22 #[.pointer (some ⟨r, 0, none⟩), .int .i64 t] W fun e w' => e = .returned (.int .i64 (-1)) ∧ MW w0 BB r a1 c1 gs R' R g5 t fi o (.slice (some ⟨b8, off8, none⟩) k c8) vs w') := hide (fun W h => (h.rw'.whr t).mono (by
              rintro e w' ⟨rfl, _, h2⟩
              exact ⟨by rw [hb1], h.keep h2⟩))
            have K23b : Hid (∀ W, MW w0 BB r a1 c1 gs R' R g5 t fi o (.slice (some ⟨b8, off8, none⟩) k c8) vs W → Calls Try.prog 23 #[.pointer (some ⟨r, 0, none⟩), .int .i64 fi] W fun e w' => ∃ a' c', e = .returned (.slice a' lo c') ∧ MW w0 BB r a1 c1 gs R' R g5 t fi o (.slice (some ⟨b8, off8, none⟩) k c8) vs w') := hide (fun W h => (K23.out W R' _ vs (fi : Int) h).mono (by
              rintro e w' ⟨a', c', rfl, h1, h2⟩
              exact ⟨a', c', by rw [hlo], h2⟩))
            obtain ⟨S0, hS0⟩ : ∃ S : World → Prop, ∀ W, S W ↔ (W.cell? ⟨g5, 0, none⟩ = some (.int .i64 t) ∧ W.cell? ⟨g5, 1, none⟩ = some (.int .i64 fi) ∧ W.cell? ⟨b8, off8 + fi, none⟩ = some (.slice p1 p2 p3)) := ⟨_, fun _ => Iff.rfl⟩
            have SD : Hid (∀ W, S0 W → W.cell? ⟨g5, 0, none⟩ = some (.int .i64 t) ∧ W.cell? ⟨g5, 1, none⟩ = some (.int .i64 fi) ∧ W.cell? ⟨b8, off8 + fi, none⟩ = some (.slice p1 p2 p3)) := hide (fun W h => (hS0 W).1 h)
            have SI : Hid (∀ W, MW w0 BB r a1 c1 gs R' R g5 t fi o (.slice (some ⟨b8, off8, none⟩) k c8) vs W → S0 W) := hide (fun W h => (hS0 W).2 ⟨h.cells.1, h.cells.2.1, by
              obtain ⟨b, off, e, z⟩ := sl_at h.row.rd fi _ hp
              cases e
              exact z⟩)
            have v0 : ¬ o ≥ 0 := ho
            have v1 : IntKind.i64.wrap ((p2 : Int) - 1) = (lo : Int) := by simp [IntKind.wrap, IntKind.bits, IntKind.signed]; omega
            have v5 : IntKind.i64.wrap (lo : Int) = (lo : Int) := by simp [IntKind.wrap, IntKind.bits, IntKind.signed]; omega
            have v2 : (0 : Int) ≤ (fi : Int) := by omega
            have v3 : (fi : Int) < (k : Int) := by omega
            have v4 : (p2 : Int) - 1 = (lo : Int) := by omega
            clear hb1 hc hwf hfit hS0 HM hp hpl hlen hlo hfl z8 hp8
            go_upto_region 13 with (go_at_call 18; refine K18.out.mono ?_; rintro e W5 ⟨rfl, hd⟩; have HM5 := hide hd; clear hd)
            obtain ⟨y0, y1, y2⟩ := HM5.out.cells
            clear z0 z1 z2
            go_upto_region 17 with fail
            refine wp_region_held_drew (S := S0) (by kernel_rfl) (SI.out _ (HM5.out.drewN 1)) (fun hS0 => ?_)
            refine wpAnyH_take (i := 0) (v := .pointer (some ⟨r, 0, none⟩)) rfl (by kernel_rfl) (by kernel_rfl) (by kernel_rfl) (fun _ _ _ h => h) (Or.inl ⟨by kernel_rfl, fun W' hW => by go_simp⟩) hS0 ?_
            refine wpAnyH_take (i := 1) (v := .pointer (some ⟨g5, 0, none⟩)) rfl (by kernel_rfl) (by kernel_rfl) (by kernel_rfl) (fun _ _ _ h => h) (Or.inl ⟨by kernel_rfl, fun W' hW => by go_simp⟩) hS0 ?_
            refine wpAnyH_take (i := 2) (v := .int .i64 t) rfl (by kernel_rfl) (by kernel_rfl) (by kernel_rfl) (fun _ _ _ h => h) (Or.inl ⟨by kernel_rfl, fun W' hW => by have z0 := SD.out W' hW; go_simp⟩) hS0 ?_
            refine wpAnyH_ready (rs := [3]) (by kernel_rfl) (by simp) ?_
            refine AllReadyH.cons rfl (fun K hK => ?_) AllReadyH.nil
            go_simp
            go_at_call 22
            refine (K22.out _ (HM5.out.drewN 1)).mono ?_
            rintro e W6 ⟨rfl, hd⟩
            have HM6 := hide hd; clear hd
            go_simp
            refine hK.out _ _ (SI.out _ HM6.out) (fun _ => ?_)
            clear hK K
            refine wpAnyH_ready (rs := [4]) (by kernel_rfl) (by simp) ?_
            refine AllReadyH.cons rfl (fun K hK => ?_) AllReadyH.nil
            go_simp
            refine hK.out _ _ (SI.out _ HM6.out) (fun _ => ?_)
            clear hK K
            refine wpAnyH_ready (rs := [5]) (by kernel_rfl) (by simp) ?_
            refine AllReadyH.cons rfl (fun K hK => ?_) AllReadyH.nil
            go_simp
            refine hK.out _ _ (SI.out _ HM6.out) (fun _ => ?_)
            clear hK K
            refine wpAnyH_take (i := 6) (v := .pointer (some ⟨r, 0, none⟩)) rfl (by kernel_rfl) (by kernel_rfl) (by kernel_rfl) (fun _ _ _ h => h) (Or.inl ⟨by kernel_rfl, fun W' hW => by go_simp⟩) (SI.out _ HM6.out) ?_
            refine wpAnyH_take (i := 7) (v := .pointer (some ⟨g5, 1, none⟩)) rfl (by kernel_rfl) (by kernel_rfl) (by kernel_rfl) (fun _ _ _ h => h) (Or.inl ⟨by kernel_rfl, fun W' hW => by go_simp⟩) (SI.out _ HM6.out) ?_
            refine wpAnyH_take (i := 8) (v := .int .i64 fi) rfl (by kernel_rfl) (by kernel_rfl) (by kernel_rfl) (fun _ _ _ h => h) (Or.inl ⟨by kernel_rfl, fun W' hW => by have z0 := SD.out W' hW; go_simp⟩) (SI.out _ HM6.out) ?_
            refine wpAnyH_take (i := 11) (v := .slice (some ⟨b8, off8, none⟩) k c8) rfl (by kernel_rfl) (by kernel_rfl) (by kernel_rfl) (fun _ _ _ h => h) (Or.inl ⟨by kernel_rfl, fun W' hW => by go_simp⟩) (SI.out _ HM6.out) ?_
            refine wpAnyH_take (i := 12) (v := .pointer (some ⟨g5, 1, none⟩)) rfl (by kernel_rfl) (by kernel_rfl) (by kernel_rfl) (fun _ _ _ h => h) (Or.inl ⟨by kernel_rfl, fun W' hW => by go_simp⟩) (SI.out _ HM6.out) ?_
            refine wpAnyH_take (i := 13) (v := .int .i64 fi) rfl (by kernel_rfl) (by kernel_rfl) (by kernel_rfl) (fun _ _ _ h => h) (Or.inl ⟨by kernel_rfl, fun W' hW => by have z0 := SD.out W' hW; go_simp⟩) (SI.out _ HM6.out) ?_
            refine wpAnyH_take (i := 14) (v := .pointer (some ⟨b8, off8 + fi, none⟩)) rfl (by kernel_rfl) (by kernel_rfl) (by kernel_rfl) (fun _ _ _ h => h) (Or.inl ⟨by kernel_rfl, fun W' hW => by go_simp⟩) (SI.out _ HM6.out) ?_
            refine wpAnyH_take (i := 15) (v := .slice p1 p2 p3) rfl (by kernel_rfl) (by kernel_rfl) (by kernel_rfl) (fun _ _ _ h => h) (Or.inl ⟨by kernel_rfl, fun W' hW => by have z0 := SD.out W' hW; go_simp⟩) (SI.out _ HM6.out) ?_
            refine wpAnyH_take (i := 16) (v := .int .i64 p2) rfl (by kernel_rfl) (by kernel_rfl) (by kernel_rfl) (fun _ _ _ h => h) (Or.inl ⟨by kernel_rfl, fun W' hW => by go_simp⟩) (SI.out _ HM6.out) ?_
            refine wpAnyH_take (i := 17) (v := .int .i64 lo) rfl (by kernel_rfl) (by kernel_rfl) (by kernel_rfl) (fun _ _ _ h => h) (Or.inl ⟨by kernel_rfl, fun W' hW => by go_simp⟩) (SI.out _ HM6.out) ?_
            refine wpAnyH_ready (rs := [9]) (by kernel_rfl) (by simp) ?_
            refine AllReadyH.cons rfl (fun K hK => ?_) AllReadyH.nil
            go_simp
            go_at_call 23
            refine (K23b.out _ HM6.out).mono ?_
            rintro e W7 ⟨a7, c7, rfl, hd⟩
            have HM7 := hide hd; clear hd
            go_simp
            refine hK.out _ _ (SI.out _ HM7.out) (fun _ => ?_)
            clear hK K
            refine wpAnyH_ready (rs := [10]) (by kernel_rfl) (by simp) ?_
            refine AllReadyH.cons rfl (fun K hK => ?_) AllReadyH.nil
            go_simp
            refine hK.out _ _ (SI.out _ HM7.out) (fun _ => ?_)
            clear hK K
            refine wpAnyH_ready (rs := [18]) (by kernel_rfl) (by simp) ?_
            refine AllReadyH.cons rfl (fun K hK => ?_) AllReadyH.nil
            go_simp
            refine hK.out _ _ (SI.out _ HM7.out) (fun _ => ?_)
            clear hK K
            refine wpAnyH_ready (rs := [19]) (by kernel_rfl) (by simp) ?_
            refine AllReadyH.cons rfl (fun K hK => ?_) AllReadyH.nil
            go_simp
            refine hK.out _ _ (SI.out _ HM7.out) (fun _ => ?_)
            clear hK K
            refine wpAnyH_ready (rs := [20]) (by kernel_rfl) (by simp) ?_
            refine AllReadyH.cons rfl (fun K hK => ?_) AllReadyH.nil
            go_simp
            refine hK.out _ _ (SI.out _ HM7.out) (fun _ => ?_)
            clear hK K
            refine wpAnyH_done (by kernel_rfl) ?_ _
            go_wp2_with fail
            go_ret
            exact ⟨rfl, HM7.out.rw'.bel⟩
        · have hcr : doR R ⟨t, f, o⟩ = R := if_neg hc
          rw [hcr] at K18
          generalize doC R ⟨t, f, o⟩ = pc at *
          have v0 : (pc == 0) = false := beq_eq_false_iff_ne.2 hc
          clear hc hcr hwf hfit HM
          go_upto_region 13 with (go_at_call 18; refine K18.out.mono ?_; rintro e W5 ⟨rfl, hd⟩; have HM5 := hide hd; clear hd)
          obtain ⟨y0, y1, y2⟩ := HM5.out.cells
          clear z0 z1 z2
          go_upto_region 18 with fail
          clear y0 y1 y2 K18 HMk
          go_wp2_with fail
          go_loopw [84] (fun v84 wq => ∃ q : Nat, v84 = .int .i64 q ∧ q ≤ k ∧ Hid (MW w0 BB r a1 c1 gs R R g5 t f o (.slice a8 k c8) vs wq)) (fun v84 _ => k - (intOf v84).toNat)
          case atStart => exact ⟨0, rfl, Nat.zero_le _, HM5⟩
          case round =>
            obtain ⟨q, rfl, hq, HMq⟩ := hrel
            obtain ⟨wq, hwq⟩ : ∃ W, W = wr := ⟨_, rfl⟩
            rw [← hwq] at HMq ⊢
            clear hwq
            by_cases hlt : q < k
            · obtain ⟨⟨p1, p2, p3⟩, hp⟩ : ∃ p, vs[q]? = some p := ⟨_, List.getElem?_eq_getElem (by rw [Hvl.out]; exact hlt)⟩
              obtain ⟨b8, off8, e8, z8⟩ := sl_at HMq.out.row.rd q _ hp
              simp only at z8
              have hpl := (HMq.out.els q _ hp).1
              simp only at hpl
              have K23c : Hid (∀ W, MW w0 BB r a1 c1 gs R R g5 t f o (.slice a8 k c8) vs W → Calls Try.prog 23 #[.pointer (some ⟨r, 0, none⟩), .int .i64 q] W fun e w' => ∃ a' c', e = .returned (.slice a' p2 c') ∧ intE.Rd w' (.slice a' p2 c') (lnx R (q : Int)) ∧ MW w0 BB r a1 c1 gs R R g5 t f o (.slice a8 k c8) vs w') := hide (fun W h => (K23.out W R _ vs (q : Int) h).mono (by
                rintro e w' ⟨a', c', rfl, h1, h2⟩
                rw [← hpl] at h1
                exact ⟨a', c', by rw [hpl], h1.rd, h2⟩))
              have hl8 : p2 ≤ 8 := by
                rw [hpl]
                obtain ⟨l, hl⟩ : ∃ l, R[q]? = some l := ⟨_, List.getElem?_eq_getElem (by rw [HRl.out]; exact hlt)⟩
                have := HMq.out.rw'.dep q l hl
                have e : lnx R (q : Int) = l.2 := by unfold lnx; rw [if_pos (by rw [HRl.out]; omega), Int.toNat_natCast, ln_at hl]
                rw [e]; omega
              have K12 : Hid (∀ (W : World) (a' : Option Addr) (c' : Nat), MW w0 BB r a1 c1 gs R R g5 t f o (.slice a8 k c8) vs W → intE.Rd W (.slice a' p2 c') (lnx R (q : Int)) → Calls Try.prog 12 #[.slice a' p2 c', .slice p1 p2 p3] W fun e w' => e = .returned (.bool true) ∧ ∃ qq, w' = W.drewN qq) := hide (fun W a' c' h h1 => (ints_any a' p1 c' p3 p2 p2 _ _ W hpl.symm hpl.symm h1 (h.els q _ hp).2.rd (by omega)).mono (by
                rintro e w' ⟨rfl, hq⟩
                exact ⟨by rw [decide_eq_true rfl], hq⟩))
              obtain ⟨S0, hS0⟩ : ∃ S : World → Prop, ∀ W, S W ↔ W.cell? ⟨b8, off8 + q, none⟩ = some (.slice p1 p2 p3) := ⟨_, fun _ => Iff.rfl⟩
              have SD : Hid (∀ W, S0 W → W.cell? ⟨b8, off8 + q, none⟩ = some (.slice p1 p2 p3)) := hide (fun W h => (hS0 W).1 h)
              have SI : Hid (∀ W, MW w0 BB r a1 c1 gs R R g5 t f o (.slice a8 k c8) vs W → S0 W) := hide (fun W h => (hS0 W).2 (by
                obtain ⟨b, off, e, z⟩ := sl_at h.row.rd q _ hp
                rw [e8] at e
                cases e
                exact z))
              subst e8
              have q2 : (0 : Int) ≤ (q : Int) := by omega
              have q3 : (q : Int) < (k : Int) := by omega
              clear hp hpl z8 hS0 hl8 hlt
              go_upto_region 21 with fail
              refine wp_region_held_drew (S := S0) (by kernel_rfl) (SI.out _ (HMq.out.drewN 1)) (fun hS0 => ?_)
              refine wpAnyH_take (i := 0) (v := .pointer (some ⟨r, 0, none⟩)) rfl (by kernel_rfl) (by kernel_rfl) (by kernel_rfl) (fun _ _ _ h => h) (Or.inl ⟨by kernel_rfl, fun W' hW => by go_simp⟩) hS0 ?_
              refine wpAnyH_take (i := 1) (v := .int .i64 q) rfl (by kernel_rfl) (by kernel_rfl) (by kernel_rfl) (fun _ _ _ h => h) (Or.inl ⟨by kernel_rfl, fun W' hW => by go_simp⟩) hS0 ?_
              refine wpAnyH_take (i := 3) (v := .slice (some ⟨b8, off8, none⟩) k c8) rfl (by kernel_rfl) (by kernel_rfl) (by kernel_rfl) (fun _ _ _ h => h) (Or.inl ⟨by kernel_rfl, fun W' hW => by go_simp⟩) hS0 ?_
              refine wpAnyH_take (i := 4) (v := .int .i64 q) rfl (by kernel_rfl) (by kernel_rfl) (by kernel_rfl) (fun _ _ _ h => h) (Or.inl ⟨by kernel_rfl, fun W' hW => by go_simp⟩) hS0 ?_
              refine wpAnyH_take (i := 5) (v := .pointer (some ⟨b8, off8 + q, none⟩)) rfl (by kernel_rfl) (by kernel_rfl) (by kernel_rfl) (fun _ _ _ h => h) (Or.inl ⟨by kernel_rfl, fun W' hW => by go_simp⟩) hS0 ?_
              refine wpAnyH_take (i := 6) (v := .slice p1 p2 p3) rfl (by kernel_rfl) (by kernel_rfl) (by kernel_rfl) (fun _ _ _ h => h) (Or.inl ⟨by kernel_rfl, fun W' hW => by have z0 := SD.out W' hW; go_simp⟩) hS0 ?_
              refine wpAnyH_ready (rs := [2]) (by kernel_rfl) (by simp) ?_
              refine AllReadyH.cons rfl (fun K hK => ?_) AllReadyH.nil
              go_simp
              go_at_call 23
              refine (K23c.out _ (HMq.out.drewN 1)).mono ?_
              rintro e W9 ⟨a9, c9, rfl, ho, hd⟩
              have HM9 := hide hd; have HO9 := hide ho; clear hd ho
              go_simp
              refine hK.out _ _ (SI.out _ HM9.out) (fun _ => ?_)
              clear hK K
              refine wpAnyH_ready (rs := [7]) (by kernel_rfl) (by simp) ?_
              refine AllReadyH.cons rfl (fun K hK => ?_) AllReadyH.nil
              go_simp
              go_at_call 12
              refine (K12.out _ _ _ HM9.out HO9.out).mono ?_
              rintro e W10 ⟨rfl, qq, rfl⟩
              have HM10 := hide (HM9.out.drewN qq)
              go_simp
              refine hK.out _ _ (SI.out _ HM10.out) (fun _ => ?_)
              clear hK K
              refine wpAnyH_ready (rs := [8]) (by kernel_rfl) (by simp) ?_
              refine AllReadyH.cons rfl (fun K hK => ?_) AllReadyH.nil
              go_simp
              refine hK.out _ _ (SI.out _ HM10.out) (fun _ => ?_)
              clear hK K
              refine wpAnyH_done (by kernel_rfl) ?_ _
              go_wp2_with fail
              go_roundw
              case rel => exact ⟨q + 1, by go_num, by omega, HM10⟩
              case measure => simp [intOf]; omega
            · obtain rfl : q = k := by omega
              have q2 : ¬ (q : Int) < (q : Int) := by omega
              clear hlt
              go_wp2_with fail
              go_ret
              exact ⟨rfl, HMq.out.rw'.bel⟩
  · have K21' : Hid (∀ W, Below w0.heap.size w0 W → Calls Try.prog 21 #[.slice a n c, .slice b m d] W fun e w' => e = .returned (.pointer none) ∧ Below w0.heap.size w0 w') := hide (fun W hb => (K21.out W hb).mono (by
      rintro e w' (⟨_, h1, h2⟩ | ⟨h, _⟩)
      · exact ⟨h1, hb.trans (h2.mono hb.size)⟩
      · exact absurd h hk))
    clear hk hn hv hm hu K21
    go_enter Try.func8, Try.ntmps8
    go_wp2_with (first
      | (go_at_call 9; refine (KA.out _).mono ?_; rintro e W1 ⟨rfl, hb1⟩; obtain ⟨_, hb⟩ := HC.out _ hb1; have HB := hide hb; clear hb1 hb)
      | (go_at_call 21; refine (K21'.out _ HB.out).mono ?_; rintro e W2 ⟨rfl, hb2⟩; have HB2 := hide hb2; clear hb2))
    go_ret
    exact ⟨rfl, HB2.out⟩
end Go.Proofs.Ytddcjkbdgneklaa
