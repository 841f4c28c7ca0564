/- New, Release, Drop, Seize, Held, Waiting. -/
import Derived.Test.YtbibegendejnlaaCcl
namespace Go.Proofs.Ytbibegendejnlaa
open Go.RowKit
set_option linter.unusedVariables false

theorem new_no (n : Int) (w : World) (hn : n < 1 ∨ 40 < n) : Calls Try.prog 10 #[.int .i64 n] w fun e w' => e = .returned (.tuple #[.pointer none, .int .i64 1]) ∧ w' = w := by
  by_cases h1 : n < 1
  · go_enter Try.func10, Try.ntmps10
    go_wp2_with fail
    go_ret2
    exact ⟨rfl, rfl⟩
  · have h2 : n > 40 := by omega
    clear hn
    go_enter Try.func10, Try.ntmps10
    go_wp2_with fail
    go_ret2
    exact ⟨rfl, rfl⟩

set_option maxHeartbeats 1000000 in
theorem new_ok (n : Nat) (w : World) (h1 : 1 ≤ n) (h2 : n ≤ 40) : Calls Try.prog 10 #[.int .i64 (n : Int)] w fun e w' => ∃ g, e = .returned (.tuple #[.pointer (some ⟨g, 0, none⟩), .int .i64 0]) ∧ ∃ gh, (∀ b, Tbl w' w.heap.size g gh b ⟨List.replicate n 0, []⟩) ∧ Below w.heap.size w w' ∧ w.heap.size ≤ gh ∧ gh < w'.heap.size ∧ g < w'.heap.size := by
  obtain ⟨W1, hmk, ho1, hb1, hs1⟩ := made_ints w n (by omega)
  have HR : Hid (∃ gh, (∀ b, Tbl (W1.alloc (.cells #[.slice (some ⟨w.heap.size, 0, none⟩) n n, .slice none 0 0] 63)) w.heap.size W1.heap.size gh b ⟨List.replicate n 0, []⟩) ∧ Below w.heap.size w (W1.alloc (.cells #[.slice (some ⟨w.heap.size, 0, none⟩) n n, .slice none 0 0] 63)) ∧ w.heap.size ≤ gh ∧ gh < (W1.alloc (.cells #[.slice (some ⟨w.heap.size, 0, none⟩) n n, .slice none 0 0] 63)).heap.size ∧ W1.heap.size < (W1.alloc (.cells #[.slice (some ⟨w.heap.size, 0, none⟩) n n, .slice none 0 0] 63)).heap.size) := hide (by
    have hb : Below W1.heap.size W1 (W1.alloc (.cells #[.slice (some ⟨w.heap.size, 0, none⟩) n n, .slice none 0 0] 63)) := (Below.refl _ _).alloc (Nat.le_refl _) _
    have hz : (W1.alloc (.cells #[.slice (some ⟨w.heap.size, 0, none⟩) n n, .slice none 0 0] 63)).heap.size = W1.heap.size + 1 := Array.size_push _
    refine ⟨w.heap.size, fun b => ⟨.slice none 0 0, [], hb1.size, ?_, ?_, El.Own.nil _ _ _, rfl, fun i x p hx hp => by simp at hx⟩, hb1.trans (hb.mono hb1.size), Nat.le_refl _, by omega, by omega⟩
    · simp only [List.length_replicate]
      exact heap_new _ _
    · simp only [List.length_replicate]
      exact ho1.keep hb)
  have j1 : (1 : Int) ≤ (n : Int) := by omega
  have j2 : (n : Int) ≤ 40 := by omega
  clear ho1 hb1 hs1 h1 h2
  go_enter Try.func10, Try.ntmps10
  go_wp2_with fail
  go_ret2
  obtain ⟨gh, h⟩ := HR.out
  exact ⟨_, rfl, gh, h⟩

/-- what is no tote or no node -/
def badN (N : Nat) (t n : Int) : Bool := !(toteB t) || !(inB N n)
theorem badN_no {N : Nat} {t n : Int} (h : badN N t n = false) : toteB t = true ∧ inB N n = true := by
  unfold badN at h
  rw [Bool.or_eq_false_iff] at h
  exact ⟨by simpa using h.1, by simpa using h.2⟩

set_option maxRecDepth 100000 in
theorem rel_bad {w : World} {B g gh : Nat} {b : Nat → Prop} {T : Tb} (hT : Tbl w B g gh b T) (t n : Int) (hbad : badN T.hold.length t n = true) :
    Calls Try.prog 14 #[.pointer (some ⟨g, 0, none⟩), .int .i64 t, .int .i64 n] w fun e w' => e = .returned (.tuple #[.slice none 0 0, .int .i64 1]) ∧ w' = w := by
  obtain ⟨vw, cs, h⟩ := hT
  have K24 := hide (tote_any t w)
  have K26 := hide (out_any g gh T.hold.length n w h.cells.1)
  unfold badN at hbad
  generalize toteB t = b1 at *
  generalize inB T.hold.length n = b2 at *
  clear h
  cases b1 with
  | false =>
    go_enter Try.func14, Try.ntmps14
    go_wp2_with (go_at_call 24; refine K24.out.mono ?_; rintro e W1 ⟨rfl, hW⟩; have hW' := hW.symm; clear hW; subst hW')
    go_ret2
    exact ⟨rfl, rfl⟩
  | true =>
    have : b2 = false := by simpa using hbad
    subst this
    clear hbad
    go_enter Try.func14, Try.ntmps14
    go_wp2_with (first | (go_at_call 24; refine K24.out.mono ?_; rintro e W1 ⟨rfl, hW⟩; have hW' := hW.symm; clear hW; subst hW') | (go_at_call 26; refine K26.out.mono ?_; rintro e W1 ⟨rfl, hW⟩; have hW' := hW.symm; clear hW; subst hW'))
    go_ret2
    exact ⟨rfl, rfl⟩

set_option maxRecDepth 100000 in
theorem rel_none {w : World} {B g gh : Nat} {b : Nat → Prop} {T : Tb} (hT : Tbl w B g gh b T) (t n : Int) (hbad : badN T.hold.length t n = false) (hne : hat T.hold n ≠ t) :
    Calls Try.prog 14 #[.pointer (some ⟨g, 0, none⟩), .int .i64 t, .int .i64 n] w fun e w' => e = .returned (.tuple #[.slice none 0 0, .int .i64 4]) ∧ w' = w := by
  obtain ⟨vw, cs, h⟩ := hT
  have K24 := hide (tote_any t w)
  have K26 := hide (out_any g gh T.hold.length n w h.cells.1)
  obtain ⟨e1, e2⟩ := badN_no hbad
  rw [e1] at K24
  rw [e2] at K26
  have hn : 0 ≤ n ∧ n < (T.hold.length : Int) := of_decide_eq_true e2
  have c0 := h.cells.1
  have c1 := (h.at n hn).1
  have q1 : (hat T.hold n != t) = true := bne_iff_ne.2 hne
  generalize hat T.hold n = x at *
  generalize T.hold.length = N at *
  obtain ⟨k, rfl⟩ : ∃ k : Nat, n = (k : Int) := ⟨n.toNat, by omega⟩
  rw [show ((k : Int)).toNat = k by omega] at c1
  have j1 : (0 : Int) ≤ (k : Int) := by omega
  have j2 : (k : Int) < (N : Int) := hn.2
  clear h hbad e1 e2 hn
  go_enter Try.func14, Try.ntmps14
  go_wp2_with (first | (go_at_call 24; refine K24.out.mono ?_; rintro e W1 ⟨rfl, hW⟩; have hW' := hW.symm; clear hW; subst hW') | (go_at_call 26; refine K26.out.mono ?_; rintro e W1 ⟨rfl, hW⟩; have hW' := hW.symm; clear hW; subst hW'))
  go_ret2
  exact ⟨rfl, rfl⟩

set_option maxRecDepth 100000 in
set_option maxHeartbeats 1000000 in
theorem rel_ok {w : World} {B g gh : Nat} {b : Nat → Prop} {T : Tb} (hT : Tbl w B g gh b T) (hw : Wf T) (t n : Int) (hbad : badN T.hold.length t n = false) (he : hat T.hold n = t) :
    Calls Try.prog 14 #[.pointer (some ⟨g, 0, none⟩), .int .i64 t, .int .i64 n] w fun e w' => ∃ v, e = .returned (.tuple #[v, .int .i64 0]) ∧ ∃ T' l, intE.Own w' w.heap.size v l ∧ Gr ⟨T.hold.set n.toNat 0, T.q⟩ T' l ∧ Tbl w' B g gh b T' ∧ Fr B g gh w w' := by
  obtain ⟨vw, cs, h⟩ := hT
  have K24 := hide (tote_any t w)
  have K26 := hide (out_any g gh T.hold.length n w h.cells.1)
  obtain ⟨e1, e2⟩ := badN_no hbad
  rw [e1] at K24
  rw [e2] at K26
  have hn : 0 ≤ n ∧ n < (T.hold.length : Int) := of_decide_eq_true e2
  have c0 := h.cells.1
  obtain ⟨c1, c2⟩ := h.at n hn
  rw [he] at c1
  have hp := h.put n 0 hn.1
  have hz : (w.setCell ⟨gh, n.toNat, none⟩ (.int .i64 0)).heap.size = w.heap.size := by simp [World.setCell]
  have hwf : Wf ⟨T.hold.set n.toNat 0, T.q⟩ := hw.setH 0 (by omega) [n]
  have K29 := hide (grants_any ⟨_, _, hp⟩ hwf (hp.hold.lt gh rfl) (heap_lt hp.box))
  rw [hz] at K29
  have HF := hide (Fr.setH (B := B) (g := g) (gh := gh) w n.toNat (.int .i64 0))
  have q1 : (t != t) = false := bne_self_eq_false _
  generalize T.hold.length = N at *
  obtain ⟨k, rfl⟩ : ∃ k : Nat, n = (k : Int) := ⟨n.toNat, by omega⟩
  rw [show ((k : Int)).toNat = k by omega] at c1 c2 K29 HF ⊢
  have j1 : (0 : Int) ≤ (k : Int) := by omega
  have j2 : (k : Int) < (N : Int) := hn.2
  clear h hbad e1 e2 hn hp hz hwf he hw
  go_enter Try.func14, Try.ntmps14
  go_wp2_with (first | (go_at_call 24; refine K24.out.mono ?_; rintro e W1 ⟨rfl, hW⟩; have hW' := hW.symm; clear hW; subst hW') | (go_at_call 26; refine K26.out.mono ?_; rintro e W1 ⟨rfl, hW⟩; have hW' := hW.symm; clear hW; subst hW') | (go_at_call 29; refine K29.out.mono ?_; rintro e W10 ⟨v10, rfl, T', l, ho10, hgr, htb, hfr⟩; have HO := hide ho10; have HG := hide hgr; have HT := hide htb; have HFF := hide (HF.out.trans hfr); clear ho10 hgr htb hfr))
  go_ret2
  exact ⟨_, rfl, T', l, HO.out, HG.out, HT.out, HFF.out⟩

set_option maxRecDepth 100000 in
theorem drop_bad {w : World} {g : Nat} (t : Int) (hbad : toteB t = false) :
    Calls Try.prog 16 #[.pointer (some ⟨g, 0, none⟩), .int .i64 t] w fun e w' => e = .returned (.tuple #[.slice none 0 0, .int .i64 1]) ∧ w' = w := by
  have K24 := hide (tote_any t w)
  rw [hbad] at K24
  clear hbad
  go_enter Try.func16, Try.ntmps16
  go_wp2_with (go_at_call 24; refine K24.out.mono ?_; rintro e W1 ⟨rfl, hW⟩; have hW' := hW.symm; clear hW; subst hW')
  go_ret2
  exact ⟨rfl, rfl⟩

set_option maxRecDepth 100000 in
theorem drop_none {w : World} {B g gh : Nat} {b : Nat → Prop} {T : Tb} (hT : Tbl w B g gh b T) (hw : Wf T) (t : Int) (ht : toteB t = true) (hf : fnd t T.q < 0) :
    Calls Try.prog 16 #[.pointer (some ⟨g, 0, none⟩), .int .i64 t] w fun e w' => e = .returned (.tuple #[.slice none 0 0, .int .i64 4]) ∧ Below w.heap.size w w' := by
  have K24 := hide (tote_any t w)
  rw [ht] at K24
  have K27 := hide (find_any hT (by have := hw.qlen; omega) t)
  generalize fnd t T.q = r at *
  clear ht hT hw
  go_enter Try.func16, Try.ntmps16
  go_wp2_with (first | (go_at_call 24; refine K24.out.mono ?_; rintro e W1 ⟨rfl, hW⟩; have hW' := hW.symm; clear hW; subst hW') | (go_at_call 27; refine K27.out.mono ?_; rintro e W1 ⟨rfl, hb1⟩; have HB1 := hide hb1; clear hb1))
  go_ret2
  exact ⟨rfl, HB1.out⟩

set_option maxRecDepth 100000 in
set_option maxHeartbeats 1000000 in
theorem drop_ok {w : World} {B g gh : Nat} {b : Nat → Prop} {T : Tb} (hT : Tbl w B g gh b T) (hw : Wf T) (t : Int) (ht : toteB t = true) (i : Nat) (hi : i < T.q.length) (hf : fnd t T.q = (i : Int)) :
    Calls Try.prog 16 #[.pointer (some ⟨g, 0, none⟩), .int .i64 t] w fun e w' => ∃ v, e = .returned (.tuple #[v, .int .i64 0]) ∧ ∃ T' l, intE.Own w' w.heap.size v l ∧ Gr ⟨T.hold, T.q.take i ++ T.q.drop (i + 1)⟩ T' l ∧ Tbl w' B g gh b T' ∧ Fr B g gh w w' := by
  have K24 := hide (tote_any t w)
  rw [ht] at K24
  have hql := hw.qlen
  have K27 := hide (find_any hT (by omega) t)
  rw [hf] at K27
  have K33 : Hid (∀ W, Below w.heap.size w W → Calls Try.prog 33 #[.pointer (some ⟨g, 0, none⟩), .int .i64 (i : Int)] W fun e w' => e = .returned (.tuple #[]) ∧ Tbl w' B g gh b ⟨T.hold, T.q.take i ++ T.q.drop (i + 1)⟩ ∧ Fr B g gh W w') := hide (fun W hb => by
    obtain ⟨vw, cs, h⟩ := hT
    refine (remove_any (h.keep hb) i hi (by omega)).mono ?_
    rintro e w' ⟨h1, h2, h3, _⟩
    exact ⟨h1, h2, h3⟩)
  have K29 : Hid (∀ W, Tbl W B g gh b ⟨T.hold, T.q.take i ++ T.q.drop (i + 1)⟩ → Calls Try.prog 29 #[.pointer (some ⟨g, 0, none⟩)] W fun e w' => ∃ v, e = .returned v ∧ ∃ T' l, intE.Own w' W.heap.size v l ∧ Gr ⟨T.hold, T.q.take i ++ T.q.drop (i + 1)⟩ T' l ∧ Tbl w' B g gh b T' ∧ Fr B g gh W w') := hide (fun W h => by
    obtain ⟨vw, cs, h⟩ := h
    exact grants_any ⟨_, _, h⟩ (hw.del i) (h.hold.lt gh rfl) (heap_lt h.box))
  have j0 : ¬ ((i : Int) < 0) := by omega
  clear ht hT hw hf hql hi
  obtain ⟨w0, rfl⟩ : ∃ w0, w0 = w := ⟨_, rfl⟩
  go_enter Try.func16, Try.ntmps16
  go_wp2_with (first | (go_at_call 24; refine K24.out.mono ?_; rintro e W1 ⟨rfl, hW⟩; have hW' := hW.symm; clear hW; subst hW') | (go_at_call 27; refine K27.out.mono ?_; rintro e W1 ⟨rfl, hb1⟩; have HB1 := hide hb1; clear hb1) | (go_at_call 33; refine (K33.out _ HB1.out).mono ?_; rintro e W2 ⟨rfl, t1, t2⟩; have HT2 := hide t1; have HF2 := hide ((Fr.of_below HB1.out).trans t2); clear t1 t2) | (go_at_call 29; refine (K29.out _ HT2.out).mono ?_; rintro e W10 ⟨v10, rfl, T', l, ho10, hgr, htb, hfr⟩; have HO := hide (ho10.mono HF2.out.size); have HG := hide hgr; have HT := hide htb; have HFF := hide (HF2.out.trans hfr); clear ho10 hgr htb hfr))
  go_ret2
  exact ⟨_, rfl, T', l, HO.out, HG.out, HT.out, HFF.out⟩

set_option maxRecDepth 100000 in
theorem seize_bad {w : World} {B g gh : Nat} {b : Nat → Prop} {T : Tb} (hT : Tbl w B g gh b T) (t n : Int) (hbad : badN T.hold.length t n = true) :
    Calls Try.prog 18 #[.pointer (some ⟨g, 0, none⟩), .int .i64 t, .int .i64 n] w fun e w' => e = .returned (.int .i64 1) ∧ w' = w := by
  obtain ⟨vw, cs, h⟩ := hT
  have K24 := hide (tote_any t w)
  have K26 := hide (out_any g gh T.hold.length n w h.cells.1)
  unfold badN at hbad
  generalize toteB t = b1 at *
  generalize inB T.hold.length n = b2 at *
  clear h
  cases b1 with
  | false =>
    go_enter Try.func18, Try.ntmps18
    go_wp2_with (go_at_call 24; refine K24.out.mono ?_; rintro e W1 ⟨rfl, hW⟩; have hW' := hW.symm; clear hW; subst hW')
    go_ret
    exact ⟨rfl, rfl⟩
  | true =>
    have : b2 = false := by simpa using hbad
    subst this
    clear hbad
    go_enter Try.func18, Try.ntmps18
    go_wp2_with (first | (go_at_call 24; refine K24.out.mono ?_; rintro e W1 ⟨rfl, hW⟩; have hW' := hW.symm; clear hW; subst hW') | (go_at_call 26; refine K26.out.mono ?_; rintro e W1 ⟨rfl, hW⟩; have hW' := hW.symm; clear hW; subst hW'))
    go_ret
    exact ⟨rfl, rfl⟩

set_option maxRecDepth 100000 in
theorem seize_held {w : World} {B g gh : Nat} {b : Nat → Prop} {T : Tb} (hT : Tbl w B g gh b T) (t n : Int) (hbad : badN T.hold.length t n = false) (hh : heldB T.hold t n = true) :
    Calls Try.prog 18 #[.pointer (some ⟨g, 0, none⟩), .int .i64 t, .int .i64 n] w fun e w' => e = .returned (.int .i64 100) ∧ w' = w := by
  obtain ⟨vw, cs, h⟩ := hT
  have K24 := hide (tote_any t w)
  have K26 := hide (out_any g gh T.hold.length n w h.cells.1)
  obtain ⟨e1, e2⟩ := badN_no hbad
  rw [e1] at K24
  rw [e2] at K26
  have K34 := hide (heldT_any h t n (of_decide_eq_true e2))
  rw [hh] at K34
  clear h hbad e1 e2 hh
  go_enter Try.func18, Try.ntmps18
  go_wp2_with (first | (go_at_call 24; refine K24.out.mono ?_; rintro e W1 ⟨rfl, hW⟩; have hW' := hW.symm; clear hW; subst hW') | (go_at_call 26; refine K26.out.mono ?_; rintro e W1 ⟨rfl, hW⟩; have hW' := hW.symm; clear hW; subst hW') | (go_at_call 34; refine K34.out.mono ?_; rintro e W1 ⟨rfl, hW⟩; have hW' := hW.symm; clear hW; subst hW'))
  go_ret
  exact ⟨rfl, rfl⟩

set_option maxRecDepth 100000 in
theorem seize_ok {w : World} {B g gh : Nat} {b : Nat → Prop} {T : Tb} (hT : Tbl w B g gh b T) (t n : Int) (hbad : badN T.hold.length t n = false) (hh : heldB T.hold t n = false) :
    Calls Try.prog 18 #[.pointer (some ⟨g, 0, none⟩), .int .i64 t, .int .i64 n] w fun e w' => e = .returned (.int .i64 0) ∧ Tbl w' B g gh b ⟨T.hold.set n.toNat t, T.q⟩ ∧ Fr B g gh w w' := by
  obtain ⟨vw, cs, h⟩ := hT
  have K24 := hide (tote_any t w)
  have K26 := hide (out_any g gh T.hold.length n w h.cells.1)
  obtain ⟨e1, e2⟩ := badN_no hbad
  rw [e1] at K24
  rw [e2] at K26
  have hn : 0 ≤ n ∧ n < (T.hold.length : Int) := of_decide_eq_true e2
  have K34 := hide (heldT_any h t n hn)
  rw [hh] at K34
  have c0 := h.cells.1
  obtain ⟨c1, c2⟩ := h.at n hn
  have HP := hide (h.put n t hn.1)
  have HF := hide (Fr.setH (B := B) (g := g) (gh := gh) w n.toNat (.int .i64 t))
  generalize hat T.hold n = x at *
  generalize T.hold.length = N at *
  obtain ⟨k, rfl⟩ : ∃ k : Nat, n = (k : Int) := ⟨n.toNat, by omega⟩
  rw [show ((k : Int)).toNat = k by omega] at c1 c2 HP HF ⊢
  have j1 : (0 : Int) ≤ (k : Int) := by omega
  have j2 : (k : Int) < (N : Int) := hn.2
  clear h hbad e1 e2 hn hh
  go_enter Try.func18, Try.ntmps18
  go_wp2_with (first | (go_at_call 24; refine K24.out.mono ?_; rintro e W1 ⟨rfl, hW⟩; have hW' := hW.symm; clear hW; subst hW') | (go_at_call 26; refine K26.out.mono ?_; rintro e W1 ⟨rfl, hW⟩; have hW' := hW.symm; clear hW; subst hW') | (go_at_call 34; refine K34.out.mono ?_; rintro e W1 ⟨rfl, hW⟩; have hW' := hW.symm; clear hW; subst hW'))
  go_ret
  exact ⟨rfl, ⟨_, _, HP.out⟩, HF.out⟩

/-- the nodes that a tote holds, of the first k -/
def hld (t : Int) (h : List Int) (k : Nat) : List Int := ((List.range k).filter (fun (i : Nat) => decide (hat h (i : Int) = t))).map Int.ofNat
theorem hld_yes {t : Int} {h : List Int} {k : Nat} (e : hat h (k : Int) = t) : hld t h (k + 1) = hld t h k ++ [(k : Int)] := by
  unfold hld
  rw [List.range_succ, List.filter_append, List.map_append]
  simp [e]
theorem hld_no {t : Int} {h : List Int} {k : Nat} (e : hat h (k : Int) ≠ t) : hld t h (k + 1) = hld t h k := by
  unfold hld
  rw [List.range_succ, List.filter_append, List.map_append]
  simp [e]
theorem hld_len (t : Int) (h : List Int) (k : Nat) : (hld t h k).length ≤ k := by
  unfold hld
  rw [List.length_map]
  refine Nat.le_trans (List.length_filter_le _ _) (by simp)
theorem hld_mem (t : Int) (h : List Int) (n : Int) : n ∈ hld t h h.length ↔ (0 ≤ n ∧ n < (h.length : Int)) ∧ hat h n = t := by
  unfold hld
  rw [List.mem_map]
  constructor
  · rintro ⟨i, hi, rfl⟩
    rw [List.mem_filter, List.mem_range] at hi
    exact ⟨⟨Int.natCast_nonneg _, by show (i : Int) < _; omega⟩, of_decide_eq_true hi.2⟩
  · rintro ⟨⟨h1, h2⟩, h3⟩
    refine ⟨n.toNat, ?_, by show ((n.toNat : Nat) : Int) = n; omega⟩
    rw [List.mem_filter, List.mem_range]
    refine ⟨by omega, decide_eq_true ?_⟩
    rw [show ((n.toNat : Nat) : Int) = n by omega]; exact h3
/-- Held's answer -/
def heldL (t : Int) (h : List Int) : List Int := if toteB t = true then hld t h h.length else []

set_option maxRecDepth 100000 in
set_option maxHeartbeats 2000000 in
theorem heldL_any {w : World} {B g gh : Nat} {b : Nat → Prop} {T : Tb} (hT : Tbl w B g gh b T) (hw : T.hold.length ≤ 1000) (t : Int) :
    Calls Try.prog 23 #[.pointer (some ⟨g, 0, none⟩), .int .i64 t] w fun e w' => (∃ v, e = .returned v ∧ intE.Own w' w.heap.size v (heldL t T.hold)) ∧ Below w.heap.size w w' := by
  obtain ⟨vw, cs, h⟩ := hT
  have K24 := hide (tote_any t w)
  unfold heldL
  cases ht : toteB t with
  | false =>
    rw [ht] at K24
    rw [if_neg (by decide)]
    clear h ht
    go_enter Try.func23, Try.ntmps23
    go_wp2_with (go_at_call 24; refine K24.out.mono ?_; rintro e W1 ⟨rfl, hW⟩; have hW' := hW.symm; clear hW; subst hW')
    go_ret
    exact ⟨⟨_, rfl, El.Own.nil _ _ _⟩, Below.refl _ _⟩
  | true =>
    rw [ht] at K24
    rw [if_pos rfl]
    have c0 := h.cells.1
    obtain ⟨w0, rfl⟩ : ∃ w0, w0 = w := ⟨_, rfl⟩
    have Hc : Hid (∀ W, Below w0.heap.size w0 W → ∀ k : Nat, k < T.hold.length → W.cell? ⟨gh, k, none⟩ = some (.int .i64 (hat T.hold (k : Int)))) := hide (fun W hb k hk => by
      have := ((h.keep hb).at (k : Int) ⟨by omega, by omega⟩).1
      rwa [show ((k : Int)).toNat = k by omega] at this)
    have i0 : (T.hold.length : Int) ≤ 1000 := by omega
    obtain ⟨N, hN⟩ : ∃ N, T.hold.length = N := ⟨_, rfl⟩
    rw [hN] at c0 Hc i0 ⊢
    clear h ht hw hN
    go_enter Try.func23, Try.ntmps23
    go_wp2_with (go_at_call 24; refine K24.out.mono ?_; rintro e W1 ⟨rfl, hW⟩; have hW' := hW.symm; clear hW; subst hW')
    go_loopw [5, 16] (fun v5 v16 wr => ∃ k : Nat, k ≤ N ∧ v16 = .int .i64 k ∧ Hid (intE.Own wr w0.heap.size v5 (hld t T.hold k)) ∧ Hid (Below w0.heap.size w0 wr)) (fun _ v16 _ => N - (intOf v16).toNat)
    case atStart => exact ⟨0, by omega, rfl, hide (El.Own.nil _ _ _), hide (Below.refl _ _)⟩
    case round =>
      obtain ⟨k, hk, rfl, HO, HB⟩ := hrel
      by_cases hlt : k < N
      · have c1 := Hc.out wr HB.out k hlt
        have j0 : (0 : Int) ≤ (k : Int) := by omega
        have j1 : (k : Int) < (N : Int) := by omega
        by_cases he : hat T.hold (k : Int) = t
        · have HH := hide (hld_yes he)
          rw [he] at c1
          have Hba : Hid (∀ (o : Obj), Below wr.heap.size wr (wr.alloc o)) := hide (fun o => (Below.refl _ _).alloc (Nat.le_refl _) o)
          have Hbw : Hid (∀ (o : Obj), Below w0.heap.size w0 (wr.alloc o)) := hide (fun o => HB.out.alloc HB.out.size o)
          have Hl2 : Hid ((hld t T.hold k).length + [(k : Int)].length ≤ 1000000) := hide (by have := hld_len t T.hold k; simp only [List.length_cons, List.length_nil]; omega)
          clear he
          go_wp2_with (at_builtin; refine intE.wp (w0 := w0) (Hbw.out _) (by rfl) _ _ rfl _ _ rfl rfl (hld t T.hold k) [(k : Int)] (HO.out.keep (Hba.out _)) (int_new _ _ _ rfl) Hl2.out ?_; intro v1 w2 ho2 _ _ hb2; rw [← HH.out] at ho2; have HO2 := hide ho2; have HB2 := hide hb2; clear ho2 hb2)
          go_roundw
          case rel => exact ⟨k + 1, by omega, by go_num, HO2, HB2⟩
          case measure => simp [intOf]; omega
        · have HO1 : Hid (intE.Own wr w0.heap.size u5 (hld t T.hold (k + 1))) := hide (by rw [hld_no he]; exact HO.out)
          have q1 : (hat T.hold (k : Int) == t) = false := beq_eq_false_iff_ne.2 he
          generalize hat T.hold (k : Int) = x at *
          go_wp2_with fail
          go_roundw
          case rel => exact ⟨k + 1, by omega, by go_num, HO1, HB⟩
          case measure => simp [intOf]; omega
      · obtain rfl : k = N := by omega
        have j1 : ¬ (k : Int) < (k : Int) := by omega
        go_wp2_with fail
        go_ret
        exact ⟨⟨_, rfl, HO.out⟩, HB.out⟩

set_option maxRecDepth 100000 in
set_option maxHeartbeats 2000000 in
theorem waiting_any {w : World} {B g gh : Nat} {b : Nat → Prop} {T : Tb} (hT : Tbl w B g gh b T) (hw : T.q.length ≤ 1000) :
    Calls Try.prog 22 #[.pointer (some ⟨g, 0, none⟩)] w fun e w' => (∃ v, e = .returned v ∧ intE.Own w' w.heap.size v (T.q.map (·.tote))) ∧ Below w.heap.size w w' := by
  obtain ⟨vw, cs, h⟩ := hT
  obtain ⟨a, c, rfl⟩ := h.form
  have c0 := h.cells.2.1
  obtain ⟨w0, rfl⟩ : ∃ w0, w0 = w := ⟨_, rfl⟩
  have H := hide h
  have i0 : (T.q.length : Int) ≤ 1000 := by omega
  obtain ⟨N, hN⟩ : ∃ N, T.q.length = N := ⟨_, rfl⟩
  rw [hN] at c0 H i0
  have HN := hide hN
  clear h hw hN
  go_enter Try.func22, Try.ntmps22
  go_wp2_with fail
  go_loopw [3, 11] (fun v3 v11 wr => ∃ k : Nat, k ≤ N ∧ v11 = .int .i64 k ∧ Hid (intE.Own wr w0.heap.size v3 ((T.q.take k).map (·.tote))) ∧ Hid (Below w0.heap.size w0 wr)) (fun _ v11 _ => N - (intOf v11).toNat)
  case atStart => exact ⟨0, by omega, rfl, hide (El.Own.nil _ _ _), hide (Below.refl _ _)⟩
  case round =>
    obtain ⟨k, hk, rfl, HO, HB⟩ := hrel
    by_cases hlt : k < N
    · obtain ⟨p, hp⟩ : ∃ p, T.q[k]? = some p := ⟨_, List.getElem?_eq_getElem (by rw [HN.out]; exact hlt)⟩
      obtain ⟨kb, a', c', rfl, d0, d1, _, _⟩ := (H.out.keep HB.out).qs.at k p hp
      have j0 : (0 : Int) ≤ (k : Int) := by omega
      have j1 : (k : Int) < (N : Int) := by omega
      have HH : Hid ((T.q.take (k + 1)).map (·.tote) = (T.q.take k).map (·.tote) ++ [p.tote]) := hide (by rw [List.take_add_one, hp, List.map_append]; rfl)
      have Hl2 : Hid (((T.q.take k).map (·.tote)).length + [p.tote].length ≤ 1000000) := hide (by rw [List.length_map, List.length_take]; simp only [List.length_cons, List.length_nil]; omega)
      clear hp
      generalize p.tote = s at *
      generalize p.nodes.length = m at *
      have Hba : Hid (∀ (o o' : Obj), Below wr.heap.size wr ((wr.alloc o).alloc o')) := hide (fun o o' => ((Below.refl _ _).alloc (Nat.le_refl _) o).alloc (by show _ ≤ (Array.push _ _).size; rw [Array.size_push]; omega) o')
      have Hbw : Hid (∀ (o o' : Obj), Below w0.heap.size w0 ((wr.alloc o).alloc o')) := hide (fun o o' => HB.out.trans ((Hba.out o o').mono HB.out.size))
      go_wp2_with (at_builtin; refine intE.wp (w0 := w0) (Hbw.out _ _) (by rfl) _ _ rfl _ _ rfl rfl ((T.q.take k).map (·.tote)) [s] (HO.out.keep (Hba.out _ _)) (int_new _ _ _ (by simp)) Hl2.out ?_; intro v1 w2 ho2 _ _ hb2; rw [← HH.out] at ho2; have HO2 := hide ho2; have HB2 := hide hb2; clear ho2 hb2)
      go_roundw
      case rel => exact ⟨k + 1, by omega, by go_num, HO2, HB2⟩
      case measure => simp [intOf]; omega
    · obtain rfl : k = N := by omega
      have j1 : ¬ (k : Int) < (k : Int) := by omega
      have HO1 : Hid (intE.Own wr w0.heap.size u3 (T.q.map (·.tote))) := hide (by have := HO.out; rwa [List.take_of_length_le (by rw [HN.out]; exact Nat.le_refl _)] at this)
      go_wp2_with fail
      go_ret
      exact ⟨⟨_, rfl, HO1.out⟩, HB.out⟩
end Go.Proofs.Ytbibegendejnlaa
