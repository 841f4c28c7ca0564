/- The document's Release, Drop. -/
import Derived.Test.YtbibegendejnlaaCdo
import Derived.BigRegion
namespace Go.Proofs.Ytbibegendejnlaa
open Go.RowKit
set_option linter.unusedVariables false
variable {pp : Nat → Nat → Prop}

theorem DB.doneV {w0 w : World} {h0 : Nat} {aH aQ : Option Addr} {cH cQ N M : Nat} {U : Tb} (h : DB pp w0 w h0 aH cH aQ cQ N M U) {v : Value} {l : List Int} (ho : intE.Own w (h0 + 2) v l) : intE.Own ((w.setCell ⟨h0 + 1, 0, none⟩ (.slice aH N cH)).setCell ⟨h0 + 1, 1, none⟩ (.slice aQ M cQ)) w0.heap.size v l := by
  have hh := h.hh
  have hne : v.ownBlock ≠ some (h0 + 1) := fun e => by have := ho.ge _ e; omega
  exact (own_set_other (own_set_other ho hne) hne).mono (by omega)
theorem Wf.put0 {U : Tb} (h : Wf U) (k : Nat) : Wf ⟨U.hold.set k 0, U.q⟩ := by
  have := h.setH 0 (by omega) [(k : Int)]
  simpa [setL] using this
theorem out_none (N : Nat) (t : Int) : outB N t [] = !(toteB t) := by unfold outB; simp

set_option maxRecDepth 100000 in
set_option maxHeartbeats 4000000 in
theorem rrel_bad (aH aQ : Option Addr) (cH cQ N M : Nat) (U : Tb) (t n : Int) (w0 : World) (hT : DT pp w0 aH cH aQ cQ U) (hN : U.hold.length = N) (hM : U.q.length = M) (hc : M ≤ cQ) (hp : ∀ k, w0.heap.size ≤ k → pp 0 k) (hbad : badN N t n = true) :
    Calls Try.prog 15 #[.agg #[.slice aH N cH, .slice aQ M cQ], .int .i64 t, .int .i64 n] w0 fun e w' => (∃ aH' cH' aQ' cQ' M', e = .returned (.tuple #[.agg #[.slice aH' N cH', .slice aQ' M' cQ'], .slice none 0 0, .int .i64 1]) ∧ DR pp w0 w' aH' cH' aQ' cQ' N M' U) ∧ Below w0.heap.size w0 w' := by
  obtain ⟨W1, hW1⟩ : ∃ W1, W1 = (w0.alloc (.cells #[.slice aH N cH, .slice aQ M cQ] 31)).alloc (.cells #[.slice none 0 0, .slice none 0 0] 31) := ⟨_, rfl⟩
  have HD := hide (DB.start hT hN hM hc hp hW1)
  have HW1 := hide hW1
  have HN := hide hN
  have HM := hide hM
  obtain ⟨h0, hh0⟩ : ∃ h0, w0.heap.size = h0 := ⟨_, rfl⟩
  rw [hh0] at HD
  have Hba : Hid (Below W1.heap.size W1 (W1.alloc (.cells #[.int .i64 n] 3))) := hide ((Below.refl _ _).alloc (Nat.le_refl _) _)
  have K30 := hide (outside_any aH aQ (some ⟨W1.heap.size, 0, none⟩) cH cQ 1 N M 1 t [n] (W1.alloc (.cells #[.int .i64 n] 3)) rfl (int_new _ _ _ rfl) (by omega))
  rw [out_one] at K30
  rw [hbad] at K30
  clear hbad
  obtain ⟨⟨p0, p1⟩, ⟨p2, p3⟩, ⟨p4, p5⟩, ⟨p6, p7⟩⟩ := HD.out.cells
  clear hT hN hM hc hp hW1
  go_enter Try.func15, Try.ntmps15
  go_upto_region 1 with fail
  rw [← HW1.out]
  try rw [hh0]
  clear HW1 hh0
  go_wp2_with (go_at_call 30; refine K30.out.mono ?_; rintro e W4 ⟨rfl, hb4⟩; have HD4 := hide (HD.out.keep (Hba.out.trans (hb4.mono Hba.out.size))); obtain ⟨⟨p0, p1⟩, ⟨p2, p3⟩, ⟨p4, p5⟩, ⟨p6, p7⟩⟩ := HD4.out.cells; clear hb4)
  refine bodyPost_ret (v := .tuple #[.agg #[.slice aH N cH, .slice aQ M cQ], .slice none 0 0, .int .i64 1]) (by simp [results, Try.results15, go_sem, p4, p6]) rfl ⟨⟨aH, cH, aQ, cQ, M, rfl, HD4.out.done.1⟩, HD4.out.done.2⟩

set_option maxRecDepth 100000 in
set_option maxHeartbeats 4000000 in
theorem rrel_none (aH aQ : Option Addr) (cH cQ N M : Nat) (U : Tb) (t n : Int) (w0 : World) (hT : DT pp w0 aH cH aQ cQ U) (hN : U.hold.length = N) (hM : U.q.length = M) (hc : M ≤ cQ) (hp : ∀ k, w0.heap.size ≤ k → pp 0 k) (hbad : badN N t n = false) (hh : hat U.hold n ≠ t) :
    Calls Try.prog 15 #[.agg #[.slice aH N cH, .slice aQ M cQ], .int .i64 t, .int .i64 n] w0 fun e w' => (∃ aH' cH' aQ' cQ' M', e = .returned (.tuple #[.agg #[.slice aH' N cH', .slice aQ' M' cQ'], .slice none 0 0, .int .i64 4]) ∧ DR pp w0 w' aH' cH' aQ' cQ' N M' U) ∧ Below w0.heap.size w0 w' := by
  obtain ⟨e1, e2⟩ := badN_no hbad
  obtain ⟨k, rfl⟩ : ∃ k : Nat, n = (k : Int) := ⟨n.toNat, by have := of_decide_eq_true e2; omega⟩
  have hkN : k < N := by have := of_decide_eq_true e2; omega
  obtain ⟨x, hx⟩ : ∃ x, U.hold[k]? = some x := ⟨_, List.getElem?_eq_getElem (by rw [hN]; exact hkN)⟩
  have Hx := hide hx
  rw [hat_at hx] at hh
  have j0 : (0 : Int) ≤ (k : Int) := by omega
  have j1 : (k : Int) < (N : Int) := by omega
  have q2 : (x != t) = true := bne_iff_ne.2 hh
  obtain ⟨W1, hW1⟩ : ∃ W1, W1 = (w0.alloc (.cells #[.slice aH N cH, .slice aQ M cQ] 31)).alloc (.cells #[.slice none 0 0, .slice none 0 0] 31) := ⟨_, rfl⟩
  have HD := hide (DB.start hT hN hM hc hp hW1)
  have HW1 := hide hW1
  have HN := hide hN
  have HM := hide hM
  obtain ⟨h0, hh0⟩ : ∃ h0, w0.heap.size = h0 := ⟨_, rfl⟩
  rw [hh0] at HD
  have Hba : Hid (Below W1.heap.size W1 (W1.alloc (.cells #[.int .i64 (k : Int)] 3))) := hide ((Below.refl _ _).alloc (Nat.le_refl _) _)
  have K30 := hide (outside_any aH aQ (some ⟨W1.heap.size, 0, none⟩) cH cQ 1 N M 1 t [(k : Int)] (W1.alloc (.cells #[.int .i64 (k : Int)] 3)) rfl (int_new _ _ _ rfl) (by omega))
  rw [out_one] at K30
  rw [hbad] at K30
  clear hbad e1 e2 hx hkN hh
  obtain ⟨⟨p0, p1⟩, ⟨p2, p3⟩, ⟨p4, p5⟩, ⟨p6, p7⟩⟩ := HD.out.cells
  clear hT hN hM hc hp hW1
  go_enter Try.func15, Try.ntmps15
  go_upto_region 1 with fail
  rw [← HW1.out]
  try rw [hh0]
  clear HW1 hh0
  go_upto_region 3 with (go_at_call 30; refine K30.out.mono ?_; rintro e W4 ⟨rfl, hb4⟩; have HD4 := hide (HD.out.keep (Hba.out.trans (hb4.mono Hba.out.size))); obtain ⟨⟨p0, p1⟩, ⟨p2, p3⟩, ⟨p4, p5⟩, ⟨p6, p7⟩⟩ := HD4.out.cells; clear hb4)
  clear HD K30 Hba
  have hr4 := HD4.out.dt.hold
  rw [HN.out] at hr4
  obtain ⟨b, off, rfl, e0⟩ := int_at hr4 k x Hx.out
  clear hr4
  go_wp2_with fail
  refine bodyPost_ret (v := .tuple #[.agg #[.slice (some ⟨b, off, none⟩) N cH, .slice aQ M cQ], .slice none 0 0, .int .i64 4]) (by simp [results, Try.results15, go_sem, p4, p6]) rfl ⟨⟨some ⟨b, off, none⟩, cH, aQ, cQ, M, rfl, HD4.out.done.1⟩, HD4.out.done.2⟩

set_option maxRecDepth 100000 in
set_option maxHeartbeats 4000000 in
theorem rrel_ok (aH aQ : Option Addr) (cH cQ N M : Nat) (U : Tb) (t n : Int) (w0 : World) (hT : DT pp w0 aH cH aQ cQ U) (hN : U.hold.length = N) (hM : U.q.length = M) (hc : M ≤ cQ) (hp : ∀ k, w0.heap.size ≤ k → pp 0 k) (hbad : badN N t n = false) (hh : hat U.hold n = t) (hw : Wf U) :
    Calls Try.prog 15 #[.agg #[.slice aH N cH, .slice aQ M cQ], .int .i64 t, .int .i64 n] w0 fun e w' => (∃ aH' cH' aQ' cQ' M' v, e = .returned (.tuple #[.agg #[.slice aH' N cH', .slice aQ' M' cQ'], v, .int .i64 0]) ∧ ∃ U' l, Gr ⟨U.hold.set n.toNat 0, U.q⟩ U' l ∧ intE.Own w' w0.heap.size v l ∧ DR pp w0 w' aH' cH' aQ' cQ' N M' U') ∧ Below w0.heap.size w0 w' := by
  obtain ⟨e1, e2⟩ := badN_no hbad
  obtain ⟨k, rfl⟩ : ∃ k : Nat, n = (k : Int) := ⟨n.toNat, by have := of_decide_eq_true e2; omega⟩
  have hkN : k < N := by have := of_decide_eq_true e2; omega
  obtain ⟨x, hx⟩ : ∃ x, U.hold[k]? = some x := ⟨_, List.getElem?_eq_getElem (by rw [hN]; exact hkN)⟩
  have Hx := hide hx
  rw [hat_at hx] at hh
  have j0 : (0 : Int) ≤ (k : Int) := by omega
  have j1 : (k : Int) < (N : Int) := by omega
  rw [show ((k : Int)).toNat = k by omega]
  subst hh
  have HL : Hid (U.hold.length ≤ 1000) := hide hw.len
  have HkN := hide hkN
  have HN1 : Hid (1 ≤ N) := hide (by omega)
  have HWF := hide (hw.put0 k)
  obtain ⟨W1, hW1⟩ : ∃ W1, W1 = (w0.alloc (.cells #[.slice aH N cH, .slice aQ M cQ] 31)).alloc (.cells #[.slice none 0 0, .slice none 0 0] 31) := ⟨_, rfl⟩
  have HD := hide (DB.start hT hN hM hc hp hW1)
  have HW1 := hide hW1
  have HN := hide hN
  have HM := hide hM
  obtain ⟨h0, hh0⟩ : ∃ h0, w0.heap.size = h0 := ⟨_, rfl⟩
  rw [hh0] at HD
  have Hba : Hid (Below W1.heap.size W1 (W1.alloc (.cells #[.int .i64 (k : Int)] 3))) := hide ((Below.refl _ _).alloc (Nat.le_refl _) _)
  have K30 := hide (outside_any aH aQ (some ⟨W1.heap.size, 0, none⟩) cH cQ 1 N M 1 x [(k : Int)] (W1.alloc (.cells #[.int .i64 (k : Int)] 3)) rfl (int_new _ _ _ rfl) (by omega))
  rw [out_one] at K30
  rw [hbad] at K30
  clear hbad e1 e2 hx hkN hw
  obtain ⟨⟨p0, p1⟩, ⟨p2, p3⟩, ⟨p4, p5⟩, ⟨p6, p7⟩⟩ := HD.out.cells
  clear hT hN hM hc hp hW1
  go_enter Try.func15, Try.ntmps15
  go_upto_region 1 with fail
  rw [← HW1.out]
  try rw [hh0]
  clear HW1 hh0
  go_upto_region 3 with (go_at_call 30; refine K30.out.mono ?_; rintro e W4 ⟨rfl, hb4⟩; have HD4 := hide (HD.out.keep (Hba.out.trans (hb4.mono Hba.out.size))); obtain ⟨⟨p0, p1⟩, ⟨p2, p3⟩, ⟨p4, p5⟩, ⟨p6, p7⟩⟩ := HD4.out.cells; clear hb4)
  clear HD K30 Hba
  have hr4 := HD4.out.dt.hold
  rw [HN.out] at hr4
  obtain ⟨b, off, rfl, e0⟩ := int_at hr4 k x Hx.out
  clear hr4
  go_upto_region 5 with fail
  clear Hx e0
  have Hba4 : Hid (Below W4.heap.size W4 (W4.alloc (.cells #[] 3))) := hide ((Below.refl _ _).alloc (Nat.le_refl _) _)
  have HX : Hid (intE.Rd (W4.alloc (.cells #[] 3)) (.slice (some ⟨b, off, none⟩) N cH) U.hold ∧ intE.Own (W4.alloc (.cells #[] 3)) W4.heap.size (.slice (some ⟨W4.heap.size, 0, none⟩) 0 0) [] ∧ U.hold.length ≤ 1000) := hide (by
    have h1 := HD4.out.dt.hold
    rw [HN.out] at h1
    exact ⟨h1.keep Hba4.out, El.Own.new intE _ _ (Nat.le_refl _) #[] [] rfl (by simp) _ _ _ rfl rfl rfl, HL.out⟩)
  have c06 : (W4.alloc (.cells #[] 3)).cell? ⟨h0, 0, none⟩ = some (.slice (some ⟨b, off, none⟩) N cH) := (HD4.out.keep Hba4.out).cells.1.1
  have Hown : Hid (∀ k, (Value.slice (some ⟨W4.heap.size, 0, none⟩) 0 0).ownBlock = some k → W4.heap.size ≤ k) := hide (fun k hk => by simp [Value.ownBlock] at hk; omega)
  go_upto_region 7 with (at_builtin; refine intE.wpB (B := W4.heap.size) Hba4.out.size (by rfl) _ _ rfl _ _ rfl rfl [] U.hold HX.out.2.1 HX.out.1 (by have := HX.out.2.2; simp; omega) ?_; intro v7 w7 ho7 hg7 _; obtain ⟨bh, c7, rfl, hd7, x0, x1, ⟨u, x2⟩, x3, x4⟩ := HD4.out.copy ho7 hg7 Hown.out k HkN.out 0; have HD7 := hide hd7; clear ho7 hg7 hd7)
  obtain ⟨W7, hW7⟩ : ∃ W7, W7 = ((w7.setCell ⟨h0, 0, none⟩ (.slice (some ⟨bh, 0, none⟩) N c7)).setCell ⟨bh, k, none⟩ (.int .i64 0)) := ⟨_, rfl⟩
  rw [← hW7] at HD7 ⊢
  clear hW7
  clear p0 p1 p2 p3 p4 p5 p6 p7
  obtain ⟨⟨p0, p1⟩, ⟨p2, p3⟩, ⟨p4, p5⟩, ⟨p6, p7⟩⟩ := HD7.out.cells
  have K32 := hide (rgrants_any (some ⟨bh, 0, none⟩) aQ c7 cQ ⟨U.hold.set k 0, U.q⟩ W7 HD7.out.dt HWF.out (by rw [HD7.out.hn]; exact HN1.out) (by rw [HD7.out.hm]; exact HD7.out.cap) HD7.out.hpw)
  rw [HD7.out.hn, HD7.out.hm] at K32
  clear p0 p1 p2 p3 p4 p5 p6 p7
  obtain ⟨⟨p0, p1⟩, ⟨p2, p3⟩, ⟨p4, p5⟩, ⟨p6, p7⟩⟩ := HD7.out.cells
  go_upto_region 8 with (go_at_call 32; refine K32.out.mono ?_; rintro e W8 ⟨⟨aH', cH', aQ', nQ', cQ', v, rfl, hg⟩, hb8⟩; obtain ⟨⟨p0, p1⟩, ⟨p2, p3⟩, ⟨p4, p5⟩, ⟨p6, p7⟩⟩ := (HD7.out.keep hb8).cells; obtain ⟨U', l, g1, g2, g3⟩ := HD7.out.grants hb8 hg; have HGR := hide g1; have HD9 := hide g2; have HO9 := hide g3; clear g1 g2 g3 hb8 hg)
  clear K32
  obtain ⟨W9, hW9⟩ : ∃ W9, W9 = ((W8.setCell ⟨h0, 0, none⟩ (.slice aH' N cH')).setCell ⟨h0, 1, none⟩ (.slice aQ' nQ' cQ')) := ⟨_, rfl⟩
  rw [← hW9] at HD9 HO9 ⊢
  clear hW9
  clear p0 p1 p2 p3 p4 p5 p6 p7
  obtain ⟨⟨p0, p1⟩, ⟨p2, p3⟩, ⟨p4, p5⟩, ⟨p6, p7⟩⟩ := HD9.out.cells
  go_wp2_with fail
  refine bodyPost_ret (v := .tuple #[.agg #[.slice aH' N cH', .slice aQ' nQ' cQ'], v, .int .i64 0]) (by simp [results, Try.results15, go_sem, p4, p6]) rfl ⟨⟨aH', cH', aQ', cQ', nQ', v, rfl, U', l, HGR.out, HD9.out.doneV HO9.out, HD9.out.done.1⟩, HD9.out.done.2⟩

set_option maxRecDepth 100000 in
set_option maxHeartbeats 4000000 in
theorem rdrop_bad (aH aQ : Option Addr) (cH cQ N M : Nat) (U : Tb) (t : Int) (w0 : World) (hT : DT pp w0 aH cH aQ cQ U) (hN : U.hold.length = N) (hM : U.q.length = M) (hc : M ≤ cQ) (hp : ∀ k, w0.heap.size ≤ k → pp 0 k) (hbad : toteB t = false) :
    Calls Try.prog 17 #[.agg #[.slice aH N cH, .slice aQ M cQ], .int .i64 t] w0 fun e w' => (∃ aH' cH' aQ' cQ' M', e = .returned (.tuple #[.agg #[.slice aH' N cH', .slice aQ' M' cQ'], .slice none 0 0, .int .i64 1]) ∧ DR pp w0 w' aH' cH' aQ' cQ' N M' U) ∧ Below w0.heap.size w0 w' := by
  obtain ⟨W1, hW1⟩ : ∃ W1, W1 = (w0.alloc (.cells #[.slice aH N cH, .slice aQ M cQ] 31)).alloc (.cells #[.slice none 0 0, .slice none 0 0] 31) := ⟨_, rfl⟩
  have HD := hide (DB.start hT hN hM hc hp hW1)
  have HW1 := hide hW1
  have HN := hide hN
  have HM := hide hM
  obtain ⟨h0, hh0⟩ : ∃ h0, w0.heap.size = h0 := ⟨_, rfl⟩
  rw [hh0] at HD
  have K30 := hide (outside_any aH aQ none cH cQ 0 N M 0 t [] W1 rfl (.inl ⟨rfl, rfl⟩) (by omega))
  rw [out_none] at K30
  rw [hbad] at K30
  clear hbad
  obtain ⟨⟨p0, p1⟩, ⟨p2, p3⟩, ⟨p4, p5⟩, ⟨p6, p7⟩⟩ := HD.out.cells
  clear hT hN hM hc hp hW1
  go_enter Try.func17, Try.ntmps17
  go_upto_region 1 with fail
  rw [← HW1.out]
  try rw [hh0]
  clear HW1 hh0
  go_wp2_with (go_at_call 30; refine K30.out.mono ?_; rintro e W4 ⟨rfl, hb4⟩; have HD4 := hide (HD.out.keep hb4); obtain ⟨⟨p0, p1⟩, ⟨p2, p3⟩, ⟨p4, p5⟩, ⟨p6, p7⟩⟩ := HD4.out.cells; clear hb4)
  refine bodyPost_ret (v := .tuple #[.agg #[.slice aH N cH, .slice aQ M cQ], .slice none 0 0, .int .i64 1]) (by simp [results, Try.results17, go_sem, p4, p6]) rfl ⟨⟨aH, cH, aQ, cQ, M, rfl, HD4.out.done.1⟩, HD4.out.done.2⟩

set_option maxRecDepth 100000 in
set_option maxHeartbeats 4000000 in
theorem rdrop_none (aH aQ : Option Addr) (cH cQ N M : Nat) (U : Tb) (t : Int) (w0 : World) (hT : DT pp w0 aH cH aQ cQ U) (hN : U.hold.length = N) (hM : U.q.length = M) (hc : M ≤ cQ) (hp : ∀ k, w0.heap.size ≤ k → pp 0 k) (hbad : toteB t = true) (hf : fnd t U.q < 0) (hw : Wf U) :
    Calls Try.prog 17 #[.agg #[.slice aH N cH, .slice aQ M cQ], .int .i64 t] w0 fun e w' => (∃ aH' cH' aQ' cQ' M', e = .returned (.tuple #[.agg #[.slice aH' N cH', .slice aQ' M' cQ'], .slice none 0 0, .int .i64 4]) ∧ DR pp w0 w' aH' cH' aQ' cQ' N M' U) ∧ Below w0.heap.size w0 w' := by
  obtain ⟨r, hr⟩ : ∃ r, fnd t U.q = r := ⟨_, rfl⟩
  rw [hr] at hf
  have HF := hide hr
  have HM3 : Hid (M ≤ 1000) := hide (by have := hw.qlen; omega)
  obtain ⟨W1, hW1⟩ : ∃ W1, W1 = (w0.alloc (.cells #[.slice aH N cH, .slice aQ M cQ] 31)).alloc (.cells #[.slice none 0 0, .slice none 0 0] 31) := ⟨_, rfl⟩
  have HD := hide (DB.start hT hN hM hc hp hW1)
  have HW1 := hide hW1
  have HN := hide hN
  have HM := hide hM
  obtain ⟨h0, hh0⟩ : ∃ h0, w0.heap.size = h0 := ⟨_, rfl⟩
  rw [hh0] at HD
  have K30 := hide (outside_any aH aQ none cH cQ 0 N M 0 t [] W1 rfl (.inl ⟨rfl, rfl⟩) (by omega))
  rw [out_none] at K30
  rw [hbad] at K30
  clear hbad hr hw
  obtain ⟨⟨p0, p1⟩, ⟨p2, p3⟩, ⟨p4, p5⟩, ⟨p6, p7⟩⟩ := HD.out.cells
  clear hT hN hM hc hp hW1
  go_enter Try.func17, Try.ntmps17
  go_upto_region 1 with fail
  rw [← HW1.out]
  try rw [hh0]
  clear HW1 hh0
  go_upto_region 3 with (go_at_call 30; refine K30.out.mono ?_; rintro e W4 ⟨rfl, hb4⟩; have HD4 := hide (HD.out.keep hb4); obtain ⟨⟨p0, p1⟩, ⟨p2, p3⟩, ⟨p4, p5⟩, ⟨p6, p7⟩⟩ := HD4.out.cells; clear hb4)
  have K31 := hide (rfind_any aH aQ cH cQ U t W4 HD4.out.dt (by rw [HM.out]; exact HM3.out))
  rw [HN.out, HM.out, HF.out] at K31
  go_wp2_with (go_at_call 31; refine K31.out.mono ?_; rintro e W5 ⟨rfl, hb5⟩; have HD5 := hide (HD4.out.keep hb5); clear p0 p1 p2 p3 p4 p5 p6 p7; obtain ⟨⟨p0, p1⟩, ⟨p2, p3⟩, ⟨p4, p5⟩, ⟨p6, p7⟩⟩ := HD5.out.cells; clear hb5)
  refine bodyPost_ret (v := .tuple #[.agg #[.slice aH N cH, .slice aQ M cQ], .slice none 0 0, .int .i64 4]) (by simp [results, Try.results17, go_sem, p4, p6]) rfl ⟨⟨aH, cH, aQ, cQ, M, rfl, HD5.out.done.1⟩, HD5.out.done.2⟩

set_option maxRecDepth 100000 in
set_option maxHeartbeats 4000000 in
theorem rdrop_ok (aH aQ : Option Addr) (cH cQ N M : Nat) (U : Tb) (t : Int) (w0 : World) (hT : DT pp w0 aH cH aQ cQ U) (hN : U.hold.length = N) (hM : U.q.length = M) (hc : M ≤ cQ) (hp : ∀ k, w0.heap.size ≤ k → pp 0 k) (hbad : toteB t = true) (i : Nat) (hi : i < M) (hf : fnd t U.q = (i : Int)) (hw : Wf U) (hN1 : 1 ≤ N) :
    Calls Try.prog 17 #[.agg #[.slice aH N cH, .slice aQ M cQ], .int .i64 t] w0 fun e w' => (∃ aH' cH' aQ' cQ' M' v, e = .returned (.tuple #[.agg #[.slice aH' N cH', .slice aQ' M' cQ'], v, .int .i64 0]) ∧ ∃ U' l, Gr ⟨U.hold, U.q.take i ++ U.q.drop (i + 1)⟩ U' l ∧ intE.Own w' w0.heap.size v l ∧ DR pp w0 w' aH' cH' aQ' cQ' N M' U') ∧ Below w0.heap.size w0 w' := by
  have HF := hide hf
  have hq30 : M ≤ 30 := by have := hw.qlen; omega
  have HM3 : Hid (M ≤ 1000) := hide (by omega)
  have HN1 := hide hN1
  have HWF := hide (hw.del i)
  have Hcap := hide hc
  have j0 : (0 : Int) ≤ (i : Int) := by omega
  have j1 : (M : Int) ≤ 30 := by omega
  have j2 : (i : Int) < (M : Int) := by omega
  have j4 : (i : Int) ≤ (cQ : Int) := by omega
  have j5 : (i : Int) + 1 ≤ (M : Int) := by omega
  have j6 : (M : Int) ≤ (cQ : Int) := by omega
  have j7 : IntKind.i64.wrap ((i : Int) + 1) = (i : Int) + 1 := IntWalk.i64_in _ (by omega)
  have j8 : ¬ ((i : Int) + 1 < 0) := by omega
  have j9 : ((i : Int) + 1).toNat = i + 1 := by omega
  obtain ⟨W1, hW1⟩ : ∃ W1, W1 = (w0.alloc (.cells #[.slice aH N cH, .slice aQ M cQ] 31)).alloc (.cells #[.slice none 0 0, .slice none 0 0] 31) := ⟨_, rfl⟩
  have HD := hide (DB.start hT hN hM hc hp hW1)
  have HW1 := hide hW1
  have HN := hide hN
  have HM := hide hM
  obtain ⟨h0, hh0⟩ : ∃ h0, w0.heap.size = h0 := ⟨_, rfl⟩
  rw [hh0] at HD
  have K30 := hide (outside_any aH aQ none cH cQ 0 N M 0 t [] W1 rfl (.inl ⟨rfl, rfl⟩) (by omega))
  rw [out_none] at K30
  rw [hbad] at K30
  clear hbad hf hw hN1
  obtain ⟨⟨p0, p1⟩, ⟨p2, p3⟩, ⟨p4, p5⟩, ⟨p6, p7⟩⟩ := HD.out.cells
  clear hT hN hM hc hp hW1
  go_enter Try.func17, Try.ntmps17
  go_upto_region 1 with fail
  rw [← HW1.out]
  try rw [hh0]
  clear HW1 hh0
  go_upto_region 3 with (go_at_call 30; refine K30.out.mono ?_; rintro e W4 ⟨rfl, hb4⟩; have HD4 := hide (HD.out.keep hb4); obtain ⟨⟨p0, p1⟩, ⟨p2, p3⟩, ⟨p4, p5⟩, ⟨p6, p7⟩⟩ := HD4.out.cells; clear hb4)
  have K31 := hide (rfind_any aH aQ cH cQ U t W4 HD4.out.dt (by rw [HM.out]; exact HM3.out))
  rw [HN.out, HM.out, HF.out] at K31
  go_upto_region 6 with (go_at_call 31; refine K31.out.mono ?_; rintro e W5 ⟨rfl, hb5⟩; have HD5 := hide (HD4.out.keep hb5); clear p0 p1 p2 p3 p4 p5 p6 p7; obtain ⟨⟨p0, p1⟩, ⟨p2, p3⟩, ⟨p4, p5⟩, ⟨p6, p7⟩⟩ := HD5.out.cells; clear hb5)
  clear K30 K31 HD HD4
  obtain ⟨cs, hq, hel⟩ := HD5.out.dt.q
  rw [HM.out] at hq
  obtain ⟨y, hy⟩ : ∃ y, cs[i]? = some y := ⟨_, List.getElem?_eq_getElem (by rw [hel.1, HM.out]; exact hi)⟩
  obtain ⟨bq, oq, rfl, _⟩ := hq.at i y hy
  clear hy
  have HQ := hide hq
  have Hel := hide hel
  have Hle : Hid (cs.length = M) := hide (hel.1.trans HM.out)
  clear hq hel
  have Hq4 : Hid (∀ W', Below W5.heap.size W5 W' → rcE.Rd W' (.slice (some ⟨bq, oq, none⟩) i cQ) (cs.take i)) := hide (fun W' hb => rd_take (HQ.out.keep hb) i (by have := Hle.out; omega))
  have Hq5 : Hid (∀ W', Below W5.heap.size W5 W' → rcE.Rd W' (.slice (if cQ = i + 1 then some ⟨bq, oq, none⟩ else some ⟨bq, oq + (i + 1) * 2, none⟩) (M - (i + 1)) (cQ - (i + 1))) (cs.drop (i + 1))) := hide (fun W' hb => rd_drop (HQ.out.keep hb) (by have := Hle.out; have := Hcap.out; omega) (i + 1) (by have := Hle.out; omega))
  have Hcb : Hid (cs.length ≤ 30) := hide (by have := Hle.out; omega)
  have Hdl : Hid ((cs.take i ++ cs.drop (i + 1)).length = M - 1) := hide (by have := Hle.out; simp only [List.length_take, List.length_drop, List.length_append]; omega)
  have Hdq : Hid ((U.q.take i ++ U.q.drop (i + 1)).length = M - 1) := hide (by have := HM.out; simp only [List.length_take, List.length_drop, List.length_append]; omega)
  obtain ⟨SS, hSS⟩ : ∃ SS : World → Prop, SS = fun W' => W'.cell? ⟨h0, 1, none⟩ = some (.slice (some ⟨bq, oq, none⟩) M cQ) ∧ W'.frozen? ⟨h0, 1, none⟩ = false := ⟨_, rfl⟩
  have s1 : ∀ W', SS W' → W'.cell? ⟨h0, 1, none⟩ = some (.slice (some ⟨bq, oq, none⟩) M cQ) := fun W' h => by rw [hSS] at h; exact h.1
  have s2 : ∀ W', SS W' → W'.frozen? ⟨h0, 1, none⟩ = false := fun W' h => by rw [hSS] at h; exact h.2
  have FS : Hid (∀ W', Below W5.heap.size W5 W' → SS W') := hide (fun W' hW => by
    rw [hSS]
    exact (HD5.out.keep hW).cells.2.1)
  have hS0 := FS.out _ ((Below.refl _ _).drew)
  clear hSS
  refine wp_region_E SS 13 (by kernel_rfl) ?_
  refine wpAnyE_take (i := 1) (v := .pointer (some ⟨h0, 1, none⟩)) rfl (by kernel_rfl) (by kernel_rfl) (by kernel_rfl) (by kernel_rfl) (fun _ _ _ h => h) (Or.inl ⟨by rfl, fun W' hW => by go_simp⟩) hS0 ?_
  refine wpAnyE_take (i := 2) (v := .slice (some ⟨bq, oq, none⟩) M cQ) rfl (by kernel_rfl) (by kernel_rfl) (by kernel_rfl) (by kernel_rfl) (fun _ _ _ h => h) (Or.inl ⟨by rfl, fun W' hW => by have := s1 W' hW; go_simp⟩) hS0 ?_
  refine wpAnyE_take (i := 3) (v := .int .i64 (i : Int)) rfl (by kernel_rfl) (by kernel_rfl) (by kernel_rfl) (by kernel_rfl) (fun _ _ _ h => h) (Or.inl ⟨by rfl, fun W' hW => by go_simp⟩) hS0 ?_
  refine wpAnyE_take (i := 4) (v := .slice (some ⟨bq, oq, none⟩) i cQ) rfl (by kernel_rfl) (by kernel_rfl) (by kernel_rfl) (by kernel_rfl) (fun _ _ _ h => h) (Or.inl ⟨by rfl, fun W' hW => by go_simp⟩) hS0 ?_
  refine wpAnyE_take (i := 6) (v := .pointer (some ⟨h0, 1, none⟩)) rfl (by kernel_rfl) (by kernel_rfl) (by kernel_rfl) (by kernel_rfl) (fun _ _ _ h => h) (Or.inl ⟨by rfl, fun W' hW => by go_simp⟩) hS0 ?_
  refine wpAnyE_take (i := 7) (v := .slice (some ⟨bq, oq, none⟩) M cQ) rfl (by kernel_rfl) (by kernel_rfl) (by kernel_rfl) (by kernel_rfl) (fun _ _ _ h => h) (Or.inl ⟨by rfl, fun W' hW => by have := s1 W' hW; go_simp⟩) hS0 ?_
  refine wpAnyE_take (i := 8) (v := .int .i64 (i : Int)) rfl (by kernel_rfl) (by kernel_rfl) (by kernel_rfl) (by kernel_rfl) (fun _ _ _ h => h) (Or.inl ⟨by rfl, fun W' hW => by go_simp⟩) hS0 ?_
  refine wpAnyE_take (i := 9) (v := .int .i64 ((i : Int) + 1)) rfl (by kernel_rfl) (by kernel_rfl) (by kernel_rfl) (by kernel_rfl) (fun _ _ _ h => h) (Or.inl ⟨by rfl, fun W' hW => by go_simp⟩) hS0 ?_
  refine wpAnyE_take (i := 10) (v := .slice (if cQ = i + 1 then some ⟨bq, oq, none⟩ else some ⟨bq, oq + (i + 1) * 2, none⟩) (M - (i + 1)) (cQ - (i + 1))) rfl (by kernel_rfl) (by kernel_rfl) (by kernel_rfl) (by kernel_rfl) (fun _ _ _ h => h) (Or.inl ⟨by rfl, fun W' hW => by go_simp⟩) hS0 ?_
  refine wpAnyE_ready (rs := [0]) (by kernel_rfl) (by simp) ?_
  refine AllReadyE.cons rfl (fun K hK => ?_) AllReadyE.nil
  go_simp
  have bX : Below W5.heap.size W5 (W5.drew.alloc (.cells #[] 71)) := ((Below.refl _ _).drew).alloc (Nat.le_refl _) _
  refine hK.out _ _ (fun _ => FS.out _ bX) ?_
  clear hK K
  refine wpAnyE_ready (rs := [5]) (by kernel_rfl) (by simp) ?_
  refine AllReadyE.cons rfl (fun K hK => ?_) AllReadyE.nil
  refine rcE.stepB (B := W5.heap.size) bX.size rfl (.tmp 19) (.tmp 23) rfl (.slice (some ⟨W5.heap.size, 0, none⟩) 0 0) (.slice (some ⟨bq, oq, none⟩) i cQ) rfl rfl [] (cs.take i) (El.Own.new rcE W5.drew W5.heap.size (Nat.le_refl _) #[] [] rfl (by simp) _ _ _ rfl rfl rfl) (Hq4.out _ bX) (by have := Hcb.out; simp only [List.length_take, List.length_nil]; omega) ?_
  intro v5 w5 ho5 hg5 hz5
  have b5 : Below W5.heap.size W5 w5 := bX.grown hg5 bX.size (fun k hk => by simp [Value.ownBlock] at hk; omega)
  rw [List.nil_append] at ho5
  refine hK.out _ _ (fun _ => FS.out _ b5) ?_
  clear hK K
  refine wpAnyE_ready (rs := [11]) (by kernel_rfl) (by simp) ?_
  refine AllReadyE.cons rfl (fun K hK => ?_) AllReadyE.nil
  refine rcE.stepB (B := W5.heap.size) b5.size rfl (.tmp 24) (.tmp 29) rfl v5 (.slice (if cQ = i + 1 then some ⟨bq, oq, none⟩ else some ⟨bq, oq + (i + 1) * 2, none⟩) (M - (i + 1)) (cQ - (i + 1))) rfl rfl (cs.take i) (cs.drop (i + 1)) ho5 (Hq5.out _ b5) (by have := Hcb.out; simp only [List.length_take, List.length_drop]; omega) ?_
  intro v8 w8 ho8 hg8 hz8
  have b8 : Below W5.heap.size W5 w8 := b5.grown hg8 b5.size (fun k hk => ho5.ge k hk)
  refine hK.out _ _ (fun _ => FS.out _ b8) ?_
  clear hK K
  refine wpAnyE_ready (rs := [12]) (by kernel_rfl) (by simp) ?_
  refine AllReadyE.cons rfl (fun K hK => ?_) AllReadyE.nil
  go_simp
  refine hK.out _ _ (fun _ => FS.out _ b8) ?_
  clear hK K
  refine wpAnyE_ready (rs := [13]) (by kernel_rfl) (by simp) ?_
  refine AllReadyE.cons rfl (fun K hK => ?_) AllReadyE.nil
  have x1 := s1 _ (FS.out _ b8)
  have x2 := s2 _ (FS.out _ b8)
  obtain ⟨a8, c8, hf8⟩ := ho8.rd.form
  rw [Hdl.out] at hf8
  subst hf8
  go_simp
  refine hK.out _ _ (fun h => absurd rfl h) ?_
  clear hK K
  refine wpAnyE_done (by kernel_rfl) ?_ _
  have HO8 := hide ho8
  have HB8 := hide b8
  clear hS0 ho5 hg5 hz5 ho8 hg8 hz8 bX b5 b8 x1 x2 s1 s2
  have HD7 : Hid (DB pp w0 (w8.setCell ⟨h0, 1, none⟩ (.slice a8 (M - 1) c8)) h0 aH cH a8 c8 N (M - 1) ⟨U.hold, U.q.take i ++ U.q.drop (i + 1)⟩) := hide (HD5.out.putQ HB8.out HO8.out ((crd_del Hel.out (by rw [HM.out]; exact hi)).keep HB8.out) Hdq.out)
  clear Hq4 Hq5 Hcb Hdl Hdq FS HQ Hle HO8 HB8 HD5 j4 j5 j6 j7 j8 j9 Hel
  generalize w8.setCell ⟨h0, 1, none⟩ (.slice a8 (M - 1) c8) = W7 at *
  clear hi
  generalize M - 1 = M7 at *
  have K32 := hide (rgrants_any aH a8 cH c8 ⟨U.hold, U.q.take i ++ U.q.drop (i + 1)⟩ W7 HD7.out.dt HWF.out (by rw [HD7.out.hn]; exact HN1.out) (by rw [HD7.out.hm]; exact HD7.out.cap) HD7.out.hpw)
  rw [HD7.out.hn, HD7.out.hm] at K32
  clear p0 p1 p2 p3 p4 p5 p6 p7
  obtain ⟨⟨p0, p1⟩, ⟨p2, p3⟩, ⟨p4, p5⟩, ⟨p6, p7⟩⟩ := HD7.out.cells
  go_upto_region 8 with (go_at_call 32; refine K32.out.mono ?_; rintro e W8 ⟨⟨aH', cH', aQ', nQ', cQ', v, rfl, hg⟩, hb8⟩; obtain ⟨⟨p0, p1⟩, ⟨p2, p3⟩, ⟨p4, p5⟩, ⟨p6, p7⟩⟩ := (HD7.out.keep hb8).cells; obtain ⟨U', l, g1, g2, g3⟩ := HD7.out.grants hb8 hg; have HGR := hide g1; have HD9 := hide g2; have HO9 := hide g3; clear g1 g2 g3 hb8 hg)
  clear K32
  obtain ⟨W9, hW9⟩ : ∃ W9, W9 = ((W8.setCell ⟨h0, 0, none⟩ (.slice aH' N cH')).setCell ⟨h0, 1, none⟩ (.slice aQ' nQ' cQ')) := ⟨_, rfl⟩
  rw [← hW9] at HD9 HO9 ⊢
  clear hW9
  clear p0 p1 p2 p3 p4 p5 p6 p7
  obtain ⟨⟨p0, p1⟩, ⟨p2, p3⟩, ⟨p4, p5⟩, ⟨p6, p7⟩⟩ := HD9.out.cells
  go_wp2_with fail
  all_goals refine bodyPost_ret (v := .tuple #[.agg #[.slice aH' N cH', .slice aQ' nQ' cQ'], v, .int .i64 0]) (by simp [results, Try.results17, go_sem, p4, p6]) rfl ⟨⟨aH', cH', aQ', cQ', nQ', v, rfl, U', l, HGR.out, HD9.out.doneV HO9.out, HD9.out.done.1⟩, HD9.out.done.2⟩
end Go.Proofs.Ytbibegendejnlaa
