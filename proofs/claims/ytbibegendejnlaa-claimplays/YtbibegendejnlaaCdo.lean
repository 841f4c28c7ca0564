/- The document's Seize, Release, Drop, Put. -/
import Derived.Test.YtbibegendejnlaaCdb
import Derived.BigRegion
namespace Go.Proofs.Ytbibegendejnlaa
open Go.RowKit
set_option linter.unusedVariables false
variable {pp : Nat → Nat → Prop}

theorem out_one (N : Nat) (t n : Int) : outB N t [n] = badN N t n := by unfold outB badN; simp [Bool.or_comm]

set_option maxRecDepth 100000 in
set_option maxHeartbeats 4000000 in
theorem rseize_bad (aH aQ : Option Addr) (cH cQ N M : Nat) (U : Tb) (t n : Int) (w0 : World) (hT : DT pp w0 aH cH aQ cQ U) (hN : U.hold.length = N) (hM : U.q.length = M) (hc : M ≤ cQ) (hp : ∀ k, w0.heap.size ≤ k → pp 0 k) (hbad : badN N t n = true) :
    Calls Try.prog 19 #[.agg #[.slice aH N cH, .slice aQ M cQ], .int .i64 t, .int .i64 n] w0 fun e w' => (∃ aH' cH' aQ' cQ' M', e = .returned (.tuple #[.agg #[.slice aH' N cH', .slice aQ' M' cQ'], .int .i64 1]) ∧ DR pp w0 w' aH' cH' aQ' cQ' N M' U) ∧ Below w0.heap.size w0 w' := by
  obtain ⟨W1, hW1⟩ : ∃ W1, W1 = (w0.alloc (.cells #[.slice aH N cH, .slice aQ M cQ] 31)).alloc (.cells #[.slice none 0 0, .slice none 0 0] 31) := ⟨_, rfl⟩
  have HD := hide (DB.start hT hN hM hc hp hW1)
  have HW1 := hide hW1
  have HN := hide hN
  have HM := hide hM
  obtain ⟨h0, hh0⟩ : ∃ h0, w0.heap.size = h0 := ⟨_, rfl⟩
  rw [hh0] at HD
  have Hba : Hid (Below W1.heap.size W1 (W1.alloc (.cells #[.int .i64 n] 3))) := hide ((Below.refl _ _).alloc (Nat.le_refl _) _)
  have K30 := hide (outside_any aH aQ (some ⟨W1.heap.size, 0, none⟩) cH cQ 1 N M 1 t [n] (W1.alloc (.cells #[.int .i64 n] 3)) rfl (int_new _ _ _ rfl) (by omega))
  rw [out_one] at K30
  rw [hbad] at K30
  clear hbad
  obtain ⟨⟨p0, p1⟩, ⟨p2, p3⟩, ⟨p4, p5⟩, ⟨p6, p7⟩⟩ := HD.out.cells
  clear hT hN hM hc hp hW1
  go_enter Try.func19, Try.ntmps19
  go_upto_region 1 with fail
  rw [← HW1.out]
  try rw [hh0]
  clear HW1 hh0
  go_wp2_with (go_at_call 30; refine K30.out.mono ?_; rintro e W4 ⟨rfl, hb4⟩; have HD4 := hide (HD.out.keep (Hba.out.trans (hb4.mono Hba.out.size))); obtain ⟨⟨p0, p1⟩, ⟨p2, p3⟩, ⟨p4, p5⟩, ⟨p6, p7⟩⟩ := HD4.out.cells; clear hb4)
  refine bodyPost_ret (v := .tuple #[.agg #[.slice aH N cH, .slice aQ M cQ], .int .i64 1]) (by simp [results, Try.results19, go_sem, p4, p6]) rfl ⟨⟨aH, cH, aQ, cQ, M, rfl, HD4.out.done.1⟩, HD4.out.done.2⟩

set_option maxRecDepth 100000 in
set_option maxHeartbeats 4000000 in
theorem rseize_held (aH aQ : Option Addr) (cH cQ N M : Nat) (U : Tb) (t n : Int) (w0 : World) (hT : DT pp w0 aH cH aQ cQ U) (hN : U.hold.length = N) (hM : U.q.length = M) (hc : M ≤ cQ) (hp : ∀ k, w0.heap.size ≤ k → pp 0 k) (hbad : badN N t n = false) (hh : hat U.hold n ≠ 0 ∧ hat U.hold n ≠ t) :
    Calls Try.prog 19 #[.agg #[.slice aH N cH, .slice aQ M cQ], .int .i64 t, .int .i64 n] w0 fun e w' => (∃ aH' cH' aQ' cQ' M', e = .returned (.tuple #[.agg #[.slice aH' N cH', .slice aQ' M' cQ'], .int .i64 100]) ∧ DR pp w0 w' aH' cH' aQ' cQ' N M' U) ∧ Below w0.heap.size w0 w' := by
  obtain ⟨e1, e2⟩ := badN_no hbad
  obtain ⟨k, rfl⟩ : ∃ k : Nat, n = (k : Int) := ⟨n.toNat, by have := of_decide_eq_true e2; omega⟩
  have hkN : k < N := by have := of_decide_eq_true e2; omega
  obtain ⟨x, hx⟩ : ∃ x, U.hold[k]? = some x := ⟨_, List.getElem?_eq_getElem (by rw [hN]; exact hkN)⟩
  have Hx := hide hx
  rw [hat_at hx] at hh
  have j0 : (0 : Int) ≤ (k : Int) := by omega
  have j1 : (k : Int) < (N : Int) := by omega
  have q1 : (x != 0) = true := bne_iff_ne.2 hh.1
  have q2 : (x != t) = true := bne_iff_ne.2 hh.2
  obtain ⟨W1, hW1⟩ : ∃ W1, W1 = (w0.alloc (.cells #[.slice aH N cH, .slice aQ M cQ] 31)).alloc (.cells #[.slice none 0 0, .slice none 0 0] 31) := ⟨_, rfl⟩
  have HD := hide (DB.start hT hN hM hc hp hW1)
  have HW1 := hide hW1
  have HN := hide hN
  have HM := hide hM
  obtain ⟨h0, hh0⟩ : ∃ h0, w0.heap.size = h0 := ⟨_, rfl⟩
  rw [hh0] at HD
  have Hba : Hid (Below W1.heap.size W1 (W1.alloc (.cells #[.int .i64 (k : Int)] 3))) := hide ((Below.refl _ _).alloc (Nat.le_refl _) _)
  have K30 := hide (outside_any aH aQ (some ⟨W1.heap.size, 0, none⟩) cH cQ 1 N M 1 t [(k : Int)] (W1.alloc (.cells #[.int .i64 (k : Int)] 3)) rfl (int_new _ _ _ rfl) (by omega))
  rw [out_one] at K30
  rw [hbad] at K30
  clear hbad e1 e2 hx hkN hh
  obtain ⟨⟨p0, p1⟩, ⟨p2, p3⟩, ⟨p4, p5⟩, ⟨p6, p7⟩⟩ := HD.out.cells
  clear hT hN hM hc hp hW1
  go_enter Try.func19, Try.ntmps19
  go_upto_region 1 with fail
  rw [← HW1.out]
  try rw [hh0]
  clear HW1 hh0
  go_upto_region 3 with (go_at_call 30; refine K30.out.mono ?_; rintro e W4 ⟨rfl, hb4⟩; have HD4 := hide (HD.out.keep (Hba.out.trans (hb4.mono Hba.out.size))); obtain ⟨⟨p0, p1⟩, ⟨p2, p3⟩, ⟨p4, p5⟩, ⟨p6, p7⟩⟩ := HD4.out.cells; clear hb4)
  clear HD K30 Hba
  have hr4 := HD4.out.dt.hold
  rw [HN.out] at hr4
  obtain ⟨b, off, rfl, e0⟩ := int_at hr4 k x Hx.out
  clear hr4
  go_wp2_with fail
  refine bodyPost_ret (v := .tuple #[.agg #[.slice (some ⟨b, off, none⟩) N cH, .slice aQ M cQ], .int .i64 100]) (by simp [results, Try.results19, go_sem, p4, p6]) rfl ⟨⟨some ⟨b, off, none⟩, cH, aQ, cQ, M, rfl, HD4.out.done.1⟩, HD4.out.done.2⟩

set_option maxRecDepth 100000 in
set_option maxHeartbeats 4000000 in
theorem rseize_ok (aH aQ : Option Addr) (cH cQ N M : Nat) (U : Tb) (t n : Int) (w0 : World) (hT : DT pp w0 aH cH aQ cQ U) (hN : U.hold.length = N) (hM : U.q.length = M) (hc : M ≤ cQ) (hp : ∀ k, w0.heap.size ≤ k → pp 0 k) (hbad : badN N t n = false) (hh : ¬ (hat U.hold n ≠ 0 ∧ hat U.hold n ≠ t)) (hl : N ≤ 1000) :
    Calls Try.prog 19 #[.agg #[.slice aH N cH, .slice aQ M cQ], .int .i64 t, .int .i64 n] w0 fun e w' => (∃ aH' cH' aQ' cQ' M', e = .returned (.tuple #[.agg #[.slice aH' N cH', .slice aQ' M' cQ'], .int .i64 0]) ∧ DR pp w0 w' aH' cH' aQ' cQ' N M' ⟨U.hold.set n.toNat t, U.q⟩) ∧ Below w0.heap.size w0 w' := by
  obtain ⟨e1, e2⟩ := badN_no hbad
  obtain ⟨k, rfl⟩ : ∃ k : Nat, n = (k : Int) := ⟨n.toNat, by have := of_decide_eq_true e2; omega⟩
  have hkN : k < N := by have := of_decide_eq_true e2; omega
  obtain ⟨x, hx⟩ : ∃ x, U.hold[k]? = some x := ⟨_, List.getElem?_eq_getElem (by rw [hN]; exact hkN)⟩
  have Hx := hide hx
  rw [hat_at hx] at hh
  have j0 : (0 : Int) ≤ (k : Int) := by omega
  have j1 : (k : Int) < (N : Int) := by omega
  rw [show ((k : Int)).toNat = k by omega]
  have HL : Hid (U.hold.length ≤ 1000) := hide (by omega)
  have HkN := hide hkN
  obtain ⟨W1, hW1⟩ : ∃ W1, W1 = (w0.alloc (.cells #[.slice aH N cH, .slice aQ M cQ] 31)).alloc (.cells #[.slice none 0 0, .slice none 0 0] 31) := ⟨_, rfl⟩
  have HD := hide (DB.start hT hN hM hc hp hW1)
  have HW1 := hide hW1
  have HN := hide hN
  have HM := hide hM
  obtain ⟨h0, hh0⟩ : ∃ h0, w0.heap.size = h0 := ⟨_, rfl⟩
  rw [hh0] at HD
  have Hba : Hid (Below W1.heap.size W1 (W1.alloc (.cells #[.int .i64 (k : Int)] 3))) := hide ((Below.refl _ _).alloc (Nat.le_refl _) _)
  have K30 := hide (outside_any aH aQ (some ⟨W1.heap.size, 0, none⟩) cH cQ 1 N M 1 t [(k : Int)] (W1.alloc (.cells #[.int .i64 (k : Int)] 3)) rfl (int_new _ _ _ rfl) (by omega))
  rw [out_one] at K30
  rw [hbad] at K30
  clear hbad e1 e2 hx hkN hl
  obtain ⟨⟨p0, p1⟩, ⟨p2, p3⟩, ⟨p4, p5⟩, ⟨p6, p7⟩⟩ := HD.out.cells
  clear hT hN hM hc hp hW1
  go_enter Try.func19, Try.ntmps19
  go_upto_region 1 with fail
  rw [← HW1.out]
  try rw [hh0]
  clear HW1 hh0
  go_upto_region 3 with (go_at_call 30; refine K30.out.mono ?_; rintro e W4 ⟨rfl, hb4⟩; have HD4 := hide (HD.out.keep (Hba.out.trans (hb4.mono Hba.out.size))); obtain ⟨⟨p0, p1⟩, ⟨p2, p3⟩, ⟨p4, p5⟩, ⟨p6, p7⟩⟩ := HD4.out.cells; clear hb4)
  clear HD K30 Hba
  have hr4 := HD4.out.dt.hold
  rw [HN.out] at hr4
  obtain ⟨b, off, rfl, e0⟩ := int_at hr4 k x Hx.out
  clear hr4
  by_cases h0' : x = 0
  · subst h0'
    clear hh
    go_upto_region 5 with fail
    clear Hx e0
    have Hba4 : Hid (Below W4.heap.size W4 (W4.alloc (.cells #[] 3))) := hide ((Below.refl _ _).alloc (Nat.le_refl _) _)
    have HX : Hid (intE.Rd (W4.alloc (.cells #[] 3)) (.slice (some ⟨b, off, none⟩) N cH) U.hold ∧ intE.Own (W4.alloc (.cells #[] 3)) W4.heap.size (.slice (some ⟨W4.heap.size, 0, none⟩) 0 0) [] ∧ U.hold.length ≤ 1000) := hide (by
      have h1 := HD4.out.dt.hold
      rw [HN.out] at h1
      exact ⟨h1.keep Hba4.out, El.Own.new intE _ _ (Nat.le_refl _) #[] [] rfl (by simp) _ _ _ rfl rfl rfl, HL.out⟩)
    have c06 : (W4.alloc (.cells #[] 3)).cell? ⟨h0, 0, none⟩ = some (.slice (some ⟨b, off, none⟩) N cH) := (HD4.out.keep Hba4.out).cells.1.1
    have Hown : Hid (∀ k, (Value.slice (some ⟨W4.heap.size, 0, none⟩) 0 0).ownBlock = some k → W4.heap.size ≤ k) := hide (fun k hk => by simp [Value.ownBlock] at hk; omega)
    go_upto_region 7 with (at_builtin; refine intE.wpB (B := W4.heap.size) Hba4.out.size (by rfl) _ _ rfl _ _ rfl rfl [] U.hold HX.out.2.1 HX.out.1 (by have := HX.out.2.2; simp; omega) ?_; intro v7 w7 ho7 hg7 _; obtain ⟨bh, c7, rfl, hd7, x0, x1, ⟨u, x2⟩, x3, x4⟩ := HD4.out.copy ho7 hg7 Hown.out k HkN.out t; have HD7 := hide hd7; clear ho7 hg7 hd7)
    obtain ⟨W7, hW7⟩ : ∃ W7, W7 = ((w7.setCell ⟨h0, 0, none⟩ (.slice (some ⟨bh, 0, none⟩) N c7)).setCell ⟨bh, k, none⟩ (.int .i64 t)) := ⟨_, rfl⟩
    rw [← hW7] at HD7 ⊢
    clear hW7
    clear p0 p1 p2 p3 p4 p5 p6 p7
    obtain ⟨⟨p0, p1⟩, ⟨p2, p3⟩, ⟨p4, p5⟩, ⟨p6, p7⟩⟩ := HD7.out.cells
    go_wp2_with fail
    refine bodyPost_ret (v := .tuple #[.agg #[.slice (some ⟨bh, 0, none⟩) N c7, .slice aQ M cQ], .int .i64 0]) (by simp [results, Try.results19, go_sem, p4, p6]) rfl ⟨⟨some ⟨bh, 0, none⟩, c7, aQ, cQ, M, rfl, HD7.out.done.1⟩, HD7.out.done.2⟩
  · have h1' : x = t := Classical.byContradiction (fun h => hh ⟨h0', h⟩)
    have q1 : (x != 0) = true := bne_iff_ne.2 h0'
    subst h1'
    clear hh
    go_upto_region 5 with fail
    clear Hx e0
    have Hba4 : Hid (Below W4.heap.size W4 (W4.alloc (.cells #[] 3))) := hide ((Below.refl _ _).alloc (Nat.le_refl _) _)
    have HX : Hid (intE.Rd (W4.alloc (.cells #[] 3)) (.slice (some ⟨b, off, none⟩) N cH) U.hold ∧ intE.Own (W4.alloc (.cells #[] 3)) W4.heap.size (.slice (some ⟨W4.heap.size, 0, none⟩) 0 0) [] ∧ U.hold.length ≤ 1000) := hide (by
      have h1 := HD4.out.dt.hold
      rw [HN.out] at h1
      exact ⟨h1.keep Hba4.out, El.Own.new intE _ _ (Nat.le_refl _) #[] [] rfl (by simp) _ _ _ rfl rfl rfl, HL.out⟩)
    have c06 : (W4.alloc (.cells #[] 3)).cell? ⟨h0, 0, none⟩ = some (.slice (some ⟨b, off, none⟩) N cH) := (HD4.out.keep Hba4.out).cells.1.1
    have Hown : Hid (∀ k, (Value.slice (some ⟨W4.heap.size, 0, none⟩) 0 0).ownBlock = some k → W4.heap.size ≤ k) := hide (fun k hk => by simp [Value.ownBlock] at hk; omega)
    go_upto_region 7 with (at_builtin; refine intE.wpB (B := W4.heap.size) Hba4.out.size (by rfl) _ _ rfl _ _ rfl rfl [] U.hold HX.out.2.1 HX.out.1 (by have := HX.out.2.2; simp; omega) ?_; intro v7 w7 ho7 hg7 _; obtain ⟨bh, c7, rfl, hd7, x0, x1, ⟨u, x2⟩, x3, x4⟩ := HD4.out.copy ho7 hg7 Hown.out k HkN.out x; have HD7 := hide hd7; clear ho7 hg7 hd7)
    obtain ⟨W7, hW7⟩ : ∃ W7, W7 = ((w7.setCell ⟨h0, 0, none⟩ (.slice (some ⟨bh, 0, none⟩) N c7)).setCell ⟨bh, k, none⟩ (.int .i64 x)) := ⟨_, rfl⟩
    rw [← hW7] at HD7 ⊢
    clear hW7
    clear p0 p1 p2 p3 p4 p5 p6 p7
    obtain ⟨⟨p0, p1⟩, ⟨p2, p3⟩, ⟨p4, p5⟩, ⟨p6, p7⟩⟩ := HD7.out.cells
    go_wp2_with fail
    refine bodyPost_ret (v := .tuple #[.agg #[.slice (some ⟨bh, 0, none⟩) N c7, .slice aQ M cQ], .int .i64 0]) (by simp [results, Try.results19, go_sem, p4, p6]) rfl ⟨⟨some ⟨bh, 0, none⟩, c7, aQ, cQ, M, rfl, HD7.out.done.1⟩, HD7.out.done.2⟩
end Go.Proofs.Ytbibegendejnlaa
