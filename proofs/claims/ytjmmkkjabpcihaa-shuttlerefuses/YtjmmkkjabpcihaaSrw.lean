/- ShuttleRefuses, the walk. -/
import Derived.Test.YtjmmkkjabpcihaaSdo
namespace Go.Proofs.Ytjmmkkjabpcihaa
open Go.RowKit
set_option linter.unusedVariables false

/-- two shuttles side by side -/
structure RW (w0 w : World) (ga gb : Nat) (S R : Sh) : Prop where
  a : Shb w ga S
  b : Shb w gb R
  bel : Below w0.heap.size w0 w
  ne : ga ≠ gb
  oa : w0.heap.size ≤ ga
  ob : w0.heap.size ≤ gb
theorem RW.keep {w0 w w' : World} {ga gb : Nat} {S R : Sh} (x : RW w0 w ga gb S R) (hb : Below w.heap.size w w') : RW w0 w' ga gb S R := ⟨x.a.keep hb, x.b.keep hb, x.bel.trans (hb.mono x.bel.size), x.ne, x.oa, x.ob⟩
theorem RW.doA {w0 w w' : World} {ga gb : Nat} {S R S' : Sh} (x : RW w0 w ga gb S R) (c : Chg w ga S' w') : RW w0 w' ga gb S' R :=
  ⟨c.sh, x.b.stay (c.gr.block gb x.b.lt (fun e => x.ne (by cases e; rfl))), c.below x.bel x.oa (Nat.le_refl _), x.ne, x.oa, x.ob⟩
theorem RW.doB {w0 w w' : World} {ga gb : Nat} {S R R' : Sh} (x : RW w0 w ga gb S R) (c : Chg w gb R' w') : RW w0 w' ga gb S R' :=
  ⟨x.a.stay (c.gr.block ga x.a.lt (fun e => x.ne (by cases e; rfl))), c.sh, c.below x.bel x.ob (Nat.le_refl _), x.ne, x.oa, x.ob⟩

set_option maxRecDepth 100000 in
set_option maxHeartbeats 2000000 in
theorem refuses_walk (n a p : Int) (a1 : Option Addr) (m c : Nat) (zs : List Op) (w : World) (hm : zs.length = m) (hv : Ops w (.slice a1 m c) zs) : Calls Try.prog 7 #[.agg #[.int .i64 n, .int .i64 a, .int .i64 p], .slice a1 m c] w fun e w' => e = .returned (.bool true) ∧ Below w.heap.size w w' := by
  obtain ⟨w0, rfl⟩ : ∃ w0, w0 = w := ⟨_, rfl⟩
  have KA := hide awake_any
  have HH := hide (Hw.new w0 n a p)
  obtain ⟨h, hh⟩ : ∃ h, w0.heap.size = h := ⟨_, rfl⟩
  rw [hh] at HH
  have Hh := hide hh
  have Hm := hide hm
  have HV := hide hv
  clear hm hv hh
  by_cases hno : noN n a p
  · have K9 : Hid (∀ W, _) := hide (fun W => new_no n a p W hno)
    clear hno
    go_enter Try.func7, Try.ntmps7
    go_upto_region 1 with fail
    rw [Hh.out]
    generalize w0.alloc (.cells #[.int .i64 n, .int .i64 a, .int .i64 p] 23) = W at *
    go_upto_region 4 with (first
      | (go_at_call 8; refine (KA.out _).mono ?_; rintro e W1 ⟨rfl, hb⟩; have HH1 := hide (HH.out.keep hb); clear hb; obtain ⟨x0, x1, x2⟩ := HH1.out.cells)
      | (go_at_call 9; refine (K9.out _).mono ?_; rintro e W2 ⟨rfl, hb⟩; have HH2 := hide (HH1.out.keep hb); clear hb))
    clear x0 x1 x2
    obtain ⟨x0, x1, x2⟩ := HH2.out.cells
    go_wp2_with (go_at_call 9; refine (K9.out _).mono ?_; rintro e W3 ⟨rfl, hb⟩; have HH3 := hide (HH2.out.keep hb); clear hb)
    go_ret
    exact ⟨rfl, HH3.out.bel⟩
  have K9 : Hid (∀ W, _) := hide (fun W => new_ok n a p W hno)
  have Hok : Hid (Sh.Ok (shN n a p)) := hide (by unfold noN at hno; exact Sh.ok_new (by omega) (by omega) (by omega) (by omega) (by omega) (by omega))
  clear hno
  go_enter Try.func7, Try.ntmps7
  go_upto_region 1 with fail
  rw [Hh.out]
  generalize w0.alloc (.cells #[.int .i64 n, .int .i64 a, .int .i64 p] 23) = W at *
  go_upto_region 4 with (first
    | (go_at_call 8; refine (KA.out _).mono ?_; rintro e W1 ⟨rfl, hb⟩; have HH1 := hide (HH.out.keep hb); clear hb; obtain ⟨x0, x1, x2⟩ := HH1.out.cells)
    | (go_at_call 9; refine (K9.out _).mono ?_; rintro e W2 ⟨rfl, hs, hb⟩; have HH2 := hide (HH1.out.keep hb); have HS2 := hide hs; clear hb hs))
  have HB1 := hide HH1.out.bel.size
  clear x0 x1 x2 HH HH1
  obtain ⟨x0, x1, x2⟩ := HH2.out.cells
  obtain ⟨ga, hga⟩ : ∃ ga, W1.heap.size = ga := ⟨_, rfl⟩
  rw [hga] at HS2 HB1 ⊢
  clear hga
  obtain ⟨gb, hgb⟩ : ∃ gb, W2.heap.size = gb := ⟨_, rfl⟩
  have K9' := hide (K9.out W2)
  have HB2 := hide HH2.out.bel.size
  rw [hgb] at K9' HB2
  have HW3 : Hid (∀ W3, Shb W3 gb (shN n a p) → Below gb W2 W3 → RW w0 W3 ga gb (shN n a p) (shN n a p)) := hide (fun W3 hs hb => by
    rw [← hgb] at hb
    have h1 := HS2.out.lt
    exact ⟨HS2.out.keep hb, hs, (HH2.out.keep hb).bel, by omega, HB1.out, HB2.out⟩)
  clear hgb
  go_upto_region 5 with (go_at_call 9; refine K9'.out.mono ?_; rintro e W3 ⟨rfl, hs, hb⟩; have HR := hide (HW3.out _ hs hb); clear hb hs)
  clear K9 K9' KA HW3 HS2 HB1 HB2 HH2 x0 x1 x2
  go_wp2_with fail
  go_loopw [10] (fun v10 wr => ∃ (i : Nat) (S : Sh), v10 = .int .i64 i ∧ i ≤ m ∧ i ≤ 300 ∧ Hid (S.Ok ∧ 0 ≤ S.dn ∧ S.dn ≤ (i : Int)) ∧ Hid (RW w0 wr ga gb S S)) (fun v10 _ => 300 - (intOf v10).toNat)
  case atStart => exact ⟨0, _, rfl, Nat.zero_le _, by omega, hide ⟨Hok.out, by show (0 : Int) ≤ 0; omega, by show (0 : Int) ≤ 0; omega⟩, HR⟩
  case round =>
    obtain ⟨i, S, rfl, him, hi2, HO, HW⟩ := hrel
    have K13a : Hid (∀ W, RW w0 W ga gb S S → _) := hide (fun W h => tick_any h.a HO.out.1)
    have K13b : Hid (∀ W, RW w0 W ga gb S.tick S → _) := hide (fun W h => tick_any h.b HO.out.1)
    have K23a : Hid (∀ W S R, RW w0 W ga gb S R → Calls Try.prog 23 #[.pointer (some ⟨ga, 0, none⟩)] W fun e w' => e = .returned (.int .i64 S.st) ∧ w' = W) := hide (fun W S R h => state_any h.a)
    have K23b : Hid (∀ W S R, RW w0 W ga gb S R → Calls Try.prog 23 #[.pointer (some ⟨gb, 0, none⟩)] W fun e w' => e = .returned (.int .i64 R.st) ∧ w' = W) := hide (fun W S R h => state_any h.b)
    by_cases hgo : i < m ∧ i < 300
    · have q0 : (i : Int) < (m : Int) := by omega
      have q1 : (i : Int) < 300 := by omega
      have q2 : (0 : Int) ≤ (i : Int) := by omega
      have hlt := hgo.1
      obtain ⟨o, ho⟩ : ∃ o, zs[i]? = some o := ⟨_, List.getElem?_eq_getElem (by rw [Hm.out]; exact hlt)⟩
      obtain ⟨b, off, rfl, z0, z1, z2, z3, z4⟩ := HV.out.at i o ho
      have HZ : Hid (∀ W, Below w0.heap.size w0 W → W.cell? ⟨b, off + i * 5, none⟩ = some (.int .i64 o.kind) ∧ W.cell? ⟨b, off + i * 5 + 1, none⟩ = some (.int .i64 o.n) ∧ W.cell? ⟨b, off + i * 5 + 2, none⟩ = some (.int .i64 o.jt) ∧ W.cell? ⟨b, off + i * 5 + 3, none⟩ = some (.int .i64 o.jf) ∧ W.cell? ⟨b, off + i * 5 + 4, none⟩ = some (.int .i64 o.jo)) := hide (fun W hb => ⟨by rw [hb.cell (p := ⟨b, off + i * 5, none⟩) (cell_lt z0)]; exact z0, by rw [hb.cell (p := ⟨b, off + i * 5 + 1, none⟩) (cell_lt z1)]; exact z1, by rw [hb.cell (p := ⟨b, off + i * 5 + 2, none⟩) (cell_lt z2)]; exact z2, by rw [hb.cell (p := ⟨b, off + i * 5 + 3, none⟩) (cell_lt z3)]; exact z3, by rw [hb.cell (p := ⟨b, off + i * 5 + 4, none⟩) (cell_lt z4)]; exact z4⟩)
      clear z0 z1 z2 z3 z4 ho hlt hgo K13a K13b
      obtain ⟨z0, z1, z2, z3, z4⟩ := HZ.out _ HW.out.bel
      have hdn : Hid (0 ≤ S.dn ∧ S.dn ≤ 1000000) := hide ⟨HO.out.2.1, by have := HO.out.2.2; omega⟩
      have K27a : Hid (∀ W, RW w0 W ga gb S S → _) := hide (fun W h => do_any h.a HO.out.1 hdn.out o)
      have K27b : Hid (∀ W R, RW w0 W ga gb R S → _) := hide (fun W R h => do_any h.b HO.out.1 hdn.out o)
      have HO2 : Hid ((doS S o).Ok ∧ 0 ≤ (doS S o).dn ∧ (doS S o).dn ≤ ((i + 1 : Nat) : Int)) := hide ⟨HO.out.1.do o, by have := do_dn S o; have := HO.out.2; omega, by have := do_dn S o; have := HO.out.2; omega⟩
      have K24a : Hid (∀ W S R, RW w0 W ga gb S R → Calls Try.prog 24 #[.pointer (some ⟨ga, 0, none⟩)] W fun e w' => e = .returned (.int .i64 S.pl) ∧ w' = W) := hide (fun W S R h => place_any h.a)
      have K24b : Hid (∀ W S R, RW w0 W ga gb S R → Calls Try.prog 24 #[.pointer (some ⟨gb, 0, none⟩)] W fun e w' => e = .returned (.int .i64 R.pl) ∧ w' = W) := hide (fun W S R h => place_any h.b)
      have K25a : Hid (∀ W S R, RW w0 W ga gb S R → Calls Try.prog 25 #[.pointer (some ⟨ga, 0, none⟩)] W fun e w' => e = .returned (.int .i64 S.load) ∧ w' = W) := hide (fun W S R h => load_any h.a)
      have K25b : Hid (∀ W S R, RW w0 W ga gb S R → Calls Try.prog 25 #[.pointer (some ⟨gb, 0, none⟩)] W fun e w' => e = .returned (.int .i64 R.load) ∧ w' = W) := hide (fun W S R h => load_any h.b)
      have K26a : Hid (∀ W S R, RW w0 W ga gb S R → Calls Try.prog 26 #[.pointer (some ⟨ga, 0, none⟩)] W fun e w' => e = .returned (.int .i64 S.dn) ∧ w' = W) := hide (fun W S R h => done_any h.a)
      have K26b : Hid (∀ W S R, RW w0 W ga gb S R → Calls Try.prog 26 #[.pointer (some ⟨gb, 0, none⟩)] W fun e w' => e = .returned (.int .i64 R.dn) ∧ w' = W) := hide (fun W S R h => done_any h.b)
      by_cases hc : doC S o = 0
      · rw [hc] at K27a K27b
        clear hc
        generalize doS S o = R at *
        generalize o.kind = o0 at *
        generalize o.n = o1 at *
        generalize o.jt = o2 at *
        generalize o.jf = o3 at *
        generalize o.jo = o4 at *
        have r0 : (R.st != R.st) = false := bne_self_eq_false _
        have r1 : (R.pl != R.pl) = false := bne_self_eq_false _
        have r2 : (R.load != R.load) = false := bne_self_eq_false _
        have r3 : (R.dn != R.dn) = false := bne_self_eq_false _
        go_wp2_with (first
          | (go_at_call_of 27 (Value.pointer (some ⟨ga, 0, none⟩)); refine (K27a.out _ HW.out).mono ?_; rintro e W4 ⟨rfl, hc⟩; have HW1 := hide (HW.out.doA hc); clear hc; obtain ⟨y0, y1, y2, y3, y4⟩ := HZ.out _ HW1.out.bel)
          | (go_at_call_of 27 (Value.pointer (some ⟨gb, 0, none⟩)); refine (K27b.out _ _ HW1.out).mono ?_; rintro e W5 ⟨rfl, hc⟩; have HW2 := hide (HW1.out.doB hc); clear hc)
          | (go_at_call_of 23 (Value.pointer (some ⟨ga, 0, none⟩)); refine (K23a.out _ _ _ HW2.out).mono ?_; rintro e W6 ⟨rfl, hW⟩; have hW' := hW.symm; clear hW; subst hW')
          | (go_at_call_of 23 (Value.pointer (some ⟨gb, 0, none⟩)); refine (K23b.out _ _ _ HW2.out).mono ?_; rintro e W6 ⟨rfl, hW⟩; have hW' := hW.symm; clear hW; subst hW')
          | (go_at_call_of 24 (Value.pointer (some ⟨ga, 0, none⟩)); refine (K24a.out _ _ _ HW2.out).mono ?_; rintro e W6 ⟨rfl, hW⟩; have hW' := hW.symm; clear hW; subst hW')
          | (go_at_call_of 24 (Value.pointer (some ⟨gb, 0, none⟩)); refine (K24b.out _ _ _ HW2.out).mono ?_; rintro e W6 ⟨rfl, hW⟩; have hW' := hW.symm; clear hW; subst hW')
          | (go_at_call_of 25 (Value.pointer (some ⟨ga, 0, none⟩)); refine (K25a.out _ _ _ HW2.out).mono ?_; rintro e W6 ⟨rfl, hW⟩; have hW' := hW.symm; clear hW; subst hW')
          | (go_at_call_of 25 (Value.pointer (some ⟨gb, 0, none⟩)); refine (K25b.out _ _ _ HW2.out).mono ?_; rintro e W6 ⟨rfl, hW⟩; have hW' := hW.symm; clear hW; subst hW')
          | (go_at_call_of 26 (Value.pointer (some ⟨ga, 0, none⟩)); refine (K26a.out _ _ _ HW2.out).mono ?_; rintro e W6 ⟨rfl, hW⟩; have hW' := hW.symm; clear hW; subst hW')
          | (go_at_call_of 26 (Value.pointer (some ⟨gb, 0, none⟩)); refine (K26b.out _ _ _ HW2.out).mono ?_; rintro e W6 ⟨rfl, hW⟩; have hW' := hW.symm; clear hW; subst hW'))
        go_roundw
        case rel => exact ⟨i + 1, R, by go_num, by omega, by omega, HO2, HW2⟩
        case measure => simp [intOf]; omega
      · have e2 := do_no hc
        rw [e2] at K27a HO2
        have b0 : (doC S o == 0) = false := beq_eq_false_iff_ne.2 hc
        clear hc e2 K27b
        generalize doC S o = cd at *
        generalize o.kind = o0 at *
        generalize o.n = o1 at *
        generalize o.jt = o2 at *
        generalize o.jf = o3 at *
        generalize o.jo = o4 at *
        have r0 : (S.st != S.st) = false := bne_self_eq_false _
        have r1 : (S.pl != S.pl) = false := bne_self_eq_false _
        have r2 : (S.load != S.load) = false := bne_self_eq_false _
        have r3 : (S.dn != S.dn) = false := bne_self_eq_false _
        go_wp2_with (first
          | (go_at_call_of 27 (Value.pointer (some ⟨ga, 0, none⟩)); refine (K27a.out _ HW.out).mono ?_; rintro e W4 ⟨rfl, hc⟩; have HW2 := hide (HW.out.doA hc); clear hc)
          | (go_at_call_of 23 (Value.pointer (some ⟨ga, 0, none⟩)); refine (K23a.out _ _ _ HW2.out).mono ?_; rintro e W6 ⟨rfl, hW⟩; have hW' := hW.symm; clear hW; subst hW')
          | (go_at_call_of 23 (Value.pointer (some ⟨gb, 0, none⟩)); refine (K23b.out _ _ _ HW2.out).mono ?_; rintro e W6 ⟨rfl, hW⟩; have hW' := hW.symm; clear hW; subst hW')
          | (go_at_call_of 24 (Value.pointer (some ⟨ga, 0, none⟩)); refine (K24a.out _ _ _ HW2.out).mono ?_; rintro e W6 ⟨rfl, hW⟩; have hW' := hW.symm; clear hW; subst hW')
          | (go_at_call_of 24 (Value.pointer (some ⟨gb, 0, none⟩)); refine (K24b.out _ _ _ HW2.out).mono ?_; rintro e W6 ⟨rfl, hW⟩; have hW' := hW.symm; clear hW; subst hW')
          | (go_at_call_of 25 (Value.pointer (some ⟨ga, 0, none⟩)); refine (K25a.out _ _ _ HW2.out).mono ?_; rintro e W6 ⟨rfl, hW⟩; have hW' := hW.symm; clear hW; subst hW')
          | (go_at_call_of 25 (Value.pointer (some ⟨gb, 0, none⟩)); refine (K25b.out _ _ _ HW2.out).mono ?_; rintro e W6 ⟨rfl, hW⟩; have hW' := hW.symm; clear hW; subst hW')
          | (go_at_call_of 26 (Value.pointer (some ⟨ga, 0, none⟩)); refine (K26a.out _ _ _ HW2.out).mono ?_; rintro e W6 ⟨rfl, hW⟩; have hW' := hW.symm; clear hW; subst hW')
          | (go_at_call_of 26 (Value.pointer (some ⟨gb, 0, none⟩)); refine (K26b.out _ _ _ HW2.out).mono ?_; rintro e W6 ⟨rfl, hW⟩; have hW' := hW.symm; clear hW; subst hW'))
        go_roundw
        case rel => exact ⟨i + 1, S, by go_num, by omega, by omega, HO2, HW2⟩
        case measure => simp [intOf]; omega
    · generalize S.tickK = tK at *
      generalize S.tickW = tW at *
      generalize S.tick = R at *
      have r0 : (R.st == R.st) = true := beq_self_eq_true _
      have r1 : (tK == tK) = true := beq_self_eq_true _
      have r2 : (tW == tW) = true := beq_self_eq_true _
      by_cases hlt : i < m
      · have q0 : (i : Int) < (m : Int) := by omega
        have q1 : ¬ (i : Int) < 300 := by omega
        clear hlt hgo
        go_wp2_with (first
          | (go_at_call_of 13 (Value.pointer (some ⟨ga, 0, none⟩)); refine (K13a.out _ HW.out).mono ?_; rintro e W4 ⟨rfl, hc⟩; have HW1 := hide (HW.out.doA hc); clear hc)
          | (go_at_call_of 13 (Value.pointer (some ⟨gb, 0, none⟩)); refine (K13b.out _ HW1.out).mono ?_; rintro e W5 ⟨rfl, hc⟩; have HW2 := hide (HW1.out.doB hc); clear hc)
          | (go_at_call_of 23 (Value.pointer (some ⟨ga, 0, none⟩)); refine (K23a.out _ _ _ HW2.out).mono ?_; rintro e W6 ⟨rfl, hW⟩; have hW' := hW.symm; clear hW; subst hW')
          | (go_at_call_of 23 (Value.pointer (some ⟨gb, 0, none⟩)); refine (K23b.out _ _ _ HW2.out).mono ?_; rintro e W6 ⟨rfl, hW⟩; have hW' := hW.symm; clear hW; subst hW'))
        go_ret
        exact ⟨by first | rfl | simp, HW2.out.bel⟩
      · have q0 : ¬ (i : Int) < (m : Int) := by omega
        clear hlt hgo
        go_wp2_with (first
          | (go_at_call_of 13 (Value.pointer (some ⟨ga, 0, none⟩)); refine (K13a.out _ HW.out).mono ?_; rintro e W4 ⟨rfl, hc⟩; have HW1 := hide (HW.out.doA hc); clear hc)
          | (go_at_call_of 13 (Value.pointer (some ⟨gb, 0, none⟩)); refine (K13b.out _ HW1.out).mono ?_; rintro e W5 ⟨rfl, hc⟩; have HW2 := hide (HW1.out.doB hc); clear hc)
          | (go_at_call_of 23 (Value.pointer (some ⟨ga, 0, none⟩)); refine (K23a.out _ _ _ HW2.out).mono ?_; rintro e W6 ⟨rfl, hW⟩; have hW' := hW.symm; clear hW; subst hW')
          | (go_at_call_of 23 (Value.pointer (some ⟨gb, 0, none⟩)); refine (K23b.out _ _ _ HW2.out).mono ?_; rintro e W6 ⟨rfl, hW⟩; have hW' := hW.symm; clear hW; subst hW'))
        go_ret
        exact ⟨by first | rfl | simp, HW2.out.bel⟩
end Go.Proofs.Ytjmmkkjabpcihaa
