/- ShuttleJobs, the walk. -/
import Derived.Test.YtjmmkkjabpcihaaSsw
namespace Go.Proofs.Ytjmmkkjabpcihaa
open Go.RowKit
set_option linter.unusedVariables false

/-- between two jobs -/
structure Idl (S : Sh) (n p : Int) (i : Nat) : Prop where
  ok : S.Ok
  st : S.st = 0
  n : S.n = n
  pt : S.pt = p
  d0 : 0 ≤ S.dn
  d1 : S.dn ≤ (i : Int)
/-- within a job -/
structure Job (S : Sh) (n p z D : Int) (k : Nat) : Prop where
  ok : S.Ok
  tk : S.tk = 0
  st : S.st ≤ 4
  n : S.n = n
  pt : S.pt = p
  jo : S.jo = z
  dn : S.dn = D + (if S.st = 0 then 1 else 0)
  rk : (k : Int) + rnk S ≤ 4
  en : S.st = 0 → S.pl = z ∧ S.load = 0
theorem Idl.as {S : Sh} {n p t f o : Int} {i : Nat} (h : Idl S n p i) (hc : S.asC t f o = 0) : Job (S.as t f o) n p o S.dn 0 := by
  obtain ⟨h1, h2, h3, h4, h5, h6⟩ := as_nx h.ok hc
  exact ⟨h.ok.as t f o, h1, h3, h4.trans h.n, h5.trans h.pt, (as_zero hc).2.2.1, by rw [Sh.dn_as, if_neg (by omega)]; omega, by omega, fun e => by omega⟩
theorem Job.nx {S R : Sh} {n p jo D x : Int} {k : Nat} (h : Job S n p jo D k) (h1 : 1 ≤ S.st) (y : Nx (S.wt x) R) : Job R n p jo D (k + 1) := by
  have hd := h.dn
  rw [if_neg (by omega)] at hd
  have e1 : (S.wt x).dn = S.dn := rfl
  have e2 : rnk (S.wt x) = rnk S := rfl
  have e3 : (S.wt x).jo = S.jo := rfl
  have a1 := y.dn
  have a2 := y.rk
  have a3 := h.rk
  refine ⟨y.ok, y.tk, y.st, y.n.trans h.n, y.pt.trans h.pt, y.job.2.2.trans (e3.trans h.jo), by rw [a1, e1, hd]; omega, by omega, fun e => ?_⟩
  obtain ⟨b1, b2⟩ := y.en e
  exact ⟨b1.trans (e3.trans h.jo), b2⟩
theorem Job.lt {S : Sh} {n p jo D : Int} {k : Nat} (h : Job S n p jo D k) (h1 : 1 ≤ S.st) : k ≤ 3 := by
  have a := h.rk
  have b := h.st
  unfold rnk at a
  rw [if_neg (by omega)] at a
  omega
theorem rem_nat (N M : Nat) (hM : 0 < M) (hN : N ≤ 1000) : (N : Int).tmod (M : Int) = ((N % M : Nat) : Int) ∧ N % M < M ∧ N % M ≤ 1000 := by
  refine ⟨by rw [Int.tmod_eq_emod_of_nonneg (by omega)]; exact (Int.natCast_emod N M).symm, Nat.mod_lt _ hM, Nat.le_trans (Nat.mod_le _ _) hN⟩

set_option maxRecDepth 100000 in
set_option maxHeartbeats 2000000 in
theorem jobs_walk (n a p : Int) (a1 : Option Addr) (m1 c1 : Nat) (zs : List Jb) (a2 : Option Addr) (m2 c2 : Nat) (ws : List Int) (w : World) (hm1 : zs.length = m1) (hv1 : Jbs w (.slice a1 m1 c1) zs) (hm2 : ws.length = m2) (hv2 : intE.Rd w (.slice a2 m2 c2) ws) : Calls Try.prog 4 #[.agg #[.int .i64 n, .int .i64 a, .int .i64 p], .slice a1 m1 c1, .slice a2 m2 c2] w fun e w' => e = .returned (.bool true) ∧ Below w.heap.size w w' := by
  obtain ⟨w0, rfl⟩ : ∃ w0, w0 = w := ⟨_, rfl⟩
  have KA := hide awake_any
  obtain ⟨h, hh⟩ : ∃ h, w0.heap.size = h := ⟨_, rfl⟩
  obtain ⟨L, hL⟩ : ∃ L, L = [(h, Obj.cells #[.int .i64 n, .int .i64 a, .int .i64 p] 23)] := ⟨_, rfl⟩
  have HB : Hid (BW w0 (w0.alloc (.cells #[.int .i64 n, .int .i64 a, .int .i64 p] 23)) L) := hide (by
    rw [hL]
    exact (BW.nil w0).new _ h hh)
  have HM0 : Hid ((h, Obj.cells #[.int .i64 n, .int .i64 a, .int .i64 p] 23) ∈ L) := hide (by rw [hL]; simp)
  have HC0 : Hid (∀ W, BW w0 W L → W.cell? ⟨h, 0, none⟩ = some (.int .i64 n) ∧ W.cell? ⟨h, 1, none⟩ = some (.int .i64 a) ∧ W.cell? ⟨h, 2, none⟩ = some (.int .i64 p)) := hide (fun W x => ⟨(cells_at (x.bx _ HM0.out).1 0).1, (cells_at (x.bx _ HM0.out).1 1).1, (cells_at (x.bx _ HM0.out).1 2).1⟩)
  have Hh := hide hh
  have Hm1 := hide hm1
  have Hm2 := hide hm2
  have HV1 := hide hv1
  have HV2 := hide hv2
  clear hh hL HM0 hm1 hm2 hv1 hv2
  by_cases hno : noN n a p
  · have K9 : Hid (∀ W, _) := hide (fun W => new_no n a p W hno)
    clear hno
    go_enter Try.func4, Try.ntmps4
    go_upto_region 1 with fail
    rw [Hh.out]
    generalize w0.alloc (.cells #[.int .i64 n, .int .i64 a, .int .i64 p] 23) = W at *
    go_wp2_with (first
      | (go_at_call 8; refine (KA.out _).mono ?_; rintro e W1 ⟨rfl, hb⟩; have HB1 := hide (HB.out.keep hb); clear hb; obtain ⟨x0, x1, x2⟩ := HC0.out _ HB1.out)
      | (go_at_call 9; refine (K9.out _).mono ?_; rintro e W2 ⟨rfl, hb⟩; have HB2 := hide (HB1.out.keep hb); clear hb))
    go_ret
    exact ⟨by first | rfl | simp, HB2.out.bel⟩
  have K9 : Hid (∀ W, _) := hide (fun W => new_ok n a p W hno)
  have Hok : Hid (Sh.Ok (shN n a p)) := hide (by unfold noN at hno; exact Sh.ok_new (by omega) (by omega) (by omega) (by omega) (by omega) (by omega))
  have p1 : 1 ≤ p := by unfold noN at hno; omega
  have p2 : p ≤ 1000 := by unfold noN at hno; omega
  clear hno
  obtain ⟨P, rfl⟩ : ∃ P : Nat, p = (P : Int) := ⟨p.toNat, by omega⟩
  go_enter Try.func4, Try.ntmps4
  go_upto_region 1 with fail
  rw [Hh.out]
  generalize w0.alloc (.cells #[.int .i64 n, .int .i64 a, .int .i64 P] 23) = W at *
  go_upto_region 6 with (first
    | (go_at_call 8; refine (KA.out _).mono ?_; rintro e W1 ⟨rfl, hb⟩; have HB1 := hide (HB.out.keep hb); clear hb; obtain ⟨x0, x1, x2⟩ := HC0.out _ HB1.out)
    | (go_at_call 9; refine (K9.out _).mono ?_; rintro e W2 ⟨rfl, hs, hb⟩; have HW2 := hide (SW.of_new HB1.out hs hb); clear hb hs))
  clear x0 x1 x2 HB HB1 K9 KA
  obtain ⟨g, hg⟩ : ∃ g, W1.heap.size = g := ⟨_, rfl⟩
  rw [hg] at HW2 ⊢
  clear hg
  go_wp2_with fail
  go_loopw [8, 9, 10, 11] (fun v8 v9 v10 v11 wr => ∃ (i N : Nat) (S : Sh) (e8 : Int), v11 = .int .i64 i ∧ v10 = .int .i64 N ∧ v9 = .int .i64 S.dn ∧ v8 = .int .i64 e8 ∧ i ≤ m1 ∧ i ≤ 40 ∧ N ≤ 4 * i ∧ Hid (Idl S n P i) ∧ Hid (SW w0 wr g S L)) (fun _ _ _ v11 _ => 40 - (intOf v11).toNat)
  case atStart => exact ⟨0, 0, shN n a P, 0, rfl, rfl, rfl, rfl, Nat.zero_le _, by omega, by omega, hide ⟨Hok.out, rfl, rfl, rfl, by show (0 : Int) ≤ 0; omega, by show (0 : Int) ≤ 0; omega⟩, HW2⟩
  case round =>
    obtain ⟨i, N, S, e8, rfl, rfl, rfl, rfl, him, hi4, hN, HI, HW⟩ := hrel
    by_cases hgo : i < m1 ∧ i < 40
    case neg =>
      by_cases hlt : i < m1
      · have q0 : (i : Int) < (m1 : Int) := by omega
        have q1 : ¬ (i : Int) < 40 := by omega
        clear hlt hgo
        go_wp2_with fail
        go_ret
        exact ⟨rfl, HW.out.bw.bel⟩
      · have q0 : ¬ (i : Int) < (m1 : Int) := by omega
        clear hlt hgo
        go_wp2_with fail
        go_ret
        exact ⟨rfl, HW.out.bw.bel⟩
    have q0 : (i : Int) < (m1 : Int) := by omega
    have q1 : (i : Int) < 40 := by omega
    have q2 : (0 : Int) ≤ (i : Int) := by omega
    have hlt := hgo.1
    obtain ⟨jb, hjb⟩ : ∃ o, zs[i]? = some o := ⟨_, List.getElem?_eq_getElem (by rw [Hm1.out]; exact hlt)⟩
    obtain ⟨b, off, rfl, z0, z1, z2⟩ := HV1.out.at i jb hjb
    obtain ⟨jt, jf, jo⟩ := jb
    simp only at z0 z1 z2
    have HZ : Hid (∀ W, Below w0.heap.size w0 W → W.cell? ⟨b, off + i * 3, none⟩ = some (.int .i64 jt) ∧ W.cell? ⟨b, off + i * 3 + 1, none⟩ = some (.int .i64 jf) ∧ W.cell? ⟨b, off + i * 3 + 2, none⟩ = some (.int .i64 jo)) := hide (fun W hb => ⟨by rw [hb.cell (p := ⟨b, off + i * 3, none⟩) (cell_lt z0)]; exact z0, by rw [hb.cell (p := ⟨b, off + i * 3 + 1, none⟩) (cell_lt z1)]; exact z1, by rw [hb.cell (p := ⟨b, off + i * 3 + 2, none⟩) (cell_lt z2)]; exact z2⟩)
    clear z0 z1 z2 hjb hlt
    obtain ⟨y0, y1, y2⟩ := HZ.out _ HW.out.bw.bel
    have K11 := hide (as_any HW.out.sh jt jf jo)
    by_cases hc : S.asC jt jf jo = 0
    case neg =>
      have b0 : (S.asC jt jf jo != 0) = true := bne_iff_ne.2 hc
      rw [as_no hc] at K11
      generalize S.asC jt jf jo = cd at *
      clear hc hgo
      have HI2 : Hid (Idl S n P (i + 1)) := hide (by have x := HI.out; exact ⟨x.ok, x.st, x.n, x.pt, x.d0, by have := x.d1; omega⟩)
      go_wp2_with (go_at_call 11; refine K11.out.mono ?_; rintro e W3 ⟨rfl, hc⟩; have HW3 := hide (HW.out.chg hc); clear hc)
      go_roundw
      case rel => exact ⟨i + 1, N, S, e8, by go_num, rfl, rfl, rfl, by omega, by omega, by omega, HI2, HW3⟩
      case measure => simp [intOf]; omega
    have HJ0 := hide (HI.out.as hc)
    have d0 := HI.out.d0
    have d1 := HI.out.d1
    rw [hc] at K11
    clear hc
    generalize S.as jt jf jo = R0 at *
    obtain ⟨D, hD⟩ : ∃ D, S.dn = D := ⟨_, rfl⟩
    rw [hD] at HJ0 d0 d1
    try rw [hD]
    clear hD
    go_upto_region 11 with (go_at_call 11; refine K11.out.mono ?_; rintro e W3 ⟨rfl, hc⟩; have HW3 := hide (HW.out.chg hc); clear hc)
    clear K11 HW HI y0 y1 y2
    obtain ⟨wA, rfl⟩ : ∃ W, W = wr := ⟨_, rfl⟩
    go_wp2_with fail
    go_loopw [8, 10, 12] (fun v8 v10 v12 wr => ∃ (k N : Nat) (R : Sh) (e8 : Int), v12 = .int .i64 k ∧ v10 = .int .i64 N ∧ v8 = .int .i64 e8 ∧ k ≤ 4 ∧ N ≤ 4 * i + k ∧ Hid (Job R n P jo D k) ∧ Hid (SW w0 wr g R L)) (fun _ _ v12 _ => 5 - (intOf v12).toNat)
    case atStart => exact ⟨0, N, R0, e8, rfl, rfl, rfl, by omega, by omega, HJ0, HW3⟩
    case round =>
      obtain ⟨k, N, R, e8, rfl, rfl, rfl, hk4, hN2, HJ, HW⟩ := hrel
      have K23 := hide (state_any HW.out.sh)
      by_cases s0 : R.st = 0
      · rw [s0] at K23
        have hdn := HJ.out.dn
        rw [if_pos s0] at hdn
        obtain ⟨e1, e2⟩ := HJ.out.en s0
        have K24 : Hid (∀ q, Calls Try.prog 24 #[.pointer (some ⟨g, 0, none⟩)] (wr.drewN q) fun e w' => e = .returned (.int .i64 jo) ∧ w' = wr.drewN q) := hide (fun q => by have y := place_any (HW.out.sh.drewN q); rw [e1] at y; exact y)
        have K25 : Hid (∀ q, Calls Try.prog 25 #[.pointer (some ⟨g, 0, none⟩)] (wr.drewN q) fun e w' => e = .returned (.int .i64 0) ∧ w' = wr.drewN q) := hide (fun q => by have y := load_any (HW.out.sh.drewN q); rw [e2] at y; exact y)
        have K26 : Hid (∀ q, Calls Try.prog 26 #[.pointer (some ⟨g, 0, none⟩)] (wr.drewN q) fun e w' => e = .returned (.int .i64 (D + 1)) ∧ w' = wr.drewN q) := hide (fun q => by have y := done_any (HW.out.sh.drewN q); rw [hdn] at y; exact y)
        have HI2 : Hid (Idl R n P (i + 1)) := hide ⟨HJ.out.ok, s0, HJ.out.n, HJ.out.pt, by omega, by omega⟩
        have Hdn := hide hdn
        obtain ⟨_, _, y2⟩ := HZ.out _ HW.out.bw.bel
        have r1 : (jo != jo) = false := bne_self_eq_false _
        have r2 : (D + 1 != D + 1) = false := bne_self_eq_false _
        clear e1 e2 s0 hdn
        go_upto_region 35 with (go_at_call 23; refine K23.out.mono ?_; rintro e W6 ⟨rfl, hW⟩; have hW' := hW.symm; clear hW; subst hW')
        go_quiet (first
          | (go_at_call 24; exact Calls.quiet_of_same (K24.out _))
          | (go_at_call 25; exact Calls.quiet_of_same (K25.out _))
          | (go_at_call 26; exact Calls.quiet_of_same (K26.out _)))
        have HW4 := hide (HW.out.drewN nq)
        go_wp2_with fail
        go_roundw
        case rel => exact ⟨i + 1, N, R, e8, by go_num, rfl, by rw [Hdn.out], rfl, by omega, by omega, by omega, HI2, HW4⟩
        case measure => simp [intOf]; omega
      have s1 : 1 ≤ R.st := by have := HJ.out.ok.s1; omega
      have s4 := HJ.out.st
      have hk3 := HJ.out.lt s1
      have sb : (R.st != 0) = true := bne_iff_ne.2 s0
      have hpt := HJ.out.pt
      have HT : Hid (∀ W (L' : List (Nat × Obj)) (j : Nat), j < P → SW w0 W g (R.wt (j : Int)) L' → Calls Try.prog 13 #[.pointer (some ⟨g, 0, none⟩)] W fun e w' => e = .returned (.agg #[.int .i64 R.orK, .int .i64 R.orW]) ∧ Chg W g (R.wt ((j + 1 : Nat) : Int)) w') := hide (fun W L' j hj x => by
        obtain ⟨e1, e2, e3⟩ := wt_tick (S := R) (k := (j : Int)) s1 s4 (by omega)
        have y := tick_any x.sh (HJ.out.ok.wt s1 s4 (by omega) (by omega))
        rw [e1, e2, e3] at y
        exact y)
      have HA : Hid (∀ j : Nat, j ≤ P → (R.orK = 1 ∧ (R.wt (j : Int)).mvC R.orW = 0 ∧ Nx (R.wt (j : Int)) ((R.wt (j : Int)).mv R.orW)) ∨ (R.orK = 2 ∧ (R.wt (j : Int)).hdC 2 R.orW = 0 ∧ Nx (R.wt (j : Int)) ((R.wt (j : Int)).pk R.orW)) ∨ (R.orK = 3 ∧ (R.wt (j : Int)).hdC 4 R.orW = 0 ∧ Nx (R.wt (j : Int)) ((R.wt (j : Int)).dp R.orW))) := hide (fun j hj => ans (T := R.wt (j : Int)) (HJ.out.ok.wt s1 s4 (by omega) (by omega)) s1 s4)
      have HNX : Hid (∀ (j : Nat) Z, Nx (R.wt (j : Int)) Z → Job Z n P jo D (k + 1)) := hide (fun j Z y => HJ.out.nx s1 y)
      have Hdn : Hid (0 ≤ R.dn ∧ R.dn ≤ 1000000) := hide (by have hd := HJ.out.dn; rw [if_neg s0] at hd; omega)
      have hR0 : R.wt ((0 : Nat) : Int) = R := by have := wt_self R; rw [HJ.out.tk] at this; exact this
      rw [← hR0] at HW
      have K23' : Hid (Calls Try.prog 23 #[.pointer (some ⟨g, 0, none⟩)] wr fun e w' => e = .returned (.int .i64 R.st) ∧ w' = wr) := K23
      clear hR0 s0 s1 s4 hpt K23 HJ
      generalize R.orK = xk at *
      generalize R.orW = xw at *
      obtain ⟨x0, x1, x2⟩ := HC0.out _ HW.out.bw
      go_upto_if 64 with (go_at_call 23; refine K23'.out.mono ?_; rintro e W6 ⟨rfl, hW⟩; have hW' := hW.symm; clear hW; subst hW')
      go_cut [13] (fun v13 wx => ∃ q : Nat, v13 = .int .i64 q ∧ q < P ∧ q ≤ 19 ∧ Hid (SW w0 wx g (R.wt ((0 : Nat) : Int)) L))
      case first =>
        by_cases hm0 : m2 = 0
        · subst hm0
          go_wp2_with fail
          go_meet
          exact ⟨0, rfl, by omega, by omega, HW⟩
        · have hm1' : 0 < m2 := Nat.pos_of_ne_zero hm0
          obtain ⟨er, hr1, hr2⟩ := rem_nat N m2 hm1' (by omega)
          obtain ⟨x, hx⟩ : ∃ x, ws[N % m2]? = some x := ⟨_, List.getElem?_eq_getElem (by rw [Hm2.out]; exact hr1)⟩
          obtain ⟨b2, off2, rfl, v0⟩ := int_at HV2.out (N % m2) x hx
          have v1 : wr.cell? ⟨b2, off2 + N % m2, none⟩ = some (.int .i64 x) := by rw [HW.out.bw.bel.cell (p := ⟨b2, off2 + N % m2, none⟩) (cell_lt v0)]; exact v0
          generalize N % m2 = r at *
          clear v0 hx
          have u0 : (m2 : Int) > 0 := by omega
          have u1 : ¬ (m2 = 0) := hm0
          have u2 : ¬ ((m2 : Int) = 0) := by omega
          have u3 : IntKind.i64.wrap (r : Int) = (r : Int) := by simp [IntKind.wrap, IntKind.bits, IntKind.signed]; omega
          have u4 : (0 : Int) ≤ (r : Int) := by omega
          have u5 : (r : Int) < (m2 : Int) := by omega
          by_cases hP : 20 < (P : Int)
          · have HY : Hid (∃ y : Nat, wrap64 ((IntKind.u64.wrap x).tmod 20) = (y : Int) ∧ y < 20) := hide (by
              obtain ⟨y, hy, hyQ⟩ := few x 20 (by omega)
              exact ⟨y, hy, by omega⟩)
            go_upto_region 16 with fail
            go_quiet (fail)
            have HW4 := hide (HW.out.drewN nq)
            go_wp2_with fail
            go_meet
            obtain ⟨y, hy, hyQ⟩ := HY.out
            exact ⟨y, by rw [hy], by omega, by omega, HW4⟩
          · have HY : Hid (∃ y : Nat, wrap64 ((IntKind.u64.wrap x).tmod (P : Int)) = (y : Int) ∧ y < P) := hide (by
              obtain ⟨y, hy, hyQ⟩ := few x P (by omega)
              exact ⟨y, hy, by omega⟩)
            go_upto_region 16 with fail
            go_quiet (fail)
            have HW4 := hide (HW.out.drewN nq)
            go_wp2_with fail
            go_meet
            obtain ⟨y, hy, hyQ⟩ := HY.out
            exact ⟨y, by rw [hy], by omega, by omega, HW4⟩
      case rest =>
        obtain ⟨q, rfl, hqP, hq19, HWc⟩ := hcut
        have K13 := hide (HT.out wc L 0 (by omega) HWc.out)
        have nI : (N : Int) ≤ 200 := by omega
        have n0 : (0 : Int) ≤ (N : Int) := by omega
        have kI : ¬ (k : Int) > 4 := by omega
        clear HW x0 x1 x2 K23' HZ HW3 HJ0
        go_upto_region 19 with (go_at_call 13; refine K13.out.mono ?_; rintro e W4 ⟨rfl, hc⟩; have HW4 := hide (HWc.out.chg hc); clear hc)
        obtain ⟨hf, hhf⟩ : ∃ hf, W4.heap.size = hf := ⟨_, rfl⟩
        have HW5 := hide (HW4.out.new (.cells #[.int .i64 xk, .int .i64 xw] 41) hf hhf)
        try rw [hhf]
        clear hhf HW4 K13 HWc
        generalize W4.alloc (.cells #[.int .i64 xk, .int .i64 xw] 41) = W5 at *
        obtain ⟨M, hM⟩ : ∃ M, (hf, Obj.cells #[.int .i64 xk, .int .i64 xw] 41) :: L = M := ⟨_, rfl⟩
        have HMC : Hid (∀ W S, SW w0 W g S M → (W.cell? ⟨hf, 0, none⟩ = some (.int .i64 xk) ∧ W.cell? ⟨hf, 1, none⟩ = some (.int .i64 xw)) ∧ SW w0 W g S L) := hide (fun W S x => by
          rw [← hM] at x
          exact ⟨⟨x.cell List.mem_cons_self 0, x.cell List.mem_cons_self 1⟩, x.sub (fun y hy => List.mem_cons_of_mem _ hy)⟩)
        rw [hM] at HW5
        clear hM
        obtain ⟨S0, hS⟩ : ∃ S0 : World → Prop, ∀ W, S0 W ↔ (W.cell? ⟨hf, 0, none⟩ = some (.int .i64 xk) ∧ W.cell? ⟨hf, 1, none⟩ = some (.int .i64 xw)) := ⟨_, fun _ => Iff.rfl⟩
        have SD : Hid (∀ W, S0 W → (W.cell? ⟨hf, 0, none⟩ = some (.int .i64 xk) ∧ W.cell? ⟨hf, 1, none⟩ = some (.int .i64 xw))) := hide (fun W h => (hS W).1 h)
        have SI : Hid (∀ W S, SW w0 W g S M → S0 W) := hide (fun W S x => (hS W).2 (HMC.out _ _ x).1)
        clear hS
        obtain ⟨wB, rfl⟩ : ∃ W, W = wr := ⟨_, rfl⟩
        go_wp2_with fail
        go_loopw [15] (fun v15 wr => ∃ j : Nat, v15 = .int .i64 j ∧ j ≤ q ∧ Hid (SW w0 wr g (R.wt ((j + 1 : Nat) : Int)) M)) (fun v15 _ => q - (intOf v15).toNat)
        case atStart => exact ⟨0, rfl, Nat.zero_le _, HW5⟩
        case round =>
          obtain ⟨j, rfl, hjq, HW⟩ := hrel
          by_cases hlt : j < q
          · have q0 : (j : Int) < (q : Int) := by omega
            have KT' := hide (fun W L' => HT.out W L' (j + 1) (by omega))
            have r1 : (xk == xk) = true := beq_self_eq_true _
            have r2 : (xw == xw) = true := beq_self_eq_true _
            clear hlt
            go_upto_region 22 with fail
            have HWd := hide HW.out.drew
            refine wp_region_held_drew (S := S0) (by kernel_rfl) (SI.out _ _ HWd.out) (fun hS0 => ?_)
            refine wpAnyH_take (i := 0) (v := .pointer (some ⟨g, 0, none⟩)) rfl (by kernel_rfl) (by kernel_rfl) (by kernel_rfl) (fun _ _ _ h => h) (Or.inl ⟨by rfl, fun W' hW => by go_simp⟩) hS0 ?_
            refine wpAnyH_take (i := 2) (v := .agg #[.int .i64 xk, .int .i64 xw]) rfl (by kernel_rfl) (by kernel_rfl) (by kernel_rfl) (fun _ _ _ h => h) (Or.inl ⟨by rfl, fun W' hW => by obtain ⟨z0, z1⟩ := SD.out W' hW; go_simp⟩) hS0 ?_
            refine wpAnyH_ready (rs := [1]) (by kernel_rfl) (by simp) ?_
            refine AllReadyH.cons rfl (fun K hK => ?_) AllReadyH.nil
            go_simp
            go_at_call 13
            refine (KT'.out _ _ HWd.out).mono ?_
            rintro e W5 ⟨rfl, hc⟩
            have HWe := hide (HWd.out.chg hc)
            clear hc
            go_simp
            refine hK.out _ _ (SI.out _ _ HWe.out) (fun _ => ?_)
            clear hK K
            refine wpAnyH_ready (rs := [3]) (by kernel_rfl) (by simp) ?_
            refine AllReadyH.cons rfl (fun K hK => ?_) AllReadyH.nil
            go_simp
            refine hK.out _ _ (SI.out _ _ HWe.out) (fun _ => ?_)
            clear hK K
            refine wpAnyH_done (by kernel_rfl) ?_ _
            go_wp2_with fail
            go_roundw
            case rel => exact ⟨j + 1, by go_num, by omega, HWe⟩
            case measure => simp [intOf]; omega
          · obtain rfl : j = q := by omega
            have q0 : ¬ (j : Int) < (j : Int) := by omega
            have han := HA.out (j + 1) (by omega)
            have hdn : 0 ≤ (R.wt ((j + 1 : Nat) : Int)).dn ∧ (R.wt ((j + 1 : Nat) : Int)).dn ≤ 1000000 := Hdn.out
            have HN : Hid (∀ Z, Nx (R.wt ((j + 1 : Nat) : Int)) Z → Job Z n P jo D (k + 1)) := hide (fun Z y => HNX.out (j + 1) Z y)
            have K15 : Hid (∀ W, Shb W g (R.wt ((j + 1 : Nat) : Int)) → _) := hide (fun W x => mv_any x xw)
            have K17 : Hid (∀ W, Shb W g (R.wt ((j + 1 : Nat) : Int)) → _) := hide (fun W x => pk_any x xw)
            have K19 : Hid (∀ W, Shb W g (R.wt ((j + 1 : Nat) : Int)) → _) := hide (fun W x => dp_any x xw hdn)
            obtain ⟨⟨y0, y1⟩, hWL⟩ := HMC.out _ _ HW.out
            have HWL := hide hWL
            clear hWL hdn HA HT HNX HW
            generalize R.wt ((j + 1 : Nat) : Int) = T at *
            rcases han with ⟨rfl, hc0, hn⟩ | ⟨rfl, hc0, hn⟩ | ⟨rfl, hc0, hn⟩
            · have HK : Hid (Calls Try.prog 15 #[.pointer (some ⟨g, 0, none⟩), .int .i64 xw] wr fun e w' => e = .returned (.int .i64 0) ∧ Chg wr g (T.mv xw) w') := hide (by have y := K15.out _ HWL.out.sh; rw [hc0] at y; exact y)
              have HJ2 := hide (HN.out _ hn)
              clear hc0 hn K15 K17 K19 HN
              generalize T.mv xw = Z at *
              go_wp2_with (go_at_call 15; refine HK.out.mono ?_; rintro e W6 ⟨rfl, hc⟩; have HW6 := hide (HWL.out.chg hc); clear hc)
              go_roundw
              case rel => exact ⟨k + 1, N + 1, Z, 0, by go_num, by go_num, rfl, by omega, by omega, HJ2, HW6⟩
              case measure => simp [intOf]; omega
            · have HK : Hid (Calls Try.prog 17 #[.pointer (some ⟨g, 0, none⟩), .int .i64 xw] wr fun e w' => e = .returned (.int .i64 0) ∧ Chg wr g (T.pk xw) w') := hide (by have y := K17.out _ HWL.out.sh; rw [hc0] at y; exact y)
              have HJ2 := hide (HN.out _ hn)
              clear hc0 hn K15 K17 K19 HN
              generalize T.pk xw = Z at *
              go_wp2_with (go_at_call 17; refine HK.out.mono ?_; rintro e W6 ⟨rfl, hc⟩; have HW6 := hide (HWL.out.chg hc); clear hc)
              go_roundw
              case rel => exact ⟨k + 1, N + 1, Z, 0, by go_num, by go_num, rfl, by omega, by omega, HJ2, HW6⟩
              case measure => simp [intOf]; omega
            · have HK : Hid (Calls Try.prog 19 #[.pointer (some ⟨g, 0, none⟩), .int .i64 xw] wr fun e w' => e = .returned (.int .i64 0) ∧ Chg wr g (T.dp xw) w') := hide (by have y := K19.out _ HWL.out.sh; rw [hc0] at y; exact y)
              have HJ2 := hide (HN.out _ hn)
              clear hc0 hn K15 K17 K19 HN
              generalize T.dp xw = Z at *
              go_wp2_with (go_at_call 19; refine HK.out.mono ?_; rintro e W6 ⟨rfl, hc⟩; have HW6 := hide (HWL.out.chg hc); clear hc)
              go_roundw
              case rel => exact ⟨k + 1, N + 1, Z, 0, by go_num, by go_num, rfl, by omega, by omega, HJ2, HW6⟩
              case measure => simp [intOf]; omega
end Go.Proofs.Ytjmmkkjabpcihaa
