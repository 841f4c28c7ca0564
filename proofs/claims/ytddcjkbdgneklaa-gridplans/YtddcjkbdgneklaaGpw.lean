/- GridPlans, the walk. -/
import Derived.Test.YtddcjkbdgneklaaGpn
import Derived.Deep.CutBlock
namespace Go.Proofs.Ytddcjkbdgneklaa
open Go.RowKit
set_option linter.unusedVariables false

theorem wrap_small (x : Int) (h : -1000 ≤ x ∧ x ≤ 1000) : IntKind.i64.wrap x = x := by
  simp [IntKind.wrap, IntKind.bits, IntKind.signed]; omega
theorem s2_take {M : List (Nat × Nat)} {k : Nat} {l : Nat × Nat} (h : M[k]? = some l) : s2 (M.take (k + 1)) = s2 (M.take k) + l.2 := by
  unfold s2; rw [List.take_add_one, h]; simp
theorem s2_take_le (M : List (Nat × Nat)) : ∀ k, s2 (M.take k) ≤ s2 M := by
  intro k
  have : M.map (·.2) = (M.take k).map (·.2) ++ (M.drop k).map (·.2) := by rw [← List.map_append, List.take_append_drop]
  unfold s2
  rw [this, List.sum_append]
  exact Nat.le_add_right _ _
theorem els_le (R : Rack) (i : Nat) (h : R.length ≤ 32) (hi : i < R.length) : els (lds R) i ≤ rm R := by
  obtain ⟨l, hl⟩ : ∃ l, R[i]? = some l := ⟨_, List.getElem?_eq_getElem hi⟩
  have := els_room (lds_at hl)
  rw [s2_lds] at this
  omega

set_option maxRecDepth 100000 in
set_option maxHeartbeats 16000000 in
theorem plans_walk (a b : Option Addr) (n m c d : Nat) (ds ts : List Int) (n2 : Int) (w : World) (hn : ds.length = n) (hv : intE.Rd w (.slice a n c) ds) (hm : ts.length = m) (hu : intE.Rd w (.slice b m d) ts) :
    Calls Try.prog 4 #[.slice a n c, .slice b m d, .int .i64 n2] w fun e w' => e = .returned (.bool true) ∧ Below w.heap.size w w' := by
  obtain ⟨w0, rfl⟩ : ∃ w0, w0 = w := ⟨_, rfl⟩
  have KA := hide awake_any
  have Hn := hide hn
  have HV := hide hv
  have K21 : Hid (∀ W, Below w0.heap.size w0 W → Calls Try.prog 21 #[.slice a n c, .slice b m d] W (FilP w0 W ds)) := hide (fun W hb => filled_any (w0 := w0) a b n m c d ds ts W hb hn hm (hv.keep hb) hu)
  obtain ⟨x0, hx0, hx0'⟩ := few n2 30 (by omega)
  obtain ⟨x, hx⟩ : ∃ x : Nat, (x0 : Int) + 1 = (x : Int) := ⟨x0 + 1, by omega⟩
  have hx1 : 1 ≤ x := by omega
  have hx30 : x ≤ 30 := by omega
  by_cases hk : Okd ds
  · have K21' : Hid (∀ W, Below w0.heap.size w0 W → Calls Try.prog 21 #[.slice a n c, .slice b m d] W fun e w' => ∃ r a c gs R, e = .returned (.pointer (some ⟨r, 0, none⟩)) ∧ RW w0 W.heap.size r a c gs R w' ∧ Fld ds R) := hide (fun W hb => (K21.out W hb).mono (by
      rintro e w' (⟨h, _⟩ | ⟨_, r, a, c, gs, R, h1, h2, h3, _⟩)
      · exact absurd hk h
      · exact ⟨r, a, c, gs, R, h1, h2, h3⟩))
    have hn32 : n ≤ 32 := by have := hk.1; omega
    have i0 : (n : Int) ≤ 32 := by omega
    have HK := hide hk
    clear hk hn hv hm hu K21
    go_enter Try.func4, Try.ntmps4
    go_upto_region 7 with (first
      | (go_at_call 9; refine (KA.out _).mono ?_; rintro e W1 ⟨rfl, hb1⟩; have HB := hide hb1; clear hb1)
      | (go_at_call 21; refine (K21'.out _ HB.out).mono ?_; rintro e W2 ⟨r, a1, c1, gs, R, rfl, hR, hF⟩; have HR := hide hR; have HF := hide hF; clear hR hF))
    try rw [hx]
    generalize wrap64 ((IntKind.u64.wrap n2).tmod 30) = y1 at *
    generalize (IntKind.u64.wrap n2).tmod 30 = y2 at *
    generalize IntKind.u64.wrap n2 = y3 at *
    obtain ⟨BB, hBB⟩ : ∃ b, W1.heap.size = b := ⟨_, rfl⟩
    rw [hBB] at HR
    clear hBB hx hx0 hx0' KA K21' HB
    have HRl : Hid (R.length = n) := hide (by rw [fld_len HF.out]; exact Hn.out)
    have HWf := hide HR.out.wf
    have K22 := hide (HR.out.whr (x : Int))
    have K15 : Hid (∀ W, RW w0 BB r a1 c1 gs R W → _) := hide (fun W h => RW.plan h (x : Int))
    rcases whr_form R (x : Int) with ⟨hw, hno⟩ | ⟨i, l, hw, hil, hl, hmm, hno⟩
    · have e1 : planC R (x : Int) = 160 := if_pos hw
      have e2 : planM R (x : Int) = [] := if_pos hw
      rw [hw] at K22
      rw [e1, e2] at K15
      clear e1 e2 hw hno
      go_wp2_with (first
        | (go_at_call 22; refine K22.out.mono ?_; rintro e W3 ⟨rfl, hr, _⟩; have HR3 := hide hr; clear hr)
        | (go_at_call 15; refine (K15.out _ HR3.out).mono ?_; rintro e W4 ⟨a4, c4, rfl, _, hr, _⟩; have HR4 := hide hr; clear hr))
      go_ret
      exact ⟨rfl, HR4.out.bel⟩
    rw [hw] at K22
    obtain ⟨p, hp, hpl, hpx⟩ := loc_in hmm
    have hplan := plan_len hw hl hp
    have hnd := HWf.out.nd i l hl
    have hdep := HR.out.dep i l hl
    obtain ⟨q, hq⟩ : ∃ q, l.2.length = q := ⟨_, rfl⟩
    have hahl : (ahd l.2 p).length = q - 1 - p := by simp [ahd]; omega
    rw [hahl] at hplan
    have hins : i < n := by rw [← HRl.out]; exact hil
    have hpst : planC R (x : Int) = 0 → Pst R x i R (planM R (x : Int)) := fun hc => pst_start HR.out.fit hw hc
    have HPst := hide hpst
    obtain ⟨ms, hms⟩ : ∃ ms, planM R (x : Int) = ms := ⟨_, rfl⟩
    rw [hms] at K15 hplan HPst
    obtain ⟨pc, hpc⟩ : ∃ pc, planC R (x : Int) = pc := ⟨_, rfl⟩
    rw [hpc] at K15 hplan HPst
    obtain ⟨mn, hmn⟩ : ∃ mn, ms.length = mn := ⟨_, rfl⟩
    simp only [hmn] at K15 hplan
    have Hmn := hide hmn
    clear hmn
    have HPlan := hide hplan
    have elx : lnx R (i : Int) = l.2 := by unfold lnx; rw [if_pos (by omega), Int.toNat_natCast, ln_at hl]
    have K23 : Hid (∀ W, RW w0 BB r a1 c1 gs R W → Calls Try.prog 23 #[.pointer (some ⟨r, 0, none⟩), .int .i64 i] W fun e w' => ∃ a' c', e = .returned (.slice a' q c') ∧ intE.Own w' W.heap.size (.slice a' q c') l.2 ∧ RW w0 BB r a1 c1 gs R w' ∧ Below W.heap.size W w') := hide (fun W h => by
      have := h.lane (i : Int)
      rw [elx, hq] at this
      exact this)
    have Hpu : Hid (∀ (k : Nat) (y : Int), l.2[k]? = some y → (y = (x : Int) ↔ k = p)) := hide (fun k y hy => ⟨fun e => by subst e; exact (List.getElem?_inj (idx_lt hy) hnd).1 (hy.trans hpx.symm), fun e => by subst e; rw [hpx] at hy; exact (Option.some.inj hy).symm⟩)
    have Hq := hide hq
    have hpq : p < q := by omega
    have hq8 : q ≤ 8 := by omega
    have j0 : ¬ (i : Int) < 0 := by omega
    have Hi : Hid (R[i]? = some l) := hide hl
    clear hw hno hl hmm hp hpl hpx hplan hnd hdep hahl hpst hms hpc elx hq hil
    go_upto_region 12 with (first
      | (go_at_call 22; refine K22.out.mono ?_; rintro e W3 ⟨rfl, hr, _⟩; have HR3 := hide hr; clear hr)
      | (go_at_call 15; refine (K15.out _ HR3.out).mono ?_; rintro e W4 ⟨a4, c4, rfl, ho, hr, _⟩; have HR4 := hide hr; have HM4 := hide (ho.mono HR3.out.bel.size); clear hr ho)
      | (go_at_call 23; refine (K23.out _ HR4.out).mono ?_; rintro e W5 ⟨a5, c5, rfl, ho, hr, hb⟩; have HR5 := hide hr; have HO5 := hide ho; have HM5 := hide (HM4.out.keep hb); clear hr ho hb))
    clear HR3 HR4 HM4 K22 K15 K23 HR
    go_wp2_with fail
    go_loopw [13, 63] (fun v13 v63 wr => ∃ k ah : Nat, v63 = .int .i64 k ∧ v13 = .int .i64 ah ∧ k ≤ q ∧ wr = W5 ∧ Hid (ah = if p < k then q - 1 - p else 0)) (fun v13 v63 _ => q - (intOf v63).toNat)
    case atStart => exact ⟨0, 0, rfl, rfl, Nat.zero_le _, rfl, hide (by rw [if_neg (by omega)])⟩
    case round =>
      obtain ⟨k, ah, rfl, rfl, hk, rfl, HA⟩ := hrel
      by_cases hlt : k < q
      · obtain ⟨y, hy⟩ : ∃ y, l.2[k]? = some y := ⟨_, List.getElem?_eq_getElem (by rw [Hq.out]; exact hlt)⟩
        obtain ⟨b5, off5, rfl, z0⟩ := int_at HO5.out.rd k y hy
        have q0 : (0 : Int) ≤ (k : Int) := by omega
        have q1 : (k : Int) < (q : Int) := by omega
        have hpu := Hpu.out k y hy
        by_cases hyx : y = (x : Int)
        · have hkp := hpu.1 hyx
          subst hkp
          have q2 : (y == (x : Int)) = true := beq_iff_eq.2 hyx
          obtain ⟨z, hz⟩ : ∃ z, q - 1 - k = z := ⟨_, rfl⟩
          have HA1 : Hid (z = if k < k + 1 then q - 1 - k else 0) := hide (by rw [if_pos (by omega)]; exact hz.symm)
          have q3 : (q : Int) - 1 - (k : Int) = (z : Int) := by omega
          clear hy hpu hyx hz HA
          go_wp2_with fail
          go_roundw
          case rel => exact ⟨k + 1, z, by go_num, by first | rfl | go_num, by omega, trivial, HA1⟩
          case measure => simp [intOf]; omega
        · have q2 : (y == (x : Int)) = false := beq_eq_false_iff_ne.2 hyx
          have hkp : k ≠ p := fun e => hyx (hpu.2 e)
          have HA1 : Hid (ah = if p < k + 1 then q - 1 - p else 0) := hide (by
            rw [HA.out]
            by_cases g : p < k
            · rw [if_pos g, if_pos (by omega)]
            · rw [if_neg g, if_neg (by omega)])
          clear hy hpu hyx
          go_wp2_with fail
          go_roundw
          case rel => exact ⟨k + 1, ah, by go_num, rfl, by omega, trivial, HA1⟩
          case measure => simp [intOf]; omega
      · obtain rfl : k = q := by omega
        have q1 : ¬ (k : Int) < (k : Int) := by omega
        have hA := HA.out
        rw [if_pos hpq] at hA
        rw [← hA] at HPlan
        have hah8 : ah ≤ 8 := by omega
        clear hA HA hlt
        go_upto_region 19 with fail
        clear HO5 Hpu Hq
        obtain ⟨M, hM⟩ : ∃ M, (lds R).set i (0, 0) = M := ⟨_, rfl⟩
        have HMl : Hid (M.length = n) := hide (by rw [← hM, List.length_set, lds_len]; exact HRl.out)
        have HMi : Hid (M[i]? = some (0, 0)) := hide (by rw [← hM]; exact set_at (lds_at Hi.out))
        have HMo : Hid (∀ (kk : Nat) (l' : Nat × List Int), kk ≠ i → R[kk]? = some l' → M[kk]? = some (l'.2.length, l'.1 - l'.2.length)) := hide (fun kk l' hne hl' => by rw [← hM, set_off (fun e => hne e.symm)]; exact lds_at hl')
        have HMe : Hid (s2 M = els (lds R) i) := hide (by rw [← hM]; rfl)
        have HM2 : Hid (∀ kk, s2 (M.take kk) ≤ 256) := hide (fun kk => by
          have h1 := s2_take_le M kk
          have h2 := els_le R i HR5.out.n32 (idx_lt Hi.out)
          have h3 := HR5.out.room_le
          rw [HMe.out] at h1
          omega)
        have HL : Hid (∀ kk : Nat, kk < n → ∃ (l' : Nat × List Int) (d' : Int), R[kk]? = some l' ∧ ds[kk]? = some d' ∧ d' = (l'.1 : Int) ∧ l'.2.length ≤ l'.1 ∧ l'.1 ≤ 8 ∧ lnx R (kk : Int) = l'.2) := hide (fun kk hkk => by
          obtain ⟨l', hl'⟩ : ∃ l', R[kk]? = some l' := ⟨_, List.getElem?_eq_getElem (by rw [HRl.out]; exact hkk)⟩
          obtain ⟨d', hd', he⟩ := fld_at HF.out hl'
          have h1 := HR5.out.dep kk l' hl'
          have h2 := HK.out.2 d' (List.mem_of_getElem? hd')
          exact ⟨l', d', hl', hd', by omega, h1.1, h1.2, by unfold lnx; rw [if_pos (by rw [HRl.out]; omega), Int.toNat_natCast, ln_at hl']⟩)
        clear hM
        obtain ⟨Wa, rfl⟩ : ∃ W, W = wr := ⟨_, rfl⟩
        go_wp2_with fail
        go_loopw [16, 79] (fun v16 v79 wx => ∃ kk s : Nat, v79 = .int .i64 kk ∧ v16 = .int .i64 s ∧ kk ≤ n ∧ Hid (s2 (M.take kk) = s) ∧ Hid (RW w0 BB r a1 c1 gs R wx) ∧ Hid (mvE.Own wx w0.heap.size (.slice a4 mn c4) ms)) (fun v16 v79 _ => n - (intOf v79).toNat)
        case atStart => exact ⟨0, 0, rfl, rfl, Nat.zero_le _, hide (by simp [s2]), HR5, HM5⟩
        case round =>
          obtain ⟨kk, s, rfl, rfl, hkk, HS, HRx, HMx⟩ := hrel
          obtain ⟨wx, hwx⟩ : ∃ W, W = wr := ⟨_, rfl⟩
          rw [← hwx] at HRx HMx ⊢
          clear hwx
          by_cases hlt : kk < n
          · obtain ⟨l', d', hl', hd', he, h1, h2, h3⟩ := HL.out kk hlt
            have q2 : (0 : Int) ≤ (kk : Int) := by omega
            have q3 : (kk : Int) < (n : Int) := by omega
            by_cases hki : kk = i
            · subst hki
              have q4 : ((kk : Int) != (kk : Int)) = false := bne_self_eq_false _
              have HS1 : Hid (s2 (M.take (kk + 1)) = s) := hide (by rw [s2_take HMi.out, HS.out]; rfl)
              clear hl' hd' he h1 h2 h3
              go_wp2_with fail
              go_roundw
              case rel => exact ⟨kk + 1, s, by go_num, rfl, by omega, HS1, HRx, HMx⟩
              case measure => simp [intOf]; omega
            · have q4 : ((kk : Int) != (i : Int)) = true := bne_iff_ne.2 (by omega)
              have hs1 := s2_take (HMo.out kk l' hki hl')
              rw [HS.out] at hs1
              simp only at hs1
              have hs2 := HM2.out (kk + 1)
              obtain ⟨u, hu⟩ : ∃ u, l'.2.length = u := ⟨_, rfl⟩
              obtain ⟨v, hv⟩ : ∃ v, l'.1 - u = v := ⟨_, rfl⟩
              obtain ⟨dn, hdn⟩ : ∃ dn, l'.1 = dn := ⟨_, rfl⟩
              rw [hu, hv] at hs1
              have HS1 := hide hs1
              rw [hdn] at he
              subst he
              obtain ⟨b0, off0, rfl, z0⟩ := int_at HV.out kk _ hd'
              have Hz := hide (cell_lt z0)
              have K23 : Hid (∀ W, RW w0 BB r a1 c1 gs R W → Calls Try.prog 23 #[.pointer (some ⟨r, 0, none⟩), .int .i64 kk] W fun e w' => ∃ a' c', e = .returned (.slice a' u c') ∧ RW w0 BB r a1 c1 gs R w' ∧ Below W.heap.size W w') := hide (fun W h => (h.lane (kk : Int)).mono (by
                rintro e w' ⟨a', c', rfl, _, h4, h5⟩
                exact ⟨a', c', by rw [h3, hu], h4, h5⟩))
              obtain ⟨S0, hS0⟩ : ∃ S : World → Prop, ∀ W, S W ↔ W.cell? ⟨b0, off0 + kk, none⟩ = some (.int .i64 dn) := ⟨_, fun _ => Iff.rfl⟩
              have SD : Hid (∀ W, S0 W → W.cell? ⟨b0, off0 + kk, none⟩ = some (.int .i64 dn)) := hide (fun W h => (hS0 W).1 h)
              have SI : Hid (∀ W, Below w0.heap.size w0 W → S0 W) := hide (fun W hb => (hS0 W).2 (by rw [hb.cell (p := ⟨b0, off0 + kk, none⟩) Hz.out]; exact z0))
              have q5 : (dn : Int) - (u : Int) = (v : Int) := by omega
              have q6 : (s : Int) + (v : Int) ≤ 300 := by rw [hs1] at hs2; omega
              have q7 : (v : Int) ≤ 8 := by omega
              have q8 : (dn : Int) ≤ 8 := by omega
              have q9 : (u : Int) ≤ 8 := by omega
              clear hl' hd' h1 h2 h3 hs1 hs2 hu hv hdn z0 hS0 hki
              go_upto_region 24 with fail
              refine wp_region_held_drew (S := S0) (by kernel_rfl) (SI.out _ (HRx.out.drewN 1).bel) (fun hS0 => ?_)
              refine wpAnyH_take (i := 0) (v := .int .i64 s) rfl (by kernel_rfl) (by kernel_rfl) (by kernel_rfl) (fun _ _ _ h => h) (Or.inl ⟨by rfl, fun W' hW => by go_simp⟩) hS0 ?_
              refine wpAnyH_take (i := 1) (v := .slice (some ⟨b0, off0, none⟩) n c) rfl (by kernel_rfl) (by kernel_rfl) (by kernel_rfl) (fun _ _ _ h => h) (Or.inl ⟨by rfl, fun W' hW => by go_simp⟩) hS0 ?_
              refine wpAnyH_take (i := 2) (v := .int .i64 kk) rfl (by kernel_rfl) (by kernel_rfl) (by kernel_rfl) (fun _ _ _ h => h) (Or.inl ⟨by rfl, fun W' hW => by go_simp⟩) hS0 ?_
              refine wpAnyH_take (i := 3) (v := .pointer (some ⟨b0, off0 + kk, none⟩)) rfl (by kernel_rfl) (by kernel_rfl) (by kernel_rfl) (fun _ _ _ h => h) (Or.inl ⟨by rfl, fun W' hW => by go_simp⟩) hS0 ?_
              refine wpAnyH_take (i := 4) (v := .int .i64 dn) rfl (by kernel_rfl) (by kernel_rfl) (by kernel_rfl) (fun _ _ _ h => h) (Or.inl ⟨by rfl, fun W' hW => by have z0 := SD.out W' hW; go_simp⟩) hS0 ?_
              refine wpAnyH_take (i := 5) (v := .pointer (some ⟨r, 0, none⟩)) rfl (by kernel_rfl) (by kernel_rfl) (by kernel_rfl) (fun _ _ _ h => h) (Or.inl ⟨by rfl, fun W' hW => by go_simp⟩) hS0 ?_
              refine wpAnyH_take (i := 6) (v := .int .i64 kk) rfl (by kernel_rfl) (by kernel_rfl) (by kernel_rfl) (fun _ _ _ h => h) (Or.inl ⟨by rfl, fun W' hW => by go_simp⟩) hS0 ?_
              refine wpAnyH_ready (rs := [7]) (by kernel_rfl) (by simp) ?_
              refine AllReadyH.cons rfl (fun K hK => ?_) AllReadyH.nil
              go_simp
              go_at_call 23
              refine (K23.out _ (HRx.out.drewN 1)).mono ?_
              rintro e W6 ⟨a6, c6, rfl, hr, hb⟩
              have HR6 := hide hr; have HM6 := hide ((HMx.out.keep (below_drewN wx 1)).keep hb); clear hr hb
              go_simp
              refine hK.out _ _ (SI.out _ HR6.out.bel) (fun _ => ?_)
              clear hK K
              refine wpAnyH_ready (rs := [8]) (by kernel_rfl) (by simp) ?_
              refine AllReadyH.cons rfl (fun K hK => ?_) AllReadyH.nil
              go_simp
              refine hK.out _ _ (SI.out _ HR6.out.bel) (fun _ => ?_)
              clear hK K
              refine wpAnyH_ready (rs := [9]) (by kernel_rfl) (by simp) ?_
              refine AllReadyH.cons rfl (fun K hK => ?_) AllReadyH.nil
              go_simp
              refine hK.out _ _ (SI.out _ HR6.out.bel) (fun _ => ?_)
              clear hK K
              refine wpAnyH_ready (rs := [10]) (by kernel_rfl) (by simp) ?_
              refine AllReadyH.cons rfl (fun K hK => ?_) AllReadyH.nil
              go_simp
              refine hK.out _ _ (SI.out _ HR6.out.bel) (fun _ => ?_)
              clear hK K
              refine wpAnyH_ready (rs := [11]) (by kernel_rfl) (by simp) ?_
              refine AllReadyH.cons rfl (fun K hK => ?_) AllReadyH.nil
              go_simp
              refine hK.out _ _ (SI.out _ HR6.out.bel) (fun _ => ?_)
              clear hK K
              refine wpAnyH_done (by kernel_rfl) ?_ _
              go_wp2_with fail
              go_roundw
              case rel => exact ⟨kk + 1, s + v, by go_num, by rw [wrap_small (v : Int) (by omega), wrap_small ((s : Int) + (v : Int)) (by omega)]; rfl, by omega, HS1, HR6, HM6⟩
              case measure => simp [intOf]; omega
          · obtain rfl : kk = n := by omega
            have q2 : ¬ (kk : Int) < (kk : Int) := by omega
            have hs : s = els (lds R) i := by rw [← HS.out, ← HMe.out, ← HMl.out, List.take_length]
            rw [← hs] at HPlan
            have hs8 := HM2.out kk
            rw [HS.out] at hs8
            clear hlt hs HS HMl HMi HMo HMe HM2 HR5 HM5
            have hal : (ah : Int) ≤ 8 := by omega
            have hsl : (s : Int) ≤ 300 := by omega
            rcases HPlan.out with ⟨hc, hml, hge⟩ | ⟨hc, hlt⟩
            · subst hc
              have HPst0 := hide (HPst.out rfl)
              have q3 : ((mn : Int) != (ah : Int) + 1) = false := by rw [hml]; exact bne_self_eq_false _
              have q4 : ¬ (s : Int) < (ah : Int) := by omega
              have hmn9 : mn ≤ 9 := by omega
              have K24 := hide HRx.out.room
              have hrm := HRx.out.room_le
              obtain ⟨rr, hrr⟩ : ∃ rr, rm R = rr := ⟨_, rfl⟩
              rw [hrr] at K24 hrm
              have Hrr := hide hrr
              clear hml hge HPst HPlan hrr
              go_upto_region 31 with (go_at_call 24; refine K24.out.mono ?_; rintro e W7 ⟨rfl, hr, q7, rfl⟩; have HR7 := hide hr; have HM7 := hide (HMx.out.keep (below_drewN wx q7)); clear hr)
              clear K24
              generalize wx.drewN q7 = W7 at *
              obtain ⟨gi, hgi⟩ : ∃ g, W7.heap.size = g := ⟨_, rfl⟩
              have Hgi : Hid (w0.heap.size ≤ gi) := hide (by rw [← hgi]; exact HR7.out.bel.size)
              have HB8 : Hid (∀ o, Below W7.heap.size W7 (W7.alloc o)) := hide (fun o => (Below.refl _ _).alloc (Nat.le_refl _) o)
              have HBx0 : Hid (Bx (W7.alloc (.cells #[.int .i64 0, .int .i64 0, .int .i64 0, .int .i64 0, .int .i64 0, .int .i64 0, .int .i64 0, .int .i64 0, .int .i64 0, .int .i64 0, .int .i64 0, .int .i64 0, .int .i64 0, .int .i64 0, .int .i64 0, .int .i64 0, .int .i64 0, .int .i64 0, .int .i64 0, .int .i64 0, .int .i64 0, .int .i64 0, .int .i64 0, .int .i64 0, .int .i64 0, .int .i64 0, .int .i64 0, .int .i64 0, .int .i64 0, .int .i64 0, .int .i64 0] 60)) gi (List.replicate 31 0)) := hide (by unfold Bx; rw [← hgi, heap_new]; rfl)
              go_upto_region 32 with fail
              have HR8 := hide (HR7.out.keep (HB8.out (.cells #[.int .i64 0, .int .i64 0, .int .i64 0, .int .i64 0, .int .i64 0, .int .i64 0, .int .i64 0, .int .i64 0, .int .i64 0, .int .i64 0, .int .i64 0, .int .i64 0, .int .i64 0, .int .i64 0, .int .i64 0, .int .i64 0, .int .i64 0, .int .i64 0, .int .i64 0, .int .i64 0, .int .i64 0, .int .i64 0, .int .i64 0, .int .i64 0, .int .i64 0, .int .i64 0, .int .i64 0, .int .i64 0, .int .i64 0, .int .i64 0, .int .i64 0] 60)))
              have HM8 := hide (HM7.out.keep (HB8.out (.cells #[.int .i64 0, .int .i64 0, .int .i64 0, .int .i64 0, .int .i64 0, .int .i64 0, .int .i64 0, .int .i64 0, .int .i64 0, .int .i64 0, .int .i64 0, .int .i64 0, .int .i64 0, .int .i64 0, .int .i64 0, .int .i64 0, .int .i64 0, .int .i64 0, .int .i64 0, .int .i64 0, .int .i64 0, .int .i64 0, .int .i64 0, .int .i64 0, .int .i64 0, .int .i64 0, .int .i64 0, .int .i64 0, .int .i64 0, .int .i64 0, .int .i64 0] 60)))
              generalize W7.alloc (.cells #[.int .i64 0, .int .i64 0, .int .i64 0, .int .i64 0, .int .i64 0, .int .i64 0, .int .i64 0, .int .i64 0, .int .i64 0, .int .i64 0, .int .i64 0, .int .i64 0, .int .i64 0, .int .i64 0, .int .i64 0, .int .i64 0, .int .i64 0, .int .i64 0, .int .i64 0, .int .i64 0, .int .i64 0, .int .i64 0, .int .i64 0, .int .i64 0, .int .i64 0, .int .i64 0, .int .i64 0, .int .i64 0, .int .i64 0, .int .i64 0, .int .i64 0] 60) = W8 at *
              clear hgi HB8 HR7 HM7 HRx HMx
              go_wp2_with fail
              go_loopw [20] (fun v20 wr => ∃ (y : Nat) (C : List Int), v20 = .int .i64 y ∧ 1 ≤ y ∧ y ≤ 31 ∧ Hid (Mk R C y) ∧ Hid (RW w0 BB r a1 c1 gs R wr) ∧ Hid (Bx wr gi C) ∧ Hid (mvE.Own wr w0.heap.size (.slice a4 mn c4) ms)) (fun v20 _ => 31 - (intOf v20).toNat)
              case atStart => exact ⟨1, List.replicate 31 0, rfl, by omega, by omega, hide ⟨by simp, fun y h1 h2 => by omega⟩, HR8, HBx0, HM8⟩
              case round =>
                obtain ⟨y, C, rfl, hy1, hy2, HMk, HRy, HBy, HMy⟩ := hrel
                by_cases hy30 : y ≤ 30
                · have t0 : (y : Int) ≤ 30 := by omega
                  have t1 : (0 : Int) ≤ (y : Int) := by omega
                  have t2 : (y : Int) < 31 := by omega
                  have t3 : y < 31 := by omega
                  have K22 := hide (HRy.out.whr (y : Int))
                  obtain ⟨z, hz⟩ : ∃ z, C[y]? = some z := ⟨_, List.getElem?_eq_getElem (by rw [HMk.out.1]; omega)⟩
                  have HFx : Hid (∀ (W : World) (u : Int), Below wr.heap.size wr W → W.cell? ⟨gi, y, none⟩ = some (.int .i64 z) ∧ W.frozen? ⟨gi, y, none⟩ = false ∧ (RW w0 BB r a1 c1 gs R W → RW w0 BB r a1 c1 gs R (W.setCell ⟨gi, y, none⟩ (.int .i64 u))) ∧ Bx (W.setCell ⟨gi, y, none⟩ (.int .i64 u)) gi (C.set y u) ∧ mvE.Own (W.setCell ⟨gi, y, none⟩ (.int .i64 u)) w0.heap.size (.slice a4 mn c4) ms) := hide (fun W u hb => by
                    have hB := HBy.out.keep hb
                    have hM := HMy.out.keep hb
                    exact ⟨(hB.at y z hz).1, (hB.at y z hz).2, fun h => h.cell hB (by decide) Hgi.out, hB.set y u, own_set_other hM (zown_ne hM hB (by decide))⟩)
                  have HMs : Hid (∀ u : Int, (u = 1 ∧ On R (y : Int)) ∨ (u = 0 ∧ ¬ On R (y : Int)) → Mk R (C.set y u) (y + 1)) := hide (fun u hu => ⟨by rw [List.length_set]; exact HMk.out.1, fun y' h1 h2 => by
                    by_cases e : y = y'
                    · subst e
                      rw [set_at hz]
                      rcases hu with ⟨rfl, h⟩ | ⟨rfl, h⟩
                      · exact .inl ⟨rfl, h⟩
                      · exact .inr ⟨rfl, h⟩
                    · rw [set_off e]
                      exact HMk.out.2 y' h1 (by omega)⟩)
                  rcases whr_on R (y : Int) with ⟨hw, hon⟩ | ⟨hw0, hw1, hon⟩
                  · rw [hw] at K22
                    have HM1 := hide (HMs.out 0 (.inr ⟨rfl, hon⟩))
                    clear hw hon hz
                    go_wp2_with (go_at_call 22; refine K22.out.mono ?_; rintro e W9 ⟨rfl, hr, hb⟩; obtain ⟨g0, g1, g2, g3, g4⟩ := HFx.out W9 0 hb; have HR9 := hide (g2 hr); have HB9 := hide g3; have HM9 := hide g4; clear hr hb g2 g3 g4)
                    go_roundw
                    case rel => exact ⟨y + 1, C.set y 0, by go_num, by omega, by omega, HM1, HR9, HB9, HM9⟩
                    case measure => simp [intOf]; omega
                  · obtain ⟨v, hv⟩ : ∃ v : Nat, whr R (y : Int) = v := ⟨(whr R (y : Int)).toNat, by omega⟩
                    rw [hv] at K22 hw1
                    have HM1 := hide (HMs.out 1 (.inl ⟨rfl, hon⟩))
                    have hv32 : (v : Int) < 32 := by have := HRy.out.n32; omega
                    have v0 : ¬ (v : Int) + 1 < 1 := by omega
                    have v1 : min ((v : Int) + 1) 1 = 1 := by omega
                    have v4 : (if (1 : Int) < (v : Int) + 1 then (1 : Int) else (v : Int) + 1) = 1 := by by_cases h : (1 : Int) < (v : Int) + 1; rw [if_pos h]; rw [if_neg h]; omega
                    have v2 : (1 : Int) ≤ (v : Int) + 1 := by omega
                    have v3 : (0 : Int) ≤ (v : Int) := by omega
                    clear hw0 hw1 hon hz hv
                    go_wp2_with (go_at_call 22; refine K22.out.mono ?_; rintro e W9 ⟨rfl, hr, hb⟩; obtain ⟨g0, g1, g2, g3, g4⟩ := HFx.out W9 1 hb; have HR9 := hide (g2 hr); have HB9 := hide g3; have HM9 := hide g4; clear hr hb g2 g3 g4)
                    go_roundw
                    case rel => exact ⟨y + 1, C.set y 1, by go_num, by omega, by omega, HM1, HR9, HB9, HM9⟩
                    case measure => simp [intOf]; omega
                · obtain rfl : y = 31 := by omega
                  clear hy30 hy1 hy2 HR8 HBx0 HM8
                  have t0 : ¬ (((31 : Nat) : Int)) ≤ 30 := by omega
                  go_upto_region 36 with fail
                  obtain ⟨Wb, hWb⟩ : ∃ W, W = wr := ⟨_, rfl⟩
                  rw [← hWb] at HRy HBy HMy ⊢
                  clear hWb
                  go_wp2_with fail
                  go_loopw [131] (fun v131 wr => ∃ (k2 : Nat) (R2 : Rack), v131 = .int .i64 k2 ∧ k2 ≤ mn ∧ Hid (RW w0 BB r a1 c1 gs R2 wr) ∧ Hid (Pst R x i R2 (ms.drop k2)) ∧ Hid (Bx wr gi C) ∧ Hid (mvE.Own wr w0.heap.size (.slice a4 mn c4) ms)) (fun v131 _ => mn - (intOf v131).toNat)
                  case atStart => exact ⟨0, R, rfl, Nat.zero_le _, HRy, hide (by rw [List.drop_zero]; exact HPst0.out), HBy, HMy⟩
                  case round =>
                    obtain ⟨k2, R2, rfl, hk2, HR2, HP2, HB2, HM2⟩ := hrel
                    by_cases hlt : k2 < mn
                    · obtain ⟨mv, hmv⟩ : ∃ mv, ms[k2]? = some mv := ⟨_, List.getElem?_eq_getElem (by rw [Hmn.out]; exact hlt)⟩
                      have hdr : ms.drop k2 = mv :: ms.drop (k2 + 1) := by
                        rw [List.drop_eq_getElem_cons (idx_lt hmv)]
                        rw [List.getElem?_eq_getElem (idx_lt hmv)] at hmv
                        rw [Option.some.inj hmv]
                      have hP := HP2.out
                      rw [hdr] at hP
                      obtain ⟨hc, hP3⟩ := hP.step HR2.out.wf
                      obtain ⟨b4, off4, rfl, z0, z1, z2⟩ := mv_at HM2.out.rd k2 mv hmv
                      obtain ⟨mt, mf, mo⟩ := mv
                      simp only at z0 z1 z2
                      have t1 : (0 : Int) ≤ (k2 : Int) := by omega
                      have t2 : (k2 : Int) < (mn : Int) := by omega
                      have HP3 := hide hP3
                      have HBa : Hid (∀ o, Below wr.heap.size wr (wr.alloc o)) := hide (fun o => (Below.refl _ _).alloc (Nat.le_refl _) o)
                      have K18 : Hid (∀ o, Calls Try.prog 18 #[.pointer (some ⟨r, 0, none⟩), .agg #[.int .i64 mt, .int .i64 mf, .int .i64 mo]] (wr.alloc o) fun e w' => e = .returned (.int .i64 0) ∧ RW w0 BB r a1 c1 gs (doR R2 ⟨mt, mf, mo⟩) w' ∧ Bx w' gi C ∧ mvE.Own w' w0.heap.size (.slice (some ⟨b4, off4, none⟩) mn c4) ms) := hide (fun o => ((HR2.out.keep (HBa.out o)).do mt mf mo).mono (by
                        rintro e w' ⟨rfl, h1, h2⟩
                        exact ⟨by rw [hc], h1, (HB2.out.keep (HBa.out o)).fr h2, own_fr (HM2.out.keep (HBa.out o)) h2 (by decide)⟩))
                      generalize doR R2 ⟨mt, mf, mo⟩ = R3 at *
                      clear hmv hdr hP hc hP3
                      go_wp2_with (go_at_call 18; refine (K18.out _).mono ?_; rintro e W9 ⟨rfl, h1, h2, h3⟩; have HR9 := hide h1; have HB9 := hide h2; have HM9 := hide h3; clear h1 h2 h3)
                      go_roundw
                      case rel => exact ⟨k2 + 1, R3, by go_num, by omega, HR9, HP3, HB9, HM9⟩
                      case measure => simp [intOf]; omega
                    · obtain rfl : k2 = mn := by omega
                      have t1 : ¬ (k2 : Int) < (k2 : Int) := by omega
                      have hP := HP2.out
                      rw [← Hmn.out, List.drop_length] at hP
                      obtain ⟨⟨_, hdep⟩, ⟨h, _⟩ | ⟨_, hon, hrm2⟩⟩ := hP
                      · exact absurd rfl h
                      have HD2 := hide hdep
                      have Hon := hide hon
                      have Hrm2 : Hid (rm R2 = rr + 1) := hide (by rw [hrm2, Hrr.out])
                      have HR2l : Hid (R2.length = kk) := hide (by
                        have := congrArg List.length hdep
                        simp only [List.length_map] at this
                        rw [this]; exact HRl.out)
                      clear hdep hon hrm2 hlt HP2
                      obtain ⟨z, hz⟩ : ∃ z, C[x]? = some z := ⟨_, List.getElem?_eq_getElem (by rw [HMk.out.1]; omega)⟩
                      have HMk2 : Hid (Mk R2 (C.set x 0) 31) := hide ⟨by rw [List.length_set]; exact HMk.out.1, fun y' h1 h2 => by
                        by_cases e : x = y'
                        · subst e
                          rw [set_at hz]
                          exact .inr ⟨rfl, fun h => ((Hon.out _).1 h).2 rfl⟩
                        · rw [set_off e]
                          rcases HMk.out.2 y' h1 h2 with ⟨g1, g2⟩ | ⟨g1, g2⟩
                          · exact .inl ⟨g1, (Hon.out _).2 ⟨g2, by omega⟩⟩
                          · exact .inr ⟨g1, fun h => g2 ((Hon.out _).1 h).1⟩⟩
                      obtain ⟨g0, g1⟩ := HB2.out.at x z hz
                      have HB3 := hide (HB2.out.set x 0)
                      have HR3 : Hid (RW w0 BB r a1 c1 gs R2 (wr.setCell ⟨gi, x, none⟩ (.int .i64 0))) := hide (HR2.out.cell HB2.out (by decide) Hgi.out)
                      have u0 : (0 : Int) ≤ (x : Int) := by omega
                      have u1 : (x : Int) < 31 := by omega
                      have u2 : x < 31 := by omega
                      clear hz HMk HRy HBy HMy HR2
                      go_upto_region 43 with fail
                      generalize wr.setCell ⟨gi, x, none⟩ (.int .i64 0) = Wc at *
                      generalize C.set x 0 = C3 at *
                      clear g0 g1 HB2 HM2
                      have HL2 : Hid (∀ k3 : Nat, k3 < kk → ∃ l' : Nat × List Int, R2[k3]? = some l' ∧ lnx R2 (k3 : Int) = l'.2) := hide (fun k3 hk3 => by
                        obtain ⟨l', hl'⟩ : ∃ l', R2[k3]? = some l' := ⟨_, List.getElem?_eq_getElem (by rw [HR2l.out]; exact hk3)⟩
                        exact ⟨l', hl', by unfold lnx; rw [if_pos (by rw [HR2l.out]; omega), Int.toNat_natCast, ln_at hl']⟩)
                      have HC1 : Hid (∀ (y k3 : Nat), k3 ≤ kk → cnt R2 (y : Int) k3 ≤ 1) := hide (fun y k3 hk3 => by
                        rcases cnt_wf HR3.out.wf (y : Int) k3 (by rw [HR2l.out]; exact hk3) with ⟨h, _⟩ | ⟨h, _⟩ <;> omega)
                      have K24 : Hid (∀ W, RW w0 BB r a1 c1 gs R2 W → Calls Try.prog 24 #[.pointer (some ⟨r, 0, none⟩)] W fun e w' => e = .returned (.int .i64 ((rr : Int) + 1)) ∧ RW w0 BB r a1 c1 gs R2 w') := hide (fun W h => h.room.mono (by
                        rintro e w' ⟨rfl, h1, _⟩
                        exact ⟨by rw [Hrm2.out]; rfl, h1⟩))
                      go_wp2_with fail
                      go_loopw [23] (fun v23 wy => ∃ y : Nat, v23 = .int .i64 y ∧ 1 ≤ y ∧ y ≤ 31 ∧ Hid (RW w0 BB r a1 c1 gs R2 wy) ∧ Hid (Bx wy gi C3)) (fun v23 _ => 31 - (intOf v23).toNat)
                      case atStart => exact ⟨1, rfl, by omega, by omega, HR3, HB3⟩
                      case round =>
                        obtain ⟨y, rfl, hy1, hy2, HRy, HBy⟩ := hrel
                        obtain ⟨Wd, hWd⟩ : ∃ W, W = wr := ⟨_, rfl⟩
                        rw [← hWd] at HRy HBy ⊢
                        clear hWd
                        by_cases hy30 : y ≤ 30
                        · have t2 : (y : Int) ≤ 30 := by omega
                          go_upto_region 47 with fail
                          go_wp2_with fail
                          go_loopw [24, 148] (fun v24 v148 wz => ∃ k3 ct : Nat, v148 = .int .i64 k3 ∧ v24 = .int .i64 ct ∧ k3 ≤ kk ∧ Hid (cnt R2 (y : Int) k3 = ct) ∧ Hid (RW w0 BB r a1 c1 gs R2 wz) ∧ Hid (Bx wz gi C3)) (fun v24 v148 _ => kk - (intOf v148).toNat)
                          case atStart => exact ⟨0, 0, rfl, rfl, Nat.zero_le _, hide (by simp [cnt]), HRy, HBy⟩
                          case round =>
                            obtain ⟨k3, ct, rfl, rfl, hk3, HCt, HRz, HBz⟩ := hrel
                            obtain ⟨We, hWe⟩ : ∃ W, W = wr := ⟨_, rfl⟩
                            rw [← hWe] at HRz HBz ⊢
                            clear hWe
                            by_cases hlt : k3 < kk
                            · obtain ⟨l3, hl3, hlx⟩ := HL2.out k3 hlt
                              have K23 := hide (HRz.out.lane (k3 : Int))
                              rw [hlx] at K23
                              have hd3 := HRz.out.dep k3 l3 hl3
                              obtain ⟨u, hu⟩ : ∃ u, l3.2.length = u := ⟨_, rfl⟩
                              rw [hu] at K23 hd3
                              have Hu := hide hu
                              have hu8 : u ≤ 8 := by omega
                              have hcs := cnt_succ (y : Int) hl3
                              rw [HCt.out] at hcs
                              have hc1 := HC1.out y (k3 + 1) hlt
                              have Hcs := hide hcs
                              have hct : ct ≤ 1 := by omega
                              have t3 : (0 : Int) ≤ (k3 : Int) := by omega
                              have t4 : (k3 : Int) < (kk : Int) := by omega
                              clear hl3 hlx hd3 hu hcs hc1
                              go_wp2_with (go_at_call 23; refine K23.out.mono ?_; rintro e W9 ⟨a9, c9, rfl, ho, hr, hb⟩; have HR9 := hide hr; have HO9 := hide ho; have HB9 := hide (HBz.out.keep hb); clear ho hr hb)
                              go_loopw [24, 155] (fun v24 v155 wq => ∃ p3 ct2 : Nat, v155 = .int .i64 p3 ∧ v24 = .int .i64 ct2 ∧ p3 ≤ u ∧ wq = W9 ∧ Hid (ct2 = ct + (l3.2.take p3).count (y : Int))) (fun v24 v155 _ => u - (intOf v155).toNat)
                              case atStart => exact ⟨0, ct, rfl, rfl, Nat.zero_le _, rfl, hide (by simp)⟩
                              case round =>
                                obtain ⟨p3, ct2, rfl, rfl, hp3, rfl, HC2⟩ := hrel
                                by_cases hlt2 : p3 < u
                                · obtain ⟨e3, he3⟩ : ∃ e3, l3.2[p3]? = some e3 := ⟨_, List.getElem?_eq_getElem (by rw [Hu.out]; exact hlt2)⟩
                                  obtain ⟨b9, off9, rfl, z9⟩ := int_at HO9.out.rd p3 e3 he3
                                  have hcl : (l3.2.take p3).count (y : Int) ≤ p3 := Nat.le_trans List.count_le_length (by rw [List.length_take]; omega)
                                  have hc2 := HC2.out
                                  have t5 : (0 : Int) ≤ (p3 : Int) := by omega
                                  have t6 : (p3 : Int) < (u : Int) := by omega
                                  have t7 : (ct2 : Int) ≤ 100 := by omega
                                  by_cases hey : e3 = (y : Int)
                                  · have t8 : (e3 == (y : Int)) = true := beq_iff_eq.2 hey
                                    have HC4 : Hid (ct2 + 1 = ct + (l3.2.take (p3 + 1)).count (y : Int)) := hide (by
                                      rw [List.take_add_one, he3, hey, HC2.out]; simp; omega)
                                    clear he3 hcl hc2 hey
                                    go_wp2_with fail
                                    go_roundw
                                    case rel => exact ⟨p3 + 1, ct2 + 1, by go_num, by go_num, by omega, trivial, HC4⟩
                                    case measure => simp [intOf]; omega
                                  · have t8 : (e3 == (y : Int)) = false := beq_eq_false_iff_ne.2 hey
                                    have HC4 : Hid (ct2 = ct + (l3.2.take (p3 + 1)).count (y : Int)) := hide (by
                                      rw [List.take_add_one, he3, HC2.out, List.count_append, List.count_eq_zero_of_not_mem (a := (y : Int)) (l := (some e3).toList) (by simpa using fun h => hey h.symm)]; rfl)
                                    clear he3 hcl hc2 hey
                                    go_wp2_with fail
                                    go_roundw
                                    case rel => exact ⟨p3 + 1, ct2, by go_num, rfl, by omega, trivial, HC4⟩
                                    case measure => simp [intOf]; omega
                                · obtain rfl : p3 = u := by omega
                                  have t5 : ¬ (p3 : Int) < (p3 : Int) := by omega
                                  have HC4 : Hid (cnt R2 (y : Int) (k3 + 1) = ct2) := hide (by rw [Hcs.out, HC2.out, List.take_of_length_le (by rw [Hu.out]; omega)])
                                  clear hlt2
                                  go_wp2_with fail
                                  go_roundw
                                  case rel => exact ⟨k3 + 1, ct2, by go_num, rfl, by omega, HC4, HR9, HB9⟩
                                  case measure => simp [intOf]; omega
                            · obtain rfl : k3 = kk := by omega
                              have t3 : ¬ (k3 : Int) < (k3 : Int) := by omega
                              have hcase := HMk2.out.2 y hy1 (by omega)
                              have hcn := cnt_on HRz.out.wf (y : Int)
                              rw [HR2l.out, HCt.out] at hcn
                              have hin : C3[y]? = some (ct : Int) := by
                                rcases hcase with ⟨h1, h2⟩ | ⟨h1, h2⟩ <;> rcases hcn with ⟨g1, g2⟩ | ⟨g1, g2⟩
                                · rw [h1, g1]; rfl
                                · exact absurd h2 g2
                                · exact absurd g2 h2
                                · rw [h1, g1]; rfl
                              obtain ⟨g0, g1⟩ := HBz.out.at y ct hin
                              have t4 : ((ct : Int) != (ct : Int)) = false := bne_self_eq_false _
                              have t5 : (0 : Int) ≤ (y : Int) := by omega
                              have t6 : (y : Int) < 31 := by omega
                              have t7 : y < 31 := by omega
                              clear hcase hcn hin hlt
                              go_wp2_with fail
                              go_roundw
                              case rel => exact ⟨y + 1, by go_num, by omega, by omega, HRz, HBz⟩
                              case measure => simp [intOf]; omega
                        · obtain rfl : y = 31 := by omega
                          have hr256 : (rr : Int) ≤ 256 := by omega
                          have t2 : ¬ (((31 : Nat) : Int)) ≤ 30 := by omega
                          have t3 : (((rr : Int) + 1) == ((rr : Int) + 1)) = true := beq_self_eq_true _
                          go_wp2_with (go_at_call 24; refine (K24.out _ HRy.out).mono ?_; rintro e W9 ⟨rfl, hr⟩; have HR9 := hide hr; clear hr)
                          go_ret
                          exact ⟨rfl, HR9.out.bel⟩
            · subst hc
              have q3 : (s : Int) < (ah : Int) := by omega
              clear HPst HPlan hlt
              go_wp2_with fail
              go_ret
              exact ⟨rfl, HRx.out.bel⟩
  · have K21' : Hid (∀ W, Below w0.heap.size w0 W → Calls Try.prog 21 #[.slice a n c, .slice b m d] W fun e w' => e = .returned (.pointer none) ∧ Below w0.heap.size w0 w') := hide (fun W hb => (K21.out W hb).mono (by
      rintro e w' (⟨_, h1, h2⟩ | ⟨h, _⟩)
      · exact ⟨h1, hb.trans (h2.mono hb.size)⟩
      · exact absurd h hk))
    clear hk hn hv hm hu K21
    go_enter Try.func4, Try.ntmps4
    go_wp2_with (first
      | (go_at_call 9; refine (KA.out _).mono ?_; rintro e W1 ⟨rfl, hb1⟩; have HB := hide hb1; clear hb1)
      | (go_at_call 21; refine (K21'.out _ HB.out).mono ?_; rintro e W2 ⟨rfl, hb2⟩; have HB2 := hide hb2; clear hb2))
    go_ret
    exact ⟨rfl, HB2.out⟩
end Go.Proofs.Ytddcjkbdgneklaa
