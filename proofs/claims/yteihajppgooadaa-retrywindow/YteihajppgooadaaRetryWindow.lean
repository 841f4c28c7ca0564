/- For every two numbers and every number of 16 bits the law RetryWindow answers true: so many numbers are open as the window says and not one more; what is acknowledged at the front makes room, what is acknowledged behind it doesn't; no conditions. -/
import Derived.Test.YteihajppgooadaaWinM
namespace Go.Proofs.Yteihajppgooadaa.retryWindow
open Go.ChangeShapes Go.WideShapes Go.ChangeAt Go.RowKit
set_option linter.unusedVariables false

theorem own : ownKnob Try.prog.godebug = none := by kernel_rfl
theorem laidOut : laidOutB Try.prog = true := by kernel_rfl

theorem sq_w (first : Int) (i : Nat) : (first + (i : Int)) % 65536 = sq first i := rfl

set_option maxRecDepth 100000 in
set_option maxHeartbeats 8000000 in
theorem walk (n0 n1 n2 : Int) (w : World) (h0 : -9223372036854775808 ≤ n0 ∧ n0 ≤ 9223372036854775807) (h1 : 0 ≤ n1 ∧ n1 ≤ 65535) (h2 : -9223372036854775808 ≤ n2 ∧ n2 ≤ 9223372036854775807) :
    Calls Try.prog 5 #[.int .i64 n0, .int .u16 n1, .int .i64 n2] w fun e w' => e = .returned (.bool true) ∧ Below w.heap.size w w' := by
  obtain ⟨f0, f1⟩ := h1
  obtain ⟨N0, hN0, N1⟩ := mod_in n0 64 (by omega) (by omega)
  simp only [Int.cast_ofNat_Int] at hN0
  have i0 : (N0 : Int) ≤ 63 := by omega
  clear h0 h2
  go_enter Try.func5, Try.ntmps5
  go_upto_region 4 with (go_at_call 9; refine (awake2 _).mono ?_; rintro e wa ⟨rfl, Ba⟩)
  obtain ⟨N, hN⟩ : ∃ N : Nat, N = N0 + 1 := ⟨_, rfl⟩
  obtain ⟨A, hA, A1⟩ := mod_in n2 N (by omega) (by omega)
  have eN : (N0 : Int) + 1 = (N : Int) := by omega
  rw [eN]
  generalize wrap64 ((IntKind.u64.wrap n0).tmod 64) = x1 at *
  generalize (IntKind.u64.wrap n0).tmod 64 = x2 at *
  have p0 : (1 : Int) ≤ (N : Int) := by omega
  have p1 : (N : Int) ≤ 64 := by omega
  have a1 : (A : Int) < (N : Int) := by omega
  clear hN0 eN i0 hN
  go_upto_region 7 with (go_at_call 10; refine (snew_ok (N : Int) 5 5 n1 _ (by unfold badSet; omega) ⟨f0, f1⟩).mono ?_; rintro e w1 ⟨rfl, H1, B1, Z1⟩)
  obtain ⟨g, hg⟩ : ∃ g, wa.heap.size = g := ⟨_, rfl⟩
  have HS1 := hide (H1.mono Ba.size)
  have HB1 := hide (Ba.trans (B1.mono Ba.size))
  have HF1 := hide (Sd.Fit.new (N : Int) 5 5 n1)
  have HR1 := hide (Rng.new (N : Int) 5 5 n1 (by omega))
  rw [hg] at HS1 ⊢
  clear H1 B1 Z1 Ba hg
  go_wp2_with fail
  go_loopw [9] (fun v9 wr => ∃ (k : Nat) (S : Sd), k ≤ N ∧ v9 = .int .i64 k ∧ Hid (Rng n1 N k S) ∧ Hid S.Fit ∧ Hid (Snd wr g w.heap.size S) ∧ Hid (Below w.heap.size w wr)) (fun v9 _ => N - (intOf v9).toNat)
  case atStart => exact ⟨0, _, by omega, rfl, HR1, HF1, HS1, HB1⟩
  case round =>
    clear HR1 HF1 HS1 HB1
    obtain ⟨k, S, hk, rfl, HR, HF, HS, HB⟩ := hrel
    by_cases hlt : k < N
    · have j0 : (k : Int) < (N : Int) := by omega
      have hfull : S.count - S.lo + 1 ≤ S.win := by rw [HR.out.lo, HR.out.count, HR.out.win]; omega
      have K12 := hide (put_ok HS.out HF.out.ok HB.out.size HR.out.dead (l := []) (v := .slice none 0 0) (.inl ⟨rfl, rfl⟩) (by decide) hfull)
      have ec : sq S.first S.count = sq n1 k := by rw [HR.out.first, HR.out.count]
      rw [ec] at K12
      have ew : IntKind.u16.wrap (n1 + (k : Int)) = sq n1 k := w16 _
      have ewa : IntKind.u16.wrap (k : Int) = (k : Int) := by rw [w16]; omega
      have Hfull := hide hfull
      obtain ⟨x, hx⟩ : ∃ x, sq n1 k = x := ⟨_, rfl⟩
      rw [hx] at K12 ew
      clear hfull ec hx
      go_upto_region 11 with (go_at_call 12; refine K12.out.mono ?_; rintro e w2 ⟨rfl, p, v2, pn, pd, ps, pa, H2, C2, V2, D2⟩)
      have HF2 := hide (HF.out.put HS.out.lim v2 p pn ps pa (by rw [pd]; decide) Hfull.out)
      have HR2 := hide (HR.out.put v2 p pn ps)
      have HB2 := hide (HS.out.below HB.out C2)
      have HS2 := hide H2
      clear pn pd ps pa H2 C2 V2 D2 K12 HF HR HS HB Hfull
      go_wp2_with fail
      go_roundw
      case rel => exact ⟨k + 1, _, by omega, by go_num, HR2, HF2, HS2, HB2⟩
      case measure => simp [intOf]; omega
    · have j0 : ¬ (k : Int) < (N : Int) := by omega
      obtain rfl : k = N := by omega
      have u0 : IntKind.u64.wrap (k : Int) = (k : Int) := by simp [IntKind.wrap, IntKind.bits, IntKind.signed]; omega
      have nz : ¬ (k : Int) = 0 := by omega
      have K12 := hide (put_full HS.out HF.out.ok HR.out.dead none 0 0 (by omega) (by rw [HR.out.lo, HR.out.count, HR.out.win]; omega))
      go_upto_region 15 with (go_at_call 12; refine K12.out.mono ?_; rintro e w2 ⟨rfl, n2', rfl⟩)
      first | rw [hA] | skip
      generalize wrap64 ((IntKind.u64.wrap n2).tmod (k : Int)) = x3 at *
      generalize (IntKind.u64.wrap n2).tmod (k : Int) = x4 at *
      clear hA K12
      have hpix := HR.out.pix A1 (by omega)
      have HS2 := hide (HS.out.drewN n2')
      have HB2 : Hid (Below w.heap.size w (wr.drewN n2')) := hide ⟨HB.out.os, HB.out.tape, HB.out.output, HB.out.size, HB.out.block⟩
      have K17 := hide (ack_ok HS2.out (by rw [HR.out.len]; omega) HR.out.dead (sq n1 A) (by rw [hpix, HR.out.len]; exact A1))
      rw [hpix] at K17
      have ew : IntKind.u16.wrap (n1 + (A : Int)) = sq n1 A := w16 _
      have ewa : IntKind.u16.wrap (A : Int) = (A : Int) := by rw [w16]; omega
      have ew2 : IntKind.u16.wrap (n1 + (k : Int)) = sq n1 k := w16 _
      have ew2a : IntKind.u16.wrap (k : Int) = (k : Int) := by rw [w16]; omega
      generalize wr.drewN n2' = W2 at *
      obtain ⟨xA, hxA⟩ : ∃ x, sq n1 A = x := ⟨_, rfl⟩
      obtain ⟨xk, hxk⟩ : ∃ x, sq n1 k = x := ⟨_, rfl⟩
      rw [hxA] at K17 ew
      rw [hxk] at ew2
      have Hxk := hide hxk
      clear hpix hxA hxk HS HB
      go_wp2_with fail
      refine K17.out.mono ?_
      rintro e w3 ⟨rfl, v3, H3, C3, O3⟩
      have HB3 := hide (HS2.out.below HB2.out C3)
      have hl3 := HR.out.cut_len A1 v3
      have HF3 := hide (HF.out.cut v3 A (A + 1) (by omega))
      have hlo := HR.out.cut_lo A1 v3
      have hmem := HR.out.cut_mem (a := A) v3
      have HE3 : Hid ((S.cut v3 A (A + 1)).count = k ∧ (S.cut v3 A (A + 1)).win = k ∧ (S.cut v3 A (A + 1)).first = n1 ∧ (S.cut v3 A (A + 1)).dead = false) := hide ⟨HR.out.count, HR.out.win, HR.out.first, HR.out.dead⟩
      generalize S.cut v3 A (A + 1) = S3 at *
      have K23 := hide (open_any H3 (by omega))
      have HS3 := hide H3
      have Hl3 := hide hl3
      have Hlo := hide hlo
      have Hmem := hide hmem
      clear H3 C3 O3 K17 HS2 HB2 HR HF hlo hmem hl3
      go_wp2_with fail
      refine K23.out.mono ?_
      rintro e w4 ⟨v4, rfl, O4, B4⟩
      have hn4 : S3.nums.length = k - 1 := by unfold Sd.nums; rw [List.length_map]; have := Hl3.out; omega
      obtain ⟨a4, c4, rfl⟩ := O4.rd.form
      obtain ⟨m, hm⟩ : ∃ m, k - 1 = m := ⟨_, rfl⟩
      rw [hn4, hm]
      have ek : (m : Int) = (k : Int) - 1 := by omega
      have HS4 := hide (HS3.out.keep B4)
      have HB4 := hide (HB3.out.trans (B4.mono HB3.out.size))
      clear O4 B4 hn4 HS3 HB3 K23 hm
      by_cases hA0 : A = 0
      · have hlo4 : S3.lo = 1 := by rw [Hlo.out, if_pos hA0]
        have hfull : S3.count - S3.lo + 1 ≤ S3.win := by rw [hlo4, HE3.out.1, HE3.out.2.1]; omega
        have K12 := hide (put_ok HS4.out HF3.out.ok HB4.out.size HE3.out.2.2.2 (l := []) (v := .slice none 0 0) (.inl ⟨rfl, rfl⟩) (by decide) hfull)
        rw [show sq S3.first S3.count = xk by rw [HE3.out.1, HE3.out.2.2.1]; exact Hxk.out] at K12
        have b1 : (A : Int) = 0 := by omega
        have b2 : ¬ (0 : Int) < (A : Int) := by omega
        have Hfull := hide hfull
        have Hlo4 := hide hlo4
        clear hfull hlo4 hA0
        go_upto_region 18 with (go_at_call 12; refine K12.out.mono ?_; rintro e w5 ⟨rfl, p, v5, pn, pd, ps, pa, H5, C5, V5, D5⟩)
        have HF5 := hide (HF3.out.put HS4.out.lim v5 p pn ps pa (by rw [pd]; decide) Hfull.out)
        have HB5 := hide (HS4.out.below HB4.out C5)
        have hpn : p.n = k := by rw [pn]; exact HE3.out.1
        have K19 := hide (to_ok H5 HF5.out.ok HE3.out.2.2.2 (k : Int) ⟨by
          have := HF5.out.ok.lo_le p (by show p ∈ S3.ps ++ [p]; simp)
          omega, by show (k : Int) ≤ S3.count + 1; rw [HE3.out.1]; omega⟩)
        rw [show pre (k : Int) (S3.put v5 p).ps = k - 1 by
          show pre (k : Int) (S3.ps ++ [p]) = k - 1
          rw [pre_app (fun q hq => Hmem.out q hq) (by omega)]
          have := Hl3.out; omega, show sq (S3.put v5 p).first (k : Int) = xk by show sq S3.first (k : Int) = xk; rw [HE3.out.2.2.1]; exact Hxk.out, show ((k - 1 : Nat) : Int) = (k : Int) - 1 by omega] at K19
        have HS5 := hide H5
        clear pn pd ps pa hpn H5 C5 V5 D5 K12 HS4 HB4
        go_wp2_with (go_at_call 19; refine K19.out.mono ?_; rintro e w6 ⟨rfl, v6, H6, C6, O6⟩)
        go_ret
        exact ⟨rfl, HS5.out.below HB5.out C6⟩
      · have hlo4 : S3.lo = 0 := by rw [Hlo.out, if_neg hA0]
        have K12 := hide (put_full HS4.out HF3.out.ok HE3.out.2.2.2 none 0 0 (by omega) (by rw [hlo4, HE3.out.1, HE3.out.2.1]; omega))
        have b1 : ¬ (A : Int) = 0 := by omega
        have b2 : (0 : Int) < (A : Int) := by omega
        have Hlo4 := hide hlo4
        clear hlo4 hA0
        go_upto_region 18 with (go_at_call 12; refine K12.out.mono ?_; rintro e w5 ⟨rfl, n5, rfl⟩)
        have HS5 := hide (HS4.out.drewN n5)
        have HB5 : Hid (Below w.heap.size w (w4.drewN n5)) := hide ⟨HB4.out.os, HB4.out.tape, HB4.out.output, HB4.out.size, HB4.out.block⟩
        have K19 := hide (to_ok HS5.out HF3.out.ok HE3.out.2.2.2 (k : Int) ⟨by rw [Hlo4.out]; omega, by rw [HE3.out.1]; omega⟩)
        rw [show pre (k : Int) S3.ps = k - 1 by
          rw [pre_all _ _ (fun q hq => Hmem.out q hq)]
          have := Hl3.out; omega, show sq S3.first (k : Int) = xk by rw [HE3.out.2.2.1]; exact Hxk.out, show ((k - 1 : Nat) : Int) = (k : Int) - 1 by omega] at K19
        generalize w4.drewN n5 = W5 at *
        clear K12 HS4 HB4
        go_wp2_with (go_at_call 19; refine K19.out.mono ?_; rintro e w6 ⟨rfl, v6, H6, C6, O6⟩)
        go_ret
        exact ⟨rfl, HS5.out.below HB5.out C6⟩

set_option maxRecDepth 100000 in
theorem lifted (os : Os) (started : os.Started) (H : Type) (enc : TypeId × Value → H) :
    ReturnsInHanded {} Try.checked os 5 .any (Rows.retryWindowSpec.pre6 enc Try.prog Try.f5 Rows.retryWindowRow.domain false) (Rows.retryWindowSpec.post enc Try.prog Try.f5 false true false false) := by
  refine returnsInHanded_of_change_sized (C := Try.checked) own started (by kernel_rfl) Try.func5
    (ChangeSpec.witness6 (enc := enc) (C := Try.checked) false ⟨#[], #[.int .i64 0, .int .u16 0, .int .i64 0], []⟩ 8 (by kernel_rfl) (by kernel_rfl) (by kernel_rfl) (by kernel_rfl)) ?_
  intro W base args ds gs before hval0 hW hcnd hsz0 _
  have hval : ∀ (j : Nat) t v, Try.f5.params[j]? = some t → args[j]? = some v → Value.okWide Try.prog W .any base t v := hval0
  have hsz : (DataW.weightsEach Try.prog (Try.f5.params.toList ++ Rows.retryWindowSpec.plain.varTypes Try.prog) (ds ++ gs)).all (· ≤ reachBytes) = true := hsz0
  have hW' := hW
  obtain ⟨p, q, hA0, hV, rfl, hfz, hnd⟩ := hW
  have hA : DataW.TrodAll enc Try.prog W 0 (fun _ => true) true Try.f5.params.toList args.toList ds p := hA0
  rw [Try.params5] at hA hval hsz
  obtain ⟨v0, vs0, d0, ds0, p0, q0, hargs, rfl, rfl, h0, r0⟩ := trodAll_cons hA
  obtain ⟨v1, vs1, d1, ds1, p1, q1, rfl, rfl, rfl, h1, r1⟩ := trodAll_cons r0
  obtain ⟨v2, vs2, d2, ds2, p2, q2, rfl, rfl, rfl, h2, r2⟩ := trodAll_cons r1
  obtain ⟨rfl, rfl, rfl⟩ := trodAll_nil r2
  obtain rfl : args = #[v0, v1, v2] := by cases args; simp_all
  obtain ⟨rfl, rfl⟩ := trodVars_none hV
  have k0 := h0
  have lt0 : ∀ x ∈ p0, x.block < W.heap.size := by obtain ⟨m, hm⟩ := k0; exact DataW.trod_lt m _ _ _ hm
  obtain ⟨n0, rfl⟩ := okWide_int Try.underlying3 (hval 0 3 v0 rfl rfl)
  have w0 : (Lit.int .i64 n0).wf = true := by
    obtain ⟨fuel, hf⟩ := h0
    obtain ⟨m, e, _, hw⟩ := DataW.trod_int Try.underlying3 hf
    simp [Value.cells] at e
    rw [e]; exact hw
  have k1 := h1
  have lt1 : ∀ x ∈ p1, x.block < W.heap.size := by obtain ⟨m, hm⟩ := k1; exact DataW.trod_lt m _ _ _ hm
  obtain ⟨n1, rfl⟩ := okWide_int Try.underlying22 (hval 1 22 v1 rfl rfl)
  have w1 : (Lit.int .u16 n1).wf = true := by
    obtain ⟨fuel, hf⟩ := h1
    obtain ⟨m, e, _, hw⟩ := DataW.trod_int Try.underlying22 hf
    simp [Value.cells] at e
    rw [e]; exact hw
  have k2 := h2
  have lt2 : ∀ x ∈ p2, x.block < W.heap.size := by obtain ⟨m, hm⟩ := k2; exact DataW.trod_lt m _ _ _ hm
  obtain ⟨n2, rfl⟩ := okWide_int Try.underlying3 (hval 2 3 v2 rfl rfl)
  have w2 : (Lit.int .i64 n2).wf = true := by
    obtain ⟨fuel, hf⟩ := h2
    obtain ⟨m, e, _, hw⟩ := DataW.trod_int Try.underlying3 hf
    simp [Value.cells] at e
    rw [e]; exact hw
  clear hA0 hval0
  refine (walk n0 n1 n2 W (bounds_i64 w0) (bounds_u16 w1) (bounds_i64 w2)).mono fun e W' ⟨he, bel⟩ => ?_
  subst he
  exact ⟨_, rfl, _, _, _, [], _, [], hW', trodAll_mk1 (shut_bool Try.underlying4 _), (trodAll_cons_mk (Below.trod laidOut (by kernel_rfl) (of_decide_eq_true (by kernel_rfl)) k0 bel lt0) (trodAll_cons_mk (Below.trod laidOut (by kernel_rfl) (of_decide_eq_true (by kernel_rfl)) k1 bel lt1) (trodAll_cons_mk (Below.trod laidOut (by kernel_rfl) (of_decide_eq_true (by kernel_rfl)) k2 bel lt2) trodAll_mk0))), rfl, bel.frame _, fun h => by cases h⟩

theorem over : Rows.retryWindowRow.holds Try.pinned (OpenSpec.ofChange Rows.retryWindowSpec) :=
  OpenClaim.holds_of_wide 5 Try.f5 rfl rfl rfl rfl rfl rfl rfl ⟨rfl, rfl, rfl, rfl, rfl⟩ rfl rfl rfl rfl rfl (by kernel_rfl) Try.func5 (by kernel_rfl)
    (of_decide_eq_true (by kernel_rfl)) (by unfold Func.isWrapper; first | (rw [if_pos (by decide +kernel)]; kernel_rfl) | (rw [if_neg (by decide +kernel)]; exact ⟨rfl, rfl⟩))
    (fun os started H enc _ => lifted os started H enc)

theorem proved : Rows.RetryWindowSaid := over
end Go.Proofs.Yteihajppgooadaa.retryWindow
