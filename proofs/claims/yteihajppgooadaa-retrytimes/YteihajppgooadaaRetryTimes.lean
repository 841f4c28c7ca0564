/- For every three numbers the law RetryTimes answers true: a piece is sent at the first tick, then each pause ticks, so often as the times say, and a pause behind the last time the sender is dead; no conditions. -/
import Derived.Test.YteihajppgooadaaTimM
namespace Go.Proofs.Yteihajppgooadaa.retryTimes
open Go.ChangeShapes Go.WideShapes Go.ChangeAt Go.RowKit
set_option linter.unusedVariables false

theorem own : ownKnob Try.prog.godebug = none := by kernel_rfl
theorem laidOut : laidOutB Try.prog = true := by kernel_rfl

theorem outs_len {os : List Ot} {l : List (Int × List Int)} (h : os.map (fun o => (o.s, o.d)) = l) : os.length = l.length := by rw [← h, List.length_map]

set_option maxRecDepth 100000 in
set_option maxHeartbeats 8000000 in
theorem walk (n0 n1 n2 : Int) (w : World) (h0 : -9223372036854775808 ≤ n0 ∧ n0 ≤ 9223372036854775807) (h1 : -9223372036854775808 ≤ n1 ∧ n1 ≤ 9223372036854775807) (h2 : -9223372036854775808 ≤ n2 ∧ n2 ≤ 9223372036854775807) :
    Calls Try.prog 4 #[.int .i64 n0, .int .i64 n1, .int .i64 n2] w fun e w' => e = .returned (.bool true) ∧ Below w.heap.size w w' := by
  obtain ⟨P0, hP0, P1⟩ := mod_in n0 20 (by omega) (by omega)
  obtain ⟨T0, hT0, T1⟩ := mod_in n1 20 (by omega) (by omega)
  obtain ⟨A, hA, A1⟩ := mod_in n2 30 (by omega) (by omega)
  simp only [Int.cast_ofNat_Int] at hP0 hT0 hA
  have kc := fun (w : World) (C : Array Value) (n c : Nat) => Lib.run_convert_bytes_const (P := Try.prog) w 36 5 C n c Try.underlying36 Try.underlying5
  clear h0 h1 h2
  have i0 : (P0 : Int) ≤ 19 := by omega
  have i1 : (T0 : Int) ≤ 19 := by omega
  have i2 : (A : Int) ≤ 29 := by omega
  go_enter Try.func4, Try.ntmps4
  go_upto_region 4 with (go_at_call 9; refine (awake2 _).mono ?_; rintro e wa ⟨rfl, Ba⟩)
  obtain ⟨P, hP⟩ : ∃ P : Nat, P = P0 + 1 := ⟨_, rfl⟩
  obtain ⟨T, hT⟩ : ∃ T : Nat, T = T0 + 1 := ⟨_, rfl⟩
  have eP : (P0 : Int) + 1 = (P : Int) := by omega
  have eT : (T0 : Int) + 1 = (T : Int) := by omega
  rw [eP, eT, hA]
  generalize wrap64 ((IntKind.u64.wrap n0).tmod 20) = x1 at *
  generalize (IntKind.u64.wrap n0).tmod 20 = x2 at *
  generalize wrap64 ((IntKind.u64.wrap n1).tmod 20) = x3 at *
  generalize (IntKind.u64.wrap n1).tmod 20 = x4 at *
  generalize (IntKind.u64.wrap n2).tmod 30 = x6 at *
  clear hP0 hT0 hA eP eT
  have p0 : (1 : Int) ≤ (P : Int) := by omega
  have p1 : (P : Int) ≤ 20 := by omega
  have t0 : (1 : Int) ≤ (T : Int) := by omega
  have t1 : (T : Int) ≤ 20 := by omega
  have a0 : (0 : Int) ≤ (A : Int) := by omega
  clear i0 i1 hP hT P1 T1
  go_upto_region 7 with (go_at_call 10; refine (snew_ok 4 (P : Int) (T : Int) 65535 _ (by unfold badSet; omega) (by omega)).mono ?_; rintro e w1 ⟨rfl, H1, B1, Z1⟩)
  obtain ⟨g, hg⟩ : ∃ g, wa.heap.size = g := ⟨_, rfl⟩
  have HS1 := hide (H1.mono Ba.size)
  have HB1 := hide (Ba.trans (B1.mono Ba.size))
  have HF1 := hide (Sd.Fit.new 4 (P : Int) (T : Int) 65535)
  rw [hg] at HS1 ⊢
  clear H1 B1 Z1 Ba hg
  obtain ⟨S0, hS0⟩ : ∃ S0, Sd.new 4 (P : Int) (T : Int) 65535 = S0 := ⟨_, rfl⟩
  have hps : Hid (S0.ps = [] ∧ S0.pause = P ∧ S0.times = T ∧ S0.dead = false ∧ S0.count = 0 ∧ S0.win = 4 ∧ S0.first = 65535) := hide (by rw [← hS0]; exact ⟨rfl, rfl, rfl, rfl, rfl, rfl, rfl⟩)
  rw [hS0] at HS1 HF1
  have Hlo : Hid (S0.lo = 0) := hide (by rw [← hS0]; rfl)
  have Hdie : Hid (S0.dies = false ∧ S0.outs = [] ∧ S0.tick = S0) := hide (by rw [← hS0]; exact ⟨rfl, rfl, rfl⟩)
  clear hS0
  go_wp2_with fail
  go_loopw [9] (fun v9 wr => ∃ k : Nat, k ≤ A ∧ v9 = .int .i64 k ∧ Hid (Snd wr g w.heap.size S0) ∧ Hid (Below w.heap.size w wr)) (fun v9 _ => A - (intOf v9).toNat)
  case atStart => exact ⟨0, by omega, rfl, HS1, HB1⟩
  case round =>
    clear HS1 HB1
    obtain ⟨k, hk, rfl, HS, HB⟩ := hrel
    by_cases hlt : k < A
    · have j0 : (k : Int) < (A : Int) := by omega
      have K14 := hide (tick_ok HS.out HF1.out hps.out.2.2.2.1 Hdie.out.1)
      go_upto_region 11 with (go_at_call 14; refine K14.out.mono ?_; rintro e w3 ⟨C3, v3, os, rfl, H3, O3, E3, D3⟩)
      rw [Hdie.out.2.2] at H3
      rw [Hdie.out.2.1] at E3
      have hl := outs_len E3
      obtain ⟨a3, c3, rfl⟩ := O3.rd.form
      rw [hl, List.length_nil]
      have HS3 := hide H3
      have HB3 := hide (HS.out.below HB.out C3)
      clear C3 H3 O3 E3 D3 hl K14
      go_wp2_with fail
      go_roundw
      case rel => exact ⟨k + 1, by omega, by go_num, HS3, HB3⟩
      case measure => simp [intOf]; omega
    · have j0 : ¬ (k : Int) < (A : Int) := by omega
      have bX : Below wr.heap.size wr (wr.alloc (.cells #[.int .u8 112] 5 (1, 2))) := (Below.refl _ _).alloc (Nat.le_refl _) _
      have HX := hide (HS.out.keep bX)
      have HBX := hide (HB.out.trans (bX.mono HB.out.size))
      have K12 := hide (put_ok HX.out HF1.out.ok HBX.out.size hps.out.2.2.2.1 (l := [112]) (bytes_new wr #[.int .u8 112] [112] rfl (1, 2) wr.heap.size 1 1 rfl rfl) (by decide) (by rw [Hlo.out, hps.out.2.2.2.2.1, hps.out.2.2.2.2.2.1]; decide))
      rw [show sq S0.first S0.count = 65535 by rw [hps.out.2.2.2.2.1, hps.out.2.2.2.2.2.2]; rfl] at K12
      clear bX
      go_upto_region 16 with (go_at_call 12; refine K12.out.mono ?_; rintro e w2 ⟨rfl, p, v2, pn, pd, ps, pa, H2, C2, V2, D2⟩)
      have F2 := HF1.out.put HX.out.lim v2 p pn ps pa (by rw [pd]; decide) (by rw [Hlo.out, hps.out.2.2.2.2.1, hps.out.2.2.2.2.2.1]; decide)
      have HB2 := hide (HX.out.below HBX.out C2)
      have e2 : (S0.put v2 p).ps = [p] := by show S0.ps ++ [p] = [p]; rw [hps.out.1]; rfl
      obtain ⟨S1, hS1⟩ : ∃ S1, S0.put v2 p = S1 := ⟨_, rfl⟩
      have HS1' : Hid (∃ p, S1.ps = [p] ∧ TmS P 0 0 p) := hide ⟨p, by rw [← hS1]; exact e2, .inl ⟨rfl, by rw [ps]; rfl, .inl rfl⟩⟩
      have HS1e : Hid (S1.pause = P ∧ S1.times = T ∧ S1.dead = false) := hide (by rw [← hS1]; exact ⟨hps.out.2.1, hps.out.2.2.1, hps.out.2.2.2.1⟩)
      rw [hS1] at H2 F2
      have HH2 := hide H2
      have HF2 := hide F2
      clear H2 C2 V2 D2 K12 HBX HX pn pd ps pa F2 e2 hS1 HS HB HF1 hps Hlo Hdie
      obtain ⟨M, hM⟩ : ∃ M : Nat, P * T = M := ⟨_, rfl⟩
      have hM2 : M ≤ 400 := by rw [← hM]; exact Nat.mul_le_mul (show P ≤ 20 by omega) (show T ≤ 20 by omega)
      have eM : (P : Int) * (T : Int) = (M : Int) := by rw [← hM]; exact (Int.natCast_mul P T).symm
      have m0 : (0 : Int) ≤ (M : Int) := by omega
      have m1 : (M : Int) ≤ 400 := by omega
      have HM := hide hM
      clear hM hM2
      go_wp2_with fail
      go_loopw [14] (fun v14 wr => ∃ (i q r : Nat) (S : Sd), i ≤ M ∧ v14 = .int .i64 i ∧ Hid (i = q * P + r ∧ r < P) ∧ Hid (∃ p, S.ps = [p] ∧ TmS P q r p) ∧ Hid (S.pause = P ∧ S.times = T ∧ S.dead = false) ∧ Hid S.Fit ∧ Hid (Snd wr g w.heap.size S) ∧ Hid (Below w.heap.size w wr)) (fun v14 _ => M - (intOf v14).toNat)
      case atStart => exact ⟨0, 0, 0, S1, by omega, rfl, hide ⟨by simp, by omega⟩, HS1', HS1e, HF2, HH2, HB2⟩
      case round =>
        clear HS1' HS1e HF2 HH2 HB2 S1
        obtain ⟨i, q, r, S, hi, rfl, Hi, HT, HE, HF, HS, HB⟩ := hrel
        by_cases hlt : i < M
        · have hq : q < T := mul_in Hi.out.1 Hi.out.2 (by rw [HM.out]; exact hlt)
          have hdie : S.dies = false := by
            obtain ⟨p, hp, ht⟩ := HT.out
            exact tms_ends HE.out.1 HE.out.2.1 hp ht Hi.out.2 hq
          have hlen : S.outs.length = if r = 0 then 1 else 0 := by
            obtain ⟨p, hp, ht⟩ := HT.out
            exact tms_outs HE.out.1 hp ht Hi.out.2
          have Hnext : Hid (∃ q' r', (i + 1 = q' * P + r' ∧ r' < P) ∧ ∃ p, S.tick.ps = [p] ∧ TmS P q' r' p) := hide (by
            obtain ⟨p, hp, ht⟩ := HT.out
            have e : S.tick.ps = [tk P p] := by show S.ps.map (tk S.pause) = _; rw [hp, HE.out.1]; rfl
            rcases tms_next ht Hi.out.2 with ⟨h1, h2⟩ | ⟨h1, h2⟩
            · exact ⟨q, r + 1, ⟨by have := Hi.out.1; omega, h1⟩, _, e, h2⟩
            · exact ⟨q + 1, 0, ⟨by have := Hi.out.1; rw [Nat.succ_mul]; omega, by omega⟩, _, e, h2⟩)
          have em := mod_of Hi.out.1 Hi.out.2
          have j0 : (i : Int) < (M : Int) := by omega
          have K14 := hide (tick_ok HS.out HF.out HE.out.2.2 hdie)
          have HFn := hide (HF.out.tick HS.out.lim hdie)
          have Hlen := hide hlen
          clear hdie hlen hq
          go_upto_region 20 with (go_at_call 14; refine K14.out.mono ?_; rintro e w3 ⟨C3, v3, os, rfl, H3, O3, E3, D3⟩)
          have hl := (outs_len E3).trans Hlen.out
          obtain ⟨a3, c3, rfl⟩ := O3.rd.form
          have HS3 := hide H3
          have HB3 := hide (HS.out.below HB.out C3)
          have HE3 : Hid (S.tick.pause = P ∧ S.tick.times = T ∧ S.tick.dead = false) := hide HE.out
          rw [hl]
          clear C3 H3 O3 E3 D3 hl K14 Hlen
          have pz : ¬ (P : Int) = 0 := by omega
          by_cases hr : r = 0
          · rw [if_pos hr]
            rw [hr] at em
            clear hr
            go_wp2_with fail
            go_roundw
            case rel =>
              obtain ⟨q', r', h1, h2⟩ := Hnext.out
              exact ⟨i + 1, q', r', S.tick, by omega, by go_num, hide h1, hide h2, HE3, HFn, HS3, HB3⟩
            case measure => simp [intOf]; omega
          · rw [if_neg hr]
            have r0 : ¬ (r : Int) = 0 := by omega
            clear hr
            go_wp2_with fail
            go_roundw
            case rel =>
              obtain ⟨q', r', h1, h2⟩ := Hnext.out
              exact ⟨i + 1, q', r', S.tick, by omega, by go_num, hide h1, hide h2, HE3, HFn, HS3, HB3⟩
            case measure => simp [intOf]; omega
        · have j0 : ¬ (i : Int) < (M : Int) := by omega
          obtain ⟨hq, hr⟩ := mul_end Hi.out.1 Hi.out.2 (show i = P * T by rw [HM.out]; omega)
          have hdie : S.dies = true := by
            obtain ⟨p, hp, ht⟩ := HT.out
            rw [hq, hr] at ht
            exact tms_dies HE.out.1 HE.out.2.1 hp ht (by omega)
          have K14 := hide (tick_die HS.out HF.out HE.out.2.2 hdie)
          clear hdie hq hr
          go_upto_region 23 with (go_at_call 14; refine K14.out.mono ?_; rintro e w3 ⟨C3, rfl, ps', H3⟩)
          have K12 := hide (put_dead H3 rfl none 0 0)
          have K19 := hide (to_dead H3 rfl 0)
          have K21 := hide (dead_any H3)
          have K17 := hide (ack_dead H3 rfl 65535)
          have HB3 := hide (HS.out.below HB.out C3)
          clear C3 H3 K14
          go_wp2_with (first
            | (go_at_call 12; refine K12.out.mono ?_; rintro e w4 ⟨rfl, rfl⟩)
            | (go_at_call 19; refine K19.out.mono ?_; rintro e w5 ⟨rfl, rfl⟩)
            | (go_at_call 21; refine K21.out.mono ?_; rintro e w6 ⟨rfl, rfl⟩)
            | (go_at_call 17; refine K17.out.mono ?_; rintro e w7 ⟨rfl, B7⟩))
          go_ret
          exact ⟨rfl, HB3.out.trans (B7.mono HB3.out.size)⟩

set_option maxRecDepth 100000 in
theorem lifted (os : Os) (started : os.Started) (H : Type) (enc : TypeId × Value → H) :
    ReturnsInHanded {} Try.checked os 4 .any (Rows.retryTimesSpec.pre6 enc Try.prog Try.f4 Rows.retryTimesRow.domain false) (Rows.retryTimesSpec.post enc Try.prog Try.f4 false true false false) := by
  refine returnsInHanded_of_change_sized (C := Try.checked) own started (by kernel_rfl) Try.func4
    (ChangeSpec.witness6 (enc := enc) (C := Try.checked) false ⟨#[], #[.int .i64 0, .int .i64 0, .int .i64 0], []⟩ 8 (by kernel_rfl) (by kernel_rfl) (by kernel_rfl) (by kernel_rfl)) ?_
  intro W base args ds gs before hval0 hW hcnd hsz0 _
  have hval : ∀ (j : Nat) t v, Try.f4.params[j]? = some t → args[j]? = some v → Value.okWide Try.prog W .any base t v := hval0
  have hsz : (DataW.weightsEach Try.prog (Try.f4.params.toList ++ Rows.retryTimesSpec.plain.varTypes Try.prog) (ds ++ gs)).all (· ≤ reachBytes) = true := hsz0
  have hW' := hW
  obtain ⟨p, q, hA0, hV, rfl, hfz, hnd⟩ := hW
  have hA : DataW.TrodAll enc Try.prog W 0 (fun _ => true) true Try.f4.params.toList args.toList ds p := hA0
  rw [Try.params4] at hA hval hsz
  obtain ⟨v0, vs0, d0, ds0, p0, q0, hargs, rfl, rfl, h0, r0⟩ := trodAll_cons hA
  obtain ⟨v1, vs1, d1, ds1, p1, q1, rfl, rfl, rfl, h1, r1⟩ := trodAll_cons r0
  obtain ⟨v2, vs2, d2, ds2, p2, q2, rfl, rfl, rfl, h2, r2⟩ := trodAll_cons r1
  obtain ⟨rfl, rfl, rfl⟩ := trodAll_nil r2
  obtain rfl : args = #[v0, v1, v2] := by cases args; simp_all
  obtain ⟨rfl, rfl⟩ := trodVars_none hV
  have k0 := h0
  have lt0 : ∀ x ∈ p0, x.block < W.heap.size := by obtain ⟨m, hm⟩ := k0; exact DataW.trod_lt m _ _ _ hm
  obtain ⟨n0, rfl⟩ := okWide_int Try.underlying3 (hval 0 3 v0 rfl rfl)
  have w0 : (Lit.int .i64 n0).wf = true := by
    obtain ⟨fuel, hf⟩ := h0
    obtain ⟨m, e, _, hw⟩ := DataW.trod_int Try.underlying3 hf
    simp [Value.cells] at e
    rw [e]; exact hw
  have k1 := h1
  have lt1 : ∀ x ∈ p1, x.block < W.heap.size := by obtain ⟨m, hm⟩ := k1; exact DataW.trod_lt m _ _ _ hm
  obtain ⟨n1, rfl⟩ := okWide_int Try.underlying3 (hval 1 3 v1 rfl rfl)
  have w1 : (Lit.int .i64 n1).wf = true := by
    obtain ⟨fuel, hf⟩ := h1
    obtain ⟨m, e, _, hw⟩ := DataW.trod_int Try.underlying3 hf
    simp [Value.cells] at e
    rw [e]; exact hw
  have k2 := h2
  have lt2 : ∀ x ∈ p2, x.block < W.heap.size := by obtain ⟨m, hm⟩ := k2; exact DataW.trod_lt m _ _ _ hm
  obtain ⟨n2, rfl⟩ := okWide_int Try.underlying3 (hval 2 3 v2 rfl rfl)
  have w2 : (Lit.int .i64 n2).wf = true := by
    obtain ⟨fuel, hf⟩ := h2
    obtain ⟨m, e, _, hw⟩ := DataW.trod_int Try.underlying3 hf
    simp [Value.cells] at e
    rw [e]; exact hw
  clear hA0 hval0
  refine (walk n0 n1 n2 W (bounds_i64 w0) (bounds_i64 w1) (bounds_i64 w2)).mono fun e W' ⟨he, bel⟩ => ?_
  subst he
  exact ⟨_, rfl, _, _, _, [], _, [], hW', trodAll_mk1 (shut_bool Try.underlying4 _), (trodAll_cons_mk (Below.trod laidOut (by kernel_rfl) (of_decide_eq_true (by kernel_rfl)) k0 bel lt0) (trodAll_cons_mk (Below.trod laidOut (by kernel_rfl) (of_decide_eq_true (by kernel_rfl)) k1 bel lt1) (trodAll_cons_mk (Below.trod laidOut (by kernel_rfl) (of_decide_eq_true (by kernel_rfl)) k2 bel lt2) trodAll_mk0))), rfl, bel.frame _, fun h => by cases h⟩

theorem over : Rows.retryTimesRow.holds Try.pinned (OpenSpec.ofChange Rows.retryTimesSpec) :=
  OpenClaim.holds_of_wide 4 Try.f4 rfl rfl rfl rfl rfl rfl rfl ⟨rfl, rfl, rfl, rfl, rfl⟩ rfl rfl rfl rfl rfl (by kernel_rfl) Try.func4 (by kernel_rfl)
    (of_decide_eq_true (by kernel_rfl)) (by unfold Func.isWrapper; first | (rw [if_pos (by decide +kernel)]; kernel_rfl) | (rw [if_neg (by decide +kernel)]; exact ⟨rfl, rfl⟩))
    (fun os started H enc _ => lifted os started H enc)

theorem proved : Rows.RetryTimesSaid := over
end Go.Proofs.Yteihajppgooadaa.retryTimes
