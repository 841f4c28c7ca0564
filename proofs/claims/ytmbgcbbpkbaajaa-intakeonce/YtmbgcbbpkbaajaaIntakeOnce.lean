/- For every two numbers and every slice of numbers the law IntakeOnce answers true: pieces that come in any order, any number of times, are got in order, each once, with none left out; no conditions. -/
import Derived.Test.YtmbgcbbpkbaajaaOnceM
import Derived.Test.YtmbgcbbpkbaajaaRowz
namespace Go.Proofs.Ytmbgcbbpkbaajaa.intakeOnce
open Go.ChangeShapes Go.WideShapes Go.ChangeAt Go.RowKit
set_option linter.unusedVariables false

theorem own : ownKnob Try.prog.godebug = none := by kernel_rfl
theorem laidOut : laidOutB Try.prog = true := by kernel_rfl

theorem w16 (a : Int) : IntKind.u16.wrap a = a % 65536 := by unfold IntKind.wrap; simp [IntKind.bits, IntKind.signed]
theorem w8 (a : Int) (h0 : 0 ≤ a) (h1 : a ≤ 255) : IntKind.u8.wrap a = a := by unfold IntKind.wrap; simp [IntKind.bits, IntKind.signed]; omega

theorem pick_in (c : Int) (N : Nat) (hN : 1 ≤ N) (hN1 : N ≤ 64) : ∃ r : Nat, wrap64 ((IntKind.u64.wrap c).tmod (2 * (N : Int) + 2)) = (r : Int) ∧ (r : Int) ≤ 2 * N + 1 := by
  have h0 : 0 ≤ IntKind.u64.wrap c := by simp [IntKind.wrap, IntKind.bits, IntKind.signed]; omega
  rw [Int.tmod_eq_emod_of_nonneg h0]
  generalize IntKind.u64.wrap c = b at h0
  have h1 := Int.emod_nonneg b (by omega : (2 * (N : Int) + 2) ≠ 0)
  have h2 := Int.emod_lt_of_pos b (by omega : (0 : Int) < 2 * (N : Int) + 2)
  generalize b % (2 * (N : Int) + 2) = c at *
  refine ⟨c.toNat, ?_, by omega⟩
  unfold wrap64
  omega

/-- what lies at a place of the numbers that came -/
theorem ints_at {w W : World} {a : Option Addr} {len cap : Nat} {zs : List Int} (h : IsRow .i64 w a len cap zs) (i : Nat) (hi : i < len) (hb : Below w.heap.size w W) : ∃ b off, a = some ⟨b, off, none⟩ ∧ W.cell? ⟨b, off + i, none⟩ = some (.int .i64 (zs.getD i 0)) := by
  rcases h with ⟨rfl, rfl, rfl, rfl⟩ | ⟨x, rfl, hl, hm, hz, hc, hw⟩
  · omega
  · obtain ⟨b, off, spot⟩ := x
    have hspot : spot = none := by simpa [Addr.add] using World.cell?_spot (hc 0 (by omega))
    subst hspot
    refine ⟨b, off, rfl, ?_⟩
    have := hc i (by omega)
    rw [add_plain] at this
    rw [hb.cell (cell_lt this)]
    exact this

theorem rd_dt (w : World) (n : Int) (h0 : 0 ≤ n) (h1 : n ≤ 700) : bytesE.Rd (w.alloc (.cells #[.int .u8 (n % 256), .int .u8 (n / 256)] 5)) (.slice (some ⟨w.heap.size, 0, none⟩) 2 2) (dt n) := by
  have e : n / 256 % 256 = n / 256 := by omega
  refine rd_new w _ (dt n) ?_ (0, 0) _ _ _ rfl rfl
  simp [dt, e, El.fl, bytesE]

set_option maxHeartbeats 4000000 in
set_option maxRecDepth 100000 in
theorem walk (n0 n1 : Int) (a2 : Option Addr) (len2 cap2 : Nat) (z2 : List Int) (w : World) (h0 : -9223372036854775808 ≤ n0 ∧ n0 ≤ 9223372036854775807) (h1 : 0 ≤ n1 ∧ n1 ≤ 65535) (h2 : IsRow .i64 w a2 len2 cap2 z2) (s2 : cap2 * Try.prog.bytesOf 3 ≤ 140737488351232) :
    Calls Try.prog 4 #[.int .i64 n0, .int .u16 n1, .slice a2 len2 cap2] w fun e w' => e = .returned (.bool true) ∧ Below w.heap.size w w' := by
  obtain ⟨f0, f1⟩ := h1
  obtain ⟨N, hN, N0, N1⟩ := win_in n0
  have hl : len2 ≤ 9223372036854775807 := by
    rcases h2 with ⟨_, h, _, _⟩ | ⟨_, _, h, h', _⟩
    · omega
    · unfold maxLen at h'; omega
  have H2 := hide h2
  clear h0 h2 s2
  go_enter Try.func4, Try.ntmps4
  go_upto_region 4 with (go_at_call 9; refine (awake_any _).mono ?_; rintro e wa ⟨rfl, Ba⟩)
  generalize wrap64 ((IntKind.u64.wrap n0).tmod 64) = g1
  generalize (IntKind.u64.wrap n0).tmod 64 = g2
  generalize IntKind.u64.wrap n0 = g3
  clear hN
  have i0 : (1 : Int) ≤ (N : Int) := by omega
  have i1 : (N : Int) ≤ 64 := by omega
  obtain ⟨g0, gg1, gg2⟩ := hd_ge wa.heap.size
  go_upto_region 9 with (go_at_call 10; refine (new_ok (N : Int) n1 _ (by omega) (by omega) (by omega) (by omega)).mono ?_; rintro e w1 ⟨rfl, H1, B1, Z1⟩)
  obtain ⟨h, hh⟩ : ∃ h, hdAt wa.heap.size = h := ⟨_, rfl⟩
  have hg : wa.heap.size + 2 = h.g := by rw [← hh]; rfl
  rw [hh] at H1 g0 gg1 gg2
  rw [hg]
  have q0 : w.heap.size ≤ h.g := Nat.le_trans Ba.size g0
  have q1 : w.heap.size ≤ h.mb := Nat.le_trans Ba.size gg1
  have q2 : w.heap.size ≤ h.c := Nat.le_trans Ba.size gg2
  have HB1 := hide (Ba.trans (B1.mono Ba.size))
  have HH1 := hide H1
  clear H1 B1 Z1 Ba hh hg g0 gg1 gg2
  have j0 : (len2 : Int) ≤ 9223372036854775807 := by omega
  go_loopw [9, 10] (fun v9 v10 wr => ∃ (k got : Nat) (S : Ik), k ≤ 500 ∧ k ≤ len2 ∧ got ≤ k ∧ v9 = .int .i64 (got : Int) ∧ v10 = .int .i64 (k : Int) ∧ Hid (Has wr h S) ∧ Hid (Once n1 N got S ∧ S.n ≤ k) ∧ Hid (Below w.heap.size w wr)) (fun _ v10 _ => (500 - intOf v10).toNat)
  case atStart => exact ⟨0, 0, _, by omega, by omega, by omega, rfl, rfl, HH1, hide ⟨once_new n1 N N0 ⟨f0, f1⟩, Nat.le_refl _⟩, HB1⟩
  case round =>
    clear HH1 HB1
    obtain ⟨k, got, S, k5, kl, gk, rfl, rfl, HH, HS, HB⟩ := hrel
    have j1 : (k : Int) ≤ 500 := by omega
    have j2 : (got : Int) ≤ (k : Int) := by omega
    by_cases hend : k < len2 ∧ k < 500
    · have j3 : (k : Int) < (len2 : Int) := by omega
      have j4 : (k : Int) < 500 := by omega
      have j5 : (0 : Int) ≤ (k : Int) := by omega
      obtain ⟨b2, off2, rfl, hcell⟩ := ints_at H2.out k hend.1 HB.out
      have HC : Hid (∀ W, Below w.heap.size w W → W.cell? ⟨b2, off2 + k, none⟩ = some (.int .i64 (z2.getD k 0))) := hide (fun W hW => by
        obtain ⟨b, off, e, hc⟩ := ints_at H2.out k hend.1 hW
        cases e
        exact hc)
      generalize z2.getD k 0 = c at hcell HC
      obtain ⟨r, hr, hr1⟩ := pick_in c N N0 N1
      have r0 : (0 : Int) ≤ (r : Int) := by omega
      obtain ⟨n, hn⟩ : ∃ n : Int, (got : Int) + (r : Int) - 1 = n := ⟨_, rfl⟩
      go_upto_if 60 with fail
      have m0 : (got : Int) - 1 ≤ n := by omega
      have m1 : n ≤ (got : Int) + 2 * N := by omega
      clear hn hr hr1 r0 hcell
      go_cut [] (fun wx => ∃ S', Hid (Has wx h S') ∧ Hid (Once n1 N got S' ∧ S'.n ≤ k + 1) ∧ Hid (Below w.heap.size w wx))
      case first =>
        by_cases hn0 : 0 ≤ n
        · have m2 : n ≤ 700 := by omega
          have ew : IntKind.u16.wrap (n1 + n) = (n1 + n) % 65536 := w16 _
          have ewa : IntKind.u16.wrap n = n := by rw [w16]; omega
          have ewb : IntKind.u8.wrap n = n % 256 := by unfold IntKind.wrap; simp [IntKind.bits, IntKind.signed]
          obtain ⟨x, hx⟩ : ∃ x, (n1 + n) % 65536 = x := ⟨_, rfl⟩
          rw [hx] at ew
          have K12 := hide (once_take (HH.out.keep ((Below.refl _ _).alloc (Nat.le_refl _) (.cells #[.int .u8 (n % 256), .int .u8 (n / 256)] 5))) HS.out.1 N1 m0 m1 (rd_dt wr n hn0 m2) (by have := HS.out.2; omega))
          rw [hx] at K12
          go_wp2_with (go_at_call 12; refine K12.out.mono ?_; rintro e w2 ⟨cc, S2, rfl, H2', S2', n2, O2⟩)
          go_meet
          exact ⟨S2, hide H2', hide ⟨S2', by have := HS.out.2; omega⟩, hide (O2.below (HB.out.alloc HB.out.size _) (HB.out.alloc HB.out.size _).size q0 q1 q2)⟩
        · go_wp2_with fail
          go_meet
          exact ⟨S, HH, hide ⟨HS.out.1, by have := HS.out.2; omega⟩, HB⟩
      case rest =>
        obtain ⟨S', HH', HS', HB'⟩ := hcut
        have hcell := HC.out _ HB'.out
        clear HH HS HB HC
        obtain ⟨t, ht⟩ : ∃ t, c.tmod 3 = t := ⟨_, rfl⟩
        by_cases ht0 : t = 0
        · subst ht0
          cases hq : S'.q with
          | nil =>
            have K11 := hide (get_none HH'.out hq)
            go_wp2_with (go_at_call 11; refine K11.out.mono ?_; rintro e w5 ⟨rfl, rfl⟩)
            go_roundw
            case rel => exact ⟨k + 1, got, S', by omega, by omega, by omega, rfl, by go_num, HH', HS', HB'⟩
            case measure => simp [intOf]; omega
          | cons p rr =>
            have K11 := hide (get_some HH'.out hq)
            obtain ⟨so, hp⟩ := once_get HS'.out.1 hq
            have HSO := hide so
            have Hn' := hide HS'.out.2
            clear so hq
            go_upto_region 17 with (go_at_call 11; refine K11.out.mono ?_; rintro e w5 ⟨v5, rfl, D5, H5, O5, Z5⟩)
            obtain ⟨g5, cap5, rfl, hc5⟩ := D5.form (by rw [hp]; simp [dt])
            have c50 := hc5 0 (by rw [hp]; simp [dt])
            have c51 := hc5 1 (by rw [hp]; simp [dt])
            rw [hp, show (dt got)[0]?.getD 0 = (got : Int) % 256 from rfl] at c50
            rw [hp, show (dt got)[1]?.getD 0 = (got : Int) / 256 % 256 from rfl] at c51
            rw [hp, show (dt got).length = 2 from rfl]
            have eg : (got : Int) % 256 + 256 * ((got : Int) / 256 % 256) = got := by omega
            have HH5 := hide H5
            have HB5 := hide (O5.below HB'.out HB'.out.size q0 q1 q2)
            clear hc5 D5 H5 O5 Z5 hp
            obtain ⟨y0, hy0⟩ : ∃ y, (got : Int) % 256 = y := ⟨_, rfl⟩
            obtain ⟨y1, hy1⟩ : ∃ y, (got : Int) / 256 % 256 = y := ⟨_, rfl⟩
            have b0 : 0 ≤ y0 := by omega
            have b1 : y0 ≤ 255 := by omega
            have b2' : 0 ≤ y1 := by omega
            have b3 : y1 ≤ 255 := by omega
            rw [hy0] at c50 eg
            rw [hy1] at c51 eg
            clear hy0 hy1
            go_quiet (fail)
            have HH6 := hide (HH5.out.drewN nq)
            have HB6 : Hid (Below w.heap.size w (w5.drewN nq)) := hide ⟨HB5.out.os, HB5.out.tape, HB5.out.output, HB5.out.size, HB5.out.block⟩
            go_wp2_with fail
            go_roundw
            case rel => exact ⟨k + 1, got + 1, _, by omega, by omega, by omega, by go_num, by go_num, HH6, hide ⟨HSO.out, Hn'.out⟩, HB6⟩
            case measure => simp [intOf]; omega
        · go_wp2_with fail
          go_roundw
          case rel => exact ⟨k + 1, got, S', by omega, by omega, by omega, rfl, by go_num, HH', HS', HB'⟩
          case measure => simp [intOf]; omega
    · have hq0 := HS.out.1.ql
      have hf : got + S.q.length ≤ 700 := by omega
      have HS0 : Hid (Once n1 N got S) := hide HS.out.1
      have Hf := hide hf
      clear hq0 hf HS
      have hcond : ¬ ((k : Int) < (len2 : Int)) ∨ ¬ ((k : Int) < 500) := by omega
      by_cases hc1 : (k : Int) < (len2 : Int)
      all_goals
        have hc2 : (k : Int) < (len2 : Int) → ¬ ((k : Int) < 500) := by omega
        try have hc3 := hc2 hc1
        clear hcond hc2
        go_wp2_with fail
        go_loopw [9] (fun v9 wr => ∃ (got : Nat) (S : Ik), v9 = .int .i64 (got : Int) ∧ got ≤ 700 ∧ Hid (Has wr h S) ∧ Hid (Once n1 N got S ∧ got + S.q.length ≤ 700) ∧ Hid (Below w.heap.size w wr)) (fun v9 _ => (3000 - intOf v9).toNat)
        case atStart => exact ⟨got, S, rfl, by omega, HH, hide ⟨HS0.out, Hf.out⟩, HB⟩
        case round =>
          clear HH HS0 Hf HB
          obtain ⟨got, S, rfl, hgot, HH, HS, HB⟩ := hrel
          have g7 : (got : Int) ≤ 700 := by omega
          have K15 := hide (ready_any HH.out)
          cases hq : S.q with
          | nil =>
            rw [hq] at K15
            have K16 := hide (next_any HH.out)
            have en : S.nx = (n1 + got) % 65536 := by rw [HS.out.1.nx, hq]; simp
            rw [en] at K16
            have ew : IntKind.u16.wrap (n1 + (got : Int)) = (n1 + got) % 65536 := w16 _
            have ewa : IntKind.u16.wrap (got : Int) = (got : Int) := by rw [w16]; omega
            obtain ⟨x, hx⟩ : ∃ x, (n1 + (got : Int)) % 65536 = x := ⟨_, rfl⟩
            rw [hx] at ew K16
            clear hx en hq
            go_wp2_with (first
              | (go_at_call 15; refine K15.out.mono ?_; rintro e w5 ⟨rfl, rfl⟩)
              | (go_at_call 16; refine K16.out.mono ?_; rintro e w5 ⟨rfl, rfl⟩))
            go_ret
            exact ⟨rfl, HB.out⟩
          | cons p rr =>
            rw [hq] at K15
            have hlen : got + (rr.length + 1) ≤ 700 := by have := HS.out.2; rw [hq] at this; simpa using this
            have el : ((p :: rr).length : Int) = (rr.length : Int) + 1 := by simp
            rw [el] at K15
            have r0 : (0 : Int) ≤ (rr.length : Int) := by omega
            have r1 : (rr.length : Int) ≤ 700 := by omega
            have K11 := hide (get_some HH.out hq)
            obtain ⟨so, hp⟩ := once_get HS.out.1 hq
            have HSO := hide so
            have Hl := hide hlen
            clear so hq el hlen
            generalize (rr.length : Int) = rl at K15 r0 r1
            go_upto_region 22 with (first
              | (go_at_call 15; refine K15.out.mono ?_; rintro e w5 ⟨rfl, rfl⟩)
              | (go_at_call 11; refine K11.out.mono ?_; rintro e w5 ⟨v5, rfl, D5, H5, O5, Z5⟩))
            obtain ⟨g5, cap5, rfl, hc5⟩ := D5.form (by rw [hp]; simp [dt])
            have c50 := hc5 0 (by rw [hp]; simp [dt])
            have c51 := hc5 1 (by rw [hp]; simp [dt])
            rw [hp, show (dt got)[0]?.getD 0 = (got : Int) % 256 from rfl] at c50
            rw [hp, show (dt got)[1]?.getD 0 = (got : Int) / 256 % 256 from rfl] at c51
            rw [hp, show (dt got).length = 2 from rfl]
            have eg : (got : Int) % 256 + 256 * ((got : Int) / 256 % 256) = got := by omega
            have HH5 := hide H5
            have HB5 := hide (O5.below HB.out HB.out.size q0 q1 q2)
            clear hc5 D5 H5 O5 Z5 hp
            obtain ⟨y0, hy0⟩ : ∃ y, (got : Int) % 256 = y := ⟨_, rfl⟩
            obtain ⟨y1, hy1⟩ : ∃ y, (got : Int) / 256 % 256 = y := ⟨_, rfl⟩
            have b0 : 0 ≤ y0 := by omega
            have b1 : y0 ≤ 255 := by omega
            have b2' : 0 ≤ y1 := by omega
            have b3 : y1 ≤ 255 := by omega
            rw [hy0] at c50 eg
            rw [hy1] at c51 eg
            clear hy0 hy1
            go_quiet (fail)
            have HH6 := hide (HH5.out.drewN nq)
            have HB6 : Hid (Below w.heap.size w (w5.drewN nq)) := hide ⟨HB5.out.os, HB5.out.tape, HB5.out.output, HB5.out.size, HB5.out.block⟩
            go_wp2_with fail
            go_roundw
            case rel => exact ⟨got + 1, _, by go_num, by have := Hl.out; omega, HH6, hide ⟨HSO.out, by have := Hl.out; show got + 1 + rr.length ≤ 700; omega⟩, HB6⟩
            case measure => simp [intOf]; omega

set_option maxRecDepth 100000 in
theorem lifted (os : Os) (started : os.Started) (H : Type) (enc : TypeId × Value → H) :
    ReturnsInHanded {} Try.checked os 4 .any (Rows.intakeOnceSpec.pre6 enc Try.prog Try.f4 Rows.intakeOnceRow.domain false) (Rows.intakeOnceSpec.post enc Try.prog Try.f4 false true false false) := by
  refine returnsInHanded_of_change_sized (C := Try.checked) own started (by kernel_rfl) Try.func4
    (ChangeSpec.witness6 (enc := enc) (C := Try.checked) false ⟨#[], #[.int .i64 0, .int .u16 0, .slice none 0 0], []⟩ 8 (by kernel_rfl) (by kernel_rfl) (by kernel_rfl) (by kernel_rfl)) ?_
  intro W base args ds gs before hval0 hW hcnd hsz0 _
  have hval : ∀ (j : Nat) t v, Try.f4.params[j]? = some t → args[j]? = some v → Value.okWide Try.prog W .any base t v := hval0
  have hsz : (DataW.weightsEach Try.prog (Try.f4.params.toList ++ Rows.intakeOnceSpec.plain.varTypes Try.prog) (ds ++ gs)).all (· ≤ reachBytes) = true := hsz0
  have hW' := hW
  obtain ⟨p, q, hA0, hV, rfl, hfz, hnd⟩ := hW
  have hA : DataW.TrodAll enc Try.prog W 0 (fun _ => true) true Try.f4.params.toList args.toList ds p := hA0
  rw [Try.params4] at hA hval hsz
  obtain ⟨v0, vs0, d0, ds0, p0, q0, hargs, rfl, rfl, h0, r0⟩ := trodAll_cons hA
  obtain ⟨v1, vs1, d1, ds1, p1, q1, rfl, rfl, rfl, h1, r1⟩ := trodAll_cons r0
  obtain ⟨v2, vs2, d2, ds2, p2, q2, rfl, rfl, rfl, h2, r2⟩ := trodAll_cons r1
  obtain ⟨rfl, rfl, rfl⟩ := trodAll_nil r2
  obtain rfl : args = #[v0, v1, v2] := by cases args; simp_all
  obtain ⟨rfl, rfl⟩ := trodVars_none hV
  have k0 := h0
  have lt0 : ∀ x ∈ p0, x.block < W.heap.size := by obtain ⟨m, hm⟩ := k0; exact DataW.trod_lt m _ _ _ hm
  obtain ⟨n0, rfl⟩ := okWide_int Try.underlying3 (hval 0 3 v0 rfl rfl)
  have w0 : (Lit.int .i64 n0).wf = true := by
    obtain ⟨fuel, hf⟩ := h0
    obtain ⟨m, e, _, hw⟩ := DataW.trod_int Try.underlying3 hf
    simp [Value.cells] at e
    rw [e]; exact hw
  have k1 := h1
  have lt1 : ∀ x ∈ p1, x.block < W.heap.size := by obtain ⟨m, hm⟩ := k1; exact DataW.trod_lt m _ _ _ hm
  obtain ⟨n1, rfl⟩ := okWide_int Try.underlying22 (hval 1 22 v1 rfl rfl)
  have w1 : (Lit.int .u16 n1).wf = true := by
    obtain ⟨fuel, hf⟩ := h1
    obtain ⟨m, e, _, hw⟩ := DataW.trod_int Try.underlying22 hf
    simp [Value.cells] at e
    rw [e]; exact hw
  obtain ⟨a2, len2, cap2, rfl⟩ := okWide_slice Try.underlying43 (hval 2 43 v2 rfl rfl)
  have k2 := h2
  have lt2 : ∀ x ∈ p2, x.block < W.heap.size := by obtain ⟨m, hm⟩ := k2; exact DataW.trod_lt m _ _ _ hm
  obtain ⟨z2, w2⟩ : ∃ zs, IsRow .i64 W a2 len2 cap2 zs := by
    obtain ⟨fuel, hf⟩ := h2
    rcases open_ints Try.underlying43 Try.underlying3 (by kernel_rfl) hf with ⟨hcs, _⟩ | ⟨x, l, c, zs, hcs, _, hl, hm, hz, _, hcell, hwz⟩
    · simp [Value.cells] at hcs
      obtain ⟨rfl, rfl, rfl⟩ := hcs
      exact ⟨[], .inl ⟨rfl, rfl, rfl, rfl⟩⟩
    · simp [Value.cells] at hcs
      obtain ⟨rfl, rfl, rfl⟩ := hcs
      exact ⟨zs, .inr ⟨_, rfl, hl, hm, by simpa using hz, hcell, hwz⟩⟩
  have s2 : cap2 * Try.prog.bytesOf 3 ≤ 140737488351232 := by
    obtain ⟨fuel, hf⟩ := k2
    rcases open_ints Try.underlying43 Try.underlying3 (by kernel_rfl) hf with ⟨hcs, _⟩ | ⟨x, l, c, zs, hcs, _, hl, hm, hz, hx, _, _⟩
    · simp [Value.cells] at hcs
      rw [hcs.2.2]; omega
    · simp [Value.cells] at hcs
      obtain ⟨rfl, rfl, rfl⟩ := hcs
      have hd : d2 = _ := congrArg Prod.fst hx
      have := sized_slice hsz (j := 2) (t := 43) (e := 3) rfl (by rw [hd]; rfl) Try.underlying43
      simp only [lits, List.length_map, List.length_take, List.length_drop, reachBytes] at this
      simp only [if_true] at hz
      rw [hz, Nat.min_eq_left hl, Nat.add_sub_cancel' hl] at this
      exact this
  clear hA0 hval0
  refine (walk n0 n1 a2 len2 cap2 z2 W (bounds_i64 w0) (bounds_u16 w1) w2 s2).mono fun e W' ⟨he, bel⟩ => ?_
  subst he
  exact ⟨_, rfl, _, _, _, [], _, [], hW', trodAll_mk1 (shut_bool Try.underlying4 _), (trodAll_cons_mk (Below.trod laidOut (by kernel_rfl) (of_decide_eq_true (by kernel_rfl)) k0 bel lt0) (trodAll_cons_mk (Below.trod laidOut (by kernel_rfl) (of_decide_eq_true (by kernel_rfl)) k1 bel lt1) (trodAll_cons_mk (Below.trod laidOut (by kernel_rfl) (of_decide_eq_true (by kernel_rfl)) k2 bel lt2) trodAll_mk0))), rfl, bel.frame _, fun h => by cases h⟩

theorem over : Rows.intakeOnceRow.holds Try.pinned (OpenSpec.ofChange Rows.intakeOnceSpec) :=
  OpenClaim.holds_of_wide 4 Try.f4 rfl rfl rfl rfl rfl rfl rfl ⟨rfl, rfl, rfl, rfl, rfl⟩ rfl rfl rfl rfl rfl (by kernel_rfl) Try.func4 (by kernel_rfl)
    (of_decide_eq_true (by kernel_rfl)) (by unfold Func.isWrapper; first | (rw [if_pos (by decide +kernel)]; kernel_rfl) | (rw [if_neg (by decide +kernel)]; exact ⟨rfl, rfl⟩))
    (fun os started H enc _ => lifted os started H enc)

theorem proved : Rows.IntakeOnceSaid := over
end Go.Proofs.Ytmbgcbbpkbaajaa.intakeOnce
