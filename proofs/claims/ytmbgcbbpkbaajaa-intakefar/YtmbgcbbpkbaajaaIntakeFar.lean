/- For every two numbers and every slice of numbers of 16 bits the law IntakeFar answers true: numbers that are neither in the window nor so many ahead of it are refused and change nothing; no conditions. -/
import Derived.Test.YtmbgcbbpkbaajaaFarM
import Derived.Test.YtmbgcbbpkbaajaaRowz
namespace Go.Proofs.Ytmbgcbbpkbaajaa.intakeFar
open Go.ChangeShapes Go.WideShapes Go.ChangeAt Go.RowKit
set_option linter.unusedVariables false

theorem own : ownKnob Try.prog.godebug = none := by kernel_rfl
theorem laidOut : laidOutB Try.prog = true := by kernel_rfl

theorem w16 (a : Int) : IntKind.u16.wrap a = a % 65536 := by unfold IntKind.wrap; simp [IntKind.bits, IntKind.signed]

/-- what lies at a place of the numbers that came -/
theorem u16s_at {w W : World} {a : Option Addr} {len cap : Nat} {zs : List Int} (h : IsRow .u16 w a len cap zs) (i : Nat) (hi : i < len) (hb : Below w.heap.size w W) : ∃ b off, a = some ⟨b, off, none⟩ ∧ W.cell? ⟨b, off + i, none⟩ = some (.int .u16 (zs.getD i 0)) ∧ 0 ≤ zs.getD i 0 ∧ zs.getD i 0 ≤ 65535 := by
  rcases h with ⟨rfl, rfl, rfl, rfl⟩ | ⟨x, rfl, hl, hm, hz, hc, hw⟩
  · omega
  · obtain ⟨b, off, spot⟩ := x
    have hspot : spot = none := by simpa [Addr.add] using World.cell?_spot (hc 0 (by omega))
    subst hspot
    refine ⟨b, off, rfl, ?_, ?_⟩
    · have := hc i (by omega)
      rw [add_plain] at this
      rw [hb.cell (cell_lt this)]
      exact this
    · have hi' : i < zs.length := by omega
      have := bounds_u16 (hw zs[i] (List.getElem_mem hi'))
      rw [List.getD_eq_getElem?_getD, List.getElem?_eq_getElem hi']
      exact this

set_option maxHeartbeats 4000000 in
set_option maxRecDepth 100000 in
theorem walk (n0 n1 : Int) (a2 : Option Addr) (len2 cap2 : Nat) (z2 : List Int) (w : World) (h0 : -9223372036854775808 ≤ n0 ∧ n0 ≤ 9223372036854775807) (h1 : 0 ≤ n1 ∧ n1 ≤ 65535) (h2 : IsRow .u16 w a2 len2 cap2 z2) (s2 : cap2 * Try.prog.bytesOf 22 ≤ 140737488351232) :
    Calls Try.prog 7 #[.int .i64 n0, .int .u16 n1, .slice a2 len2 cap2] w fun e w' => e = .returned (.bool true) ∧ Below w.heap.size w w' := by
  obtain ⟨f0, f1⟩ := h1
  obtain ⟨N, hN, N0, N1⟩ := win_in n0
  have hl : len2 ≤ 9223372036854775807 := by
    rcases h2 with ⟨_, h, _, _⟩ | ⟨_, _, h, h', _⟩
    · omega
    · unfold maxLen at h'; omega
  have H2 := hide h2
  clear h0 h2 s2
  have kc := fun (w : World) (C : Array Value) (n c : Nat) => Lib.run_convert_bytes_const (P := Try.prog) w 33 5 C n c Try.underlying33 Try.underlying5
  go_enter Try.func7, Try.ntmps7
  go_upto_region 4 with (go_at_call 9; refine (awake_any _).mono ?_; rintro e wa ⟨rfl, Ba⟩)
  generalize wrap64 ((IntKind.u64.wrap n0).tmod 64) = g1
  generalize (IntKind.u64.wrap n0).tmod 64 = g2
  generalize IntKind.u64.wrap n0 = g3
  clear hN
  have i0 : (1 : Int) ≤ (N : Int) := by omega
  have i1 : (N : Int) ≤ 64 := by omega
  obtain ⟨g0, gg1, gg2⟩ := hd_ge wa.heap.size
  go_upto_region 5 with (go_at_call 10; refine (new_ok (N : Int) n1 _ (by omega) (by omega) (by omega) (by omega)).mono ?_; rintro e w1 ⟨rfl, H1, B1, Z1⟩)
  obtain ⟨h, hh⟩ : ∃ h, hdAt wa.heap.size = h := ⟨_, rfl⟩
  have hg : wa.heap.size + 2 = h.g := by rw [← hh]; rfl
  rw [hh] at H1 g0 gg1 gg2
  rw [hg]
  have q0 : w.heap.size ≤ h.g := Nat.le_trans Ba.size g0
  have q1 : w.heap.size ≤ h.mb := Nat.le_trans Ba.size gg1
  have q2 : w.heap.size ≤ h.c := Nat.le_trans Ba.size gg2
  have HB1 := hide (Ba.trans (B1.mono Ba.size))
  have HH1 := hide H1
  clear H1 B1 Z1 Ba hh hg g0 gg1 gg2
  have j0 : (len2 : Int) ≤ 9223372036854775807 := by omega
  go_cut [43] (fun v wx => v = .bool false ∧ ∃ S, Hid (Has wx h S) ∧ Hid (Far n1 N S) ∧ Hid (Below w.heap.size w wx))
  case first =>
    by_cases hN1 : N = 1
    · subst hN1
      clear kc
      go_wp2_with fail
      go_meet
      exact ⟨rfl, _, HH1, hide (far_new n1), HB1⟩
    · have hN2 : 1 < N := by omega
      have i2 : (1 : Int) < (N : Int) := by omega
      have ew : IntKind.u16.wrap (n1 + 1) = (n1 + 1) % 65536 := w16 _
      have K12 : Hid (∀ o, o = Obj.cells #[.int .u8 120] 5 (1, 2) → _) := hide (fun o ho => take_ok (HH1.out.keep ((Below.refl _ _).alloc (Nat.le_refl _) o)) (fun x _ _ h => absurd rfl h) (show 0 ≤ 1000000 by omega) (l := [120]) (ho ▸ rd_new w1 _ [120] rfl (1, 2) w1.heap.size 1 1 rfl rfl) ((n1 + 1) % 65536) (by omega) (by omega) (far_code0 n1 N N1 hN2 ⟨f0, f1⟩))
      obtain ⟨x, hx⟩ : ∃ x, (n1 + 1) % 65536 = x := ⟨_, rfl⟩
      rw [hx] at K12 ew
      have Hx := hide hx
      clear hx
      go_wp2_with (go_at_call 12; refine (K12.out _ rfl).mono ?_; rintro e w3 ⟨rfl, p, j, hp, _, j1, j2, H3, I3, O3⟩)
      go_meet
      refine ⟨rfl, _, hide H3, hide ?_, hide (O3.below (HB1.out.alloc HB1.out.size _) (HB1.out.alloc HB1.out.size _).size q0 q1 q2)⟩
      rw [← Hx.out] at j1 I3 ⊢
      exact far_put N1 hN2 ⟨f0, f1⟩ p j1 I3
  case rest =>
    clear HH1 HB1 kc
    obtain ⟨rfl, S0, HH0, HS0, HB0⟩ := hcut
    go_upto_region 8 with fail
    go_loopw [9] (fun v9 wr => ∃ (k : Nat) (S : Ik), k ≤ 100 ∧ k ≤ len2 ∧ v9 = .int .i64 (k : Int) ∧ Hid (Has wr h S) ∧ Hid (Far n1 N S) ∧ Hid (Below w.heap.size w wr)) (fun v9 _ => (100 - intOf v9).toNat)
    case atStart => exact ⟨0, S0, by omega, by omega, rfl, HH0, HS0, HB0⟩
    case round =>
      clear HH0 HS0 HB0
      obtain ⟨k, S, k1, kl, rfl, HH, HS, HB⟩ := hrel
      have j1 : (k : Int) ≤ 100 := by omega
      by_cases hend : k < len2 ∧ k < 100
      · have j3 : (k : Int) < (len2 : Int) := by omega
        have j4 : (k : Int) < 100 := by omega
        have j5 : (0 : Int) ≤ (k : Int) := by omega
        obtain ⟨b2, off2, rfl, hcell, c0, c1⟩ := u16s_at H2.out k hend.1 HB.out
        generalize z2.getD k 0 = c at hcell c0 c1
        have ew : IntKind.u16.wrap (n1 + c) = (n1 + c) % 65536 := w16 _
        have ewa : IntKind.u16.wrap c = c := by rw [w16]; omega
        obtain ⟨x, hx⟩ : ∃ x, (n1 + c) % 65536 = x := ⟨_, rfl⟩
        rw [hx] at ew
        have Hx := hide hx
        have x0 : 0 ≤ x := by omega
        have x1 : x ≤ 65535 := by omega
        clear hx
        by_cases hD : c = 0 ∨ (1 < c ∧ c < N)
        · have hna : ¬ (N : Int) ≤ c := by omega
          have hnb : ¬ 65536 - (N : Int) ≤ c := by omega
          have hnc : ¬ c = 1 := by omega
          have K12 := hide (take_any (l := []) HH.out HS.out.inw (by have := HS.out.n; omega) (.inl ⟨rfl, rfl⟩) x x0 x1 (by simp))
          clear hD
          go_wp2_with (go_at_call 12; refine K12.out.mono ?_; rintro e w3 ⟨cc, rfl, O3⟩)
          go_ret
          exact ⟨rfl, O3.below HB.out HB.out.size q0 q1 q2⟩
        · by_cases hA : (N : Int) ≤ c ∧ c < 65536 - N
          · have ha : (N : Int) ≤ c := hA.1
            have hb : c < 65536 - (N : Int) := hA.2
            have hcode : S.code x 0 = 40 := by rw [← Hx.out]; exact far_far HS.out N1 N0 c ha hb
            clear hA
            have K12 := hide (take_no (l := []) HH.out (.inl ⟨rfl, rfl⟩) x x0 x1 (by simp) (by rw [show ([] : List Int).length = 0 from rfl, hcode]; decide))
            rw [show ([] : List Int).length = 0 from rfl, hcode] at K12
            clear hD
            go_upto_region 20 with (go_at_call 12; refine K12.out.mono ?_; rintro e w3 ⟨rfl, m3, rfl⟩)
            have HH3 := hide (HH.out.drewN m3)
            have HB3 : Hid (Below w.heap.size w (wr.drewN m3)) := hide ⟨HB.out.os, HB.out.tape, HB.out.output, HB.out.size, HB.out.block⟩
            generalize wr.drewN m3 = w3 at *
            have K16 := hide (next_any HH3.out)
            have K15 := hide (ready_any HH3.out)
            rw [HS.out.nx] at K16
            rw [HS.out.q] at K15
            have K17 := hide (waiting_any HH3.out (by have := HS.out.n; omega))
            go_wp2_with (first
              | (go_at_call 16; refine K16.out.mono ?_; rintro e w4 ⟨rfl, rfl⟩)
              | (go_at_call 15; refine K15.out.mono ?_; rintro e w4 ⟨rfl, rfl⟩)
              | (go_at_call 17; refine K17.out.mono ?_; rintro e w4 ⟨v4, r4, rfl, ho4, hw4, hb4⟩; obtain ⟨a4, cap4, rfl⟩ := (Bs.own ho4).form; have hr4 := far_waits HS.out N0 hw4; have er4 : (r4.length : Int) = min ((N : Int) - 1) 1 := (by omega); have HB4 := hide (HB3.out.trans (hb4.mono HB3.out.size)); have HH4 := hide (HH3.out.keep hb4); clear ho4 hw4 hb4 hr4))
            go_roundw
            case rel => exact ⟨k + 1, S, by omega, by omega, by go_num, HH4, HS, HB4⟩
            case measure => simp [intOf]; omega
          · by_cases hB : 65536 - (N : Int) ≤ c
            · have ha : (N : Int) ≤ c := by omega
              have hb : ¬ c < 65536 - (N : Int) := by omega
              have hcode : S.code x 0 = 2 := by rw [← Hx.out]; exact far_gone HS.out N1 N0 c hB c1
              clear hA
              have K12 := hide (take_no (l := []) HH.out (.inl ⟨rfl, rfl⟩) x x0 x1 (by simp) (by rw [show ([] : List Int).length = 0 from rfl, hcode]; decide))
              rw [show ([] : List Int).length = 0 from rfl, hcode] at K12
              clear hD
              go_upto_region 20 with (go_at_call 12; refine K12.out.mono ?_; rintro e w3 ⟨rfl, m3, rfl⟩)
              have HH3 := hide (HH.out.drewN m3)
              have HB3 : Hid (Below w.heap.size w (wr.drewN m3)) := hide ⟨HB.out.os, HB.out.tape, HB.out.output, HB.out.size, HB.out.block⟩
              generalize wr.drewN m3 = w3 at *
              have K16 := hide (next_any HH3.out)
              have K15 := hide (ready_any HH3.out)
              rw [HS.out.nx] at K16
              rw [HS.out.q] at K15
              have K17 := hide (waiting_any HH3.out (by have := HS.out.n; omega))
              go_wp2_with (first
                | (go_at_call 16; refine K16.out.mono ?_; rintro e w4 ⟨rfl, rfl⟩)
                | (go_at_call 15; refine K15.out.mono ?_; rintro e w4 ⟨rfl, rfl⟩)
                | (go_at_call 17; refine K17.out.mono ?_; rintro e w4 ⟨v4, r4, rfl, ho4, hw4, hb4⟩; obtain ⟨a4, cap4, rfl⟩ := (Bs.own ho4).form; have hr4 := far_waits HS.out N0 hw4; have er4 : (r4.length : Int) = min ((N : Int) - 1) 1 := (by omega); have HB4 := hide (HB3.out.trans (hb4.mono HB3.out.size)); have HH4 := hide (HH3.out.keep hb4); clear ho4 hw4 hb4 hr4))
              go_roundw
              case rel => exact ⟨k + 1, S, by omega, by omega, by go_num, HH4, HS, HB4⟩
              case measure => simp [intOf]; omega
            · have hc1 : c = 1 := by omega
              have hN2 : (1 : Int) < (N : Int) := by omega
              subst hc1
              have hcode : S.code x 0 = 2 := by rw [← Hx.out]; exact far_one HS.out N1 (by omega)
              have ha : ¬ (N : Int) ≤ 1 := by omega
              have hb : (1 : Int) < 65536 - (N : Int) := by omega
              clear hA
              have K12 := hide (take_no (l := []) HH.out (.inl ⟨rfl, rfl⟩) x x0 x1 (by simp) (by rw [show ([] : List Int).length = 0 from rfl, hcode]; decide))
              rw [show ([] : List Int).length = 0 from rfl, hcode] at K12
              clear hD
              go_upto_region 20 with (go_at_call 12; refine K12.out.mono ?_; rintro e w3 ⟨rfl, m3, rfl⟩)
              have HH3 := hide (HH.out.drewN m3)
              have HB3 : Hid (Below w.heap.size w (wr.drewN m3)) := hide ⟨HB.out.os, HB.out.tape, HB.out.output, HB.out.size, HB.out.block⟩
              generalize wr.drewN m3 = w3 at *
              have K16 := hide (next_any HH3.out)
              have K15 := hide (ready_any HH3.out)
              rw [HS.out.nx] at K16
              rw [HS.out.q] at K15
              have K17 := hide (waiting_any HH3.out (by have := HS.out.n; omega))
              go_wp2_with (first
                | (go_at_call 16; refine K16.out.mono ?_; rintro e w4 ⟨rfl, rfl⟩)
                | (go_at_call 15; refine K15.out.mono ?_; rintro e w4 ⟨rfl, rfl⟩)
                | (go_at_call 17; refine K17.out.mono ?_; rintro e w4 ⟨v4, r4, rfl, ho4, hw4, hb4⟩; obtain ⟨a4, cap4, rfl⟩ := (Bs.own ho4).form; have hr4 := far_waits HS.out N0 hw4; have er4 : (r4.length : Int) = min ((N : Int) - 1) 1 := (by omega); have HB4 := hide (HB3.out.trans (hb4.mono HB3.out.size)); have HH4 := hide (HH3.out.keep hb4); clear ho4 hw4 hb4 hr4))
              go_roundw
              case rel => exact ⟨k + 1, S, by omega, by omega, by go_num, HH4, HS, HB4⟩
              case measure => simp [intOf]; omega
      · by_cases hc1 : (k : Int) < (len2 : Int)
        · have hc2 : ¬ (k : Int) < 100 := by omega
          go_wp2_with fail
          go_ret
          exact ⟨rfl, HB.out⟩
        · go_wp2_with fail
          go_ret
          exact ⟨rfl, HB.out⟩

set_option maxRecDepth 100000 in
theorem lifted (os : Os) (started : os.Started) (H : Type) (enc : TypeId × Value → H) :
    ReturnsInHanded {} Try.checked os 7 .any (Rows.intakeFarSpec.pre6 enc Try.prog Try.f7 Rows.intakeFarRow.domain false) (Rows.intakeFarSpec.post enc Try.prog Try.f7 false true false false) := by
  refine returnsInHanded_of_change_sized (C := Try.checked) own started (by kernel_rfl) Try.func7
    (ChangeSpec.witness6 (enc := enc) (C := Try.checked) false ⟨#[], #[.int .i64 0, .int .u16 0, .slice none 0 0], []⟩ 8 (by kernel_rfl) (by kernel_rfl) (by kernel_rfl) (by kernel_rfl)) ?_
  intro W base args ds gs before hval0 hW hcnd hsz0 _
  have hval : ∀ (j : Nat) t v, Try.f7.params[j]? = some t → args[j]? = some v → Value.okWide Try.prog W .any base t v := hval0
  have hsz : (DataW.weightsEach Try.prog (Try.f7.params.toList ++ Rows.intakeFarSpec.plain.varTypes Try.prog) (ds ++ gs)).all (· ≤ reachBytes) = true := hsz0
  have hW' := hW
  obtain ⟨p, q, hA0, hV, rfl, hfz, hnd⟩ := hW
  have hA : DataW.TrodAll enc Try.prog W 0 (fun _ => true) true Try.f7.params.toList args.toList ds p := hA0
  rw [Try.params7] at hA hval hsz
  obtain ⟨v0, vs0, d0, ds0, p0, q0, hargs, rfl, rfl, h0, r0⟩ := trodAll_cons hA
  obtain ⟨v1, vs1, d1, ds1, p1, q1, rfl, rfl, rfl, h1, r1⟩ := trodAll_cons r0
  obtain ⟨v2, vs2, d2, ds2, p2, q2, rfl, rfl, rfl, h2, r2⟩ := trodAll_cons r1
  obtain ⟨rfl, rfl, rfl⟩ := trodAll_nil r2
  obtain rfl : args = #[v0, v1, v2] := by cases args; simp_all
  obtain ⟨rfl, rfl⟩ := trodVars_none hV
  have k0 := h0
  have lt0 : ∀ x ∈ p0, x.block < W.heap.size := by obtain ⟨m, hm⟩ := k0; exact DataW.trod_lt m _ _ _ hm
  obtain ⟨n0, rfl⟩ := okWide_int Try.underlying3 (hval 0 3 v0 rfl rfl)
  have w0 : (Lit.int .i64 n0).wf = true := by
    obtain ⟨fuel, hf⟩ := h0
    obtain ⟨m, e, _, hw⟩ := DataW.trod_int Try.underlying3 hf
    simp [Value.cells] at e
    rw [e]; exact hw
  have k1 := h1
  have lt1 : ∀ x ∈ p1, x.block < W.heap.size := by obtain ⟨m, hm⟩ := k1; exact DataW.trod_lt m _ _ _ hm
  obtain ⟨n1, rfl⟩ := okWide_int Try.underlying22 (hval 1 22 v1 rfl rfl)
  have w1 : (Lit.int .u16 n1).wf = true := by
    obtain ⟨fuel, hf⟩ := h1
    obtain ⟨m, e, _, hw⟩ := DataW.trod_int Try.underlying22 hf
    simp [Value.cells] at e
    rw [e]; exact hw
  obtain ⟨a2, len2, cap2, rfl⟩ := okWide_slice Try.underlying50 (hval 2 50 v2 rfl rfl)
  have k2 := h2
  have lt2 : ∀ x ∈ p2, x.block < W.heap.size := by obtain ⟨m, hm⟩ := k2; exact DataW.trod_lt m _ _ _ hm
  obtain ⟨z2, w2⟩ : ∃ zs, IsRow .u16 W a2 len2 cap2 zs := by
    obtain ⟨fuel, hf⟩ := h2
    rcases open_ints Try.underlying50 Try.underlying22 (by kernel_rfl) hf with ⟨hcs, _⟩ | ⟨x, l, c, zs, hcs, _, hl, hm, hz, _, hcell, hwz⟩
    · simp [Value.cells] at hcs
      obtain ⟨rfl, rfl, rfl⟩ := hcs
      exact ⟨[], .inl ⟨rfl, rfl, rfl, rfl⟩⟩
    · simp [Value.cells] at hcs
      obtain ⟨rfl, rfl, rfl⟩ := hcs
      exact ⟨zs, .inr ⟨_, rfl, hl, hm, by simpa using hz, hcell, hwz⟩⟩
  have s2 : cap2 * Try.prog.bytesOf 22 ≤ 140737488351232 := by
    obtain ⟨fuel, hf⟩ := k2
    rcases open_ints Try.underlying50 Try.underlying22 (by kernel_rfl) hf with ⟨hcs, _⟩ | ⟨x, l, c, zs, hcs, _, hl, hm, hz, hx, _, _⟩
    · simp [Value.cells] at hcs
      rw [hcs.2.2]; omega
    · simp [Value.cells] at hcs
      obtain ⟨rfl, rfl, rfl⟩ := hcs
      have hd : d2 = _ := congrArg Prod.fst hx
      have := sized_slice hsz (j := 2) (t := 50) (e := 22) rfl (by rw [hd]; rfl) Try.underlying50
      simp only [lits, List.length_map, List.length_take, List.length_drop, reachBytes] at this
      simp only [if_true] at hz
      rw [hz, Nat.min_eq_left hl, Nat.add_sub_cancel' hl] at this
      exact this
  clear hA0 hval0
  refine (walk n0 n1 a2 len2 cap2 z2 W (bounds_i64 w0) (bounds_u16 w1) w2 s2).mono fun e W' ⟨he, bel⟩ => ?_
  subst he
  exact ⟨_, rfl, _, _, _, [], _, [], hW', trodAll_mk1 (shut_bool Try.underlying4 _), (trodAll_cons_mk (Below.trod laidOut (by kernel_rfl) (of_decide_eq_true (by kernel_rfl)) k0 bel lt0) (trodAll_cons_mk (Below.trod laidOut (by kernel_rfl) (of_decide_eq_true (by kernel_rfl)) k1 bel lt1) (trodAll_cons_mk (Below.trod laidOut (by kernel_rfl) (of_decide_eq_true (by kernel_rfl)) k2 bel lt2) trodAll_mk0))), rfl, bel.frame _, fun h => by cases h⟩

theorem over : Rows.intakeFarRow.holds Try.pinned (OpenSpec.ofChange Rows.intakeFarSpec) :=
  OpenClaim.holds_of_wide 7 Try.f7 rfl rfl rfl rfl rfl rfl rfl ⟨rfl, rfl, rfl, rfl, rfl⟩ rfl rfl rfl rfl rfl (by kernel_rfl) Try.func7 (by kernel_rfl)
    (of_decide_eq_true (by kernel_rfl)) (by unfold Func.isWrapper; first | (rw [if_pos (by decide +kernel)]; kernel_rfl) | (rw [if_neg (by decide +kernel)]; exact ⟨rfl, rfl⟩))
    (fun os started H enc _ => lifted os started H enc)

theorem proved : Rows.IntakeFarSaid := over
end Go.Proofs.Ytmbgcbbpkbaajaa.intakeFar
