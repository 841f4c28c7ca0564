/- For all settings and every two numbers the law RetryAcks answers true: all ahead of a number acknowledged at once is each acknowledged by itself; no conditions. -/
import Derived.Test.YteihajppgooadaaAckM
namespace Go.Proofs.Yteihajppgooadaa.retryAcks
open Go.ChangeShapes Go.WideShapes Go.ChangeAt Go.RowKit
set_option linter.unusedVariables false

theorem own : ownKnob Try.prog.godebug = none := by kernel_rfl
theorem laidOut : laidOutB Try.prog = true := by kernel_rfl

theorem own_one {w : World} {B : Nat} {a : Option Addr} {l c : Nat} {z : Int} (h : bytesE.Own w B (.slice a l c) [z]) : ∃ b, a = some ⟨b, 0, none⟩ ∧ l = 1 ∧ w.cell? ⟨b, 0, none⟩ = some (.int .u8 z) := by
  rcases h.2 with ⟨_, h0⟩ | ⟨g, cap, cur, h1, _⟩
  · cases h0
  · simp only [Value.slice.injEq] at h1
    obtain ⟨rfl, rfl, rfl⟩ := h1
    obtain ⟨h2, _⟩ := El.Own.cell (E := bytesE) h 0 (show (0 : Nat) < 1 * 1 by decide)
    exact ⟨g, rfl, rfl, h2⟩
theorem drewN_add' (w : World) (a b : Nat) : (w.drewN a).drewN b = w.drewN (a + b) := by
  simp [World.drewN, Nat.add_assoc]

set_option maxRecDepth 100000 in
set_option maxHeartbeats 16000000 in
theorem walk (x00 x01 x02 x03 n1 n2 : Int) (w : World) (h0 : 0 ≤ x03 ∧ x03 ≤ 65535) (h1 : -9223372036854775808 ≤ n1 ∧ n1 ≤ 9223372036854775807) (h2 : -9223372036854775808 ≤ n2 ∧ n2 ≤ 9223372036854775807) :
    Calls Try.prog 7 #[.agg #[.int .i64 x00, .int .i64 x01, .int .i64 x02, .int .u16 x03], .int .i64 n1, .int .i64 n2] w fun e w' => e = .returned (.bool true) ∧ Below w.heap.size w w' := by
  obtain ⟨N0, hN0, N1⟩ := mod_in n1 20 (by omega) (by omega)
  simp only [Int.cast_ofNat_Int] at hN0
  have i0 : (N0 : Int) ≤ 19 := by omega
  clear h1 h2
  have hB0 : Below w.heap.size w (w.alloc (.cells #[.int .i64 x00, .int .i64 x01, .int .i64 x02, .int .u16 x03] 24)) := (Below.refl _ _).alloc (Nat.le_refl _) _
  have HB0 := hide hB0
  have HC0 : Hid ((w.alloc (.cells #[.int .i64 x00, .int .i64 x01, .int .i64 x02, .int .u16 x03] 24)).cell? ⟨w.heap.size, 3, none⟩ = some (.int .u16 x03) ∧ w.heap.size < (w.alloc (.cells #[.int .i64 x00, .int .i64 x01, .int .i64 x02, .int .u16 x03] 24)).heap.size) := hide ⟨by simp, by simp⟩
  clear hB0
  go_enter Try.func7, Try.ntmps7
  go_upto_region 4 with (go_at_call 9; refine (awake2 _).mono ?_; rintro e wa ⟨rfl, Ba⟩)
  obtain ⟨N, hN⟩ : ∃ N : Nat, N = N0 + 1 := ⟨_, rfl⟩
  obtain ⟨T, hT, T1⟩ := mod_in n2 (N + 1) (by omega) (by omega)
  have eN : (N0 : Int) + 1 = (N : Int) := by omega
  have hT' : wrap64 ((IntKind.u64.wrap n2).tmod ((N : Int) + 1)) = (T : Int) := by rw [← hT]; norm_cast
  rw [eN]
  generalize wrap64 ((IntKind.u64.wrap n1).tmod 20) = x1 at *
  generalize (IntKind.u64.wrap n1).tmod 20 = x2 at *
  have u0 : IntKind.u64.wrap ((N : Int) + 1) = (N : Int) + 1 := by simp [IntKind.wrap, IntKind.bits, IntKind.signed]; omega
  have nz : ¬ (N : Int) + 1 = 0 := by omega
  have p0 : (1 : Int) ≤ (N : Int) := by omega
  have p1 : (N : Int) ≤ 20 := by omega
  have t1 : (T : Int) ≤ (N : Int) := by omega
  have cA : wa.cell? ⟨w.heap.size, 3, none⟩ = some (.int .u16 x03) := by rw [Ba.cell HC0.out.2]; exact HC0.out.1
  have hlt : w.heap.size < wa.heap.size := Nat.lt_of_lt_of_le HC0.out.2 Ba.size
  have HBa := hide (HB0.out.trans (Ba.mono HB0.out.size))
  clear hN0 eN i0 hN hT Ba HB0 HC0
  go_upto_region 5 with fail
  first | rw [hT'] | skip
  generalize (IntKind.u64.wrap n2).tmod ((N : Int) + 1) = x4 at *
  clear hT' u0 nz
  have bad : ¬ badSet 64 3 5 := by unfold badSet; omega
  go_upto_region 6 with (go_at_call 10; refine (snew_ok 64 3 5 x03 _ bad h0).mono ?_; rintro e w1 ⟨rfl, H1, B1, Z1⟩)
  obtain ⟨B, hB⟩ : ∃ B, wa.heap.size = B := ⟨_, rfl⟩
  rw [hB] at H1 B1 Z1 hlt ⊢
  have HZ0 : Hid (w.heap.size < B) := hide hlt
  have HBB : Hid (∀ W, Below B wa W → W.cell? ⟨w.heap.size, 3, none⟩ = some (.int .u16 x03)) := hide (fun W hW => by rw [hW.cell HZ0.out]; exact cA)
  have HFin : Hid (∀ W, Below B wa W → Below w.heap.size w W) := hide (fun W hW => HBa.out.trans (hW.mono (by omega)))
  have cB := HBB.out w1 B1
  have HH1 := hide H1
  have HB1 := hide B1
  have Hz1 : Hid (w1.heap.size = B + 1) := hide Z1
  clear cA hlt HBa hB H1 B1 Z1
  go_upto_region 9 with (go_at_call 10; refine (snew_ok 64 3 5 x03 _ bad h0).mono ?_; rintro e w2 ⟨rfl, H2, B2, Z2⟩)
  have hz1 := Hz1.out
  obtain ⟨gb, hgb⟩ : ∃ gb, w1.heap.size = gb := ⟨_, rfl⟩
  have B2' := HB1.out.trans (B2.mono (show B ≤ w1.heap.size by omega))
  have HB2 := hide B2'
  have HSa := hide (HH1.out.keep B2)
  have HSb := hide (H2.mono (show B ≤ w1.heap.size by omega))
  rw [hgb] at HSb ⊢
  have Hne : Hid (B ≠ gb) := hide (by omega)
  clear H2 B2 Z2 B2' HH1 HB1 cB hz1 hgb Hz1
  have HFa := hide (Sd.Fit.new 64 3 5 x03)
  have HDa := hide (Dr.new 3 5 x03 (by omega))
  have Hsep : Hid (Sep (Sd.new 64 3 5 x03).v (Sd.new 64 3 5 x03).v) := hide (fun k hk => by cases hk)
  go_wp2_with fail
  go_loopw [11] (fun v11 wr => ∃ (k : Nat) (Sa Sb : Sd), k ≤ N ∧ v11 = .int .i64 k ∧ Hid (Dr x03 0 k Sa) ∧ Hid (Dr x03 0 k Sb) ∧ Hid Sa.Fit ∧ Hid Sb.Fit ∧ Hid (Snd wr B B Sa) ∧ Hid (Snd wr gb B Sb) ∧ Hid (Sep Sa.v Sb.v) ∧ Hid (Below B wa wr)) (fun v11 _ => N - (intOf v11).toNat)
  case atStart => exact ⟨0, _, _, by omega, rfl, HDa, HDa, HFa, HFa, HSa, HSb, Hsep, HB2⟩
  case round =>
    clear HDa HFa HSa HSb Hsep HB2
    obtain ⟨k, Sa, Sb, hk, rfl, HDa, HDb, HFa, HFb, HSa, HSb, Hsep, HB⟩ := hrel
    by_cases hlt : k < N
    · have j0 : (k : Int) < (N : Int) := by omega
      have e8 : IntKind.u8.wrap (k : Int) = (k : Int) := by unfold IntKind.wrap; simp [IntKind.bits, IntKind.signed]; omega
      have fa : Sa.count - Sa.lo + 1 ≤ Sa.win := by rw [HDa.out.lo, HDa.out.count, HDa.out.win]; omega
      have fb : Sb.count - Sb.lo + 1 ≤ Sb.win := by rw [HDb.out.lo, HDb.out.count, HDb.out.win]; omega
      have bX : Below wr.heap.size wr (wr.alloc (.cells #[.int .u8 (k : Int)] 5)) := (Below.refl _ _).alloc (Nat.le_refl _) _
      have hBw : B ≤ wr.heap.size := Nat.le_of_lt (heap_lt HSa.out.box)
      have HBX := hide (HB.out.trans (bX.mono hBw))
      have HSaX := hide (HSa.out.keep bX)
      have HSbX := hide (HSb.out.keep bX)
      have K12 := hide (put_ok HSaX.out HFa.out.ok (Nat.le_trans hBw bX.size) HDa.out.dead (l := [(k : Int)]) (bytes_new wr #[.int .u8 (k : Int)] [(k : Int)] rfl (0, 0) wr.heap.size 1 1 rfl rfl) (by simp) fa)
      have Hfa := hide fa
      have Hfb := hide fb
      clear fa fb bX hBw
      go_upto_region 13 with (go_at_call 12; refine K12.out.mono ?_; rintro e w3 ⟨rfl, p, v3, pn, pd, ps, pa, H3, C3, V3, D3⟩)
      have HFa3 := hide (HFa.out.put HSaX.out.lim v3 p pn ps pa (by rw [pd]; simp) Hfa.out)
      have HDa3 := hide (HDa.out.put v3 p pn ps pd)
      have HB3 := hide (HSaX.out.below HBX.out C3)
      have HSb3 := hide (HSbX.out.pair HSaX.out Hne.out.symm Hsep.out.symm C3)
      have Hsep3 : Hid (Sep v3 Sb.v) := hide (sep_next Hsep.out HSbX.out.lies.row V3)
      have HSa3 := hide H3
      clear pn pd ps pa H3 C3 V3 D3 K12 HSaX HSbX HSa HSb HB HBX HFa HDa Hsep
      have bX : Below w3.heap.size w3 (w3.alloc (.cells #[.int .u8 (k : Int)] 5)) := (Below.refl _ _).alloc (Nat.le_refl _) _
      have hBw : B ≤ w3.heap.size := Nat.le_of_lt (heap_lt HSa3.out.box)
      have HBX := hide (HB3.out.trans (bX.mono hBw))
      have HSaX := hide (HSa3.out.keep bX)
      have HSbX := hide (HSb3.out.keep bX)
      have K12 := hide (put_ok HSbX.out HFb.out.ok (Nat.le_trans hBw bX.size) HDb.out.dead (l := [(k : Int)]) (bytes_new w3 #[.int .u8 (k : Int)] [(k : Int)] rfl (0, 0) w3.heap.size 1 1 rfl rfl) (by simp) Hfb.out)
      clear bX hBw
      go_upto_region 11 with (go_at_call 12; refine K12.out.mono ?_; rintro e w4 ⟨rfl, p', v4, pn, pd, ps, pa, H4, C4, V4, D4⟩)
      have HFb4 := hide (HFb.out.put HSbX.out.lim v4 p' pn ps pa (by rw [pd]; simp) Hfb.out)
      have HDb4 := hide (HDb.out.put v4 p' pn ps pd)
      have HB4 := hide (HSbX.out.below HBX.out C4)
      have HSa4 := hide (HSaX.out.pair HSbX.out Hne.out Hsep3.out C4)
      have Hsep4 : Hid (Sep v3 v4) := hide (sep_next Hsep3.out.symm HSaX.out.lies.row V4).symm
      have HSb4 := hide H4
      clear pn pd ps pa H4 C4 V4 D4 K12 HSaX HSbX HSa3 HSb3 HB3 HBX HFb HDb Hsep3
      go_wp2_with fail
      go_roundw
      case rel => exact ⟨k + 1, _, _, by omega, by go_num, HDa3, HDb4, HFa3, HFb4, HSa4, HSb4, Hsep4, HB4⟩
      case measure => simp [intOf]; omega
    · have j0 : ¬ (k : Int) < (N : Int) := by omega
      obtain rfl : k = N := by omega
      have cX := HBB.out _ HB.out
      have ewa : IntKind.u16.wrap (T : Int) = (T : Int) := by rw [w16]; omega
      have ew : IntKind.u16.wrap (x03 + (T : Int)) = sq x03 T := w16 _
      have K19 := hide (to_ok HSa.out HFa.out.ok HDa.out.dead (T : Int) ⟨by rw [HDa.out.lo]; omega, by rw [HDa.out.count]; omega⟩)
      rw [HDa.out.pre (Nat.zero_le _) (by omega), Nat.sub_zero, HDa.out.first] at K19
      obtain ⟨xT, hxT⟩ : ∃ x, sq x03 T = x := ⟨_, rfl⟩
      rw [hxT] at K19 ew
      clear hxT
      go_upto_region 17 with (go_at_call 19; refine K19.out.mono ?_; rintro e w3 ⟨rfl, v3, H3, C3, O3⟩)
      have HDa3 := hide (HDa.out.drop v3 T (by omega))
      have HFa3 := hide (HFa.out.cut v3 0 T (by omega))
      have HB3 := hide (HSa.out.below HB.out C3)
      have HSb3 := hide (HSb.out.pair HSa.out Hne.out.symm Hsep.out.symm C3)
      have Hsep3 : Hid (Sep (Sa.cut v3 0 T).v Sb.v) := hide (sep_same Hsep.out O3)
      have HSa3 := hide H3
      rw [Nat.zero_add] at HDa3
      generalize Sa.cut v3 0 T = Sa' at *
      clear H3 C3 O3 K19 HSa HSb HB HFa HDa Hsep cX ew ewa
      go_wp2_with fail
      go_loopw [13] (fun v13 wr => ∃ (i : Nat) (Sb : Sd), i ≤ T ∧ v13 = .int .i64 i ∧ Hid (Dr x03 i k Sb) ∧ Hid Sb.Fit ∧ Hid (Snd wr B B Sa') ∧ Hid (Snd wr gb B Sb) ∧ Hid (Sep Sa'.v Sb.v) ∧ Hid (Below B wa wr)) (fun v13 _ => T - (intOf v13).toNat)
      case atStart => exact ⟨0, Sb, by omega, rfl, HDb, HFb, HSa3, HSb3, Hsep3, HB3⟩
      case round =>
        clear HDb HFb HSa3 HSb3 Hsep3 HB3
        obtain ⟨i, Sb, hi, rfl, HDb, HFb, HSa, HSb, Hsep, HB⟩ := hrel
        by_cases hlt : i < T
        · have j1 : (i : Int) < (T : Int) := by omega
          have cX := HBB.out _ HB.out
          have ewa : IntKind.u16.wrap (i : Int) = (i : Int) := by rw [w16]; omega
          have ew : IntKind.u16.wrap (x03 + (i : Int)) = sq x03 i := w16 _
          have hpix := HDb.out.pix (by omega)
          have K17 := hide (ack_ok HSb.out (by have := HDb.out.len; omega) HDb.out.dead (sq x03 i) (by rw [hpix]; have := HDb.out.len; omega))
          rw [hpix] at K17
          obtain ⟨xT, hxT⟩ : ∃ x, sq x03 i = x := ⟨_, rfl⟩
          rw [hxT] at K17 ew
          clear hxT hpix
          go_upto_region 19 with (go_at_call 17; refine K17.out.mono ?_; rintro e w4 ⟨rfl, v4, H4, C4, O4⟩)
          have HDb4 := hide (HDb.out.drop v4 1 (by omega))
          have HFb4 := hide (HFb.out.cut v4 0 1 (by omega))
          have HB4 := hide (HSb.out.below HB.out C4)
          have HSa4 := hide (HSa.out.pair HSb.out Hne.out Hsep.out C4)
          have Hsep4 : Hid (Sep Sa'.v v4) := hide (sep_same Hsep.out.symm O4).symm
          have HSb4 := hide H4
          clear H4 C4 O4 K17 HSa HSb HB HFb HDb Hsep cX ew ewa
          go_wp2_with fail
          go_roundw
          case rel => exact ⟨i + 1, _, by omega, by go_num, HDb4, HFb4, HSa4, HSb4, Hsep4, HB4⟩
          case measure => simp [intOf]; omega
        · have j1 : ¬ (i : Int) < (T : Int) := by omega
          obtain rfl : i = T := by omega
          have K14 := hide (tick_ok HSa.out HFa3.out HDa3.out.dead HDa3.out.dies)
          go_upto_region 23 with (go_at_call 14; refine K14.out.mono ?_; rintro e w4 ⟨C4, vx, ox, rfl, H4, O4, E4, D4⟩)
          rw [HDa3.out.outs] at E4
          have HFa4 := hide (HFa3.out.tick HSa.out.lim HDa3.out.dies)
          have HB4 := hide (HSa.out.below HB.out C4)
          have HSb4 := hide (HSb.out.pair HSa.out Hne.out.symm Hsep.out.symm C4)
          have Hsep4 : Hid (Sep Sa'.tick.v Sb.v) := hide Hsep.out
          have HSa4 := hide H4
          have HE4 := hide (os_at E4)
          have HO4 := hide O4
          have HD4 := hide D4
          have HnA := hide HDa3.out.nums
          clear H4 C4 O4 E4 D4 K14 HSa HSb HB HFa3 HDa3 Hsep
          have K14 := hide (tick_ok HSb4.out HFb.out HDb.out.dead HDb.out.dies)
          go_upto_region 24 with (go_at_call 14; refine K14.out.mono ?_; rintro e w5 ⟨C5, vy, oy, rfl, H5, O5, E5, D5⟩)
          rw [HDb.out.outs] at E5
          have HB5 := hide (HSb4.out.below HB4.out C5)
          have HSa5 := hide (HSa4.out.pair HSb4.out Hne.out Hsep4.out C5)
          have HOx := hide (HSb4.out.other o79 o83 HO4.out C5)
          have HDx := hide (fun o ho => HSb4.out.other b79 b83 (HD4.out o ho) C5)
          have HSb5 := hide H5
          have HE5 := hide (os_at E5)
          have HOy := hide O5
          have HDy := hide D5
          have HnB := hide HDb.out.nums
          have HlA : Hid (Sa'.tick.ps.length ≤ 1000) := hide (by have := HFa4.out.ok.len HSa5.out.lim.win.1; have := HSa5.out.lim.win; omega)
          have HlB : Hid (Sb.tick.ps.length ≤ 1000) := hide (by
            have h1 := (HFb.out.tick HSb4.out.lim HDb.out.dies).ok.len HSb5.out.lim.win.1
            have h2 := HSb5.out.lim.win
            omega)
          clear H5 C5 O5 E5 D5 K14 HSa4 HSb4 HB4 HFb HDb Hsep4 HO4 HD4
          obtain ⟨ax, cx, rfl⟩ := HOx.out.rd.form
          obtain ⟨ay, cy, rfl⟩ := HOy.out.rd.form
          obtain ⟨L, hL⟩ : ∃ L : Nat, L = k - i := ⟨_, rfl⟩
          have eL : (L : Int) = (k : Int) - (i : Int) := by omega
          have Hx1 : Hid (ox.length = L) := hide (by rw [hL]; exact HE4.out.1)
          have Hy1 : Hid (oy.length = L) := hide (by rw [hL]; exact HE5.out.1)
          rw [Hx1.out, Hy1.out]
          have l1 : (L : Int) ≤ 20 := by omega
          clear hL
          go_upto_region 26 with fail
          clear eL
          go_wp2_with fail
          go_loopw [135] (fun v135 wr => ∃ j q : Nat, j ≤ L ∧ v135 = .int .i64 j ∧ wr = w5.drewN q) (fun v135 _ => L - (intOf v135).toNat)
          case atStart => exact ⟨0, 0, by omega, rfl, rfl⟩
          case round =>
            obtain ⟨j, q, hj, rfl, rfl⟩ := hrel
            by_cases hlt : j < L
            · obtain ⟨o, ho⟩ : ∃ o, ox[j]? = some o := ⟨_, List.getElem?_eq_getElem (by rw [Hx1.out]; exact hlt)⟩
              obtain ⟨o', ho'⟩ : ∃ o', oy[j]? = some o' := ⟨_, List.getElem?_eq_getElem (by rw [Hy1.out]; exact hlt)⟩
              obtain ⟨bx, cx', ex, dx0, dx1⟩ := out_at HOx.out j o ho
              obtain ⟨by', cy', ey, dy0, dy1⟩ := out_at HOy.out j o' ho'
              simp only [Value.slice.injEq] at ex ey
              obtain ⟨rfl, q1, q2⟩ := ex
              obtain ⟨rfl, q3, q4⟩ := ey
              clear q1 q2 q3 q4
              obtain ⟨sx, dx⟩ := HE4.out.2 j o ho
              obtain ⟨sy, dy⟩ := HE5.out.2 j o' ho'
              have ez : ((i + j : Nat) : Int) = (i : Int) + (j : Int) := by omega
              rw [ez] at sx dx sy dy
              have hox := HDx.out o (List.mem_of_getElem? ho)
              have hoy := HDy.out o' (List.mem_of_getElem? ho')
              rw [dx] at hox
              rw [dy] at hoy
              rw [sx] at dx0
              rw [sy] at dy0
              obtain ⟨bd, hbd, hld, cd⟩ := own_one hox
              obtain ⟨bd', hbd', hld', cd'⟩ := own_one hoy
              have K1 : Hid (∀ q, (convert 36 9 o.v).run Try.prog (w5.drewN q) = .ok (.string (str [(i : Int) + (j : Int)])) (w5.drewN q)) := hide (fun q => conv_str (hox.rd.keep ⟨rfl, rfl, rfl, Nat.le_refl _, fun _ _ => rfl⟩))
              have K2 : Hid (∀ q, (convert 36 9 o'.v).run Try.prog (w5.drewN q) = .ok (.string (str [(i : Int) + (j : Int)])) (w5.drewN q)) := hide (fun q => conv_str (hoy.rd.keep ⟨rfl, rfl, rfl, Nat.le_refl _, fun _ _ => rfl⟩))
              have k1 := K1.out
              have k2 := K2.out
              unfold Ot.v at dx1 dy1 k1 k2
              rw [hbd, hld] at dx1 k1
              rw [hbd', hld'] at dy1 k2
              generalize str [(i : Int) + (j : Int)] = sz at *
              generalize sq x03 ((i : Int) + (j : Int)) = ss at *
              have m0 : (0 : Int) ≤ (j : Int) := by omega
              have m1 : (j : Int) < (L : Int) := by omega
              have m2 : (i : Int) + (j : Int) ≤ 40 := by omega
              have m3 : (0 : Int) ≤ (i : Int) := by omega
              have e8 : IntKind.u8.wrap ((i : Int) + (j : Int)) = (i : Int) + (j : Int) := by unfold IntKind.wrap; simp [IntKind.bits, IntKind.signed]; omega
              generalize o.c = oc at *
              generalize o'.c = oc' at *
              clear hox hoy K1 K2 hbd hbd' hld hld' sx sy dx dy ez ho ho'
              obtain ⟨wA, hwA⟩ : ∃ W, w5.drewN q = W := ⟨_, rfl⟩
              have y1 : wA.cell? ⟨bx, j * 2, none⟩ = some (.int .u16 ss) := by rw [← hwA]; exact dx0
              have y2 : wA.cell? ⟨bx, j * 2 + 1, none⟩ = some (.slice (some ⟨bd, 0, none⟩) 1 oc) := by rw [← hwA]; exact dx1
              have y3 : wA.cell? ⟨by', j * 2, none⟩ = some (.int .u16 ss) := by rw [← hwA]; exact dy0
              have y4 : wA.cell? ⟨by', j * 2 + 1, none⟩ = some (.slice (some ⟨bd', 0, none⟩) 1 oc') := by rw [← hwA]; exact dy1
              have y5 : wA.cell? ⟨bd, 0, none⟩ = some (.int .u8 ((i : Int) + (j : Int))) := by rw [← hwA]; exact cd
              have y6 : ∀ r, (convert 36 9 (.slice (some ⟨bd, 0, none⟩) 1 oc)).run Try.prog (wA.drewN r) = .ok (.string sz) (wA.drewN r) := fun r => by rw [← hwA, drewN_add']; exact k1 _
              have y7 : ∀ r, (convert 36 9 (.slice (some ⟨bd', 0, none⟩) 1 oc')).run Try.prog (wA.drewN r) = .ok (.string sz) (wA.drewN r) := fun r => by rw [← hwA, drewN_add']; exact k2 _
              rw [hwA]
              have HwA := hide hwA
              clear hwA dx0 dx1 dy0 dy1 cd cd' k1 k2
              go_wp2_with fail
              go_quiet (fail)
              go_wp2_with fail
              go_roundw
              case rel => exact ⟨j + 1, q + nq, by omega, by go_num, by rw [← HwA.out]; simp [World.drewN, Nat.add_assoc]⟩
              case measure => simp [intOf]; omega
            · have m1 : ¬ (j : Int) < (L : Int) := by omega
              have bq : Below w5.heap.size w5 (w5.drewN q) := ⟨rfl, rfl, rfl, Nat.le_refl _, fun _ _ => rfl⟩
              have K23 := hide (open_any (HSa5.out.keep bq) HlA.out)
              have HSb6 := hide (HSb5.out.keep bq)
              have HB6 := hide (HB5.out.trans (bq.mono (Nat.le_of_lt (heap_lt HSa5.out.box))))
              rw [HnA.out] at K23
              generalize w5.drewN q = W5 at *
              clear bq
              go_upto_region 32 with fail
              go_wp2_with fail
              refine K23.out.mono ?_
              rintro e w6 ⟨v6, rfl, O6, B6⟩
              have HSb7 := hide (HSb6.out.keep B6)
              have HB7 := hide (HB6.out.trans (B6.mono (Nat.le_of_lt (heap_lt HSb6.out.box |> fun h => Nat.lt_of_le_of_lt HSb6.out.base h))))
              have K23' := hide (open_any HSb7.out HlB.out)
              rw [HnB.out] at K23'
              have HO6 := hide O6
              clear O6 B6 K23 HSb6 HB6
              go_wp2_with fail
              refine K23'.out.mono ?_
              rintro e w7 ⟨v7, rfl, O7, B7⟩
              have HB8 := hide (HB7.out.trans (B7.mono (Nat.le_of_lt (Nat.lt_of_le_of_lt HSb7.out.base (heap_lt HSb7.out.box)))))
              have K22 := hide (same_eq (HO6.out.keep B7).rd O7.rd (by simp; omega))
              clear O7 B7 K23' HO6 HB7 HSb7
              go_wp2_with (go_at_call 22; refine K22.out.mono ?_; rintro e w8 ⟨rfl, n8, rfl⟩)
              go_ret
              have := HFin.out _ HB8.out
              exact ⟨rfl, ⟨this.os, this.tape, this.output, this.size, this.block⟩⟩

set_option maxRecDepth 100000 in
theorem lifted (os : Os) (started : os.Started) (H : Type) (enc : TypeId × Value → H) :
    ReturnsInHanded {} Try.checked os 7 .any (Rows.retryAcksSpec.pre6 enc Try.prog Try.f7 Rows.retryAcksRow.domain false) (Rows.retryAcksSpec.post enc Try.prog Try.f7 false true false false) := by
  refine returnsInHanded_of_change_sized (C := Try.checked) own started (by kernel_rfl) Try.func7
    (ChangeSpec.witness6 (enc := enc) (C := Try.checked) false ⟨#[], #[.agg #[.int .i64 0, .int .i64 0, .int .i64 0, .int .u16 0], .int .i64 0, .int .i64 0], []⟩ 8 (by kernel_rfl) (by kernel_rfl) (by kernel_rfl) (by kernel_rfl)) ?_
  intro W base args ds gs before hval0 hW hcnd hsz0 _
  have hval : ∀ (j : Nat) t v, Try.f7.params[j]? = some t → args[j]? = some v → Value.okWide Try.prog W .any base t v := hval0
  have hsz : (DataW.weightsEach Try.prog (Try.f7.params.toList ++ Rows.retryAcksSpec.plain.varTypes Try.prog) (ds ++ gs)).all (· ≤ reachBytes) = true := hsz0
  have hW' := hW
  obtain ⟨p, q, hA0, hV, rfl, hfz, hnd⟩ := hW
  have hA : DataW.TrodAll enc Try.prog W 0 (fun _ => true) true Try.f7.params.toList args.toList ds p := hA0
  rw [Try.params7] at hA hval hsz
  obtain ⟨v0, vs0, d0, ds0, p0, q0, hargs, rfl, rfl, h0, r0⟩ := trodAll_cons hA
  obtain ⟨v1, vs1, d1, ds1, p1, q1, rfl, rfl, rfl, h1, r1⟩ := trodAll_cons r0
  obtain ⟨v2, vs2, d2, ds2, p2, q2, rfl, rfl, rfl, h2, r2⟩ := trodAll_cons r1
  obtain ⟨rfl, rfl, rfl⟩ := trodAll_nil r2
  obtain rfl : args = #[v0, v1, v2] := by cases args; simp_all
  obtain ⟨rfl, rfl⟩ := trodVars_none hV
  have k0 := h0
  have lt0 : ∀ x ∈ p0, x.block < W.heap.size := by obtain ⟨m, hm⟩ := k0; exact DataW.trod_lt m _ _ _ hm
  obtain ⟨cs0, rfl, _⟩ := okWide_struct Try.underlying24 (hval 0 24 v0 rfl rfl)
  obtain ⟨x00, x01, x02, x03, w0, e0⟩ : ∃ x0 x1 x2 x3 : Int, (0 ≤ x3 ∧ x3 ≤ 65535) ∧ cs0 = #[.int .i64 x0, .int .i64 x1, .int .i64 x2, .int .u16 x3] := by
    obtain ⟨fuel, hf⟩ := h0
    obtain ⟨x0, x1, x2, x3, hw, he⟩ := how_of_trod hf
    exact ⟨x0, x1, x2, x3, hw, by apply Array.toList_inj.1; exact he⟩
  subst e0
  have k1 := h1
  have lt1 : ∀ x ∈ p1, x.block < W.heap.size := by obtain ⟨m, hm⟩ := k1; exact DataW.trod_lt m _ _ _ hm
  obtain ⟨n1, rfl⟩ := okWide_int Try.underlying3 (hval 1 3 v1 rfl rfl)
  have w1 : (Lit.int .i64 n1).wf = true := by
    obtain ⟨fuel, hf⟩ := h1
    obtain ⟨m, e, _, hw⟩ := DataW.trod_int Try.underlying3 hf
    simp [Value.cells] at e
    rw [e]; exact hw
  have k2 := h2
  have lt2 : ∀ x ∈ p2, x.block < W.heap.size := by obtain ⟨m, hm⟩ := k2; exact DataW.trod_lt m _ _ _ hm
  obtain ⟨n2, rfl⟩ := okWide_int Try.underlying3 (hval 2 3 v2 rfl rfl)
  have w2 : (Lit.int .i64 n2).wf = true := by
    obtain ⟨fuel, hf⟩ := h2
    obtain ⟨m, e, _, hw⟩ := DataW.trod_int Try.underlying3 hf
    simp [Value.cells] at e
    rw [e]; exact hw
  clear hA0 hval0
  refine (walk x00 x01 x02 x03 n1 n2 W w0 (bounds_i64 w1) (bounds_i64 w2)).mono fun e W' ⟨he, bel⟩ => ?_
  subst he
  exact ⟨_, rfl, _, _, _, [], _, [], hW', trodAll_mk1 (shut_bool Try.underlying4 _), (trodAll_cons_mk (Below.trod laidOut (by kernel_rfl) (of_decide_eq_true (by kernel_rfl)) k0 bel lt0) (trodAll_cons_mk (Below.trod laidOut (by kernel_rfl) (of_decide_eq_true (by kernel_rfl)) k1 bel lt1) (trodAll_cons_mk (Below.trod laidOut (by kernel_rfl) (of_decide_eq_true (by kernel_rfl)) k2 bel lt2) trodAll_mk0))), rfl, bel.frame _, fun h => by cases h⟩

theorem over : Rows.retryAcksRow.holds Try.pinned (OpenSpec.ofChange Rows.retryAcksSpec) :=
  OpenClaim.holds_of_wide 7 Try.f7 rfl rfl rfl rfl rfl rfl rfl ⟨rfl, rfl, rfl, rfl, rfl⟩ rfl rfl rfl rfl rfl (by kernel_rfl) Try.func7 (by kernel_rfl)
    (of_decide_eq_true (by kernel_rfl)) (by unfold Func.isWrapper; first | (rw [if_pos (by decide +kernel)]; kernel_rfl) | (rw [if_neg (by decide +kernel)]; exact ⟨rfl, rfl⟩))
    (fun os started H enc _ => lifted os started H enc)

theorem proved : Rows.RetryAcksSaid := over
end Go.Proofs.Yteihajppgooadaa.retryAcks
