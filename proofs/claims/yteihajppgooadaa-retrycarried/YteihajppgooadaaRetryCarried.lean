/- For every number of 16 bits, every number and all lists of what is lost the law RetryCarried answers true: what is sent and taken by an intake, and acknowledged, comes over in order, whatever is lost; no conditions. -/
import Derived.Test.YteihajppgooadaaCarW
namespace Go.Proofs.Yteihajppgooadaa.retryCarried
open Go.ChangeShapes Go.WideShapes Go.ChangeAt Go.RowKit
set_option linter.unusedVariables false

theorem own : ownKnob Try.prog.godebug = none := by kernel_rfl
theorem laidOut : laidOutB Try.prog = true := by kernel_rfl

/-- how things stand ahead of a round -/
def Mode (first : Int) (N r c ni got : Nat) (S : Sd) (I : Ik) : Prop := S.dead = true ∨ (CS first N r c S ∧ Erl N r c ∧ Lk first c ni S I ∧ got = ni)
/-- and while what was sent comes -/
def Mid (first : Int) (N r c ni : Nat) (S : Sd) (I : Ik) (os : List Ot) : Prop := (S.dead = true ∧ os = []) ∨ (CS first N r c S ∧ Lk first c ni S I ∧ Erl N r c ∧ OsOk first c os)

theorem bytes_one {w : World} {v : Value} {p : Dt} {z : Int} (h : Dat w v p) (hp : p.2 = [z]) : ∃ b cap, v = .slice (some ⟨b, 0, none⟩) 1 cap ∧ w.cell? ⟨b, 0, none⟩ = some (.int .u8 z) := by
  have h1 := h.1
  rw [hp] at h1
  rcases h1.2 with ⟨_, h0⟩ | ⟨g, cap, cur, rfl, _⟩
  · cases h0
  · obtain ⟨h2, _⟩ := El.Own.cell (E := bytesE) h1 0 (show (0 : Nat) < 1 * 1 by decide)
    exact ⟨g, cap, rfl, h2⟩

set_option maxRecDepth 100000 in
set_option maxHeartbeats 32000000 in
theorem walk (n0 n1 : Int) (a2 : Option Addr) (len2 cap2 : Nat) (w : World) (h0 : 0 ≤ n0 ∧ n0 ≤ 65535) (h1 : -9223372036854775808 ≤ n1 ∧ n1 ≤ 9223372036854775807) (hb2 : IsBools w a2 len2) (hm2 : len2 ≤ maxLen) :
    Calls Try.prog 8 #[.int .u16 n0, .int .i64 n1, .slice a2 len2 cap2] w fun e w' => e = .returned (.bool true) ∧ Below w.heap.size w w' := by
  obtain ⟨N, hN, N1⟩ := mod_in n1 30 (by omega) (by omega)
  simp only [Int.cast_ofNat_Int] at hN
  have HLo : Hid (∀ x : Int, 0 ≤ x → x ≤ 100000 → ∃ t, ∀ W, Below w.heap.size w W → Calls Try.prog 26 #[.slice a2 len2 cap2, .int .i64 x] W fun e w' => e = .returned (.bool t) ∧ w' = W) := hide (fun x h0 h1 => lossy_at hb2 hm2 x h0 h1)
  clear h1 hb2 hm2
  go_enter Try.func8, Try.ntmps8
  go_upto_region 4 with (go_at_call 9; refine (awake2 _).mono ?_; rintro e wa ⟨rfl, Ba⟩)
  first | rw [hN] | skip
  generalize (IntKind.u64.wrap n1).tmod 30 = x2 at *
  have nn0 : (0 : Int) ≤ (N : Int) := by omega
  have nn1 : (N : Int) ≤ 29 := by omega
  clear hN
  have bad : ¬ badSet 8 1 20 := by unfold badSet; omega
  go_upto_region 5 with (go_at_call 10; refine (snew_ok 8 1 20 n0 _ bad h0).mono ?_; rintro e w1 ⟨rfl, H1, B1, Z1⟩)
  obtain ⟨B, hB⟩ : ∃ B, wa.heap.size = B := ⟨_, rfl⟩
  rw [hB] at H1 B1 Z1 ⊢
  have HFin : Hid (∀ W, Below B wa W → Below w.heap.size w W) := hide (fun W hW => Ba.trans (hW.mono (by rw [← hB]; exact Ba.size)))
  have HH1 := hide H1
  have HB1 := hide B1
  obtain ⟨g0, gg1, gg2⟩ := hd_ge w1.heap.size
  have hBz : B ≤ w1.heap.size := by omega
  clear Ba hB H1 B1 Z1 bad
  go_upto_region 8 with (go_at_call 25; refine (new_ok 8 n0 _ (by omega) (by omega) h0.1 h0.2).mono ?_; rintro e w2 ⟨rfl, I2, B2, Z2⟩)
  obtain ⟨h, hh⟩ : ∃ h, hdAt w1.heap.size = h := ⟨_, rfl⟩
  have hg : w1.heap.size + 2 = h.g := by rw [← hh]; rfl
  rw [hh] at I2 g0 gg1 gg2
  rw [hg]
  have q0 : B ≤ h.g := Nat.le_trans hBz g0
  have q1 : B ≤ h.mb := Nat.le_trans hBz gg1
  have q2 : B ≤ h.c := Nat.le_trans hBz gg2
  have HS2 := hide (HH1.out.keep B2)
  have HI2 := hide I2
  have HB2 := hide (HB1.out.trans (B2.mono hBz))
  clear I2 B2 Z2 hh hg g0 gg1 gg2 hBz HH1 HB1
  have HC2 := hide (CI.new n0 h0)
  have HM2 : Hid (Mode n0 N 0 0 0 0 (Sd.new 8 1 20 n0) (Ik.new 8 n0)) := hide (.inr ⟨CS.new n0 N (by omega), .inl (by omega), Lk.new n0, rfl⟩)
  go_wp2_with fail
  go_loopw [13, 11, 12] (fun v13 v11 v12 wr => ∃ (r c ni got : Nat) (S : Sd) (I : Ik), r ≤ 400 ∧ v13 = .int .i64 r ∧ v11 = .int .i64 c ∧ v12 = .int .i64 got ∧ Hid (Snd wr B B S) ∧ Hid (Has wr h I) ∧ Hid (CI n0 ni got I) ∧ Hid (I.n ≤ 8 * r ∧ ni ≤ 29) ∧ Hid (Mode n0 N r c ni got S I) ∧ Hid (Below B wa wr)) (fun v13 _ _ _ => 400 - (intOf v13).toNat)
  case atStart => exact ⟨0, 0, 0, 0, _, _, by omega, rfl, rfl, rfl, HS2, HI2, HC2, hide ⟨by simp [Ik.new], by omega⟩, HM2, HB2⟩
  case round =>
    clear HS2 HI2 HC2 HM2 HB2
    obtain ⟨r, c, ni, got, S, I, hr, rfl, rfl, rfl, HS, HI, HC, Hn, HM, HB⟩ := hrel
    have r0 : (r : Int) ≤ 400 := by omega
    have r1 : (0 : Int) ≤ (r : Int) := by omega
    have gg0 : (0 : Int) ≤ (got : Int) := by omega
    have K21 := hide (dead_any HS.out)
    by_cases hcont : r < 400 ∧ got < N ∧ S.dead = false
    · obtain ⟨c1, c2, c3⟩ := hcont
      have j1 : (r : Int) < 400 := by omega
      have j2 : (got : Int) < (N : Int) := by omega
      rw [c3] at K21
      obtain ⟨hCS, hE, hL, hgn⟩ : CS n0 N r c S ∧ Erl N r c ∧ Lk n0 c ni S I ∧ got = ni := by
        rcases HM.out with hd | hd
        · rw [c3] at hd; cases hd
        · exact hd
      have HCS := hide hCS
      have HE := hide hE
      have HL := hide hL
      have Hgn := hide hgn
      clear hCS hE hL hgn HM c3
      go_upto_block 2 with (go_at_call 21; refine K21.out.mono ?_; rintro e w3 ⟨rfl, rfl⟩)
      go_cut [11] (fun v11 wx => ∃ (c : Nat) (S : Sd), v11 = .int .i64 c ∧ Hid (c = N ∨ S.win < S.count - S.lo + 1) ∧ Hid (Snd wx B B S) ∧ Hid (Has wx h I) ∧ Hid (CS n0 N r c S) ∧ Hid (Lk n0 c ni S I) ∧ Hid (Below B wa wx))
      case first =>
        go_wp2_with fail
        go_loopw [11] (fun v11 wr => ∃ (c : Nat) (S : Sd), c ≤ N ∧ v11 = .int .i64 c ∧ Hid (Snd wr B B S) ∧ Hid (Has wr h I) ∧ Hid (CS n0 N r c S) ∧ Hid (Erl N r c) ∧ Hid (Lk n0 c ni S I) ∧ Hid (Below B wa wr)) (fun v11 _ => N - (intOf v11).toNat)
        case atStart => exact ⟨c, S, HCS.out.cn, rfl, HS, HI, HCS, HE, HL, HB⟩
        case round =>
          clear HS HI HCS HE HL HB K21
          obtain ⟨c, S, hc, rfl, HS, HI, HCS, HE, HL, HB⟩ := hrel
          have hBw : B ≤ wr.heap.size := Nat.le_of_lt (heap_lt HS.out.box)
          by_cases hcN : c < N
          · have k1 : (c : Int) < (N : Int) := by omega
            have e8 : IntKind.u8.wrap (c : Int) = (c : Int) := by unfold IntKind.wrap; simp [IntKind.bits, IntKind.signed]; omega
            have bX : Below wr.heap.size wr (wr.alloc (.cells #[.int .u8 (c : Int)] 5)) := (Below.refl _ _).alloc (Nat.le_refl _) _
            have HSX := hide (HS.out.keep bX)
            have HIX := hide (HI.out.keep bX)
            have HBX := hide (HB.out.trans (bX.mono hBw))
            by_cases hfull : S.win < S.count - S.lo + 1
            · have K12 := hide (put_full HSX.out HCS.out.fit.ok HCS.out.dead (some ⟨wr.heap.size, 0, none⟩) 1 1 (by omega) hfull)
              have Hfull := hide hfull
              clear hfull bX hBw
              go_upto_region 14 with (go_at_call 12; refine K12.out.mono ?_; rintro e w4 ⟨rfl, n4, rfl⟩)
              have HS4 := hide (HSX.out.drewN n4)
              have HI4 := hide (HIX.out.drewN n4)
              have HB4 : Hid (Below B wa ((wr.alloc (.cells #[.int .u8 (c : Int)] 5)).drewN n4)) := hide ⟨HBX.out.os, HBX.out.tape, HBX.out.output, HBX.out.size, HBX.out.block⟩
              generalize (wr.alloc (.cells #[.int .u8 (c : Int)] 5)).drewN n4 = W4 at *
              go_wp2_with fail
              go_meet
              exact ⟨c, S, rfl, hide (.inr Hfull.out), HS4, HI4, HCS, HL, HB4⟩
            · have hf : S.count - S.lo + 1 ≤ S.win := by omega
              have K12 := hide (put_ok HSX.out HCS.out.fit.ok (Nat.le_trans hBw bX.size) HCS.out.dead (l := [(c : Int)]) (bytes_new wr #[.int .u8 (c : Int)] [(c : Int)] rfl (0, 0) wr.heap.size 1 1 rfl rfl) (by simp) hf)
              obtain ⟨xq, hxq⟩ : ∃ x, sq S.first S.count = x := ⟨_, rfl⟩
              rw [hxq] at K12
              have Hf := hide hf
              clear hf hfull bX hBw hxq
              go_upto_region 14 with (go_at_call 12; refine K12.out.mono ?_; rintro e w4 ⟨rfl, p, v4, pn, pd, ps, pa, H4, C4, V4, D4⟩)
              obtain ⟨hCS4, hE4⟩ := HCS.out.put HE.out hcN HSX.out.lim v4 p pn pd ps pa Hf.out
              have HCS4 := hide hCS4
              have HE4 := hide hE4
              have HL4 := hide (HL.out.put HCS.out v4 p pn)
              have HS4 := hide H4
              have HI4 := hide (HIX.out.chg HSX.out C4)
              have HB4 := hide (HSX.out.below HBX.out C4)
              clear pn pd ps pa H4 C4 V4 D4 hCS4 hE4 K12
              go_wp2_with fail
              go_roundw
              case rel => exact ⟨c + 1, _, by omega, by go_num, HS4, HI4, HCS4, HE4, HL4, HB4⟩
              case measure => simp [intOf]; omega
          · have k1 : ¬ (c : Int) < (N : Int) := by omega
            go_wp2_with fail
            go_meet
            exact ⟨c, S, rfl, hide (.inl (by omega)), HS, HI, HCS, HL, HB⟩
      case rest =>
        clear HS HI HCS HE HL HB K21
        obtain ⟨c, S, rfl, Hf, HS, HI, HCS, HL, HB⟩ := hcut
        have hBw : B ≤ wc.heap.size := Nat.le_of_lt (heap_lt HS.out.box)
        have K14 := hide (tick_car HS.out hBw HCS.out HL.out Hf.out)
        go_upto_region 17 with (go_at_call 14; refine K14.out.mono ?_; rintro e w4 ⟨v4, code4, os, S4, rfl, H4, O4, D4, L4, C4, M4⟩)
        have HI4 := hide (HI.out.chg HS.out C4)
        have HB4 := hide (HS.out.below HB.out C4)
        have HS4 := hide H4
        have HD4 := hide D4
        have HM4 : Hid (Mid n0 N (r + 1) c ni S4 I os) := hide M4
        obtain ⟨a4, c4, rfl⟩ := O4.rd.form
        obtain ⟨L, hL⟩ : ∃ L, os.length = L := ⟨_, rfl⟩
        rw [hL] at O4 L4 ⊢
        have HO4 := hide O4
        have HLen := hide hL
        have l1 : (L : Int) ≤ 8 := by omega
        clear H4 O4 D4 L4 C4 M4 K14 hBw HS HI HCS HL HB Hf hL
        go_wp2_with fail
        go_loopw [91] (fun v91 wr => ∃ (k ni : Nat) (S : Sd) (I : Ik), k ≤ L ∧ v91 = .int .i64 k ∧ Hid (Snd wr B B S) ∧ Hid (Has wr h I) ∧ Hid (CI n0 ni got I) ∧ Hid (I.n ≤ 8 * r + k ∧ ni ≤ 29) ∧ Hid (outE.Own wr B (.slice a4 L c4) os) ∧ Hid (∀ o ∈ os, bytesE.Own wr B o.v o.d) ∧ Hid (Mid n0 N (r + 1) c ni S I os) ∧ Hid (Below B wa wr)) (fun v91 _ => L - (intOf v91).toNat)
        case atStart => exact ⟨0, ni, S4, I, by omega, rfl, HS4, HI4, HC, hide ⟨by have := Hn.out.1; omega, Hn.out.2⟩, HO4, HD4, HM4, HB4⟩
        case round =>
          clear HS4 HI4 HC Hn HO4 HD4 HM4 HB4 Hgn
          obtain ⟨k, ni, S, I, hk, rfl, HS, HI, HC, Hn, HO, HD, HM, HB⟩ := hrel
          have k0 : (0 : Int) ≤ (k : Int) := by omega
          by_cases hkL : k < L
          · have k1 : (k : Int) < (L : Int) := by omega
            obtain ⟨o, ho⟩ : ∃ o, os[k]? = some o := ⟨_, List.getElem?_eq_getElem (by rw [HLen.out]; exact hkL)⟩
            obtain ⟨hCS, hLk, hE, hOs⟩ : CS n0 N (r + 1) c S ∧ Lk n0 c ni S I ∧ Erl N (r + 1) c ∧ OsOk n0 c os := by
              rcases HM.out with ⟨_, hd⟩ | hd
              · rw [hd] at ho; cases ho
              · exact hd
            obtain ⟨m, os1, od, hm, hm8⟩ := hOs k o ho
            obtain ⟨bo, co', ex, d0, d1⟩ := out_at HO.out k o ho
            simp only [Value.slice.injEq] at ex
            obtain ⟨rfl, ex1, ex2⟩ := ex
            clear ex1 ex2
            rw [os1] at d0
            have hrow := HD.out o (List.mem_of_getElem? ho)
            rw [od] at hrow
            have bX : Below wr.heap.size wr (wr.alloc (.cells #[.int .u16 (sq n0 m), .slice o.a o.l o.c] 64)) := (Below.refl _ _).alloc (Nat.le_refl _) _
            have hBw : B ≤ wr.heap.size := Nat.le_of_lt (heap_lt HS.out.box)
            have HSX := hide (HS.out.keep bX)
            have HIX := hide (HI.out.keep bX)
            have HBX := hide (HB.out.trans (bX.mono hBw))
            have HOX := hide (HO.out.keep bX)
            have HDX := hide (fun o ho => (HD.out o ho).keep bX)
            obtain ⟨t1, K1⟩ := HLo.out (2 * (r : Int) + 3 * (k : Int)) (by omega) (by omega)
            obtain ⟨t2, K2⟩ := HLo.out (2 * (r : Int) + 3 * (k : Int) + 1) (by omega) (by omega)
            have K26 := hide (K1 _ (HFin.out _ HBX.out))
            have K26' := hide (K2 _ (HFin.out _ HBX.out))
            have K27 := hide (take_car HIX.out HC.out hLk hCS (by have := Hn.out.1; omega) hm hm8 (v := o.v) (hrow.rd.keep bX))
            have HCS := hide hCS
            have HE := hide hE
            have HLk := hide hLk
            have HOs := hide hOs
            have Hm := hide hm
            have Hm8 := hide hm8
            have hxb : (wr.alloc (.cells #[.int .u16 (sq n0 m), .slice o.a o.l o.c] 64)).heap[wr.heap.size]? = some (.cells #[.int .u16 (sq n0 m), .slice o.a o.l o.c] 64) := by
              show (wr.heap.push _)[wr.heap.size]? = _
              simp
            have Hxb := hide hxb
            have hi1 : h.g < wr.heap.size := heap_lt HI.out.box
            have hi2 : h.mb < wr.heap.size := by obtain ⟨D, ⟨es, clock, hb, _⟩, _⟩ := HI.out.map; exact heap_lt hb
            have hi3 : h.c < wr.heap.size := by obtain ⟨buf, s, r', hc, _⟩ := HI.out.chan; exact heap_lt hc
            have Hi : Hid (h.g ≠ wr.heap.size ∧ h.mb ≠ wr.heap.size ∧ h.c ≠ wr.heap.size) := hide ⟨by omega, by omega, by omega⟩
            obtain ⟨x, hx⟩ : ∃ x, sq n0 m = x := ⟨_, rfl⟩
            rw [hx] at d0 K27 hxb Hxb
            simp only [hx] at HSX HIX HBX HOX HDX K26 K26'
            have Hx := hide hx
            clear hCS hE hLk hOs hm hm8 hxb hi1 hi2 hi3 hx K1 K2 bX hBw hrow od os1 ho HS HI HB HO HD HM
            go_wp2_with fail
            refine K26.out.mono ?_
            rintro e w5 ⟨rfl, rfl⟩
            go_wp2_with fail
            refine K26'.out.mono ?_
            rintro e w6 ⟨rfl, rfl⟩
            cases t1 with
            | true =>
              go_wp2_with fail
              go_roundw
              case rel => exact ⟨k + 1, ni, S, I, by omega, by go_num, HSX, HIX, HC, hide ⟨by have := Hn.out.1; omega, Hn.out.2⟩, HOX, HDX, hide (.inr ⟨HCS.out, HLk.out, HE.out, HOs.out⟩), HBX⟩
              case measure => simp [intOf]; omega
            | false =>
              go_wp2_with fail
              refine K27.out.mono ?_
              rintro e w7 ⟨code, ni5, I5, rfl, H5, C5, N5, L5, T5, O5⟩
              have HI5 := hide H5
              have HC5 := hide C5
              have HN5 : Hid (I5.n ≤ 8 * r + (k + 1) ∧ ni5 ≤ 29) := hide ⟨by have := Hn.out.1; omega, by have h1 := L5.nic; have h2 := HCS.out.cn; have h3 := HCS.out.n30; omega⟩
              have HL5 := hide L5
              have HT5 := hide T5
              have HS5 := hide (HSX.out.only HIX.out O5)
              have HO5 := hide (HIX.out.row (show outE.e ≠ 99 by decide) HOX.out O5)
              have HD5 := hide (fun o ho => HIX.out.row (show bytesE.e ≠ 99 by decide) (HDX.out o ho) O5)
              have HB5 := hide (O5.below HBX.out (Nat.le_of_lt (heap_lt HSX.out.box)) q0 q1 q2)
              have HM5 : Hid (Mid n0 N (r + 1) c ni5 S I5 os) := hide (.inr ⟨HCS.out, L5, HE.out, HOs.out⟩)
              have cX : w7.cell? ⟨wr.heap.size, 0, none⟩ = some (.int .u16 x) := by
                rw [World.cell?_of_block (w := (wr.alloc (.cells #[.int .u16 x, .slice o.a o.l o.c] 64))) (O5.block wr.heap.size (heap_lt Hxb.out) Hi.out.1.symm Hi.out.2.1.symm Hi.out.2.2.symm)]
                exact (cells_at Hxb.out 0).1
              clear H5 C5 N5 L5 T5 O5 K27 HSX HIX HBX HOX HDX Hxb Hi K26 K26' d0 d1 HC Hn HLk
              by_cases z0 : code = 0
              · subst z0
                cases t2 with
                | true =>
                  go_wp2_with fail
                  go_roundw
                  case rel => exact ⟨k + 1, ni5, S, I5, by omega, by go_num, HS5, HI5, HC5, HN5, HO5, HD5, HM5, HB5⟩
                  case measure => simp [intOf]; omega
                | false =>
                  have K17 := hide (ack_car HS5.out HCS.out HL5.out Hm.out Hm8.out (HT5.out (by decide)))
                  rw [Hx.out] at K17
                  clear HT5
                  go_wp2_with (go_at_call 17; refine K17.out.mono ?_; rintro e w8 ⟨code8, S8, rfl, H8, CS8, L8, C8⟩; have HI8 := hide (HI5.out.chg HS5.out C8); have HO8 := hide (HS5.out.other o79 o83 HO5.out C8); have HD8 := hide (fun o ho => HS5.out.other b79 b83 (HD5.out o ho) C8); have HB8 := hide (HS5.out.below HB5.out C8); have HS8 := hide H8; have HM8 : Hid (Mid n0 N (r + 1) c ni5 S8 I5 os) := hide (.inr ⟨CS8, L8, HE.out, HOs.out⟩); clear H8 CS8 L8 C8)
                  go_roundw
                  case rel => exact ⟨k + 1, ni5, S8, I5, by omega, by go_num, HS8, HI8, HC5, HN5, HO8, HD8, HM8, HB8⟩
                  case measure => simp [intOf]; omega
              · by_cases z2 : code = 2
                · subst z2
                  cases t2 with
                  | true =>
                    go_wp2_with fail
                    go_roundw
                    case rel => exact ⟨k + 1, ni5, S, I5, by omega, by go_num, HS5, HI5, HC5, HN5, HO5, HD5, HM5, HB5⟩
                    case measure => simp [intOf]; omega
                  | false =>
                    have K17 := hide (ack_car HS5.out HCS.out HL5.out Hm.out Hm8.out (HT5.out (by decide)))
                    rw [Hx.out] at K17
                    clear HT5
                    go_wp2_with (go_at_call 17; refine K17.out.mono ?_; rintro e w8 ⟨code8, S8, rfl, H8, CS8, L8, C8⟩; have HI8 := hide (HI5.out.chg HS5.out C8); have HO8 := hide (HS5.out.other o79 o83 HO5.out C8); have HD8 := hide (fun o ho => HS5.out.other b79 b83 (HD5.out o ho) C8); have HB8 := hide (HS5.out.below HB5.out C8); have HS8 := hide H8; have HM8 : Hid (Mid n0 N (r + 1) c ni5 S8 I5 os) := hide (.inr ⟨CS8, L8, HE.out, HOs.out⟩); clear H8 CS8 L8 C8)
                    go_roundw
                    case rel => exact ⟨k + 1, ni5, S8, I5, by omega, by go_num, HS8, HI8, HC5, HN5, HO8, HD8, HM8, HB8⟩
                    case measure => simp [intOf]; omega
                · clear HT5
                  go_wp2_with fail
                  go_roundw
                  case rel => exact ⟨k + 1, ni5, S, I5, by omega, by go_num, HS5, HI5, HC5, HN5, HO5, HD5, HM5, HB5⟩
                  case measure => simp [intOf]; omega
          · have k1 : ¬ (k : Int) < (L : Int) := by omega
            have HM' : Hid (S.dead = true ∨ (CS n0 N (r + 1) c S ∧ Erl N (r + 1) c ∧ Lk n0 c ni S I)) := hide (by
              rcases HM.out with ⟨hd, _⟩ | ⟨e1, e2, e3, _⟩
              · exact .inl hd
              · exact .inr ⟨e1, e3, e2⟩)
            have HN' : Hid (I.n ≤ 8 * (r + 1)) := hide (by have := Hn.out.1; omega)
            have ni1 : (ni : Int) ≤ 29 := by have := Hn.out.2; omega
            have HNi := hide Hn.out.2
            have hgi : got ≤ ni := by have := HC.out.ql; omega
            clear HM HO HD Hn
            go_wp2_with fail
            go_loopw [12] (fun v12 wr => ∃ (got : Nat) (I : Ik), got ≤ ni ∧ v12 = .int .i64 got ∧ Hid (Snd wr B B S) ∧ Hid (Has wr h I) ∧ Hid (CI n0 ni got I) ∧ Hid (I.n ≤ 8 * (r + 1)) ∧ Hid (S.dead = true ∨ (CS n0 N (r + 1) c S ∧ Erl N (r + 1) c ∧ Lk n0 c ni S I)) ∧ Hid (Below B wa wr)) (fun v12 _ => ni - (intOf v12).toNat)
            case atStart => exact ⟨got, I, hgi, rfl, HS, HI, HC, HN', HM', HB⟩
            case round =>
              clear HS HI HC HN' HM' HB hgi
              obtain ⟨got', I', hgi, rfl, HS, HI, HC, HN', HM', HB⟩ := hrel
              have g0 : (0 : Int) ≤ (got' : Int) := by omega
              have g1 : (got' : Int) ≤ 29 := by omega
              cases hq : I'.q with
              | nil =>
                have Hgn : Hid (got' = ni) := hide (by have := HC.out.ql; rw [hq] at this; simpa using this)
                have K28 := hide (get_none HI.out hq)
                clear hq
                go_wp2_with (go_at_call 28; refine K28.out.mono ?_; rintro e w5 ⟨rfl, rfl⟩)
                go_roundw
                case rel =>
                  refine ⟨r + 1, c, ni, got', S, I', by omega, by go_num, rfl, rfl, HS, HI, HC, hide ⟨HN'.out, HNi.out⟩, hide ?_, HB⟩
                  rcases HM'.out with hd | ⟨e1, e2, e3⟩
                  · exact .inl hd
                  · exact .inr ⟨e1, e2, e3, Hgn.out⟩
                case measure => simp [intOf]; omega
              | cons p rr =>
                obtain ⟨hC1, hp1⟩ := HC.out.get hq
                have hgl : got' < ni := by have := HC.out.ql; rw [hq] at this; simp at this; omega
                have K28 := hide (get_some HI.out hq)
                have HC1 := hide hC1
                have Hp1 := hide hp1
                clear hC1 hp1 hq
                go_upto_region 27 with (go_at_call 28; refine K28.out.mono ?_; rintro e w5 ⟨v5, rfl, D5, H5, O5, Z5⟩)
                obtain ⟨b5, cap5, rfl, c5⟩ := bytes_one D5 Hp1.out
                have HI5 := hide H5
                have HS5 := hide (HS.out.only HI.out O5)
                have HB5 := hide (O5.below HB.out (Nat.le_of_lt (Nat.lt_of_le_of_lt HS.out.base (heap_lt HS.out.box))) q0 q1 q2)
                have HM5 : Hid (S.dead = true ∨ (CS n0 N (r + 1) c S ∧ Erl N (r + 1) c ∧ Lk n0 c ni S { I' with q := rr })) := hide (by
                  rcases HM'.out with hd | ⟨e1, e2, e3⟩
                  · exact .inl hd
                  · exact .inr ⟨e1, e2, e3.get rr⟩)
                clear D5 H5 O5 Z5 K28 HS HI HB HM' HC
                go_wp2_with fail
                go_roundw
                case rel => exact ⟨got' + 1, _, by omega, by go_num, HS5, HI5, HC1, HN', HM5, HB5⟩
                case measure => simp [intOf]; omega
    · have hfin : got = N ∨ S.dead = true := by
        rcases HM.out with hd | ⟨hCS, hE, hL, hgn⟩
        · exact .inr hd
        · left
          have h3 := hL.nic
          have h4 := hCS.cn
          by_cases hr4 : r < 400
          · have : ¬ got < N := fun hh => hcont ⟨hr4, hh, hCS.dead⟩
            omega
          · exact car_end hCS hE hL HC.out hgn (by omega)
      clear HM
      by_cases hgN : got = N
      · have j2 : ¬ (got : Int) < (N : Int) := by omega
        have j3 : (got : Int) = (N : Int) := by omega
        by_cases hr4 : r < 400
        · have j1 : (r : Int) < 400 := by omega
          clear hgN hfin hcont
          go_wp2_with fail
          go_ret
          exact ⟨by simp, HFin.out _ HB.out⟩
        · have j1 : ¬ (r : Int) < 400 := by omega
          clear hgN hfin hcont
          go_wp2_with fail
          go_ret
          exact ⟨by simp, HFin.out _ HB.out⟩
      · have hd : S.dead = true := by rcases hfin with hh | hh; exact absurd hh hgN; exact hh
        rw [hd] at K21
        have j3 : ¬ (got : Int) = (N : Int) := by omega
        by_cases hr4 : r < 400
        · have j1 : (r : Int) < 400 := by omega
          by_cases hg4 : got < N
          · have j2 : (got : Int) < (N : Int) := by omega
            clear hgN hfin hcont
            go_wp2_with (go_at_call 21; refine K21.out.mono ?_; rintro e w3 ⟨rfl, rfl⟩)
            go_ret
            exact ⟨by simp, HFin.out _ HB.out⟩
          · have j2 : ¬ (got : Int) < (N : Int) := by omega
            clear hgN hfin hcont
            go_wp2_with (go_at_call 21; refine K21.out.mono ?_; rintro e w3 ⟨rfl, rfl⟩)
            go_ret
            exact ⟨by simp, HFin.out _ HB.out⟩
        · have j1 : ¬ (r : Int) < 400 := by omega
          clear hgN hfin hcont
          go_wp2_with (go_at_call 21; refine K21.out.mono ?_; rintro e w3 ⟨rfl, rfl⟩)
          go_ret
          exact ⟨by simp, HFin.out _ HB.out⟩

set_option maxRecDepth 100000 in
theorem lifted (os : Os) (started : os.Started) (H : Type) (enc : TypeId × Value → H) :
    ReturnsInHanded {} Try.checked os 8 .any (Rows.retryCarriedSpec.pre6 enc Try.prog Try.f8 Rows.retryCarriedRow.domain false) (Rows.retryCarriedSpec.post enc Try.prog Try.f8 false true false false) := by
  refine returnsInHanded_of_change_sized (C := Try.checked) own started (by kernel_rfl) Try.func8
    (ChangeSpec.witness6 (enc := enc) (C := Try.checked) false ⟨#[], #[.int .u16 0, .int .i64 0, .slice none 0 0], []⟩ 8 (by kernel_rfl) (by kernel_rfl) (by kernel_rfl) (by kernel_rfl)) ?_
  intro W base args ds gs before hval0 hW hcnd hsz0 _
  have hval : ∀ (j : Nat) t v, Try.f8.params[j]? = some t → args[j]? = some v → Value.okWide Try.prog W .any base t v := hval0
  have hsz : (DataW.weightsEach Try.prog (Try.f8.params.toList ++ Rows.retryCarriedSpec.plain.varTypes Try.prog) (ds ++ gs)).all (· ≤ reachBytes) = true := hsz0
  have hW' := hW
  obtain ⟨p, q, hA0, hV, rfl, hfz, hnd⟩ := hW
  have hA : DataW.TrodAll enc Try.prog W 0 (fun _ => true) true Try.f8.params.toList args.toList ds p := hA0
  rw [Try.params8] at hA hval hsz
  obtain ⟨v0, vs0, d0, ds0, p0, q0, hargs, rfl, rfl, h0, r0⟩ := trodAll_cons hA
  obtain ⟨v1, vs1, d1, ds1, p1, q1, rfl, rfl, rfl, h1, r1⟩ := trodAll_cons r0
  obtain ⟨v2, vs2, d2, ds2, p2, q2, rfl, rfl, rfl, h2, r2⟩ := trodAll_cons r1
  obtain ⟨rfl, rfl, rfl⟩ := trodAll_nil r2
  obtain rfl : args = #[v0, v1, v2] := by cases args; simp_all
  obtain ⟨rfl, rfl⟩ := trodVars_none hV
  have k0 := h0
  have lt0 : ∀ x ∈ p0, x.block < W.heap.size := by obtain ⟨m, hm⟩ := k0; exact DataW.trod_lt m _ _ _ hm
  obtain ⟨n0, rfl⟩ := okWide_int Try.underlying22 (hval 0 22 v0 rfl rfl)
  have w0 : (Lit.int .u16 n0).wf = true := by
    obtain ⟨fuel, hf⟩ := h0
    obtain ⟨m, e, _, hw⟩ := DataW.trod_int Try.underlying22 hf
    simp [Value.cells] at e
    rw [e]; exact hw
  have k1 := h1
  have lt1 : ∀ x ∈ p1, x.block < W.heap.size := by obtain ⟨m, hm⟩ := k1; exact DataW.trod_lt m _ _ _ hm
  obtain ⟨n1, rfl⟩ := okWide_int Try.underlying3 (hval 1 3 v1 rfl rfl)
  have w1 : (Lit.int .i64 n1).wf = true := by
    obtain ⟨fuel, hf⟩ := h1
    obtain ⟨m, e, _, hw⟩ := DataW.trod_int Try.underlying3 hf
    simp [Value.cells] at e
    rw [e]; exact hw
  obtain ⟨a2, len2, cap2, rfl⟩ := okWide_slice Try.underlying67 (hval 2 67 v2 rfl rfl)
  have k2 := h2
  have lt2 : ∀ x ∈ p2, x.block < W.heap.size := by obtain ⟨m, hm⟩ := k2; exact DataW.trod_lt m _ _ _ hm
  obtain ⟨w2, s2⟩ : IsBools W a2 len2 ∧ len2 ≤ maxLen := by
    obtain ⟨fuel, hf⟩ := h2
    exact bools_of_trod (a := a2) (len := len2) (cap := cap2) hf (by simp [Value.cells])
  clear hA0 hval0
  refine (walk n0 n1 a2 len2 cap2 W (bounds_u16 w0) (bounds_i64 w1) w2 s2).mono fun e W' ⟨he, bel⟩ => ?_
  subst he
  exact ⟨_, rfl, _, _, _, [], _, [], hW', trodAll_mk1 (shut_bool Try.underlying4 _), (trodAll_cons_mk (Below.trod laidOut (by kernel_rfl) (of_decide_eq_true (by kernel_rfl)) k0 bel lt0) (trodAll_cons_mk (Below.trod laidOut (by kernel_rfl) (of_decide_eq_true (by kernel_rfl)) k1 bel lt1) (trodAll_cons_mk (Below.trod laidOut (by kernel_rfl) (of_decide_eq_true (by kernel_rfl)) k2 bel lt2) trodAll_mk0))), rfl, bel.frame _, fun h => by cases h⟩

theorem over : Rows.retryCarriedRow.holds Try.pinned (OpenSpec.ofChange Rows.retryCarriedSpec) :=
  OpenClaim.holds_of_wide 8 Try.f8 rfl rfl rfl rfl rfl rfl rfl ⟨rfl, rfl, rfl, rfl, rfl⟩ rfl rfl rfl rfl rfl (by kernel_rfl) Try.func8 (by kernel_rfl)
    (of_decide_eq_true (by kernel_rfl)) (by unfold Func.isWrapper; first | (rw [if_pos (by decide +kernel)]; kernel_rfl) | (rw [if_neg (by decide +kernel)]; exact ⟨rfl, rfl⟩))
    (fun os started H enc _ => lifted os started H enc)

theorem proved : Rows.RetryCarriedSaid := over
end Go.Proofs.Yteihajppgooadaa.retryCarried
