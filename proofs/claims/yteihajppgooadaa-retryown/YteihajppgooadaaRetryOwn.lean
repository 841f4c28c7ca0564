/- For all settings and all bytes the law RetryOwn answers true: data that are handed in aren't kept, and answers are new memory; no conditions. -/
import Derived.Test.YteihajppgooadaaOwn5
namespace Go.Proofs.Yteihajppgooadaa.retryOwn
open Go.ChangeShapes Go.WideShapes Go.ChangeAt Go.RowKit
set_option linter.unusedVariables false

theorem own : ownKnob Try.prog.godebug = none := by kernel_rfl
theorem laidOut : laidOutB Try.prog = true := by kernel_rfl

theorem row_rd {w : World} {a : Option Addr} {len cap : Nat} {zs : List Int} (h : IsRow .u8 w a len cap zs) : bytesE.Rd w (.slice a len cap) (zs.take len) ∧ (zs.take len).length = len := by
  rcases h with ⟨rfl, rfl, rfl, rfl⟩ | ⟨x, rfl, hl, hm, hz, hc, hw⟩
  · exact ⟨.inl ⟨rfl, rfl⟩, rfl⟩
  · have e : (zs.take len).length = len := by rw [List.length_take]; omega
    refine ⟨.inr ⟨x, cap, by rw [e], fun n hn => ?_⟩, e⟩
    have hn' : n < len := by rw [e, show bytesE.k = 1 from rfl, Nat.mul_one] at hn; exact hn
    rw [hc n (by omega), fl_map bytesE (Value.int .u8) (fun _ => rfl), List.getElem?_map, List.getElem?_take_of_lt hn', List.getElem?_eq_getElem (by omega)]
    simp [List.getD, List.getElem?_eq_getElem (show n < zs.length by omega)]

set_option maxRecDepth 100000 in
set_option maxHeartbeats 16000000 in
theorem walk (x00 x01 x02 x03 : Int) (a1 : Option Addr) (len1 cap1 : Nat) (z1 : List Int) (w : World) (h0 : 0 ≤ x03 ∧ x03 ≤ 65535) (h1 : IsRow .u8 w a1 len1 cap1 z1) (s1 : cap1 * Try.prog.bytesOf 5 ≤ 140737488351232) :
    Calls Try.prog 6 #[.agg #[.int .i64 x00, .int .i64 x01, .int .i64 x02, .int .u16 x03], .slice a1 len1 cap1] w fun e w' => e = .returned (.bool true) ∧ Below w.heap.size w w' := by
  obtain ⟨hrd, hlen⟩ := row_rd h1
  generalize z1.take len1 = d at *
  have Hrd := hide hrd
  have Hlen := hide hlen
  clear hrd hlen h1 s1
  have hB0 : Below w.heap.size w (w.alloc (.cells #[.int .i64 x00, .int .i64 x01, .int .i64 x02, .int .u16 x03] 24)) := (Below.refl _ _).alloc (Nat.le_refl _) _
  have HB0 := hide hB0
  have HC0 : Hid ((w.alloc (.cells #[.int .i64 x00, .int .i64 x01, .int .i64 x02, .int .u16 x03] 24)).cell? ⟨w.heap.size, 3, none⟩ = some (.int .u16 x03) ∧ w.heap.size < (w.alloc (.cells #[.int .i64 x00, .int .i64 x01, .int .i64 x02, .int .u16 x03] 24)).heap.size) := hide ⟨by simp, by simp⟩
  clear hB0
  by_cases hbig : 256 < len1
  · have hbig' : (256 : Int) < (len1 : Int) := by omega
    have K9 := hide (fun W => awake2 W)
    go_enter Try.func6, Try.ntmps6
    go_upto_region 2 with (go_at_call 9; refine (K9.out _).mono ?_; rintro e wa ⟨rfl, Ba⟩)
    have HBa := hide (HB0.out.trans (Ba.mono HB0.out.size))
    clear Ba
    go_wp2_with (go_at_call 9; refine (K9.out _).mono ?_; rintro e wb ⟨rfl, Bb⟩)
    go_ret
    exact ⟨rfl, HBa.out.trans (Bb.mono HBa.out.size)⟩
  have hbig' : ¬ (256 : Int) < (len1 : Int) := by omega
  go_enter Try.func6, Try.ntmps6
  go_upto_region 3 with (go_at_call 9; refine (awake2 _).mono ?_; rintro e wa ⟨rfl, Ba⟩)
  have cA : wa.cell? ⟨w.heap.size, 3, none⟩ = some (.int .u16 x03) := by rw [Ba.cell HC0.out.2]; exact HC0.out.1
  have hlt : w.heap.size < wa.heap.size := Nat.lt_of_lt_of_le HC0.out.2 Ba.size
  have HBa := hide (HB0.out.trans (Ba.mono HB0.out.size))
  clear Ba HB0 HC0
  have bad : ¬ badSet 3 1 9 := by unfold badSet; omega
  go_upto_region 6 with (go_at_call 10; refine (snew_ok 3 1 9 x03 _ bad h0).mono ?_; rintro e w1 ⟨rfl, H1, B1, Z1⟩)
  obtain ⟨B, hB⟩ : ∃ B, wa.heap.size = B := ⟨_, rfl⟩
  rw [hB] at H1 B1 Z1 hlt ⊢
  have HZ0 : Hid (w.heap.size < B) := hide hlt
  have HBB : Hid (∀ W, Below B wa W → W.cell? ⟨w.heap.size, 3, none⟩ = some (.int .u16 x03)) := hide (fun W hW => by rw [hW.cell HZ0.out]; exact cA)
  have HFin : Hid (∀ W, Below B wa W → Below w.heap.size w W) := hide (fun W hW => HBa.out.trans (hW.mono (by omega)))
  have HRd : Hid (∀ W, Below B wa W → bytesE.Rd W (.slice a1 len1 cap1) d) := hide (fun W hW => Hrd.out.keep (HFin.out W hW))
  have HH1 := hide H1
  have HB1 := hide B1
  have hl256 : Hid (d.length ≤ 256) := hide (by rw [Hlen.out]; omega)
  clear cA hlt HBa hB H1 B1 Z1 Hrd bad
  have bX : Below w1.heap.size w1 (w1.alloc (.cells #[] 5)) := (Below.refl _ _).alloc (Nat.le_refl _) _
  have HBX := hide (HB1.out.trans (bX.mono (Nat.le_of_lt (heap_lt HH1.out.box))))
  have HbX := hide bX
  clear bX
  go_upto_region 7 with (at_builtin; refine bytesE.wp (w0 := w1) HbX.out (by rfl) _ _ rfl _ _ rfl rfl [] d (El.Own.new bytesE _ _ (Nat.le_refl _) #[] [] rfl (by simp) _ _ _ rfl rfl rfl) (HRd.out _ HBX.out) (by simp; have := hl256.out; omega) ?_; intro v2 w2 ho2 _ _ hb2; refine Hid.out ?_)
  refine hide ?_
  rw [List.nil_append] at ho2
  have hBw1 : B ≤ w1.heap.size := Nat.le_of_lt (heap_lt HH1.out.box)
  have HS2 := hide (HH1.out.keep hb2)
  have HB2 := hide (HB1.out.trans (hb2.mono hBw1))
  have HO2 := hide (ho2.mono hBw1)
  clear ho2 hb2 hBw1 HH1 HB1 HBX HbX
  have K12 := hide (put_ok HS2.out (Sd.Fit.new 3 1 9 x03).ok (Nat.le_of_lt (heap_lt HS2.out.box)) rfl HO2.out.rd hl256.out (show (0 : Int) - 0 + 1 ≤ 3 by decide))
  obtain ⟨a2, c2, rfl⟩ := HO2.out.rd.form
  go_upto_region 8 with (go_at_call 12; refine K12.out.mono ?_; rintro e w3 ⟨rfl, p, v3, pn, pd, ps, pa, H3, C3, V3, D3⟩)
  have HF3 := hide ((Sd.Fit.new 3 1 9 x03).put HS2.out.lim v3 p pn ps pa (by rw [pd]; exact hl256.out) (show (0 : Int) - 0 + 1 ≤ 3 by decide))
  have HB3 := hide (HS2.out.below HB2.out C3)
  have HO3 := hide (HS2.out.other b79 b83 HO2.out C3)
  have Hone : Hid (One x03 d 0 ((Sd.new 3 1 9 x03).put v3 p) p) := hide ⟨rfl, pd, pn, ps, pa, rfl, rfl, rfl, rfl⟩
  have Hsep : Hid (Sep (.slice a2 d.length c2) p.v) := hide (fun k hk hk' => by
    have h1 := HO2.out.lt k hk
    have h2 := D3 k hk'
    omega)
  have HS3 := hide H3
  clear pn pd ps pa H3 C3 V3 D3 K12 HS2 HB2 HO2
  go_wp2_with fail
  go_loopw [8, 7] (fun v8 v7 wr => ∃ (k : Nat) (S : Sd) (p : Pc) (xs : List Int), k ≤ 3 ∧ v8 = .int .i64 k ∧ Hid (One x03 d k S p) ∧ Hid S.Fit ∧ Hid (Snd wr B B S) ∧ Hid (bytesE.Own wr B v7 xs) ∧ Hid (xs.length ≤ 256) ∧ Hid (Sep v7 p.v) ∧ Hid (Below B wa wr)) (fun v8 _ _ => 3 - (intOf v8).toNat)
  case atStart => exact ⟨0, _, p, d, by omega, rfl, Hone, HF3, HS3, HO3, hl256, Hsep, HB3⟩
  case round =>
    clear Hone HF3 HS3 HO3 Hsep HB3
    obtain ⟨k, S, p, xs, hk, rfl, Hone, HF, HS, HO, Hxl, Hsep, HB⟩ := hrel
    by_cases hlt : k < 3
    · have j0 : (k : Int) < 3 := by omega
      obtain ⟨a7, c7, rfl⟩ := HO.out.rd.form
      obtain ⟨m, hm⟩ : ∃ m, xs.length = m := ⟨_, rfl⟩
      rw [hm] at HO Hsep Hxl ⊢
      have Hm := hide hm
      have m1 : (m : Int) ≤ 256 := by have := Hxl.out; omega
      clear hm
      go_wp2_with fail
      go_loopw [46] (fun v46 wr => ∃ (j : Nat) (xs : List Int), j ≤ m ∧ v46 = .int .i64 (j : Int) ∧ Hid (xs.length = m) ∧ Hid (bytesE.Own wr B (.slice a7 m c7) xs) ∧ Hid (Snd wr B B S) ∧ Hid (Below B wa wr)) (fun v46 _ => (256 - intOf v46).toNat)
      case atStart => exact ⟨0, xs, by omega, rfl, Hm, HO, HS, HB⟩
      case round =>
        clear HO HS HB Hm xs
        obtain ⟨j, xs, hj, rfl, Hm, HO, HS, HB⟩ := hrel
        by_cases hjm : j < m
        · have q0 : (0 : Int) ≤ (j : Int) := by omega
          have q1 : (j : Int) < (m : Int) := by omega
          obtain ⟨g9, rfl⟩ := HO.out.where' (by rw [Hm.out]; omega)
          obtain ⟨r0, r1⟩ := HO.out.at1 (Value.int .u8) (fun _ => rfl) rfl j (by rw [Hm.out]; exact hjm)
          obtain ⟨o1, o2⟩ := HS.out.off b79 b83 HO.out g9 rfl
          have HW : Hid (∀ u, Snd (wr.setCell ⟨g9, j, none⟩ u) B B S) := hide (fun u => HS.out.write o1 o2 (fun q hq => by
            rw [Hone.out.ps] at hq
            have e : q = p := by simpa using hq
            rw [e]
            exact Hsep.out g9 rfl) j u)
          have HOw : Hid (∀ y, bytesE.Own (wr.setCell ⟨g9, j, none⟩ (.int .u8 y)) B (.slice (some ⟨g9, 0, none⟩) m c7) (xs.set j y)) := hide (fun y => HO.out.set (Value.int .u8) (fun _ => rfl) rfl j y)
          have HBw : Hid (∀ u, Below B wa (wr.setCell ⟨g9, j, none⟩ u)) := hide (fun u => HB.out.setCell (p := ⟨g9, j, none⟩) (HO.out.ge g9 rfl) u)
          generalize xs[j]'(by rw [Hm.out]; exact hjm) = y at r0
          clear o1 o2
          go_wp2_with fail
          go_roundw
          case rel => exact ⟨j + 1, _, by omega, by go_num, hide (by rw [List.length_set]; exact Hm.out), hide (HOw.out _), hide (HW.out _), hide (HBw.out _)⟩
          case measure => simp [intOf]; omega
        · have q1 : ¬ (j : Int) < (m : Int) := by omega
          have hk9 : (k : Int) ≠ 9 := by omega
          have K14 := hide (tick_ok HS.out HF.out Hone.out.dead (Hone.out.dies hk9))
          go_upto_region 17 with (go_at_call 14; refine K14.out.mono ?_; rintro e w4 ⟨C4, v4, os, rfl, H4, O4, E4, D4⟩)
          rw [Hone.out.outs] at E4
          obtain ⟨o, rfl, o1, o2⟩ := map_one E4
          have HF4 := hide (HF.out.tick HS.out.lim (Hone.out.dies hk9))
          have HB4 := hide (HS.out.below HB.out C4)
          have HS4 := hide H4
          obtain ⟨p', hp', hpv⟩ := Hone.out.tick
          have Hone4 := hide hp'
          have hD4 := D4 o (by simp)
          rw [o2] at hD4
          have Hsep4 : Hid (Sep o.v p'.v) := hide (fun k hk hk' => by
            rw [hpv] at hk'
            have h1 := hD4.ge k hk
            have h2 := (HS.out.lies.dat p (by rw [Hone.out.ps]; simp)).lt k hk'
            omega)
          have HO4 := hide (hD4.mono (Nat.le_of_lt (heap_lt HS.out.box)))
          obtain ⟨b4, c4, rfl, d0, d1⟩ := out_at O4 0 o rfl
          simp only [Nat.zero_mul, Nat.zero_add, List.length_cons, List.length_nil] at d0 d1 ⊢
          have cv1 : ∀ q, (convert 36 9 o.v).run Try.prog (w4.drewN q) = .ok (.string (str d)) (w4.drewN q) := fun q => conv_str (HO4.out.rd.keep ⟨rfl, rfl, rfl, Nat.le_refl _, fun _ _ => rfl⟩)
          have cv2 : ∀ q, (convert 36 9 (.slice a1 len1 cap1)).run Try.prog (w4.drewN q) = .ok (.string (str d)) (w4.drewN q) := fun q => conv_str (HRd.out _ ⟨HB4.out.os, HB4.out.tape, HB4.out.output, HB4.out.size, HB4.out.block⟩)
          have HO4' := HO4
          clear C4 H4 O4 E4 D4 o1 o2 hD4 K14 HS HB HF Hone hp' hpv HO
          obtain ⟨so, ao, lo, co, od⟩ := o
          simp only [Ot.v] at *
          generalize str d = sd at *
          go_quiet (fail)
          have bq : Below w4.heap.size w4 (w4.drewN nq) := ⟨rfl, rfl, rfl, Nat.le_refl _, fun _ _ => rfl⟩
          have HS5 := hide (HS4.out.keep bq)
          have HO5 := hide (HO4.out.keep bq)
          have HB5 := hide (HB4.out.trans (bq.mono (Nat.le_of_lt (heap_lt HS4.out.box))))
          have d1' : (w4.drewN nq).cell? ⟨b4, 1, none⟩ = some (.slice ao lo co) := d1
          have hnum := Hone4.out.nums h0
          have K23 := hide (open_any HS5.out (show S.tick.ps.length ≤ 1000 by rw [Hone4.out.ps]; simp))
          rw [hnum] at K23
          generalize w4.drewN nq = W5 at *
          clear bq d0 d1 cv1 cv2 HO4' HS4 HO4 HB4 hnum
          go_upto_region 21 with (go_at_call 23; refine K23.out.mono ?_; rintro e w6 ⟨v6, rfl, O6, B6⟩)
          have hBW : B ≤ W5.heap.size := Nat.le_of_lt (heap_lt HS5.out.box)
          have HS6 := hide (HS5.out.keep B6)
          have HO6 := hide (HO5.out.keep B6)
          have HB6 := hide (HB5.out.trans (B6.mono hBW))
          have HU6 := hide (O6.mono hBW)
          obtain ⟨a6, c6, rfl⟩ := O6.rd.form
          simp only [List.length_cons, List.length_nil, Nat.zero_add] at HU6 ⊢
          clear O6 B6 K23 HS5 HO5 HB5 hBW
          go_wp2_with fail
          go_loopw [86] (fun v86 wr => ∃ (i : Nat) (ys : List Int), i ≤ 1 ∧ v86 = .int .i64 (i : Int) ∧ Hid (ys.length = 1) ∧ Hid (u16sE.Own wr B (.slice a6 1 c6) ys) ∧ Hid (bytesE.Own wr B (.slice ao lo co) d) ∧ Hid (Snd wr B B S.tick) ∧ Hid (Below B wa wr)) (fun v86 _ => (1 - intOf v86).toNat)
          case atStart => exact ⟨0, _, by omega, rfl, hide (by simp), HU6, HO6, HS6, HB6⟩
          case round =>
            clear HU6 HO6 HS6 HB6
            obtain ⟨i, ys, hi, rfl, Hy, HU, HO, HS, HB⟩ := hrel
            by_cases hi1 : i < 1
            · have q2 : (i : Int) < 1 := by omega
              have q3 : (0 : Int) ≤ (i : Int) := by omega
              obtain ⟨g9, rfl⟩ := HU.out.where' (by rw [Hy.out]; omega)
              obtain ⟨r0, r1⟩ := HU.out.at1 (Value.int .u16) (fun _ => rfl) rfl i (by rw [Hy.out]; exact hi1)
              obtain ⟨o1, o2⟩ := HS.out.off (show u16sE.e ≠ 79 by decide) (show u16sE.e ≠ 83 by decide) HU.out g9 rfl
              have HW : Hid (∀ u, Snd (wr.setCell ⟨g9, i, none⟩ u) B B S.tick) := hide (fun u => HS.out.write o1 o2 (fun q hq e => by
                obtain ⟨cur, hc, _⟩ := own_cells (HS.out.lies.dat q hq) g9 e
                obtain ⟨cur', hc', _⟩ := own_cells HU.out g9 rfl
                rw [hc'] at hc; simp only [Option.some.injEq, Obj.cells.injEq] at hc; exact absurd hc.2.1 (show ¬ (22 : TypeId) = 5 by decide)) i u)
              have HUw : Hid (∀ y, u16sE.Own (wr.setCell ⟨g9, i, none⟩ (.int .u16 y)) B (.slice (some ⟨g9, 0, none⟩) 1 c6) (ys.set i y)) := hide (fun y => HU.out.set (Value.int .u16) (fun _ => rfl) rfl i y)
              have HOw : Hid (∀ u, bytesE.Own (wr.setCell ⟨g9, i, none⟩ u) B (.slice ao lo co) d) := hide (fun u => own_set HO.out HU.out (show bytesE.e ≠ u16sE.e by decide))
              have HBw : Hid (∀ u, Below B wa (wr.setCell ⟨g9, i, none⟩ u)) := hide (fun u => HB.out.setCell (p := ⟨g9, i, none⟩) (HU.out.ge g9 rfl) u)
              generalize ys[i]'(by rw [Hy.out]; exact hi1) = y at r0
              clear o1 o2
              go_wp2_with fail
              go_roundw
              case rel => exact ⟨i + 1, _, by omega, by go_num, hide (by rw [List.length_set]; exact Hy.out), hide (HUw.out _), hide (HOw.out _), hide (HW.out _), hide (HBw.out _)⟩
              case measure => simp [intOf]; omega
            · have q2 : ¬ (i : Int) < 1 := by omega
              go_wp2_with fail
              go_roundw
              case rel => exact ⟨k + 1, S.tick, p', d, by omega, by go_num, by rw [show ((k + 1 : Nat) : Int) = (k : Int) + 1 by omega]; exact Hone4, HF4, HS, HO, hl256, Hsep4, HB⟩
              case measure => simp [intOf]; omega
    · have j0 : ¬ (k : Int) < 3 := by omega
      have hnum := Hone.out.nums h0
      have hlen' : S.ps.length ≤ 1000 := by rw [Hone.out.ps]; simp
      have Hnum := hide hnum
      have Hl' := hide hlen'
      clear hnum hlen'
      go_upto_region 26 with fail
      obtain ⟨SS, hSS⟩ : ∃ SS : World → Prop, SS = fun W' => W'.cell? ⟨w.heap.size, 3, none⟩ = some (.int .u16 x03) := ⟨_, rfl⟩
      have t1 : ∀ W', SS W' → W'.cell? ⟨w.heap.size, 3, none⟩ = some (.int .u16 x03) := fun W' h => by rw [hSS] at h; exact h
      have FS : Hid (∀ W', Below B wa W' → SS W') := hide (fun W' hW => by rw [hSS]; exact HBB.out W' hW)
      clear hSS
      have bD : Below B wa wr.drew := HB.out.drew
      have hS0 := FS.out _ bD
      have hBr : B ≤ wr.heap.size := Nat.le_of_lt (heap_lt HS.out.box)
      have HSd : Snd wr.drew B B S := HS.out.keep ⟨rfl, rfl, rfl, Nat.le_refl _, fun _ _ => rfl⟩
      refine wp_region_E SS 6 (by kernel_rfl) ?_
      refine wpAnyE_take (i := 0) (v := .pointer (some ⟨B, 0, none⟩)) rfl (by kernel_rfl) (by kernel_rfl) (by kernel_rfl) (by kernel_rfl) (fun _ _ _ h => h) (Or.inl ⟨by rfl, fun W' hW => by go_simp⟩) hS0 ?_
      refine wpAnyE_take (i := 2) (v := .pointer (some ⟨w.heap.size, 3, none⟩)) rfl (by kernel_rfl) (by kernel_rfl) (by kernel_rfl) (by kernel_rfl) (fun _ _ _ h => h) (Or.inl ⟨by rfl, fun W' hW => by go_simp⟩) hS0 ?_
      refine wpAnyE_take (i := 3) (v := .int .u16 x03) rfl (by kernel_rfl) (by kernel_rfl) (by kernel_rfl) (by kernel_rfl) (fun _ _ _ h => h) (Or.inl ⟨by rfl, fun W' hW => by have := t1 W' hW; go_simp⟩) hS0 ?_
      refine wpAnyE_ready (rs := [1, 4]) (by kernel_rfl) (by simp) ?_
      refine AllReadyE.cons rfl (fun K hK => ?_) (AllReadyE.cons rfl (fun K hK => ?_) AllReadyE.nil)
      · go_simp
        refine (open_any HSd Hl'.out).mono ?_
        rintro e w6 ⟨v6, rfl, O6, B6⟩
        rw [Hnum.out] at O6
        have hB6 : Below B wa w6 := bD.trans (B6.mono hBr)
        refine hK.out _ _ (fun _ => FS.out _ hB6) ?_
        clear hK K
        refine wpAnyE_ready (rs := [4]) (by kernel_rfl) (by simp) ?_
        refine AllReadyE.cons rfl (fun K hK => ?_) AllReadyE.nil
        go_simp
        have bX : Below w6.heap.size w6 (w6.alloc (.cells #[.int .u16 x03] 22)) := (Below.refl _ _).alloc (Nat.le_refl _) _
        have hB7 : Below B wa (w6.alloc (.cells #[.int .u16 x03] 22)) := hB6.trans (bX.mono (Nat.le_trans hBr B6.size))
        refine hK.out _ _ (fun _ => FS.out _ hB7) ?_
        clear hK K
        refine wpAnyE_ready (rs := [5]) (by kernel_rfl) (by simp) ?_
        refine AllReadyE.cons rfl (fun K hK => ?_) AllReadyE.nil
        go_simp
        refine (same_eq (O6.keep bX).rd (u16_new w6 x03 _ rfl) (by simp)).mono ?_
        rintro e w8 ⟨rfl, n8, rfl⟩
        have hB8 : Below B wa ((w6.alloc (.cells #[.int .u16 x03] 22)).drewN n8) := ⟨hB7.os, hB7.tape, hB7.output, hB7.size, hB7.block⟩
        refine hK.out _ _ (fun _ => FS.out _ hB8) ?_
        clear hK K
        have HB8 := hide hB8
        generalize (w6.alloc (.cells #[.int .u16 x03] 22)).drewN n8 = W8 at *
        refine wpAnyE_ready (rs := [6]) (by kernel_rfl) (by simp) ?_
        refine AllReadyE.cons rfl (fun K hK => ?_) AllReadyE.nil
        go_simp
        refine hK.out _ _ (fun h => absurd rfl h) ?_
        clear hK K
        refine wpAnyE_done (by kernel_rfl) ?_ _
        go_wp2_with fail
        go_ret
        exact ⟨rfl, HFin.out _ HB8.out⟩
      · go_simp
        have bX : Below wr.heap.size wr.drew (wr.alloc (.cells #[.int .u16 x03] 22)).drew := ⟨rfl, rfl, rfl, by simp, fun k hk => Below.heap_alloc _ _ _ hk⟩
        have hB6 : Below B wa (wr.alloc (.cells #[.int .u16 x03] 22)).drew := bD.trans (bX.mono hBr)
        have HSx : Snd (wr.alloc (.cells #[.int .u16 x03] 22)).drew B B S := HSd.keep bX
        have hU : u16sE.Rd (wr.alloc (.cells #[.int .u16 x03] 22)).drew (.slice (some ⟨wr.heap.size, 0, none⟩) 1 1) [x03] := u16_new wr x03 _ rfl
        refine hK.out _ _ (fun _ => FS.out _ ⟨hB6.os, hB6.tape, hB6.output, hB6.size, hB6.block⟩) ?_
        clear hK K
        refine wpAnyE_ready (rs := [1]) (by kernel_rfl) (by simp) ?_
        refine AllReadyE.cons rfl (fun K hK => ?_) AllReadyE.nil
        go_simp
        refine (open_any HSx Hl'.out).mono ?_
        rintro e w6 ⟨v6, rfl, O6, B6⟩
        rw [Hnum.out] at O6
        have hB7 : Below B wa w6 := hB6.trans (B6.mono (by show B ≤ (wr.alloc (.cells #[.int .u16 x03] 22)).heap.size; simp; omega))
        refine hK.out _ _ (fun _ => FS.out _ hB7) ?_
        clear hK K
        refine wpAnyE_ready (rs := [5]) (by kernel_rfl) (by simp) ?_
        refine AllReadyE.cons rfl (fun K hK => ?_) AllReadyE.nil
        go_simp
        refine (same_eq O6.rd (hU.keep B6) (by simp)).mono ?_
        rintro e w8 ⟨rfl, n8, rfl⟩
        have hB8 : Below B wa (w6.drewN n8) := ⟨hB7.os, hB7.tape, hB7.output, hB7.size, hB7.block⟩
        refine hK.out _ _ (fun _ => FS.out _ hB8) ?_
        clear hK K
        have HB8 := hide hB8
        generalize w6.drewN n8 = W8 at *
        refine wpAnyE_ready (rs := [6]) (by kernel_rfl) (by simp) ?_
        refine AllReadyE.cons rfl (fun K hK => ?_) AllReadyE.nil
        go_simp
        refine hK.out _ _ (fun h => absurd rfl h) ?_
        clear hK K
        refine wpAnyE_done (by kernel_rfl) ?_ _
        go_wp2_with fail
        go_ret
        exact ⟨rfl, HFin.out _ HB8.out⟩

set_option maxRecDepth 100000 in
theorem lifted (os : Os) (started : os.Started) (H : Type) (enc : TypeId × Value → H) :
    ReturnsInHanded {} Try.checked os 6 .any (Rows.retryOwnSpec.pre6 enc Try.prog Try.f6 Rows.retryOwnRow.domain false) (Rows.retryOwnSpec.post enc Try.prog Try.f6 false true false false) := by
  refine returnsInHanded_of_change_sized (C := Try.checked) own started (by kernel_rfl) Try.func6
    (ChangeSpec.witness6 (enc := enc) (C := Try.checked) false ⟨#[], #[.agg #[.int .i64 0, .int .i64 0, .int .i64 0, .int .u16 0], .slice none 0 0], []⟩ 8 (by kernel_rfl) (by kernel_rfl) (by kernel_rfl) (by kernel_rfl)) ?_
  intro W base args ds gs before hval0 hW hcnd hsz0 _
  have hval : ∀ (j : Nat) t v, Try.f6.params[j]? = some t → args[j]? = some v → Value.okWide Try.prog W .any base t v := hval0
  have hsz : (DataW.weightsEach Try.prog (Try.f6.params.toList ++ Rows.retryOwnSpec.plain.varTypes Try.prog) (ds ++ gs)).all (· ≤ reachBytes) = true := hsz0
  have hW' := hW
  obtain ⟨p, q, hA0, hV, rfl, hfz, hnd⟩ := hW
  have hA : DataW.TrodAll enc Try.prog W 0 (fun _ => true) true Try.f6.params.toList args.toList ds p := hA0
  rw [Try.params6] at hA hval hsz
  obtain ⟨v0, vs0, d0, ds0, p0, q0, hargs, rfl, rfl, h0, r0⟩ := trodAll_cons hA
  obtain ⟨v1, vs1, d1, ds1, p1, q1, rfl, rfl, rfl, h1, r1⟩ := trodAll_cons r0
  obtain ⟨rfl, rfl, rfl⟩ := trodAll_nil r1
  obtain rfl : args = #[v0, v1] := by cases args; simp_all
  obtain ⟨rfl, rfl⟩ := trodVars_none hV
  have k0 := h0
  have lt0 : ∀ x ∈ p0, x.block < W.heap.size := by obtain ⟨m, hm⟩ := k0; exact DataW.trod_lt m _ _ _ hm
  obtain ⟨cs0, rfl, _⟩ := okWide_struct Try.underlying24 (hval 0 24 v0 rfl rfl)
  obtain ⟨x00, x01, x02, x03, w0, e0⟩ : ∃ x0 x1 x2 x3 : Int, (0 ≤ x3 ∧ x3 ≤ 65535) ∧ cs0 = #[.int .i64 x0, .int .i64 x1, .int .i64 x2, .int .u16 x3] := by
    obtain ⟨fuel, hf⟩ := h0
    obtain ⟨x0, x1, x2, x3, hw, he⟩ := how_of_trod hf
    exact ⟨x0, x1, x2, x3, hw, by apply Array.toList_inj.1; exact he⟩
  subst e0
  obtain ⟨a1, len1, cap1, rfl⟩ := okWide_slice Try.underlying36 (hval 1 36 v1 rfl rfl)
  have k1 := h1
  have lt1 : ∀ x ∈ p1, x.block < W.heap.size := by obtain ⟨m, hm⟩ := k1; exact DataW.trod_lt m _ _ _ hm
  obtain ⟨z1, w1⟩ : ∃ zs, IsRow .u8 W a1 len1 cap1 zs := by
    obtain ⟨fuel, hf⟩ := h1
    rcases open_ints Try.underlying36 Try.underlying5 (by kernel_rfl) hf with ⟨hcs, _⟩ | ⟨x, l, c, zs, hcs, _, hl, hm, hz, _, hcell, hwz⟩
    · simp [Value.cells] at hcs
      obtain ⟨rfl, rfl, rfl⟩ := hcs
      exact ⟨[], .inl ⟨rfl, rfl, rfl, rfl⟩⟩
    · simp [Value.cells] at hcs
      obtain ⟨rfl, rfl, rfl⟩ := hcs
      exact ⟨zs, .inr ⟨_, rfl, hl, hm, by simpa using hz, hcell, hwz⟩⟩
  have s1 : cap1 * Try.prog.bytesOf 5 ≤ 140737488351232 := by
    obtain ⟨fuel, hf⟩ := k1
    rcases open_ints Try.underlying36 Try.underlying5 (by kernel_rfl) hf with ⟨hcs, _⟩ | ⟨x, l, c, zs, hcs, _, hl, hm, hz, hx, _, _⟩
    · simp [Value.cells] at hcs
      rw [hcs.2.2]; omega
    · simp [Value.cells] at hcs
      obtain ⟨rfl, rfl, rfl⟩ := hcs
      have hd : d1 = _ := congrArg Prod.fst hx
      have := sized_slice hsz (j := 1) (t := 36) (e := 5) rfl (by rw [hd]; rfl) Try.underlying36
      simp only [lits, List.length_map, List.length_take, List.length_drop, reachBytes] at this
      simp only [if_true] at hz
      rw [hz, Nat.min_eq_left hl, Nat.add_sub_cancel' hl] at this
      exact this
  clear hA0 hval0
  refine (walk x00 x01 x02 x03 a1 len1 cap1 z1 W w0 w1 s1).mono fun e W' ⟨he, bel⟩ => ?_
  subst he
  exact ⟨_, rfl, _, _, _, [], _, [], hW', trodAll_mk1 (shut_bool Try.underlying4 _), (trodAll_cons_mk (Below.trod laidOut (by kernel_rfl) (of_decide_eq_true (by kernel_rfl)) k0 bel lt0) (trodAll_cons_mk (Below.trod laidOut (by kernel_rfl) (of_decide_eq_true (by kernel_rfl)) k1 bel lt1) trodAll_mk0)), rfl, bel.frame _, fun h => by cases h⟩

theorem over : Rows.retryOwnRow.holds Try.pinned (OpenSpec.ofChange Rows.retryOwnSpec) :=
  OpenClaim.holds_of_wide 6 Try.f6 rfl rfl rfl rfl rfl rfl rfl ⟨rfl, rfl, rfl, rfl, rfl⟩ rfl rfl rfl rfl rfl (by kernel_rfl) Try.func6 (by kernel_rfl)
    (of_decide_eq_true (by kernel_rfl)) (by unfold Func.isWrapper; first | (rw [if_pos (by decide +kernel)]; kernel_rfl) | (rw [if_neg (by decide +kernel)]; exact ⟨rfl, rfl⟩))
    (fun os started H enc _ => lifted os started H enc)

theorem proved : Rows.RetryOwnSaid := over
end Go.Proofs.Yteihajppgooadaa.retryOwn
