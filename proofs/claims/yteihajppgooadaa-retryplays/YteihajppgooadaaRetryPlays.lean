/- For all settings and every script of calls the law RetryPlays answers true: whatever is put, acknowledged, and however time goes by, a sender answers as the document says; no conditions. -/
import Derived.Test.YteihajppgooadaaPlj
import Derived.Test.YteihajppgooadaaArgs
namespace Go.Proofs.Yteihajppgooadaa.retryPlays
open Go.ChangeShapes Go.WideShapes Go.ChangeAt Go.RowKit
set_option linter.unusedVariables false

theorem own : ownKnob Try.prog.godebug = none := by kernel_rfl
theorem laidOut : laidOutB Try.prog = true := by kernel_rfl

set_option maxRecDepth 100000 in
set_option maxHeartbeats 20000000 in
theorem walk (x00 x01 x02 x03 : Int) (a1 : Option Addr) (len1 cap1 : Nat) (ls1 : List (Int × Int × List Int)) (w : World) (h0 : 0 ≤ x03 ∧ x03 ≤ 65535) (hops : IsOps2 w a1 len1 ls1) (hlen : len1 ≤ maxLen) :
    Calls Try.prog 3 #[.agg #[.int .i64 x00, .int .i64 x01, .int .i64 x02, .int .u16 x03], .slice a1 len1 cap1] w fun e w' => e = .returned (.bool true) ∧ Below w.heap.size w w' := by
  have HB0 : Hid (Below w.heap.size w (w.alloc (.cells #[.int .i64 x00, .int .i64 x01, .int .i64 x02, .int .u16 x03] 24))) := hide ((Below.refl _ _).alloc (Nat.le_refl _) _)
  have HC0 : Hid ((w.alloc (.cells #[.int .i64 x00, .int .i64 x01, .int .i64 x02, .int .u16 x03] 24)).heap[w.heap.size]? = some (.cells #[.int .i64 x00, .int .i64 x01, .int .i64 x02, .int .u16 x03] 24)) := hide (box_new w _)
  have Hops := hide hops
  have hl : (len1 : Int) ≤ 9223372036854775807 := by unfold maxLen at hlen; omega
  have hl0 : (0 : Int) ≤ (len1 : Int) := by omega
  obtain ⟨hb, hhb⟩ : ∃ hb, w.heap.size = hb := ⟨_, rfl⟩
  have Hhb := hide hhb
  clear hops hlen
  go_enter Try.func3, Try.ntmps3
  go_upto_region 3 with (go_at_call 9; refine (awake2 _).mono ?_; rintro e wa ⟨rfl, Ba⟩)
  try rw [hhb]
  rw [hhb] at HC0
  have HBa := hide (HB0.out.trans (Ba.mono HB0.out.size))
  have HCa : Hid (wa.heap[hb]? = some (.cells #[.int .i64 x00, .int .i64 x01, .int .i64 x02, .int .u16 x03] 24)) := hide (by rw [Ba.block _ (heap_lt HC0.out)]; exact HC0.out)
  clear hhb Ba HB0 HC0
  have c0 := (cells_at HCa.out 0).1
  have c1 := (cells_at HCa.out 1).1
  have c2 := (cells_at HCa.out 2).1
  have c3 := (cells_at HCa.out 3).1
  simp at c0 c1 c2 c3
  by_cases bad : badSet x00 x01 x02
  · have K11 := hide (fun W => rnew_no2 x00 x01 x02 x03 W bad)
    have K10 := hide (fun W => snew_no x00 x01 x02 x03 W bad)
    clear bad
    go_upto_region 4 with (go_at_call 10; refine (K10.out _).mono ?_; rintro e w1 ⟨rfl, rfl⟩)
    go_upto_region 5 with (go_at_call 11; refine (K11.out _).mono ?_; rintro e w2 ⟨rfl, B2⟩)
    have HBf := hide (HBa.out.trans (B2.mono HBa.out.size))
    have HBg := hide (HBf.out.alloc HBf.out.size (.cells #[.int .i64 0, .int .i64 0, .int .i64 0, .int .u16 0, .int .i64 0, .slice none 0 0, .bool false] 33))
    go_wp2_with fail
    go_loopw [] (fun wr => Hid (Below w.heap.size w wr)) (fun _ => 0)
    case atStart => exact HBg
    case round =>
      go_wp2_with fail
      go_ret
      exact ⟨rfl, hrel.out⟩
  · have K11 : Hid (∀ W, Calls Try.prog 11 #[.int .i64 x00, .int .i64 x01, .int .i64 x02, .int .u16 x03] W fun e w' => e = .returned (.tuple #[.agg #[.int .i64 x00, .int .i64 x01, .int .i64 x02, .int .u16 x03, .int .i64 0, .slice none 0 0, .bool false], .int .i64 0]) ∧ Below W.heap.size W w') := hide (fun W => rnew_ok x00 x01 x02 x03 W bad)
    have K10 := hide (fun W => snew_ok x00 x01 x02 x03 W bad h0)
    have Hbad := hide bad
    clear bad
    go_upto_region 4 with (go_at_call 10; refine (K10.out _).mono ?_; rintro e w1 ⟨rfl, H1, B1, Z1⟩)
    have HC1 : Hid (w1.heap[hb]? = some (.cells #[.int .i64 x00, .int .i64 x01, .int .i64 x02, .int .u16 x03] 24)) := hide (by rw [B1.block _ (heap_lt HCa.out)]; exact HCa.out)
    have HS1 := hide H1
    have HB1 := hide B1
    clear c0 c1 c2 c3 H1 B1 Z1 K10
    have c0 := (cells_at HC1.out 0).1
    have c1 := (cells_at HC1.out 1).1
    have c2 := (cells_at HC1.out 2).1
    have c3 := (cells_at HC1.out 3).1
    simp at c0 c1 c2 c3
    go_upto_region 5 with (go_at_call 11; refine (K11.out _).mono ?_; rintro e w2 ⟨rfl, B2⟩)
    have HS2 := hide (HS1.out.keep B2)
    have HB2 := hide (HB1.out.trans (B2.mono HB1.out.size))
    have bX : Below w2.heap.size w2 (w2.alloc (.cells #[.int .i64 x00, .int .i64 x01, .int .i64 x02, .int .u16 x03, .int .i64 0, .slice none 0 0, .bool false] 33)) := (Below.refl _ _).alloc (Nat.le_refl _) _
    have HS3 := hide (HS2.out.keep bX)
    have HB3 := hide (HB2.out.trans (bX.mono HB2.out.size))
    have HX3 := hide (box_new w2 (.cells #[.int .i64 x00, .int .i64 x01, .int .i64 x02, .int .u16 x03, .int .i64 0, .slice none 0 0, .bool false] 33))
    have HG : Hid (wa.heap.size ≤ w2.heap.size) := hide HB2.out.size
    generalize w2.alloc (.cells #[.int .i64 x00, .int .i64 x01, .int .i64 x02, .int .u16 x03, .int .i64 0, .slice none 0 0, .bool false] 33) = W3 at *
    generalize w2.heap.size = gm at *
    obtain ⟨B, hB⟩ : ∃ B, wa.heap.size = B := ⟨_, rfl⟩
    rw [hB] at HS3 HB3 HG ⊢
    have HeB := hide hB
    have HFin : Hid (∀ W, Below B wa W → Below w.heap.size w W) := hide (fun W hW => HBa.out.trans (hW.mono (by rw [← HeB.out]; exact HBa.out.size)))
    have HAg : Hid (Ag B W3 (Sd.new x00 x01 x02 x03) ⟨x00, x01, x02, x03, 0, none, 0, 0, false⟩) := hide ⟨rfl, h0, fun _ => ⟨Sd.Fit.new _ _ _ _, rfl, rfl, rfl, rfl, rfl, ⟨Int.le_refl _, fun p h => by cases h⟩, rfl, El.Own.nil _ _ _⟩⟩
    clear hB B2 bX HS1 HS2 HB1 HB2 K11 c0 c1 c2 c3 HC1 HCa Hbad
    go_wp2_with fail
    go_loopw [9] (fun v9 wr => ∃ (k : Nat) (S : Sd) (y0 y1 y2 y3 y4 : Int) (ya : Option Addr) (yn yc : Nat) (yd : Bool), k ≤ 200 ∧ v9 = .int .i64 k ∧ Hid (Snd wr B B S ∧ Ag B wr S ⟨y0, y1, y2, y3, y4, ya, yn, yc, yd⟩ ∧ wr.heap[gm]? = some (.cells #[.int .i64 y0, .int .i64 y1, .int .i64 y2, .int .u16 y3, .int .i64 y4, .slice ya yn yc, .bool yd] 33) ∧ Below B wa wr ∧ (S.dead = false → S.count ≤ k))) (fun v9 _ => 200 - (intOf v9).toNat)
    case atStart => exact ⟨0, Sd.new x00 x01 x02 x03, x00, x01, x02, x03, 0, none, 0, 0, false, by omega, rfl, hide ⟨HS3.out, HAg.out, HX3.out, HB3.out, fun _ => Int.le_refl _⟩⟩
    case round =>
      clear HS3 HB3 HX3 HAg
      obtain ⟨k, S, y0, y1, y2, y3, y4, ya, yn, yc, yd, hk, rfl, HJ⟩ := hrel
      by_cases hlt : k < len1 ∧ k < 200
      · obtain ⟨hlt1, hlt2⟩ := hlt
        obtain ⟨⟨kd, sn, dl⟩, ho⟩ : ∃ o, ls1[k]? = some o := ⟨_, List.getElem?_eq_getElem (by rw [Hops.out.1.1]; exact hlt1)⟩
        obtain ⟨hsn, b, off, v, rfl, hbl, z0, z1, z2, av, cv, rfl, hrd, _, _⟩ := Hops.out.1.2 k _ ho
        have hdl := Hops.out.2 k _ ho
        simp only at hsn z0 z1 z2 hrd hdl
        have HFw := hide (HFin.out wr HJ.out.2.2.2.1)
        have t0 : wr.cell? ⟨b, off + k * 3, none⟩ = some (.int .i64 kd) := by rw [HFw.out.cell hbl]; exact z0
        have t1 : wr.cell? ⟨b, off + k * 3 + 1, none⟩ = some (.int .u16 sn) := by rw [HFw.out.cell hbl]; exact z1
        have t2 : wr.cell? ⟨b, off + k * 3 + 2, none⟩ = some (.slice av dl.length cv) := by rw [HFw.out.cell hbl]; exact z2
        have Hrd := hide hrd
        have Hdl := hide hdl
        have Hsn := hide hsn
        have j0 : (0 : Int) ≤ (k : Int) := by omega
        have j1 : (k : Int) < (len1 : Int) := by omega
        have j2 : (k : Int) < 200 := by omega
        have HJ1 : Hid (Jn B B gm wr.heap.size wa (wr.alloc (.cells #[.int .i64 kd, .int .u16 sn, .slice av dl.length cv] 38)) S ⟨y0, y1, y2, y3, y4, ya, yn, yc, yd⟩ ⟨y0, y1, y2, y3, y4, ya, yn, yc, yd⟩ #[.int .i64 kd, .int .u16 sn, .slice av dl.length cv]) := hide (by
          have bX : Below wr.heap.size wr (wr.alloc (.cells #[.int .i64 kd, .int .u16 sn, .slice av dl.length cv] 38)) := (Below.refl _ _).alloc (Nat.le_refl _) _
          obtain ⟨i1, i2, i3, i4, i5⟩ := HJ.out
          exact ⟨i1.keep bX, i2.keep bX, by rw [bX.block _ (heap_lt i3)]; exact i3, box_new _ _, HG.out, i4.trans (bX.mono (by rw [← HeB.out]; exact i4.size)), HeB.out⟩)
        have Hcn : Hid (S.dead = false → S.count ≤ k) := hide HJ.out.2.2.2.2
        have Hc1 : Hid (S.dead = false → S.count ≤ 1000) := hide (fun h => by have := Hcn.out h; omega)
        obtain ⟨q, hq⟩ : ∃ q, wr.heap.size = q := ⟨_, rfl⟩
        rw [hq] at HJ1
        go_upto_block 2 with fail
        try rw [hq]
        clear hq t0 t1 t2 z0 z1 z2 HJ HFw hrd ho hdl hsn
        generalize wr.alloc (.cells #[.int .i64 kd, .int .u16 sn, .slice av dl.length cv] 38) = W1 at *
        go_cut [] (fun wx => ∃ (S' : Sd) (D' : Dc), Hid (Jn B B gm q wa wx S' D' D' #[.int .i64 kd, .int .u16 sn, .slice av dl.length cv]) ∧ Hid (S'.dead = false → S'.count ≤ k + 1))
        case first =>
          have c0 := (cells_at HJ1.out.ob 0).1
          have c1 := (cells_at HJ1.out.ob 1).1
          have c2 := (cells_at HJ1.out.ob 2).1
          simp at c0 c1 c2
          have HW1 := hide (HFin.out _ HJ1.out.bel)
          by_cases k1 : kd = 1
          · subst k1
            have bA : Below W1.heap.size W1 (W1.alloc (.cells #[] 5)) := (Below.refl _ _).alloc (Nat.le_refl _) _
            have oA : bytesE.Own (W1.alloc (.cells #[] 5)) W1.heap.size (.slice (some ⟨W1.heap.size, 0, none⟩) 0 0) [] := El.Own.new bytesE W1 _ (Nat.le_refl _) #[] [] rfl (by simp) _ _ _ rfl rfl rfl
            have c2b : (W1.alloc (.cells #[] 5)).cell? ⟨q, 2, none⟩ = some (.slice av dl.length cv) := (cells_at (HJ1.out.keep bA).ob 2).1
            go_wp2_with (at_builtin; refine wp_big (w0 := W1) bA (by rfl) _ _ rfl _ _ rfl rfl [] dl oA ((Hrd.out.keep HW1.out).keep bA) (by have := Hdl.out; simp; omega) ?_; intro v6 w6 ho6 hb6; refine Hid.out ?_)
            refine hide ?_
            rw [List.nil_append] at ho6
            have HJ6 := hide (HJ1.out.keep hb6)
            have K12 := hide (pput_any HJ6.out.snd HJ6.out.ag HJ6.out.bw Hc1.out ho6.rd)
            clear bA oA ho6 hb6 c0 c1 c2 c2b
            go_upto_region 15 with (go_at_call 12; refine K12.out.mono ?_; rintro e w7 ⟨S', x, code, rfl, H7, C7, N7, D7⟩)
            obtain ⟨A7, X7, O7, L7⟩ := HJ6.out.chg H7 C7
            have hB7 : B ≤ w7.heap.size := by rw [← HeB.out]; exact L7.size
            have m0 := (cells_at X7 0).1
            have m1 := (cells_at X7 1).1
            have m2 := (cells_at X7 2).1
            have m3 := (cells_at X7 3).1
            have m4 := (cells_at X7 4).1
            have m5 := (cells_at X7 5).1
            have m6 := (cells_at X7 6).1
            simp [Dc.cells] at m0 m1 m2 m3 m4 m5 m6
            have c1 := (cells_at O7 1).1
            have c2 := (cells_at O7 2).1
            simp at c1 c2
            have cvt := conv_str (Hrd.out.keep (HFin.out _ L7))
            obtain ⟨sz, hsz⟩ : ∃ sz, str dl = sz := ⟨_, rfl⟩
            rw [hsz] at cvt
            have K13 : Hid (Calls Try.prog 13 #[.agg #[.int .i64 y0, .int .i64 y1, .int .i64 y2, .int .u16 y3, .int .i64 y4, .slice ya yn yc, .bool yd], .string sz] w7 fun e W' => ∃ (e0 e1 e2 e3 e4 : Int) (ea : Option Addr) (en ec : Nat) (ed : Bool), e = .returned (.tuple #[.agg #[.int .i64 e0, .int .i64 e1, .int .i64 e2, .int .u16 e3, .int .i64 e4, .slice ea en ec, .bool ed], .int .u16 x, .int .i64 code]) ∧ Ag B W' S' ⟨e0, e1, e2, e3, e4, ea, en, ec, ed⟩ ∧ Below w7.heap.size w7 W') := hide (by rw [← hsz]; refine (D7 w7 A7 hB7).mono ?_; rintro e W' ⟨⟨e0, e1, e2, e3, e4, ea, en, ec, ed⟩, g1, g2, g3⟩; exact ⟨e0, e1, e2, e3, e4, ea, en, ec, ed, g1, g2, g3⟩)
            clear hsz
            have HX7 := hide X7
            have HO7 := hide O7
            have HL7 := hide L7
            have HH7 := hide H7
            have HN7 := hide N7
            clear X7 O7 L7 H7 C7 N7 A7 D7 hB7
            go_upto_region 16 with (go_at_call 13; refine K13.out.mono ?_; rintro e w8 ⟨e0, e1, e2, e3, e4, ea, en, ec, ed, rfl, A8, B8⟩; have HJ8 : Hid (Jn B B gm q wa w8 S' ⟨e0, e1, e2, e3, e4, ea, en, ec, ed⟩ ⟨y0, y1, y2, y3, y4, ya, yn, yc, yd⟩ #[.int .i64 1, .int .u16 sn, .slice av dl.length cv]) := hide (Jn.doc (S := S') (D := ⟨e0, e1, e2, e3, e4, ea, en, ec, ed⟩) HH7.out HX7.out HO7.out HG.out HL7.out HeB.out A8 B8); clear A8 B8; have n0 := (cells_at HJ8.out.box 0).1; have f0 := (cells_at HJ8.out.box 0).2; have n1 := (cells_at HJ8.out.box 1).1; have f1 := (cells_at HJ8.out.box 1).2; have n2 := (cells_at HJ8.out.box 2).1; have f2 := (cells_at HJ8.out.box 2).2; have n3 := (cells_at HJ8.out.box 3).1; have f3 := (cells_at HJ8.out.box 3).2; have n4 := (cells_at HJ8.out.box 4).1; have f4 := (cells_at HJ8.out.box 4).2; have n5 := (cells_at HJ8.out.box 5).1; have f5 := (cells_at HJ8.out.box 5).2; have n6 := (cells_at HJ8.out.box 6).1; have f6 := (cells_at HJ8.out.box 6).2; simp [Dc.cells] at n0 n1 n2 n3 n4 n5 n6)
            have HJ9 : Hid (Jn B B gm q wa (((((((w8.setCell ⟨gm, 0, none⟩ (.int .i64 e0)).setCell ⟨gm, 1, none⟩ (.int .i64 e1)).setCell ⟨gm, 2, none⟩ (.int .i64 e2)).setCell ⟨gm, 3, none⟩ (.int .u16 e3)).setCell ⟨gm, 4, none⟩ (.int .i64 e4)).setCell ⟨gm, 5, none⟩ (.slice ea en ec)).setCell ⟨gm, 6, none⟩ (.bool ed)) S' ⟨e0, e1, e2, e3, e4, ea, en, ec, ed⟩ ⟨e0, e1, e2, e3, e4, ea, en, ec, ed⟩ #[.int .i64 1, .int .u16 sn, .slice av dl.length cv] ∧ ∀ (k : Nat) (cur : Array Value) (t : TypeId), t ≠ 33 → w8.heap[k]? = some (Obj.cells cur t) → (((((((w8.setCell ⟨gm, 0, none⟩ (.int .i64 e0)).setCell ⟨gm, 1, none⟩ (.int .i64 e1)).setCell ⟨gm, 2, none⟩ (.int .i64 e2)).setCell ⟨gm, 3, none⟩ (.int .u16 e3)).setCell ⟨gm, 4, none⟩ (.int .i64 e4)).setCell ⟨gm, 5, none⟩ (.slice ea en ec)).setCell ⟨gm, 6, none⟩ (.bool ed)).heap[k]? = w8.heap[k]?) := hide HJ8.out.store
            generalize (((((((w8.setCell ⟨gm, 0, none⟩ (.int .i64 e0)).setCell ⟨gm, 1, none⟩ (.int .i64 e1)).setCell ⟨gm, 2, none⟩ (.int .i64 e2)).setCell ⟨gm, 3, none⟩ (.int .u16 e3)).setCell ⟨gm, 4, none⟩ (.int .i64 e4)).setCell ⟨gm, 5, none⟩ (.slice ea en ec)).setCell ⟨gm, 6, none⟩ (.bool ed)) = W9 at *
            clear m0 m1 m2 m3 m4 m5 m6 n0 n1 n2 n3 n4 n5 n6 f0 f1 f2 f3 f4 f5 f6 c1 c2
            clear cvt
            have HE : Hid (S'.dead = false → S'.count ≤ (k : Int) + 1) := hide (fun h => by have h1 := HN7.out h; have h2 := Hcn.out h1.1; omega)
            go_wp2_with fail
            go_meet
            exact ⟨S', ⟨e0, e1, e2, e3, e4, ea, en, ec, ed⟩, hide HJ9.out.1, HE⟩
          · by_cases k2 : kd = 2
            · subst k2
              have K14 := hide (ptick_any HJ1.out.snd HJ1.out.ag Hc1.out)
              go_upto_region 21 with (go_at_call 14; refine K14.out.mono ?_; rintro e w7 ⟨S', v, code, rfl, H7, C7, N7, D7⟩)
              obtain ⟨A7, X7, O7, L7⟩ := HJ1.out.chg H7 C7
              have hB7 : B ≤ w7.heap.size := by rw [← HeB.out]; exact L7.size
              clear c0 c1 c2
              have m0 := (cells_at X7 0).1
              have m1 := (cells_at X7 1).1
              have m2 := (cells_at X7 2).1
              have m3 := (cells_at X7 3).1
              have m4 := (cells_at X7 4).1
              have m5 := (cells_at X7 5).1
              have m6 := (cells_at X7 6).1
              simp [Dc.cells] at m0 m1 m2 m3 m4 m5 m6
              have c1 := (cells_at O7 1).1
              have c2 := (cells_at O7 2).1
              simp at c1 c2
              have K15 : Hid (Calls Try.prog 15 #[.agg #[.int .i64 y0, .int .i64 y1, .int .i64 y2, .int .u16 y3, .int .i64 y4, .slice ya yn yc, .bool yd]] w7 fun e W' => ∃ (e0 e1 e2 e3 e4 : Int) (ea : Option Addr) (en ec : Nat) (ed : Bool) (vw : Value), e = .returned (.tuple #[.agg #[.int .i64 e0, .int .i64 e1, .int .i64 e2, .int .u16 e3, .int .i64 e4, .slice ea en ec, .bool ed], vw, .int .i64 code]) ∧ Ag B W' S' ⟨e0, e1, e2, e3, e4, ea, en, ec, ed⟩ ∧ Below w7.heap.size w7 W' ∧ Hid (∀ W2, (∀ (k : Nat) (cur : Array Value) (t : TypeId), t ≠ 33 → W'.heap[k]? = some (Obj.cells cur t) → W2.heap[k]? = W'.heap[k]?) → Calls Try.prog 16 #[v, .agg #[.int .i64 e0, .int .i64 e1, .int .i64 e2, .int .u16 e3, .int .i64 e4, .slice ea en ec, .bool ed], vw] W2 fun e W3 => e = .returned (.bool true) ∧ Below W2.heap.size W2 W3)) := hide (by refine (D7 w7 A7 hB7 (Below.refl _ _)).mono ?_; rintro e W' ⟨⟨e0, e1, e2, e3, e4, ea, en, ec, ed⟩, vw, g1, g2, g3, g4⟩; exact ⟨e0, e1, e2, e3, e4, ea, en, ec, ed, vw, g1, g2, g3, g4⟩)
              have HX7 := hide X7
              have HO7 := hide O7
              have HL7 := hide L7
              have HH7 := hide H7
              have HN7 := hide N7
              clear X7 O7 L7 H7 C7 N7 A7 D7 hB7
              go_upto_region 22 with (go_at_call 15; refine K15.out.mono ?_; rintro e w8 ⟨e0, e1, e2, e3, e4, ea, en, ec, ed, vw, rfl, A8, B8, K16⟩; have HJ8 : Hid (Jn B B gm q wa w8 S' ⟨e0, e1, e2, e3, e4, ea, en, ec, ed⟩ ⟨y0, y1, y2, y3, y4, ya, yn, yc, yd⟩ #[.int .i64 2, .int .u16 sn, .slice av dl.length cv]) := hide (Jn.doc (S := S') (D := ⟨e0, e1, e2, e3, e4, ea, en, ec, ed⟩) HH7.out HX7.out HO7.out HG.out HL7.out HeB.out A8 B8); clear A8 B8; have n0 := (cells_at HJ8.out.box 0).1; have f0 := (cells_at HJ8.out.box 0).2; have n1 := (cells_at HJ8.out.box 1).1; have f1 := (cells_at HJ8.out.box 1).2; have n2 := (cells_at HJ8.out.box 2).1; have f2 := (cells_at HJ8.out.box 2).2; have n3 := (cells_at HJ8.out.box 3).1; have f3 := (cells_at HJ8.out.box 3).2; have n4 := (cells_at HJ8.out.box 4).1; have f4 := (cells_at HJ8.out.box 4).2; have n5 := (cells_at HJ8.out.box 5).1; have f5 := (cells_at HJ8.out.box 5).2; have n6 := (cells_at HJ8.out.box 6).1; have f6 := (cells_at HJ8.out.box 6).2; simp [Dc.cells] at n0 n1 n2 n3 n4 n5 n6)
              have HJ9 : Hid (Jn B B gm q wa (((((((w8.setCell ⟨gm, 0, none⟩ (.int .i64 e0)).setCell ⟨gm, 1, none⟩ (.int .i64 e1)).setCell ⟨gm, 2, none⟩ (.int .i64 e2)).setCell ⟨gm, 3, none⟩ (.int .u16 e3)).setCell ⟨gm, 4, none⟩ (.int .i64 e4)).setCell ⟨gm, 5, none⟩ (.slice ea en ec)).setCell ⟨gm, 6, none⟩ (.bool ed)) S' ⟨e0, e1, e2, e3, e4, ea, en, ec, ed⟩ ⟨e0, e1, e2, e3, e4, ea, en, ec, ed⟩ #[.int .i64 2, .int .u16 sn, .slice av dl.length cv] ∧ ∀ (k : Nat) (cur : Array Value) (t : TypeId), t ≠ 33 → w8.heap[k]? = some (Obj.cells cur t) → (((((((w8.setCell ⟨gm, 0, none⟩ (.int .i64 e0)).setCell ⟨gm, 1, none⟩ (.int .i64 e1)).setCell ⟨gm, 2, none⟩ (.int .i64 e2)).setCell ⟨gm, 3, none⟩ (.int .u16 e3)).setCell ⟨gm, 4, none⟩ (.int .i64 e4)).setCell ⟨gm, 5, none⟩ (.slice ea en ec)).setCell ⟨gm, 6, none⟩ (.bool ed)).heap[k]? = w8.heap[k]?) := hide HJ8.out.store
              generalize (((((((w8.setCell ⟨gm, 0, none⟩ (.int .i64 e0)).setCell ⟨gm, 1, none⟩ (.int .i64 e1)).setCell ⟨gm, 2, none⟩ (.int .i64 e2)).setCell ⟨gm, 3, none⟩ (.int .u16 e3)).setCell ⟨gm, 4, none⟩ (.int .i64 e4)).setCell ⟨gm, 5, none⟩ (.slice ea en ec)).setCell ⟨gm, 6, none⟩ (.bool ed)) = W9 at *
              clear m0 m1 m2 m3 m4 m5 m6 n0 n1 n2 n3 n4 n5 n6 f0 f1 f2 f3 f4 f5 f6 c1 c2
              have HE : Hid (S'.dead = false → S'.count ≤ (k : Int) + 1) := hide (fun h => by have h1 := HN7.out h; have h2 := Hcn.out h1.1; omega)
              have m0 := (cells_at HJ9.out.1.box 0).1
              have m1 := (cells_at HJ9.out.1.box 1).1
              have m2 := (cells_at HJ9.out.1.box 2).1
              have m3 := (cells_at HJ9.out.1.box 3).1
              have m4 := (cells_at HJ9.out.1.box 4).1
              have m5 := (cells_at HJ9.out.1.box 5).1
              have m6 := (cells_at HJ9.out.1.box 6).1
              simp [Dc.cells] at m0 m1 m2 m3 m4 m5 m6
              have K16' := hide (K16.out W9 HJ9.out.2)
              go_wp2_with (go_at_call 16; refine K16'.out.mono ?_; rintro e w10 ⟨rfl, B10⟩; have HJ10 := hide (HJ9.out.1.keep B10); clear B10)
              go_meet
              exact ⟨S', ⟨e0, e1, e2, e3, e4, ea, en, ec, ed⟩, HJ10, HE⟩
            · by_cases k3 : kd = 3
              · subst k3
                have K17 := hide (pack_any HJ1.out.snd HJ1.out.ag Hc1.out sn)
                go_upto_region 26 with (go_at_call 17; refine K17.out.mono ?_; rintro e w7 ⟨S', code, rfl, H7, C7, N7, D7⟩)
                obtain ⟨A7, X7, O7, L7⟩ := HJ1.out.chg H7 C7
                have hB7 : B ≤ w7.heap.size := by rw [← HeB.out]; exact L7.size
                clear c0 c1 c2
                have m0 := (cells_at X7 0).1
                have m1 := (cells_at X7 1).1
                have m2 := (cells_at X7 2).1
                have m3 := (cells_at X7 3).1
                have m4 := (cells_at X7 4).1
                have m5 := (cells_at X7 5).1
                have m6 := (cells_at X7 6).1
                simp [Dc.cells] at m0 m1 m2 m3 m4 m5 m6
                have c1 := (cells_at O7 1).1
                have c2 := (cells_at O7 2).1
                simp at c1 c2
                have K18 : Hid (Calls Try.prog 18 #[.agg #[.int .i64 y0, .int .i64 y1, .int .i64 y2, .int .u16 y3, .int .i64 y4, .slice ya yn yc, .bool yd], .int .u16 sn] w7 fun e W' => ∃ (e0 e1 e2 e3 e4 : Int) (ea : Option Addr) (en ec : Nat) (ed : Bool), e = .returned (.tuple #[.agg #[.int .i64 e0, .int .i64 e1, .int .i64 e2, .int .u16 e3, .int .i64 e4, .slice ea en ec, .bool ed], .int .i64 code]) ∧ Ag B W' S' ⟨e0, e1, e2, e3, e4, ea, en, ec, ed⟩ ∧ Below w7.heap.size w7 W') := hide (by refine (D7 w7 A7 hB7).mono ?_; rintro e W' ⟨⟨e0, e1, e2, e3, e4, ea, en, ec, ed⟩, g1, g2, g3⟩; exact ⟨e0, e1, e2, e3, e4, ea, en, ec, ed, g1, g2, g3⟩)
                have HX7 := hide X7
                have HO7 := hide O7
                have HL7 := hide L7
                have HH7 := hide H7
                have HN7 := hide N7
                clear X7 O7 L7 H7 C7 N7 A7 D7 hB7
                go_upto_region 27 with (go_at_call 18; refine K18.out.mono ?_; rintro e w8 ⟨e0, e1, e2, e3, e4, ea, en, ec, ed, rfl, A8, B8⟩; have HJ8 : Hid (Jn B B gm q wa w8 S' ⟨e0, e1, e2, e3, e4, ea, en, ec, ed⟩ ⟨y0, y1, y2, y3, y4, ya, yn, yc, yd⟩ #[.int .i64 3, .int .u16 sn, .slice av dl.length cv]) := hide (Jn.doc (S := S') (D := ⟨e0, e1, e2, e3, e4, ea, en, ec, ed⟩) HH7.out HX7.out HO7.out HG.out HL7.out HeB.out A8 B8); clear A8 B8; have n0 := (cells_at HJ8.out.box 0).1; have f0 := (cells_at HJ8.out.box 0).2; have n1 := (cells_at HJ8.out.box 1).1; have f1 := (cells_at HJ8.out.box 1).2; have n2 := (cells_at HJ8.out.box 2).1; have f2 := (cells_at HJ8.out.box 2).2; have n3 := (cells_at HJ8.out.box 3).1; have f3 := (cells_at HJ8.out.box 3).2; have n4 := (cells_at HJ8.out.box 4).1; have f4 := (cells_at HJ8.out.box 4).2; have n5 := (cells_at HJ8.out.box 5).1; have f5 := (cells_at HJ8.out.box 5).2; have n6 := (cells_at HJ8.out.box 6).1; have f6 := (cells_at HJ8.out.box 6).2; simp [Dc.cells] at n0 n1 n2 n3 n4 n5 n6)
                have HJ9 : Hid (Jn B B gm q wa (((((((w8.setCell ⟨gm, 0, none⟩ (.int .i64 e0)).setCell ⟨gm, 1, none⟩ (.int .i64 e1)).setCell ⟨gm, 2, none⟩ (.int .i64 e2)).setCell ⟨gm, 3, none⟩ (.int .u16 e3)).setCell ⟨gm, 4, none⟩ (.int .i64 e4)).setCell ⟨gm, 5, none⟩ (.slice ea en ec)).setCell ⟨gm, 6, none⟩ (.bool ed)) S' ⟨e0, e1, e2, e3, e4, ea, en, ec, ed⟩ ⟨e0, e1, e2, e3, e4, ea, en, ec, ed⟩ #[.int .i64 3, .int .u16 sn, .slice av dl.length cv] ∧ ∀ (k : Nat) (cur : Array Value) (t : TypeId), t ≠ 33 → w8.heap[k]? = some (Obj.cells cur t) → (((((((w8.setCell ⟨gm, 0, none⟩ (.int .i64 e0)).setCell ⟨gm, 1, none⟩ (.int .i64 e1)).setCell ⟨gm, 2, none⟩ (.int .i64 e2)).setCell ⟨gm, 3, none⟩ (.int .u16 e3)).setCell ⟨gm, 4, none⟩ (.int .i64 e4)).setCell ⟨gm, 5, none⟩ (.slice ea en ec)).setCell ⟨gm, 6, none⟩ (.bool ed)).heap[k]? = w8.heap[k]?) := hide HJ8.out.store
                generalize (((((((w8.setCell ⟨gm, 0, none⟩ (.int .i64 e0)).setCell ⟨gm, 1, none⟩ (.int .i64 e1)).setCell ⟨gm, 2, none⟩ (.int .i64 e2)).setCell ⟨gm, 3, none⟩ (.int .u16 e3)).setCell ⟨gm, 4, none⟩ (.int .i64 e4)).setCell ⟨gm, 5, none⟩ (.slice ea en ec)).setCell ⟨gm, 6, none⟩ (.bool ed)) = W9 at *
                clear m0 m1 m2 m3 m4 m5 m6 n0 n1 n2 n3 n4 n5 n6 f0 f1 f2 f3 f4 f5 f6 c1 c2
                have HE : Hid (S'.dead = false → S'.count ≤ (k : Int) + 1) := hide (fun h => by have h1 := HN7.out h; have h2 := Hcn.out h1.1; omega)
                go_wp2_with fail
                go_meet
                exact ⟨S', ⟨e0, e1, e2, e3, e4, ea, en, ec, ed⟩, hide HJ9.out.1, HE⟩
              · by_cases k4 : kd = 4
                · subst k4
                  have K19 := hide (pto_any HJ1.out.snd HJ1.out.ag Hc1.out sn Hsn.out.1 Hsn.out.2)
                  go_upto_region 32 with (go_at_call 19; refine K19.out.mono ?_; rintro e w7 ⟨S', m, code, rfl, H7, C7, N7, D7⟩)
                  obtain ⟨A7, X7, O7, L7⟩ := HJ1.out.chg H7 C7
                  have hB7 : B ≤ w7.heap.size := by rw [← HeB.out]; exact L7.size
                  clear c0 c1 c2
                  have m0 := (cells_at X7 0).1
                  have m1 := (cells_at X7 1).1
                  have m2 := (cells_at X7 2).1
                  have m3 := (cells_at X7 3).1
                  have m4 := (cells_at X7 4).1
                  have m5 := (cells_at X7 5).1
                  have m6 := (cells_at X7 6).1
                  simp [Dc.cells] at m0 m1 m2 m3 m4 m5 m6
                  have c1 := (cells_at O7 1).1
                  have c2 := (cells_at O7 2).1
                  simp at c1 c2
                  have K20 : Hid (Calls Try.prog 20 #[.agg #[.int .i64 y0, .int .i64 y1, .int .i64 y2, .int .u16 y3, .int .i64 y4, .slice ya yn yc, .bool yd], .int .u16 sn] w7 fun e W' => ∃ (e0 e1 e2 e3 e4 : Int) (ea : Option Addr) (en ec : Nat) (ed : Bool), e = .returned (.tuple #[.agg #[.int .i64 e0, .int .i64 e1, .int .i64 e2, .int .u16 e3, .int .i64 e4, .slice ea en ec, .bool ed], .int .i64 m, .int .i64 code]) ∧ Ag B W' S' ⟨e0, e1, e2, e3, e4, ea, en, ec, ed⟩ ∧ Below w7.heap.size w7 W') := hide (by refine (D7 w7 A7 hB7).mono ?_; rintro e W' ⟨⟨e0, e1, e2, e3, e4, ea, en, ec, ed⟩, g1, g2, g3⟩; exact ⟨e0, e1, e2, e3, e4, ea, en, ec, ed, g1, g2, g3⟩)
                  have HX7 := hide X7
                  have HO7 := hide O7
                  have HL7 := hide L7
                  have HH7 := hide H7
                  have HN7 := hide N7
                  clear X7 O7 L7 H7 C7 N7 A7 D7 hB7
                  go_upto_region 33 with (go_at_call 20; refine K20.out.mono ?_; rintro e w8 ⟨e0, e1, e2, e3, e4, ea, en, ec, ed, rfl, A8, B8⟩; have HJ8 : Hid (Jn B B gm q wa w8 S' ⟨e0, e1, e2, e3, e4, ea, en, ec, ed⟩ ⟨y0, y1, y2, y3, y4, ya, yn, yc, yd⟩ #[.int .i64 4, .int .u16 sn, .slice av dl.length cv]) := hide (Jn.doc (S := S') (D := ⟨e0, e1, e2, e3, e4, ea, en, ec, ed⟩) HH7.out HX7.out HO7.out HG.out HL7.out HeB.out A8 B8); clear A8 B8; have n0 := (cells_at HJ8.out.box 0).1; have f0 := (cells_at HJ8.out.box 0).2; have n1 := (cells_at HJ8.out.box 1).1; have f1 := (cells_at HJ8.out.box 1).2; have n2 := (cells_at HJ8.out.box 2).1; have f2 := (cells_at HJ8.out.box 2).2; have n3 := (cells_at HJ8.out.box 3).1; have f3 := (cells_at HJ8.out.box 3).2; have n4 := (cells_at HJ8.out.box 4).1; have f4 := (cells_at HJ8.out.box 4).2; have n5 := (cells_at HJ8.out.box 5).1; have f5 := (cells_at HJ8.out.box 5).2; have n6 := (cells_at HJ8.out.box 6).1; have f6 := (cells_at HJ8.out.box 6).2; simp [Dc.cells] at n0 n1 n2 n3 n4 n5 n6)
                  have HJ9 : Hid (Jn B B gm q wa (((((((w8.setCell ⟨gm, 0, none⟩ (.int .i64 e0)).setCell ⟨gm, 1, none⟩ (.int .i64 e1)).setCell ⟨gm, 2, none⟩ (.int .i64 e2)).setCell ⟨gm, 3, none⟩ (.int .u16 e3)).setCell ⟨gm, 4, none⟩ (.int .i64 e4)).setCell ⟨gm, 5, none⟩ (.slice ea en ec)).setCell ⟨gm, 6, none⟩ (.bool ed)) S' ⟨e0, e1, e2, e3, e4, ea, en, ec, ed⟩ ⟨e0, e1, e2, e3, e4, ea, en, ec, ed⟩ #[.int .i64 4, .int .u16 sn, .slice av dl.length cv] ∧ ∀ (k : Nat) (cur : Array Value) (t : TypeId), t ≠ 33 → w8.heap[k]? = some (Obj.cells cur t) → (((((((w8.setCell ⟨gm, 0, none⟩ (.int .i64 e0)).setCell ⟨gm, 1, none⟩ (.int .i64 e1)).setCell ⟨gm, 2, none⟩ (.int .i64 e2)).setCell ⟨gm, 3, none⟩ (.int .u16 e3)).setCell ⟨gm, 4, none⟩ (.int .i64 e4)).setCell ⟨gm, 5, none⟩ (.slice ea en ec)).setCell ⟨gm, 6, none⟩ (.bool ed)).heap[k]? = w8.heap[k]?) := hide HJ8.out.store
                  generalize (((((((w8.setCell ⟨gm, 0, none⟩ (.int .i64 e0)).setCell ⟨gm, 1, none⟩ (.int .i64 e1)).setCell ⟨gm, 2, none⟩ (.int .i64 e2)).setCell ⟨gm, 3, none⟩ (.int .u16 e3)).setCell ⟨gm, 4, none⟩ (.int .i64 e4)).setCell ⟨gm, 5, none⟩ (.slice ea en ec)).setCell ⟨gm, 6, none⟩ (.bool ed)) = W9 at *
                  clear m0 m1 m2 m3 m4 m5 m6 n0 n1 n2 n3 n4 n5 n6 f0 f1 f2 f3 f4 f5 f6 c1 c2
                  have HE : Hid (S'.dead = false → S'.count ≤ (k : Int) + 1) := hide (fun h => by have h1 := HN7.out h; have h2 := Hcn.out h1.1; omega)
                  go_wp2_with fail
                  go_meet
                  exact ⟨S', ⟨e0, e1, e2, e3, e4, ea, en, ec, ed⟩, hide HJ9.out.1, HE⟩
                · have HE : Hid (S.dead = false → S.count ≤ (k : Int) + 1) := hide (fun h => by have := Hcn.out h; omega)
                  go_wp2_with fail
                  go_meet
                  exact ⟨S, _, HJ1, HE⟩
        case rest =>
        obtain ⟨S', ⟨y0', y1', y2', y3', y4', ya', yn', yc', yd'⟩, HJ2, Hc2⟩ := hcut
        clear HJ1 Hcn Hc1
        have HJr := HJ2
        obtain ⟨SS, hSS⟩ : ∃ SS : World → Prop, SS = fun W' => Below wc.heap.size wc W' := ⟨_, rfl⟩
        have FS : Hid (∀ W', Below wc.heap.size wc W' → SS W') := hide (fun W' h => by rw [hSS]; exact h)
        have SF : Hid (∀ W', SS W' → Below wc.heap.size wc W') := hide (fun W' h => by rw [hSS] at h; exact h)
        clear hSS
        have sc : Hid (∀ W', SS W' → W'.heap[gm]? = some (.cells #[.int .i64 y0', .int .i64 y1', .int .i64 y2', .int .u16 y3', .int .i64 y4', .slice ya' yn' yc', .bool yd'] 33)) := hide (fun W' h => (HJ2.out.keep (SF.out _ h)).box)
        have sc0 : ∀ W', SS W' → W'.cell? ⟨gm, 0, none⟩ = some (.int .i64 y0') := fun W' h => (cells_at (sc.out W' h) 0).1
        have sc1 : ∀ W', SS W' → W'.cell? ⟨gm, 1, none⟩ = some (.int .i64 y1') := fun W' h => (cells_at (sc.out W' h) 1).1
        have sc2 : ∀ W', SS W' → W'.cell? ⟨gm, 2, none⟩ = some (.int .i64 y2') := fun W' h => (cells_at (sc.out W' h) 2).1
        have sc3 : ∀ W', SS W' → W'.cell? ⟨gm, 3, none⟩ = some (.int .u16 y3') := fun W' h => (cells_at (sc.out W' h) 3).1
        have sc4 : ∀ W', SS W' → W'.cell? ⟨gm, 4, none⟩ = some (.int .i64 y4') := fun W' h => (cells_at (sc.out W' h) 4).1
        have sc5 : ∀ W', SS W' → W'.cell? ⟨gm, 5, none⟩ = some (.slice ya' yn' yc') := fun W' h => (cells_at (sc.out W' h) 5).1
        have sc6 : ∀ W', SS W' → W'.cell? ⟨gm, 6, none⟩ = some (.bool yd') := fun W' h => (cells_at (sc.out W' h) 6).1
        have Hyd : Hid (yd' = S'.dead) := hide HJ2.out.ag.dead
        have K21 : Hid (∀ W', SS W' → Calls Try.prog 21 #[.pointer (some ⟨B, 0, none⟩)] W' fun e w' => e = .returned (.bool yd') ∧ w' = W') := hide (fun W' h => by rw [Hyd.out]; exact dead_any (HJ2.out.snd.keep (SF.out _ h)))
        have hS0 := FS.out _ (Below.refl _ wc).drew
        go_upto_region 35 with fail
        cases yd' with
        | true =>
          refine wp_region_held_drew (S := SS) (by kernel_rfl) hS0 (fun hS0 => ?_)
          generalize wc.drew = wD at *
          refine wpAnyH_take (i := 0) (v := .pointer (some ⟨B, 0, none⟩)) rfl (by kernel_rfl) (by kernel_rfl) (by kernel_rfl) (fun _ _ _ h => h) (Or.inl ⟨by rfl, fun W' hW => by go_simp⟩) hS0 ?_
          refine wpAnyH_take (i := 2) (v := .pointer (some ⟨gm, 6, none⟩)) rfl (by kernel_rfl) (by kernel_rfl) (by kernel_rfl) (fun _ _ _ h => h) (Or.inl ⟨by rfl, fun W' hW => by go_simp⟩) hS0 ?_
          refine wpAnyH_take (i := 3) (v := .bool true) rfl (by kernel_rfl) (by kernel_rfl) (by kernel_rfl) (fun _ _ _ h => h) (Or.inl ⟨by rfl, fun W' hW => by have x6 := sc6 W' hW; go_simp⟩) hS0 ?_
          refine wpAnyH_ready (rs := [1]) (by kernel_rfl) (by simp) ?_
          refine AllReadyH.cons rfl (fun K hK => ?_) AllReadyH.nil
          go_simp
          refine (K21.out _ hS0).mono ?_
          rintro e w10 ⟨rfl, rfl⟩
          refine hK.out _ _ (hS0) (fun _ => ?_)
          clear hK K
          have x6 := sc6 _ hS0
          refine wpAnyH_ready (rs := [4]) (by kernel_rfl) (by simp) ?_
          refine AllReadyH.cons rfl (fun K hK => ?_) AllReadyH.nil
          go_simp
          refine hK.out _ _ (hS0) (fun _ => ?_)
          clear hK K
          refine wpAnyH_ready (rs := [5]) (by kernel_rfl) (by simp) ?_
          refine AllReadyH.cons rfl (fun K hK => ?_) AllReadyH.nil
          go_simp
          refine hK.out _ _ (hS0) (fun _ => ?_)
          clear hK K
          refine wpAnyH_ready (rs := [6]) (by kernel_rfl) (by simp) ?_
          refine AllReadyH.cons rfl (fun K hK => ?_) AllReadyH.nil
          go_simp
          refine hK.out _ _ (hS0) (fun _ => ?_)
          clear hK K
          refine wpAnyH_ready (rs := [7]) (by kernel_rfl) (by simp) ?_
          refine AllReadyH.cons rfl (fun K hK => ?_) AllReadyH.nil
          go_simp
          refine hK.out _ _ (hS0) (fun _ => ?_)
          clear hK K
          refine wpAnyH_ready (rs := [8]) (by kernel_rfl) (by simp) ?_
          refine AllReadyH.cons rfl (fun K hK => ?_) AllReadyH.nil
          go_simp
          refine hK.out _ _ (hS0) (fun _ => ?_)
          clear hK K
          refine wpAnyH_ready (rs := [9]) (by kernel_rfl) (by simp) ?_
          refine AllReadyH.cons rfl (fun K hK => ?_) AllReadyH.nil
          go_simp
          refine hK.out _ _ (hS0) (fun _ => ?_)
          clear hK K
          refine wpAnyH_take (i := 10) (v := undef) rfl (by kernel_rfl) (by kernel_rfl) (by kernel_rfl) (fun _ _ _ h => h) (Or.inr ⟨by kernel_rfl, rfl⟩) hS0 ?_
          refine wpAnyH_take (i := 11) (v := undef) rfl (by kernel_rfl) (by kernel_rfl) (by kernel_rfl) (fun _ _ _ h => h) (Or.inr ⟨by kernel_rfl, rfl⟩) hS0 ?_
          refine wpAnyH_take (i := 12) (v := undef) rfl (by kernel_rfl) (by kernel_rfl) (by kernel_rfl) (fun _ _ _ h => h) (Or.inr ⟨by kernel_rfl, rfl⟩) hS0 ?_
          refine wpAnyH_take (i := 13) (v := undef) rfl (by kernel_rfl) (by kernel_rfl) (by kernel_rfl) (fun _ _ _ h => h) (Or.inr ⟨by kernel_rfl, rfl⟩) hS0 ?_
          refine wpAnyH_take (i := 14) (v := undef) rfl (by kernel_rfl) (by kernel_rfl) (by kernel_rfl) (fun _ _ _ h => h) (Or.inr ⟨by kernel_rfl, rfl⟩) hS0 ?_
          refine wpAnyH_take (i := 15) (v := undef) rfl (by kernel_rfl) (by kernel_rfl) (by kernel_rfl) (fun _ _ _ h => h) (Or.inr ⟨by kernel_rfl, rfl⟩) hS0 ?_
          refine wpAnyH_ready (rs := [16]) (by kernel_rfl) (by simp) ?_
          refine AllReadyH.cons rfl (fun K hK => ?_) AllReadyH.nil
          go_simp
          refine hK.out _ _ (hS0) (fun _ => ?_)
          clear hK K
          refine wpAnyH_ready (rs := [17]) (by kernel_rfl) (by simp) ?_
          refine AllReadyH.cons rfl (fun K hK => ?_) AllReadyH.nil
          go_simp
          refine hK.out _ _ (hS0) (fun _ => ?_)
          clear hK K
          refine wpAnyH_done (by kernel_rfl) ?_ _
          have HJ3 := hide (HJ2.out.keep (SF.out _ hS0))
          go_wp2_with fail
          go_roundw
          case rel => exact ⟨k + 1, S', y0', y1', y2', y3', y4', ya', yn', yc', true, by omega, by go_num, hide ⟨HJ3.out.snd, HJ3.out.ag, HJ3.out.box, HJ3.out.bel, Hc2.out⟩⟩
          case measure => simp [intOf]; omega
        | false =>
          refine wp_region_held_drew (S := SS) (by kernel_rfl) hS0 (fun hS0 => ?_)
          generalize wc.drew = wD at *
          refine wpAnyH_take (i := 0) (v := .pointer (some ⟨B, 0, none⟩)) rfl (by kernel_rfl) (by kernel_rfl) (by kernel_rfl) (fun _ _ _ h => h) (Or.inl ⟨by rfl, fun W' hW => by go_simp⟩) hS0 ?_
          refine wpAnyH_take (i := 2) (v := .pointer (some ⟨gm, 6, none⟩)) rfl (by kernel_rfl) (by kernel_rfl) (by kernel_rfl) (fun _ _ _ h => h) (Or.inl ⟨by rfl, fun W' hW => by go_simp⟩) hS0 ?_
          refine wpAnyH_take (i := 3) (v := .bool false) rfl (by kernel_rfl) (by kernel_rfl) (by kernel_rfl) (fun _ _ _ h => h) (Or.inl ⟨by rfl, fun W' hW => by have x6 := sc6 W' hW; go_simp⟩) hS0 ?_
          refine wpAnyH_ready (rs := [1]) (by kernel_rfl) (by simp) ?_
          refine AllReadyH.cons rfl (fun K hK => ?_) AllReadyH.nil
          go_simp
          refine (K21.out _ hS0).mono ?_
          rintro e w10 ⟨rfl, rfl⟩
          refine hK.out _ _ (hS0) (fun _ => ?_)
          clear hK K
          have x6 := sc6 _ hS0
          refine wpAnyH_ready (rs := [4]) (by kernel_rfl) (by simp) ?_
          refine AllReadyH.cons rfl (fun K hK => ?_) AllReadyH.nil
          go_simp
          refine hK.out _ _ (hS0) (fun _ => ?_)
          clear hK K
          refine wpAnyH_ready (rs := [5]) (by kernel_rfl) (by simp) ?_
          refine AllReadyH.cons rfl (fun K hK => ?_) AllReadyH.nil
          go_simp
          refine hK.out _ _ (hS0) (fun _ => ?_)
          clear hK K
          refine wpAnyH_ready (rs := [6]) (by kernel_rfl) (by simp) ?_
          refine AllReadyH.cons rfl (fun K hK => ?_) AllReadyH.nil
          go_simp
          refine hK.out _ _ (hS0) (fun _ => ?_)
          clear hK K
          refine wpAnyH_ready (rs := [7]) (by kernel_rfl) (by simp) ?_
          refine AllReadyH.cons rfl (fun K hK => ?_) AllReadyH.nil
          go_simp
          refine hK.out _ _ (hS0) (fun _ => ?_)
          clear hK K
          refine wpAnyH_ready (rs := [8]) (by kernel_rfl) (by simp) ?_
          refine AllReadyH.cons rfl (fun K hK => ?_) AllReadyH.nil
          go_simp
          refine hK.out _ _ (hS0) (fun _ => ?_)
          clear hK K
          refine wpAnyH_ready (rs := [9]) (by kernel_rfl) (by simp) ?_
          refine AllReadyH.cons rfl (fun K hK => ?_) AllReadyH.nil
          go_simp
          refine hK.out _ _ (hS0) (fun _ => ?_)
          clear hK K
          have hS'd : S'.dead = false := Hyd.out.symm
          have hL := HJ2.out.ag.liv hS'd
          have hn' : yn' = S'.ps.length := hL.n
          have hfe : y3' = S'.first := hL.fst
          have Hlen : Hid (S'.ps.length ≤ 1000) := hide (by have h1 := hL.fit.ok.len HJ2.out.snd.lim.win.1; have h2 := HJ2.out.snd.lim.win; omega)
          have K23 : Hid (∀ W', SS W' → Calls Try.prog 23 #[.pointer (some ⟨B, 0, none⟩)] W' fun e w' => ∃ v, e = .returned v ∧ u16sE.Own w' W'.heap.size v S'.nums ∧ Below W'.heap.size W' w') := hide (fun W' h => open_any (HJ2.out.snd.keep (SF.out _ h)) Hlen.out)
          have K24 : Hid (∀ W', SS W' → Calls Try.prog 24 #[.agg #[.int .i64 y0', .int .i64 y1', .int .i64 y2', .int .u16 y3', .int .i64 y4', .slice ya' yn' yc', .bool false]] W' fun e w' => ∃ v, e = .returned v ∧ u16sE.Own w' W'.heap.size v S'.nums ∧ Below W'.heap.size W' w') := hide (fun W' h => by
            have hr := (((HJ2.out.keep (SF.out _ h)).ag).liv hS'd).row.rd
            simp only at hr
            have q7 : (S'.ps.map toR).length = yn' := by rw [toR_len, hn']
            rw [← q7] at hr ⊢
            have en : (S'.ps.map toR).map (fun p => sq y3' p.n) = S'.nums := by rw [hfe, List.map_map]; rfl
            rw [← en]
            exact rnums_any y0' y1' y2' y3' y4' ya' yc' false (S'.ps.map toR) W' hr (by rw [toR_len]; exact Hlen.out) HJ2.out.ag.first (fun p hp => by
              obtain ⟨p', hp', rfl⟩ := List.mem_map.1 hp
              have h1 := hL.pos.2 p' hp'
              have h2 := hL.fit.ok.num p' hp'
              have h3 := Hc2.out hS'd
              refine ⟨h1, ?_⟩
              show p'.n ≤ 1000000
              omega))
          clear hS'd hL hn' hfe
          refine wpAnyH_take (i := 12) (v := .agg #[.int .i64 y0', .int .i64 y1', .int .i64 y2', .int .u16 y3', .int .i64 y4', .slice ya' yn' yc', .bool false]) rfl (by kernel_rfl) (by kernel_rfl) (by kernel_rfl) (fun _ _ _ h => h) (Or.inl ⟨by kernel_rfl, fun W' hW => by have x0 := sc0 W' hW; have x1 := sc1 W' hW; have x2 := sc2 W' hW; have x3 := sc3 W' hW; have x4 := sc4 W' hW; have x5 := sc5 W' hW; have x6 := sc6 W' hW; go_simp⟩) hS0 ?_
          refine wpAnyH_take (i := 10) (v := .pointer (some ⟨B, 0, none⟩)) rfl (by kernel_rfl) (by kernel_rfl) (by kernel_rfl) (fun _ _ _ h => h) (Or.inl ⟨by kernel_rfl, fun W' hW => by go_simp⟩) hS0 ?_
          refine wpAnyH_ready (rs := [11]) (by kernel_rfl) (by simp) ?_
          refine AllReadyH.cons rfl (fun K hK => ?_) AllReadyH.nil
          go_simp
          refine (K23.out _ hS0).mono ?_
          rintro e w11 ⟨v11, rfl, O11, B11⟩
          have hS1 := FS.out _ ((SF.out _ hS0).trans (B11.mono (SF.out _ hS0).size))
          refine hK.out _ _ (hS1) (fun _ => ?_)
          clear hK K
          refine wpAnyH_ready (rs := [13]) (by kernel_rfl) (by simp) ?_
          refine AllReadyH.cons rfl (fun K hK => ?_) AllReadyH.nil
          go_simp
          refine (K24.out _ hS1).mono ?_
          rintro e w12 ⟨v12, rfl, O12, B12⟩
          have hS2 := FS.out _ ((SF.out _ hS1).trans (B12.mono (SF.out _ hS1).size))
          have K22 := hide (same_eq (O11.keep B12).rd O12.rd (by unfold Sd.nums; rw [List.length_map]; have := Hlen.out; omega))
          refine hK.out _ _ (hS2) (fun _ => ?_)
          clear hK K
          refine wpAnyH_ready (rs := [14]) (by kernel_rfl) (by simp) ?_
          refine AllReadyH.cons rfl (fun K hK => ?_) AllReadyH.nil
          go_simp
          refine K22.out.mono ?_
          rintro e w13 ⟨rfl, n13, rfl⟩
          have hS3 := FS.out _ ((SF.out _ hS2).trans (show Below _ w12 (w12.drewN n13) from ⟨rfl, rfl, rfl, Nat.le_refl _, fun _ _ => rfl⟩))
          refine hK.out _ _ (hS3) (fun _ => ?_)
          clear hK K
          generalize w12.drewN n13 = w13 at *
          refine wpAnyH_ready (rs := [15]) (by kernel_rfl) (by simp) ?_
          refine AllReadyH.cons rfl (fun K hK => ?_) AllReadyH.nil
          go_simp
          refine hK.out _ _ (hS3) (fun _ => ?_)
          clear hK K
          refine wpAnyH_ready (rs := [16]) (by kernel_rfl) (by simp) ?_
          refine AllReadyH.cons rfl (fun K hK => ?_) AllReadyH.nil
          go_simp
          refine hK.out _ _ (hS3) (fun _ => ?_)
          clear hK K
          refine wpAnyH_ready (rs := [17]) (by kernel_rfl) (by simp) ?_
          refine AllReadyH.cons rfl (fun K hK => ?_) AllReadyH.nil
          go_simp
          refine hK.out _ _ (hS3) (fun _ => ?_)
          clear hK K
          refine wpAnyH_done (by kernel_rfl) ?_ _
          have HJ3 := hide (HJ2.out.keep (SF.out _ hS3))
          go_wp2_with fail
          go_roundw
          case rel => exact ⟨k + 1, S', y0', y1', y2', y3', y4', ya', yn', yc', false, by omega, by go_num, hide ⟨HJ3.out.snd, HJ3.out.ag, HJ3.out.box, HJ3.out.bel, Hc2.out⟩⟩
          case measure => simp [intOf]; omega
      · have HBf := hide (HFin.out _ HJ.out.2.2.2.1)
        by_cases hlt1 : k < len1
        · have j1 : (k : Int) < (len1 : Int) := by omega
          have j2 : ¬ (k : Int) < 200 := by omega
          go_wp2_with fail
          go_ret
          exact ⟨rfl, HBf.out⟩
        · have j1 : ¬ (k : Int) < (len1 : Int) := by omega
          go_wp2_with fail
          go_ret
          exact ⟨rfl, HBf.out⟩

set_option maxRecDepth 100000 in
theorem lifted (os : Os) (started : os.Started) (H : Type) (enc : TypeId × Value → H) :
    ReturnsInHanded {} Try.checked os 3 .any (Rows.retryPlaysSpec.pre6 enc Try.prog Try.f3 Rows.retryPlaysRow.domain false) (Rows.retryPlaysSpec.post enc Try.prog Try.f3 false true false false) := by
  refine returnsInHanded_of_change_sized (C := Try.checked) own started (by kernel_rfl) Try.func3
    (ChangeSpec.witness6 (enc := enc) (C := Try.checked) false ⟨#[], #[.agg #[.int .i64 0, .int .i64 0, .int .i64 0, .int .u16 0], .slice none 0 0], []⟩ 8 (by kernel_rfl) (by kernel_rfl) (by kernel_rfl) (by kernel_rfl)) ?_
  intro W base args ds gs before hval0 hW hcnd hsz0 _
  have hval : ∀ (j : Nat) t v, Try.f3.params[j]? = some t → args[j]? = some v → Value.okWide Try.prog W .any base t v := hval0
  have hsz : (DataW.weightsEach Try.prog (Try.f3.params.toList ++ Rows.retryPlaysSpec.plain.varTypes Try.prog) (ds ++ gs)).all (· ≤ reachBytes) = true := hsz0
  have hW' := hW
  obtain ⟨p, q, hA0, hV, rfl, hfz, hnd⟩ := hW
  have hA : DataW.TrodAll enc Try.prog W 0 (fun _ => true) true Try.f3.params.toList args.toList ds p := hA0
  rw [Try.params3] at hA hval hsz
  obtain ⟨v0, vs0, d0, ds0, p0, q0, hargs, rfl, rfl, h0, r0⟩ := trodAll_cons hA
  obtain ⟨v1, vs1, d1, ds1, p1, q1, rfl, rfl, rfl, h1, r1⟩ := trodAll_cons r0
  obtain ⟨rfl, rfl, rfl⟩ := trodAll_nil r1
  obtain rfl : args = #[v0, v1] := by cases args; simp_all
  obtain ⟨rfl, rfl⟩ := trodVars_none hV
  have k0 := h0
  have lt0 : ∀ x ∈ p0, x.block < W.heap.size := by obtain ⟨m, hm⟩ := k0; exact DataW.trod_lt m _ _ _ hm
  obtain ⟨cs0, rfl, _⟩ := okWide_struct Try.underlying24 (hval 0 24 v0 rfl rfl)
  obtain ⟨x00, x01, x02, x03, w0, e0⟩ : ∃ x0 x1 x2 x3 : Int, (0 ≤ x3 ∧ x3 ≤ 65535) ∧ cs0 = #[.int .i64 x0, .int .i64 x1, .int .i64 x2, .int .u16 x3] := by
    obtain ⟨fuel, hf⟩ := h0
    obtain ⟨x0, x1, x2, x3, hw, he⟩ := how_of_trod hf
    exact ⟨x0, x1, x2, x3, hw, by apply Array.toList_inj.1; exact he⟩
  subst e0
  obtain ⟨a1, len1, cap1, rfl⟩ := okWide_slice Try.underlying25 (hval 1 25 v1 rfl rfl)
  have k1 := h1
  have lt1 : ∀ x ∈ p1, x.block < W.heap.size := by obtain ⟨m, hm⟩ := k1; exact DataW.trod_lt m _ _ _ hm
  obtain ⟨⟨ls1, w1⟩, s1⟩ : (∃ ls, IsOps2 W a1 len1 ls) ∧ len1 ≤ maxLen := by
    obtain ⟨fuel, hf⟩ := h1
    exact ops_of_trod2 (a := a1) (len := len1) (cap := cap1) hf (by simp [Value.cells]) (fun n hn => by have := List.all_eq_true.1 hsz n (DataW.weights_mem_each (j := 1) (t := 25) (d := d1) rfl rfl n hn); simpa using this)
  clear hA0 hval0
  refine (walk x00 x01 x02 x03 a1 len1 cap1 ls1 W w0 w1 s1).mono fun e W' ⟨he, bel⟩ => ?_
  subst he
  exact ⟨_, rfl, _, _, _, [], _, [], hW', trodAll_mk1 (shut_bool Try.underlying4 _), (trodAll_cons_mk (Below.trod laidOut (by kernel_rfl) (of_decide_eq_true (by kernel_rfl)) k0 bel lt0) (trodAll_cons_mk (Below.trod laidOut (by kernel_rfl) (of_decide_eq_true (by kernel_rfl)) k1 bel lt1) trodAll_mk0)), rfl, bel.frame _, fun h => by cases h⟩

theorem over : Rows.retryPlaysRow.holds Try.pinned (OpenSpec.ofChange Rows.retryPlaysSpec) :=
  OpenClaim.holds_of_wide 3 Try.f3 rfl rfl rfl rfl rfl rfl rfl ⟨rfl, rfl, rfl, rfl, rfl⟩ rfl rfl rfl rfl rfl (by kernel_rfl) Try.func3 (by kernel_rfl)
    (of_decide_eq_true (by kernel_rfl)) (by unfold Func.isWrapper; first | (rw [if_pos (by decide +kernel)]; kernel_rfl) | (rw [if_neg (by decide +kernel)]; exact ⟨rfl, rfl⟩))
    (fun os started H enc _ => lifted os started H enc)

theorem proved : Rows.RetryPlaysSaid := over
end Go.Proofs.Yteihajppgooadaa.retryPlays
