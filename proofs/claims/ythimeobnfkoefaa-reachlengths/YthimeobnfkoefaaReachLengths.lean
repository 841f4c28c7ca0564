/- For every layout, mask and number the law ReachLengths answers true: the lengths that From and To tell are the document's, what is no node is told, layout and mask stay; no conditions. -/
import Derived.Test.YthimeobnfkoefaaArgs
namespace Go.Proofs.Ythimeobnfkoefaa.reachLengths
open Go.ChangeShapes Go.WideShapes Go.ChangeAt Go.RowKit
set_option linter.unusedVariables false

theorem own : ownKnob Try.prog.godebug = none := by kernel_rfl
theorem laidOut : laidOutB Try.prog = true := by kernel_rfl

set_option maxRecDepth 100000 in
set_option maxHeartbeats 2000000 in
theorem walk (a0 b0 : Option Addr) (c0 e0 : Nat) (ns0 : List Nd) (es0 : List Ed) (a1 : Option Addr) (len1 cap1 : Nat) (z1 : List Int) (n2 : Int) (w : World) (rn0 : ndE.Rd w (.slice a0 ns0.length c0) ns0) (re0 : edE.Rd w (.slice b0 es0.length e0) es0) (rs0 : ∀ p ∈ ns0, p.name.size ≤ maxLen) (w1 : z1.length = len1) (s1 : intE.Rd w (.slice a1 len1 cap1) z1) (h2 : -9223372036854775808 ≤ n2 ∧ n2 ≤ 9223372036854775807) :
    Calls Try.prog 3 #[.agg #[.slice a0 ns0.length c0, .slice b0 es0.length e0], .slice a1 len1 cap1, .int .i64 n2] w fun e w' => e = .returned (.bool true) ∧ Below w.heap.size w w' := by
  obtain ⟨n, hn⟩ : ∃ n, ns0.length = n := ⟨_, rfl⟩
  obtain ⟨m, hm⟩ : ∃ m, es0.length = m := ⟨_, rfl⟩
  rw [hn] at rn0 ⊢
  rw [hm] at re0 ⊢
  obtain ⟨W0, hW0⟩ : ∃ W0, w.alloc (.cells #[.slice a0 n c0, .slice b0 m e0] 25) = W0 := ⟨_, rfl⟩
  have bA : Below w.heap.size w W0 := by rw [← hW0]; exact (Below.refl _ _).alloc (Nat.le_refl _) _
  have hbox : W0.heap[w.heap.size]? = some (.cells #[.slice a0 n c0, .slice b0 m e0] 25) := by rw [← hW0]; exact heap_new _ _
  have HBOX := hide hbox
  have HA := hide bA
  have HW0 := hide hW0
  have K9 := hide awake_any
  have HR : Hid (∀ W, Below W0.heap.size W0 W → ndE.Rd W (.slice a0 n c0) ns0 ∧ edE.Rd W (.slice b0 m e0) es0 ∧ intE.Rd W (.slice a1 len1 cap1) z1) := hide (fun W h => have b := bA.trans (h.mono bA.size); ⟨rn0.keep b, re0.keep b, s1.keep b⟩)
  have K10 : Hid (∀ W, Below W0.heap.size W0 W → Calls Try.prog 10 #[.agg #[.slice a0 n c0, .slice b0 m e0], .slice a1 len1 cap1] W fun e w' => e = .returned (.bool (decide (len1 ≤ 200) && good ns0 es0)) ∧ Below W.heap.size W w') := hide (fun W h => fits_any a0 b0 a1 c0 e0 cap1 n m len1 ns0 es0 W hn hm (HR.out W h).1 (HR.out W h).2.1 rs0)
  have HG : Hid ((decide (len1 ≤ 200) && good ns0 es0) = true → (∀ W, Below W0.heap.size W0 W → Ly W a0 b0 c0 e0 n m ns0 es0 ∧ Mk W a1 cap1 len1 z1) ∧ len1 ≤ 200 ∧ n ≤ 40) := hide (fun h => by
    simp only [Bool.and_eq_true, decide_eq_true_eq] at h
    exact ⟨fun W hW => ⟨(good_ly h.2 hn hm (HR.out W hW).1 (HR.out W hW).2.1).1, w1, (HR.out W hW).2.2, by omega⟩, h.1, (good_ly h.2 hn hm (HR.out _ (Below.refl _ _)).1 (HR.out _ (Below.refl _ _)).2.1).2.2.1⟩)
  have Hw1 := hide w1
  clear rn0 re0 rs0 w1 s1 hn hm bA hbox hW0 h2
  generalize (decide (len1 ≤ 200) && good ns0 es0) = gd at *
  go_enter Try.func3, Try.ntmps3
  go_upto_region 1 with fail
  rw [HW0.out]
  clear HW0
  go_upto_region 3 with (go_at_call 9; refine (K9.out _).mono ?_; rintro e W1 ⟨rfl, hb1⟩; have Hb1 := hide hb1; obtain ⟨x0, x1⟩ := layg HBOX.out hb1; clear hb1)
  cases gd with
  | false =>
    go_wp2_with (go_at_call 10; refine (K10.out _ Hb1.out).mono ?_; rintro e W2 ⟨rfl, hb2⟩; have Hb2 := hide (Hb1.out.trans (hb2.mono Hb1.out.size)); clear hb2)
    go_ret
    exact ⟨rfl, HA.out.trans (Hb2.out.mono HA.out.size)⟩
  | true =>
    obtain ⟨hLM, hlen, hn40⟩ := HG.out rfl
    have HLM := hide hLM
    have Hlen := hide hlen
    have Hn40 := hide hn40
    have l1 : (len1 : Int) ≤ 200 := by omega
    have l2 : (n : Int) ≤ 40 := by omega
    clear hLM hlen hn40 HG HR
    go_upto_region 5 with (go_at_call 10; refine (K10.out _ Hb1.out).mono ?_; rintro e W2 ⟨rfl, hb2⟩; have Hb2 := hide (Hb1.out.trans (hb2.mono Hb1.out.size)); obtain ⟨x0, x1⟩ := layg HBOX.out Hb2.out; clear hb2)
    clear K9 K10
    go_upto_region 6 with (first
      | (go_at_call 11; refine (copy_ly (HLM.out _ Hb2.out).1).mono ?_; rintro e W3 ⟨aN, aE, cN, cE, rfl, hL3, hb3⟩
         have HL3 := hide hL3
         have Hb3 : Hid (Below W0.heap.size W0 W3) := hide (Hb2.out.trans (hb3.mono Hb2.out.size))
         have HO3 : Hid (intE.Own (W3.alloc (.cells #[] 3)) W3.heap.size (.slice (some ⟨W3.heap.size, 0, none⟩) 0 0) []) := hide (El.Own.new intE W3 _ (Nat.le_refl _) #[] [] rfl (by simp) _ _ _ rfl rfl rfl)
         have HB3 : Hid (Below W3.heap.size W3 (W3.alloc (.cells #[] 3))) := hide ((Below.refl _ _).alloc (Nat.le_refl _) _)
         clear hL3 hb3)
      | (at_builtin; refine intE.wp (w0 := W3) HB3.out (by rfl) _ _ rfl _ _ rfl rfl [] z1 HO3.out (HLM.out _ (Hb3.out.trans (HB3.out.mono Hb3.out.size))).2.hM (by rw [Hw1.out]; have := Hlen.out; simp; omega) ?_; intro v4 W4 ho4 hg4 hv4 hb4
         rw [List.nil_append] at ho4
         obtain ⟨aM, cM, hvM⟩ := ho4.rd.form
         rw [Hw1.out] at hvM
         subst hvM
         have HM4 : Hid (Mk W4 aM cM len1 z1) := hide ⟨Hw1.out, ho4.rd, by have := Hlen.out; omega⟩
         have HL4 := hide (HL3.out.keep hb4)
         have Hb4 : Hid (Below W0.heap.size W0 W4) := hide (Hb3.out.trans (hb4.mono Hb3.out.size))
         clear ho4 hg4 hv4 hb4))
    obtain ⟨W5, hW5⟩ : ∃ W5, W4.alloc (.cells #[.slice aN n cN, .slice aE m cE] 25) = W5 := ⟨_, rfl⟩
    have b5 : Below W4.heap.size W4 W5 := by rw [← hW5]; exact (Below.refl _ _).alloc (Nat.le_refl _) _
    have B5 : Below W0.heap.size W0 W5 := Hb4.out.trans (b5.mono Hb4.out.size)
    have hbox5 : W5.heap[W4.heap.size]? = some (.cells #[.slice aN n cN, .slice aE m cE] 25) := by rw [← hW5]; exact heap_new _ _
    have HB5 := hide B5
    have HS : Hid (∀ W, Below W5.heap.size W5 W → Ly W a0 b0 c0 e0 n m ns0 es0 ∧ Mk W a1 cap1 len1 z1 ∧ Ly W aN aE cN cE n m ns0 es0 ∧ Mk W aM cM len1 z1) := hide (fun W h => ⟨(HLM.out W (B5.trans (h.mono B5.size))).1, (HLM.out W (B5.trans (h.mono B5.size))).2, (HL4.out.keep b5).keep h, (HM4.out.keep b5).keep h⟩)
    have HC : Hid (∀ W, Below W5.heap.size W5 W → (W.cell? ⟨w.heap.size, 0, none⟩ = some (.slice a0 n c0) ∧ W.cell? ⟨w.heap.size, 1, none⟩ = some (.slice b0 m e0)) ∧ W.cell? ⟨W4.heap.size, 0, none⟩ = some (.slice aN n cN) ∧ W.cell? ⟨W4.heap.size, 1, none⟩ = some (.slice aE m cE)) := hide (fun W h => ⟨layg HBOX.out (B5.trans (h.mono B5.size)), layg hbox5 h⟩)
    obtain ⟨⟨x0, x1⟩, y0, y1⟩ := HC.out W5 (Below.refl _ _)
    have Hb : Hid (Below W5.heap.size W5 W5) := hide (Below.refl _ _)
    rw [hW5]
    obtain ⟨g4, hg4⟩ : ∃ g4, W4.heap.size = g4 := ⟨_, rfl⟩
    rw [hg4] at HC y0 y1 ⊢
    clear hW5 b5 B5 hbox5 HL3 Hb3 HO3 HB3 HM4 HL4 Hb4 Hb2 Hb1 hg4
    by_cases hx : 0 ≤ n2 ∧ n2 < (n : Int)
    · obtain ⟨s, hs⟩ := Int.eq_ofNat_of_zero_le hx.1
      subst hs
      have hs' : s < n := by omega
      have Hs := hide hs'
      have g0 : ¬ (s : Int) < 0 := by omega
      have g1 : ¬ (n : Int) ≤ (s : Int) := by omega
      have g2 : (s : Int) < (n : Int) := by omega
      clear hx hs'
      go_upto_region 7 with (go_at_call 12; refine (from_ok _ _ _ _ _ _ _ _ _ _ ns0 es0 z1 _ (HS.out _ Hb.out).2.2.1 (HS.out _ Hb.out).2.2.2 Hs.out).mono ?_; rintro e W6 ⟨⟨gF, lF, rfl, hO6, hF6⟩, hb6⟩
                             have HrF := hide hO6.rd
                             have HF := hide hF6
                             have Hb : Hid (Below W5.heap.size W5 W6) := hide (Hb.out.trans (hb6.mono Hb.out.size))
                             obtain ⟨⟨x0, x1⟩, y0, y1⟩ := HC.out _ Hb.out
                             clear hO6 hF6 hb6)
      go_upto_region 8 with (go_at_call 13; refine (to_ok _ _ _ _ _ _ _ _ _ _ ns0 es0 z1 _ (HS.out _ Hb.out).2.2.1 (HS.out _ Hb.out).2.2.2 Hs.out).mono ?_; rintro e W7 ⟨⟨gT, lT, rfl, hO7, hF7⟩, hb7⟩
                             have HrF := hide (HrF.out.keep hb7)
                             have HrT := hide hO7.rd
                             have HT := hide hF7
                             have Hb : Hid (Below W5.heap.size W5 W7) := hide (Hb.out.trans (hb7.mono Hb.out.size))
                             obtain ⟨⟨x0, x1⟩, y0, y1⟩ := HC.out _ Hb.out
                             clear hO7 hF7 hb7)
      go_upto_region 10 with fail
      go_wp2_with (first
        | (go_at_call 15; refine (between_ly (HS.out _ Hb.out).1 (HS.out _ Hb.out).2.1 Hs.out).mono ?_; rintro e W8 ⟨⟨gB, lB, rfl, hO8, hF8⟩, hb8⟩
           obtain rfl := hF8.uniq HF.out
           have HrF := hide (HrF.out.keep hb8)
           have HrT := hide (HrT.out.keep hb8)
           have HrB := hide hO8.rd
           have Hb : Hid (Below W5.heap.size W5 W8) := hide (Hb.out.trans (hb8.mono Hb.out.size))
           clear hO8 hF8 hb8)
        | (go_at_call_of 14 (Value.slice (some ⟨gF, 0, none⟩) n n); refine (ints_eq HrF.out HrB.out HF.out.1 HF.out.1 (by have := Hn40.out; omega)).mono ?_; rintro e W9 ⟨rfl, hb9⟩
           rw [decide_eq_true rfl]
           have HrT := hide (HrT.out.keep hb9)
           have Hb : Hid (Below W5.heap.size W5 W9) := hide (Hb.out.trans (hb9.mono Hb.out.size))
           obtain ⟨⟨x0, x1⟩, y0, y1⟩ := HC.out _ Hb.out
           clear hb9)
        | (go_at_call 16; refine (rto_any _ _ _ _ _ _ _ _ _ _ ns0 es0 z1 _ (HS.out _ Hb.out).1 (HS.out _ Hb.out).2.1 Hs.out).mono ?_; rintro e W10 ⟨⟨gR, lR, rfl, hO10, hF10⟩, hb10⟩
           obtain rfl := hF10.uniq HT.out
           have HrT := hide (HrT.out.keep hb10)
           have HrR := hide hO10.rd
           have Hb : Hid (Below W5.heap.size W5 W10) := hide (Hb.out.trans (hb10.mono Hb.out.size))
           clear hO10 hF10 hb10)
        | (go_at_call_of 14 (Value.slice (some ⟨gT, 0, none⟩) n n); refine (ints_eq HrT.out HrR.out HT.out.1 HT.out.1 (by have := Hn40.out; omega)).mono ?_; rintro e W11 ⟨rfl, hb11⟩
           rw [decide_eq_true rfl]
           have Hb : Hid (Below W5.heap.size W5 W11) := hide (Hb.out.trans (hb11.mono Hb.out.size))
           obtain ⟨⟨x0, x1⟩, y0, y1⟩ := HC.out _ Hb.out
           clear hb11)
        | (go_at_call 17; refine (same_ly (HS.out _ Hb.out).2.2.1 (HS.out _ Hb.out).1).mono ?_; rintro e W12 ⟨rfl, hb12⟩
           have Hb : Hid (Below W5.heap.size W5 W12) := hide (Hb.out.trans (hb12.mono Hb.out.size))
           clear hb12)
        | (go_at_call_of 14 (Value.slice aM len1 cM); refine (ints_eq (HS.out _ Hb.out).2.2.2.hM (HS.out _ Hb.out).2.1.hM Hw1.out Hw1.out (by have := Hlen.out; omega)).mono ?_; rintro e W13 ⟨rfl, hb13⟩
           rw [decide_eq_true rfl]
           have Hb : Hid (Below W5.heap.size W5 W13) := hide (Hb.out.trans (hb13.mono Hb.out.size))
           clear hb13))
      go_ret
      exact ⟨rfl, HA.out.trans ((HB5.out.trans (Hb.out.mono HB5.out.size)).mono HA.out.size)⟩
    · have HX := hide hx
      have gg : n2 < 0 ∨ (n : Int) ≤ n2 := by omega
      clear hx
      go_upto_region 8 with (first
        | (go_at_call 12; refine (from_no _ _ _ _ _ _ _ _ _ _ _ HX.out).mono ?_; rintro e W6 ⟨rfl, hb6⟩
           have Hb : Hid (Below W5.heap.size W5 W6) := hide (Hb.out.trans (hb6.mono Hb.out.size))
           obtain ⟨⟨x0, x1⟩, y0, y1⟩ := HC.out _ Hb.out
           clear hb6)
        | (go_at_call 13; refine (to_no _ _ _ _ _ _ _ _ _ _ _ HX.out).mono ?_; rintro e W7 ⟨rfl, hb7⟩
           have Hb : Hid (Below W5.heap.size W5 W7) := hide (Hb.out.trans (hb7.mono Hb.out.size))
           obtain ⟨⟨x0, x1⟩, y0, y1⟩ := HC.out _ Hb.out
           clear hb7))
      rcases Classical.em (n2 < 0) with hneg | hneg
      · clear gg
        go_wp2_with fail
        go_ret
        exact ⟨rfl, HA.out.trans ((HB5.out.trans (Hb.out.mono HB5.out.size)).mono HA.out.size)⟩
      · have hge : (n : Int) ≤ n2 := gg.elim (fun h => absurd h hneg) id
        clear gg
        go_wp2_with fail
        go_ret
        exact ⟨rfl, HA.out.trans ((HB5.out.trans (Hb.out.mono HB5.out.size)).mono HA.out.size)⟩

set_option maxRecDepth 100000 in
theorem lifted (os : Os) (started : os.Started) (H : Type) (enc : TypeId × Value → H) :
    ReturnsInHanded {} Try.checked os 3 .any (Rows.reachLengthsSpec.pre6 enc Try.prog Try.f3 Rows.reachLengthsRow.domain false) (Rows.reachLengthsSpec.post enc Try.prog Try.f3 false true false false) := by
  refine returnsInHanded_of_change_sized (C := Try.checked) own started (by kernel_rfl) Try.func3
    (ChangeSpec.witness6 (enc := enc) (C := Try.checked) false ⟨#[], #[.agg #[.slice none 0 0, .slice none 0 0], .slice none 0 0, .int .i64 0], []⟩ 8 (by kernel_rfl) (by kernel_rfl) (by kernel_rfl) (by kernel_rfl)) ?_
  intro W base args ds gs before hval0 hW hcnd hsz0 _
  have hval : ∀ (j : Nat) t v, Try.f3.params[j]? = some t → args[j]? = some v → Value.okWide Try.prog W .any base t v := hval0
  have hsz : (DataW.weightsEach Try.prog (Try.f3.params.toList ++ Rows.reachLengthsSpec.plain.varTypes Try.prog) (ds ++ gs)).all (· ≤ reachBytes) = true := hsz0
  have hW' := hW
  obtain ⟨p, q, hA0, hV, rfl, hfz, hnd⟩ := hW
  have hA : DataW.TrodAll enc Try.prog W 0 (fun _ => true) true Try.f3.params.toList args.toList ds p := hA0
  rw [Try.params3] at hA hval hsz
  obtain ⟨v0, vs0, d0, ds0, p0, q0, hargs, rfl, rfl, h0, r0⟩ := trodAll_cons hA
  obtain ⟨v1, vs1, d1, ds1, p1, q1, rfl, rfl, rfl, h1, r1⟩ := trodAll_cons r0
  obtain ⟨v2, vs2, d2, ds2, p2, q2, rfl, rfl, rfl, h2, r2⟩ := trodAll_cons r1
  obtain ⟨rfl, rfl, rfl⟩ := trodAll_nil r2
  obtain rfl : args = #[v0, v1, v2] := by cases args; simp_all
  obtain ⟨rfl, rfl⟩ := trodVars_none hV
  have k0 := h0
  have lt0 : ∀ x ∈ p0, x.block < W.heap.size := by obtain ⟨m, hm⟩ := k0; exact DataW.trod_lt m _ _ _ hm
  obtain ⟨cs0, rfl, _⟩ := okWide_struct Try.underlying25 (hval 0 25 v0 rfl rfl)
  obtain ⟨a0, c0, b0, e0, ns0, es0, hcs0, rn0, re0, rs0⟩ : ∃ (a : Option Addr) (c : Nat) (a' : Option Addr) (c' : Nat) (ns : List Nd) (es : List Ed), cs0 = #[.slice a ns.length c, .slice a' es.length c'] ∧ ndE.Rd W (.slice a ns.length c) ns ∧ edE.Rd W (.slice a' es.length c') es ∧ ∀ n ∈ ns, n.name.size ≤ maxLen := by
    obtain ⟨fuel, hf⟩ := h0
    obtain ⟨a, c, a', c', ns, es, he, h1, h2, h3⟩ := layout_of_trod hf
    exact ⟨a, c, a', c', ns, es, by apply Array.toList_inj.1; exact he, h1, h2, h3⟩
  subst hcs0
  obtain ⟨a1, len1, cap1, rfl⟩ := okWide_slice Try.underlying26 (hval 1 26 v1 rfl rfl)
  have k1 := h1
  have lt1 : ∀ x ∈ p1, x.block < W.heap.size := by obtain ⟨m, hm⟩ := k1; exact DataW.trod_lt m _ _ _ hm
  obtain ⟨z1, w1, s1, _⟩ : ∃ zs : List Int, zs.length = len1 ∧ intE.Rd W (.slice a1 len1 cap1) zs ∧ ∀ y ∈ zs, (Lit.int .i64 y).wf = true := by
    obtain ⟨fuel, hf⟩ := h1
    exact rd_of_trod intE (fun y => (Lit.int .i64 y).wf = true) (by kernel_rfl) (fun n cs y hy => int_of_trod hy) hf rfl
  have k2 := h2
  have lt2 : ∀ x ∈ p2, x.block < W.heap.size := by obtain ⟨m, hm⟩ := k2; exact DataW.trod_lt m _ _ _ hm
  obtain ⟨n2, rfl⟩ := okWide_int Try.underlying3 (hval 2 3 v2 rfl rfl)
  have w2 : (Lit.int .i64 n2).wf = true := by
    obtain ⟨fuel, hf⟩ := h2
    obtain ⟨m, e, _, hw⟩ := DataW.trod_int Try.underlying3 hf
    simp [Value.cells] at e
    rw [e]; exact hw
  clear hA0 hval0
  refine (walk a0 b0 c0 e0 ns0 es0 a1 len1 cap1 z1 n2 W rn0 re0 rs0 w1 s1 (bounds_i64 w2)).mono fun e W' ⟨he, bel⟩ => ?_
  subst he
  exact ⟨_, rfl, _, _, _, [], _, [], hW', trodAll_mk1 (shut_bool Try.underlying4 _), (trodAll_cons_mk (Below.trod laidOut (by kernel_rfl) (of_decide_eq_true (by kernel_rfl)) k0 bel lt0) (trodAll_cons_mk (Below.trod laidOut (by kernel_rfl) (of_decide_eq_true (by kernel_rfl)) k1 bel lt1) (trodAll_cons_mk (Below.trod laidOut (by kernel_rfl) (of_decide_eq_true (by kernel_rfl)) k2 bel lt2) trodAll_mk0))), rfl, bel.frame _, fun h => by cases h⟩

theorem over : Rows.reachLengthsRow.holds Try.pinned (OpenSpec.ofChange Rows.reachLengthsSpec) :=
  OpenClaim.holds_of_wide 3 Try.f3 rfl rfl rfl rfl rfl rfl rfl ⟨rfl, rfl, rfl, rfl, rfl⟩ rfl rfl rfl rfl rfl (by kernel_rfl) Try.func3 (by kernel_rfl)
    (of_decide_eq_true (by kernel_rfl)) (by unfold Func.isWrapper; first | (rw [if_pos (by decide +kernel)]; kernel_rfl) | (rw [if_neg (by decide +kernel)]; exact ⟨rfl, rfl⟩))
    (fun os started H enc _ => lifted os started H enc)

theorem proved : Rows.ReachLengthsSaid := over
end Go.Proofs.Ythimeobnfkoefaa.reachLengths
