/- RouteTables: for every layout, every mask and every target the statement's function returns true: the table of any target is the document's, or it is told that the target is no place; layout and mask stay. It writes nothing that was there. No condition. -/
import Derived.Test.YtmkjpdmhplldjaaAwk
import Derived.Test.YtmkjpdmhplldjaaRpt
namespace Go.Proofs.Ytmkjpdmhplldjaa.routeTables
open Go.ChangeShapes Go.WideShapes Go.ChangeAt Go.RowKit
set_option linter.unusedVariables false

theorem own : ownKnob Try.prog.godebug = none := by kernel_rfl
theorem laidOut : laidOutB Try.prog = true := by kernel_rfl

set_option maxRecDepth 100000 in
set_option maxHeartbeats 8000000 in
theorem walk (a0 b0 : Option Addr) (c0 e0 : Nat) (ns0 : List Nd) (es0 : List Ed) (a1 : Option Addr) (len1 cap1 : Nat) (z1 : List Int) (n2 : Int) (w : World) (rn0 : ndE.Rd w (.slice a0 ns0.length c0) ns0) (re0 : edE.Rd w (.slice b0 es0.length e0) es0) (rs0 : ∀ p ∈ ns0, p.name.size ≤ maxLen) (w1 : z1.length = len1) (s1 : intE.Rd w (.slice a1 len1 cap1) z1) (h2 : -9223372036854775808 ≤ n2 ∧ n2 ≤ 9223372036854775807) :
    Calls Try.prog 3 #[.agg #[.slice a0 ns0.length c0, .slice b0 es0.length e0], .slice a1 len1 cap1, .int .i64 n2] w fun e w' => e = .returned (.bool true) ∧ Below w.heap.size w w' := by
  obtain ⟨n, hn⟩ : ∃ n, ns0.length = n := ⟨_, rfl⟩
  obtain ⟨m, hm⟩ : ∃ m, es0.length = m := ⟨_, rfl⟩
  rw [hn] at rn0 ⊢
  rw [hm] at re0 ⊢
  obtain ⟨W0, hW0⟩ : ∃ W0, w.alloc (.cells #[.slice a0 n c0, .slice b0 m e0] 25) = W0 := ⟨_, rfl⟩
  have bA : Below w.heap.size w W0 := by rw [← hW0]; exact (Below.refl _ _).alloc (Nat.le_refl _) _
  have hbox : W0.heap[w.heap.size]? = some (.cells #[.slice a0 n c0, .slice b0 m e0] 25) := by rw [← hW0]; exact heap_new _ _
  have HBOX := hide hbox
  have HA := hide bA
  have HW0 := hide hW0
  have K9 := hide awake_any
  have HR : Hid (∀ W, Below W0.heap.size W0 W → ndE.Rd W (.slice a0 n c0) ns0 ∧ edE.Rd W (.slice b0 m e0) es0 ∧ intE.Rd W (.slice a1 len1 cap1) z1) := hide (fun W h => have b := bA.trans (h.mono bA.size); ⟨rn0.keep b, re0.keep b, s1.keep b⟩)
  have K10 : Hid (∀ W, Below W0.heap.size W0 W → Calls Try.prog 10 #[.agg #[.slice a0 n c0, .slice b0 m e0], .slice a1 len1 cap1] W fun e w' => e = .returned (.bool ((decide (len1 ≤ 200) && good ns0 es0) && (decide (n ≤ 16) && decide (m ≤ 40)))) ∧ Below W.heap.size W w') := hide (fun W h => small_any a0 b0 a1 c0 e0 cap1 n m len1 ns0 es0 W hn hm (HR.out W h).1 (HR.out W h).2.1 rs0)
  have HG : Hid (((decide (len1 ≤ 200) && good ns0 es0) && (decide (n ≤ 16) && decide (m ≤ 40))) = true → (∀ W, Below W0.heap.size W0 W → Ly W a0 b0 c0 e0 n m ns0 es0 ∧ Mk W a1 cap1 len1 z1) ∧ len1 ≤ 200 ∧ n ≤ 40 ∧ 1 ≤ n ∧ m ≤ 120 ∧ ∀ e ∈ es0, e.1 ≠ e.2) := hide (fun h => by
    simp only [Bool.and_eq_true, decide_eq_true_eq] at h
    have h1 := h.1.1
    have h2 := h.1.2
    have hg := good_ly h2 hn hm (HR.out _ (Below.refl _ _)).1 (HR.out _ (Below.refl _ _)).2.1
    refine ⟨fun W hW => ⟨(good_ly h2 hn hm (HR.out W hW).1 (HR.out W hW).2.1).1, w1, (HR.out W hW).2.2, by omega⟩, h1, hg.2.2.1, hg.2.1, hg.2.2.2, ?_⟩
    unfold good goodE at h2
    simp only [Bool.and_eq_true, decide_eq_true_eq] at h2
    intro e he
    have h3 := h2.2.2.1 e he
    unfold edB at h3
    simp only [Bool.and_eq_true, decide_eq_true_eq] at h3
    exact h3.1.2)
  have Hw1 := hide w1
  clear rn0 re0 rs0 w1 s1 hn hm bA hbox hW0 h2
  generalize ((decide (len1 ≤ 200) && good ns0 es0) && (decide (n ≤ 16) && decide (m ≤ 40))) = gd at *
  go_enter Try.func3, Try.ntmps3
  go_upto_region 1 with fail
  rw [HW0.out]
  clear HW0
  go_upto_region 3 with (go_at_call 9; refine (K9.out _).mono ?_; rintro e W1 ⟨rfl, hb1⟩; have Hb1 := hide hb1; obtain ⟨x0, x1⟩ := layg HBOX.out hb1; clear hb1)
  cases gd with
  | false =>
    go_wp2_with (go_at_call 10; refine (K10.out _ Hb1.out).mono ?_; rintro e W2 ⟨rfl, hb2⟩; have Hb2 := hide (Hb1.out.trans (hb2.mono Hb1.out.size)); clear hb2)
    go_ret
    exact ⟨rfl, HA.out.trans (Hb2.out.mono HA.out.size)⟩
  | true =>
    obtain ⟨hLM, hlen, hn40, hn1, hm12, hself⟩ := HG.out rfl
    have HLM := hide hLM
    have Hlen := hide hlen
    have Hn40 := hide hn40
    have Hm12 := hide hm12
    have Hself := hide hself
    have l1 : (len1 : Int) ≤ 200 := by omega
    have l2 : (n : Int) ≤ 40 := by omega
    have l3 : (1 : Int) ≤ (n : Int) := by omega
    have l4 : (m : Int) ≤ 120 := by omega
    clear hLM hlen hn40 hn1 hm12 hself HG HR
    go_upto_region 5 with (go_at_call 10; refine (K10.out _ Hb1.out).mono ?_; rintro e W2 ⟨rfl, hb2⟩; have Hb2 := hide (Hb1.out.trans (hb2.mono Hb1.out.size)); obtain ⟨x0, x1⟩ := layg HBOX.out Hb2.out; clear hb2)
    clear K9 K10 Hb1
    have K13 := hide (fun W => outside_any a0 b0 n c0 m e0 n2 W)
    have K14 : Hid (∀ (W : World) a b k c d xs, xs.length = k → intE.Rd W (.slice a k c) xs → intE.Rd W (.slice b k d) xs → k ≤ 1000 → Calls Try.prog 14 #[.slice a k c, .slice b k d] W fun e w' => e = .returned (.bool true) ∧ Below W.heap.size W w') := hide (fun W a b k c d xs h1 h3 h4 h5 => (ints_eq h3 h4 h1 h1 (by omega)).mono (by
      rintro e w' ⟨h6, h7⟩
      rw [decide_eq_true rfl] at h6
      exact ⟨h6, h7⟩))
    go_upto_region 6 with (first
      | (go_at_call 11; refine (copy_ly (HLM.out _ Hb2.out).1).mono ?_; rintro e W3 ⟨aN, aE, cN, cE, rfl, hL3, hb3⟩
         have HL3 := hide hL3
         have Hb3 : Hid (Below W0.heap.size W0 W3) := hide (Hb2.out.trans (hb3.mono Hb2.out.size))
         have HO3 : Hid (intE.Own (W3.alloc (.cells #[] 3)) W3.heap.size (.slice (some ⟨W3.heap.size, 0, none⟩) 0 0) []) := hide (El.Own.new intE W3 _ (Nat.le_refl _) #[] [] rfl (by simp) _ _ _ rfl rfl rfl)
         have HB3 : Hid (Below W3.heap.size W3 (W3.alloc (.cells #[] 3))) := hide ((Below.refl _ _).alloc (Nat.le_refl _) _)
         clear hL3 hb3)
      | (at_builtin; refine intE.wp (w0 := W3) HB3.out (by rfl) _ _ rfl _ _ rfl rfl [] z1 HO3.out (HLM.out _ (Hb3.out.trans (HB3.out.mono Hb3.out.size))).2.hM (by rw [Hw1.out]; have := Hlen.out; simp; omega) ?_; intro v4 W4 ho4 hg4 hv4 hb4
         rw [List.nil_append] at ho4
         obtain ⟨aM, cM, hvM⟩ := ho4.rd.form
         rw [Hw1.out] at hvM
         subst hvM
         have HM4 : Hid (Mk W4 aM cM len1 z1) := hide ⟨Hw1.out, ho4.rd, by have := Hlen.out; omega⟩
         have HL4 := hide (HL3.out.keep hb4)
         have Hb4 : Hid (Below W0.heap.size W0 W4) := hide (Hb3.out.trans (hb4.mono Hb3.out.size))
         clear ho4 hg4 hv4 hb4))
    have b5 : Below W4.heap.size W4 (W4.alloc (.cells #[.slice aN n cN, .slice aE m cE] 25)) := (Below.refl _ _).alloc (Nat.le_refl _) _
    have HM5 := hide (HM4.out.keep b5)
    have HL5 := hide (HL4.out.keep b5)
    have Hb5 := hide (Hb4.out.trans (b5.mono Hb4.out.size))
    have HQ5 := hide (heap_new W4 (.cells #[.slice aN n cN, .slice aE m cE] 25))
    obtain ⟨W5, hW5⟩ : ∃ W5, W4.alloc (.cells #[.slice aN n cN, .slice aE m cE] 25) = W5 := ⟨_, rfl⟩
    obtain ⟨q, hq⟩ : ∃ q, W4.heap.size = q := ⟨_, rfl⟩
    rw [hW5] at HM5 HL5 Hb5 HQ5
    rw [hq] at HQ5
    rw [hW5, hq]
    clear hW5 hq b5 x0 x1
    obtain ⟨x2, x3⟩ := layg HQ5.out (Below.refl _ _)
    by_cases hx : 0 ≤ n2 ∧ n2 < (n : Int)
    · have tx : (!decide (0 ≤ n2 ∧ n2 < (n : Int))) = false := by rw [decide_eq_true hx]; rfl
      obtain ⟨t, rfl⟩ := Int.eq_ofNat_of_zero_le hx.1
      have Ht : Hid (t < n) := hide (by omega)
      clear hx
      go_upto_region 7 with (go_at_call 12; refine (table_ok aN aE aM cN cE cM n m len1 t ns0 es0 z1 _ HL5.out HM5.out Ht.out).mono ?_; rintro e W6 ⟨⟨gN, l, hg6, rfl, ho6⟩, hb6⟩; have HG6 := hide hg6; have HO6 := hide ho6; have HB6 := hide hb6; have Hb6 : Hid (Below W0.heap.size W0 W6) := hide (Hb5.out.trans (hb6.mono Hb5.out.size)); obtain ⟨x0, x1⟩ := layg HBOX.out Hb6.out; clear hg6 ho6 hb6 x2 x3)
      go_upto_region 9 with (go_at_call 13; refine (K13.out _).mono ?_; rintro e W7 ⟨rfl, hb7⟩; rw [tx]; have HO7 := hide (HO6.out.keep hb7); have HB7 := hide (HB6.out.trans (hb7.mono HB6.out.size)); have Hb7 : Hid (Below W0.heap.size W0 W7) := hide (Hb6.out.trans (hb7.mono Hb6.out.size)); obtain ⟨x0, x1⟩ := layg HBOX.out Hb7.out; clear hb7)
      have Htl : Hid ((tbl ns0 es0 z1 l t n).length = n) := hide (tbl_len _ _ _ _ _ _)
      obtain ⟨T, hT⟩ : ∃ T, tbl ns0 es0 z1 l t n = T := ⟨_, rfl⟩
      have K15 : Hid (Calls Try.prog 15 #[.agg #[.slice a0 n c0, .slice b0 m e0], .slice a1 len1 cap1, .int .i64 (t : Int)] W7 fun e w' => (∃ gN, e = .returned (.slice (some ⟨gN, 0, none⟩) n n) ∧ intE.Own w' W7.heap.size (.slice (some ⟨gN, 0, none⟩) n n) T) ∧ Below W7.heap.size W7 w') := hide (by rw [← hT]; exact rtable_any a0 b0 a1 c0 e0 cap1 n m len1 t ns0 es0 z1 l W7 (HLM.out _ Hb7.out).1 (HLM.out _ Hb7.out).2 (by have := Hlen.out; omega) HG6.out)
      rw [hT] at Htl HO6 HO7
      clear hT HG6
      go_wp2_with (first
        | (go_at_call 15; refine (K15.out).mono ?_; rintro e W8 ⟨⟨gR, rfl, ho8⟩, hb8⟩; have HO8 := hide ho8; have HT8 := hide (HO7.out.keep hb8); have HB8 := hide (HB7.out.trans (hb8.mono HB7.out.size)); have Hb8 : Hid (Below W0.heap.size W0 W8) := hide (Hb7.out.trans (hb8.mono Hb7.out.size)); clear hb8 ho8)
        | (go_at_call_of 14 (Value.slice (some ⟨gN, 0, none⟩) n n); refine (K14.out _ _ _ n _ _ T Htl.out HT8.out.rd HO8.out.rd (by have := Hn40.out; omega)).mono ?_; rintro e W9 ⟨rfl, hb9⟩; have HB9 := hide (HB8.out.trans (hb9.mono HB8.out.size)); have Hb9 : Hid (Below W0.heap.size W0 W9) := hide (Hb8.out.trans (hb9.mono Hb8.out.size)); obtain ⟨x0, x1⟩ := layg HBOX.out Hb9.out; obtain ⟨x2, x3⟩ := layg HQ5.out HB9.out; clear hb9)
        | (go_at_call 16; refine (same_ly (HL5.out.keep HB9.out) (HLM.out _ Hb9.out).1).mono ?_; rintro e WA ⟨rfl, hbA⟩; have HBA := hide (HB9.out.trans (hbA.mono HB9.out.size)); have HbA : Hid (Below W0.heap.size W0 WA) := hide (Hb9.out.trans (hbA.mono Hb9.out.size)); clear hbA)
        | (go_at_call_of 14 (Value.slice aM len1 cM); refine (K14.out _ _ _ len1 _ _ z1 Hw1.out (HM5.out.keep HBA.out).hM (HLM.out _ HbA.out).2.hM (by have := Hlen.out; omega)).mono ?_; rintro e WB ⟨rfl, hbB⟩; have HbB : Hid (Below W0.heap.size W0 WB) := hide (HbA.out.trans (hbB.mono HbA.out.size)); clear hbB))
      go_ret
      exact ⟨by first | rfl | simp, HA.out.trans (HbB.out.mono HA.out.size)⟩
    · have tx : (!decide (0 ≤ n2 ∧ n2 < (n : Int))) = true := by rw [decide_eq_false hx]; rfl
      have Hx := hide hx
      clear hx
      go_upto_region 7 with (go_at_call 12; refine (table_no aN aE aM cN cE cM n m len1 n2 _ Hx.out).mono ?_; rintro e W6 ⟨rfl, hb6⟩; have Hb6 : Hid (Below W0.heap.size W0 W6) := hide (Hb5.out.trans (hb6.mono Hb5.out.size)); obtain ⟨x0, x1⟩ := layg HBOX.out Hb6.out; clear hb6 x2 x3)
      go_wp2_with (go_at_call 13; refine (K13.out _).mono ?_; rintro e W7 ⟨rfl, hb7⟩; rw [tx]; have Hb7 : Hid (Below W0.heap.size W0 W7) := hide (Hb6.out.trans (hb7.mono Hb6.out.size)); clear hb7)
      go_ret
      exact ⟨by first | rfl | simp, HA.out.trans (Hb7.out.mono HA.out.size)⟩

set_option maxRecDepth 100000 in
theorem lifted (os : Os) (started : os.Started) (H : Type) (enc : TypeId × Value → H) :
    ReturnsInHanded {} Try.checked os 3 .any (Rows.routeTablesSpec.pre6 enc Try.prog Try.f3 Rows.routeTablesRow.domain false) (Rows.routeTablesSpec.post enc Try.prog Try.f3 false true false false) := by
  refine returnsInHanded_of_change_sized (C := Try.checked) own started (by kernel_rfl) Try.func3
    (ChangeSpec.witness6 (enc := enc) (C := Try.checked) false ⟨#[], #[.agg #[.slice none 0 0, .slice none 0 0], .slice none 0 0, .int .i64 0], []⟩ 8 (by kernel_rfl) (by kernel_rfl) (by kernel_rfl) (by kernel_rfl)) ?_
  intro W base args ds gs before hval0 hW hcnd hsz0 _
  have hval : ∀ (j : Nat) t v, Try.f3.params[j]? = some t → args[j]? = some v → Value.okWide Try.prog W .any base t v := hval0
  have hsz : (DataW.weightsEach Try.prog (Try.f3.params.toList ++ Rows.routeTablesSpec.plain.varTypes Try.prog) (ds ++ gs)).all (· ≤ reachBytes) = true := hsz0
  have hW' := hW
  obtain ⟨p, q, hA0, hV, rfl, hfz, hnd⟩ := hW
  have hA : DataW.TrodAll enc Try.prog W 0 (fun _ => true) true Try.f3.params.toList args.toList ds p := hA0
  rw [Try.params3] at hA hval hsz
  obtain ⟨v0, vs0, d0, ds0, p0, q0, hargs, rfl, rfl, h0, r0⟩ := trodAll_cons hA
  obtain ⟨v1, vs1, d1, ds1, p1, q1, rfl, rfl, rfl, h1, r1⟩ := trodAll_cons r0
  obtain ⟨v2, vs2, d2, ds2, p2, q2, rfl, rfl, rfl, h2, r2⟩ := trodAll_cons r1
  obtain ⟨rfl, rfl, rfl⟩ := trodAll_nil r2
  obtain rfl : args = #[v0, v1, v2] := by cases args; simp_all
  obtain ⟨rfl, rfl⟩ := trodVars_none hV
  have k0 := h0
  have lt0 : ∀ x ∈ p0, x.block < W.heap.size := by obtain ⟨m, hm⟩ := k0; exact DataW.trod_lt m _ _ _ hm
  obtain ⟨cs0, rfl, _⟩ := okWide_struct Try.underlying25 (hval 0 25 v0 rfl rfl)
  obtain ⟨a0, c0, b0, e0, ns0, es0, hcs0, rn0, re0, rs0⟩ : ∃ (a : Option Addr) (c : Nat) (a' : Option Addr) (c' : Nat) (ns : List Nd) (es : List Ed), cs0 = #[.slice a ns.length c, .slice a' es.length c'] ∧ ndE.Rd W (.slice a ns.length c) ns ∧ edE.Rd W (.slice a' es.length c') es ∧ ∀ n ∈ ns, n.name.size ≤ maxLen := by
    obtain ⟨fuel, hf⟩ := h0
    obtain ⟨a, c, a', c', ns, es, he, h1, h2, h3⟩ := layout_of_trod hf
    exact ⟨a, c, a', c', ns, es, by apply Array.toList_inj.1; exact he, h1, h2, h3⟩
  subst hcs0
  obtain ⟨a1, len1, cap1, rfl⟩ := okWide_slice Try.underlying26 (hval 1 26 v1 rfl rfl)
  have k1 := h1
  have lt1 : ∀ x ∈ p1, x.block < W.heap.size := by obtain ⟨m, hm⟩ := k1; exact DataW.trod_lt m _ _ _ hm
  obtain ⟨z1, w1, s1, _⟩ : ∃ zs : List Int, zs.length = len1 ∧ intE.Rd W (.slice a1 len1 cap1) zs ∧ ∀ y ∈ zs, (Lit.int .i64 y).wf = true := by
    obtain ⟨fuel, hf⟩ := h1
    exact rd_of_trod intE (fun y => (Lit.int .i64 y).wf = true) (by kernel_rfl) (fun n cs y hy => int_of_trod hy) hf rfl
  have k2 := h2
  have lt2 : ∀ x ∈ p2, x.block < W.heap.size := by obtain ⟨m, hm⟩ := k2; exact DataW.trod_lt m _ _ _ hm
  obtain ⟨n2, rfl⟩ := okWide_int Try.underlying3 (hval 2 3 v2 rfl rfl)
  have w2 : (Lit.int .i64 n2).wf = true := by
    obtain ⟨fuel, hf⟩ := h2
    obtain ⟨m, e, _, hw⟩ := DataW.trod_int Try.underlying3 hf
    simp [Value.cells] at e
    rw [e]; exact hw
  clear hA0 hval0
  refine (walk a0 b0 c0 e0 ns0 es0 a1 len1 cap1 z1 n2 W rn0 re0 rs0 w1 s1 (bounds_i64 w2)).mono fun e W' ⟨he, bel⟩ => ?_
  subst he
  exact ⟨_, rfl, _, _, _, [], _, [], hW', trodAll_mk1 (shut_bool Try.underlying4 _), (trodAll_cons_mk (Below.trod laidOut (by kernel_rfl) (of_decide_eq_true (by kernel_rfl)) k0 bel lt0) (trodAll_cons_mk (Below.trod laidOut (by kernel_rfl) (of_decide_eq_true (by kernel_rfl)) k1 bel lt1) (trodAll_cons_mk (Below.trod laidOut (by kernel_rfl) (of_decide_eq_true (by kernel_rfl)) k2 bel lt2) trodAll_mk0))), rfl, bel.frame _, fun h => by cases h⟩

theorem over : Rows.routeTablesRow.holds Try.pinned (OpenSpec.ofChange Rows.routeTablesSpec) :=
  OpenClaim.holds_of_wide 3 Try.f3 rfl rfl rfl rfl rfl rfl rfl ⟨rfl, rfl, rfl, rfl, rfl⟩ rfl rfl rfl rfl rfl (by kernel_rfl) Try.func3 (by kernel_rfl)
    (of_decide_eq_true (by kernel_rfl)) (by unfold Func.isWrapper; first | (rw [if_pos (by decide +kernel)]; kernel_rfl) | (rw [if_neg (by decide +kernel)]; exact ⟨rfl, rfl⟩))
    (fun os started H enc _ => lifted os started H enc)

theorem proved : Rows.RouteTablesSaid := over
end Go.Proofs.Ytmkjpdmhplldjaa.routeTables
