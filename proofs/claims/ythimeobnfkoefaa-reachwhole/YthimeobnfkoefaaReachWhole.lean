/- For every layout and mask the law ReachWhole answers true: whether all that must be reached is reached is told as the document says; no conditions. -/
import Derived.Test.YthimeobnfkoefaaWho
namespace Go.Proofs.Ythimeobnfkoefaa.reachWhole
open Go.ChangeShapes Go.WideShapes Go.ChangeAt Go.RowKit
set_option linter.unusedVariables false

theorem own : ownKnob Try.prog.godebug = none := by kernel_rfl
theorem laidOut : laidOutB Try.prog = true := by kernel_rfl

theorem copy_own {w : World} {a a' : Option Addr} {c c' n m : Nat} {ns : List Nd} {es : List Ed} (hL : Ly w a a' c c' n m ns es) :
    Calls Try.prog 11 #[.agg #[.slice a n c, .slice a' m c']] w fun e w' => ∃ aN aE cN cE, e = .returned (.agg #[.slice aN n cN, .slice aE m cE]) ∧ ndE.Own w' w.heap.size (.slice aN n cN) ns ∧ edE.Own w' w.heap.size (.slice aE m cE) es ∧ Below w.heap.size w w' := by
  have h1 := hL.hn
  have h2 := hL.hm
  subst h1
  subst h2
  refine (copy_any a a' c c' ns es w hL.hv hL.hu hL.n4 hL.m4).mono ?_
  rintro e w' ⟨vN, vE, rfl, hN, hE, hb⟩
  obtain ⟨aN, cN, rfl⟩ := hN.rd.form
  obtain ⟨aE, cE, rfl⟩ := hE.rd.form
  exact ⟨aN, aE, cN, cE, rfl, hN, hE, hb⟩

set_option maxRecDepth 100000 in
set_option maxHeartbeats 2000000 in
theorem walk (a0 b0 : Option Addr) (c0 e0 : Nat) (ns0 : List Nd) (es0 : List Ed) (a1 : Option Addr) (len1 cap1 : Nat) (z1 : List Int) (w : World) (rn0 : ndE.Rd w (.slice a0 ns0.length c0) ns0) (re0 : edE.Rd w (.slice b0 es0.length e0) es0) (rs0 : ∀ p ∈ ns0, p.name.size ≤ maxLen) (w1 : z1.length = len1) (s1 : intE.Rd w (.slice a1 len1 cap1) z1) :
    Calls Try.prog 5 #[.agg #[.slice a0 ns0.length c0, .slice b0 es0.length e0], .slice a1 len1 cap1] w fun e w' => e = .returned (.bool true) ∧ Below w.heap.size w w' := by
  obtain ⟨n, hn⟩ : ∃ n, ns0.length = n := ⟨_, rfl⟩
  obtain ⟨m, hm⟩ : ∃ m, es0.length = m := ⟨_, rfl⟩
  rw [hn] at rn0 ⊢
  rw [hm] at re0 ⊢
  obtain ⟨W0, hW0⟩ : ∃ W0, w.alloc (.cells #[.slice a0 n c0, .slice b0 m e0] 25) = W0 := ⟨_, rfl⟩
  have bA : Below w.heap.size w W0 := by rw [← hW0]; exact (Below.refl _ _).alloc (Nat.le_refl _) _
  have hbox : W0.heap[w.heap.size]? = some (.cells #[.slice a0 n c0, .slice b0 m e0] 25) := by rw [← hW0]; exact heap_new _ _
  have HBOX := hide hbox
  have HA := hide bA
  have HW0 := hide hW0
  have K9 := hide awake_any
  have HR : Hid (∀ W, Below W0.heap.size W0 W → ndE.Rd W (.slice a0 n c0) ns0 ∧ edE.Rd W (.slice b0 m e0) es0 ∧ intE.Rd W (.slice a1 len1 cap1) z1) := hide (fun W h => have b := bA.trans (h.mono bA.size); ⟨rn0.keep b, re0.keep b, s1.keep b⟩)
  have K10 : Hid (∀ W, Below W0.heap.size W0 W → Calls Try.prog 10 #[.agg #[.slice a0 n c0, .slice b0 m e0], .slice a1 len1 cap1] W fun e w' => e = .returned (.bool (decide (len1 ≤ 200) && good ns0 es0)) ∧ Below W.heap.size W w') := hide (fun W h => fits_any a0 b0 a1 c0 e0 cap1 n m len1 ns0 es0 W hn hm (HR.out W h).1 (HR.out W h).2.1 rs0)
  have HG : Hid ((decide (len1 ≤ 200) && good ns0 es0) = true → (∀ W, Below W0.heap.size W0 W → Ly W a0 b0 c0 e0 n m ns0 es0 ∧ Mk W a1 cap1 len1 z1) ∧ len1 ≤ 200 ∧ n ≤ 40 ∧ 1 ≤ n ∧ m ≤ 120) := hide (fun h => by
    simp only [Bool.and_eq_true, decide_eq_true_eq] at h
    have hg := good_ly h.2 hn hm (HR.out _ (Below.refl _ _)).1 (HR.out _ (Below.refl _ _)).2.1
    exact ⟨fun W hW => ⟨(good_ly h.2 hn hm (HR.out W hW).1 (HR.out W hW).2.1).1, w1, (HR.out W hW).2.2, by omega⟩, h.1, hg.2.2.1, hg.2.1, hg.2.2.2⟩)
  have Hw1 := hide w1
  clear rn0 re0 rs0 w1 s1 hn hm bA hbox hW0
  generalize (decide (len1 ≤ 200) && good ns0 es0) = gd at *
  go_enter Try.func5, Try.ntmps5
  go_upto_region 1 with fail
  rw [HW0.out]
  clear HW0
  go_upto_region 3 with (go_at_call 9; refine (K9.out _).mono ?_; rintro e W1 ⟨rfl, hb1⟩; have Hb1 := hide hb1; obtain ⟨x0, x1⟩ := layg HBOX.out hb1; clear hb1)
  cases gd with
  | false =>
    go_wp2_with (go_at_call 10; refine (K10.out _ Hb1.out).mono ?_; rintro e W2 ⟨rfl, hb2⟩; have Hb2 := hide (Hb1.out.trans (hb2.mono Hb1.out.size)); clear hb2)
    go_ret
    exact ⟨rfl, HA.out.trans (Hb2.out.mono HA.out.size)⟩
  | true =>
    obtain ⟨hLM, hlen, hn40, hn1, hm12⟩ := HG.out rfl
    have HLM := hide hLM
    have Hlen := hide hlen
    have Hn40 := hide hn40
    have l1 : (len1 : Int) ≤ 200 := by omega
    have l2 : (n : Int) ≤ 40 := by omega
    have l3 : (1 : Int) ≤ (n : Int) := by omega
    have l4 : (m : Int) ≤ 120 := by omega
    clear hLM hlen hn40 hn1 hm12 HG HR
    go_upto_region 5 with (go_at_call 10; refine (K10.out _ Hb1.out).mono ?_; rintro e W2 ⟨rfl, hb2⟩; have Hb2 := hide (Hb1.out.trans (hb2.mono Hb1.out.size)); obtain ⟨x0, x1⟩ := layg HBOX.out Hb2.out; clear hb2)
    clear K9 K10
    obtain ⟨SS, hSS⟩ : ∃ SS : World → Prop, SS = fun W' => Below W2.heap.size W2 W' := ⟨_, rfl⟩
    have s9 : Hid (∀ W', SS W' → Below W2.heap.size W2 W') := hide (fun W' h => by rw [hSS] at h; exact h)
    have s8 : Hid (∀ W', Below W2.heap.size W2 W' → SS W') := hide (fun W' h => by rw [hSS]; exact h)
    have s7 : Hid (∀ W', Below W2.heap.size W2 W' → Below W0.heap.size W0 W') := hide (fun W' h => Hb2.out.trans (h.mono Hb2.out.size))
    have s1 : ∀ W', SS W' → W'.cell? ⟨w.heap.size, 0, none⟩ = some (.slice a0 n c0) := fun W' h => (layg HBOX.out (s7.out _ (s9.out W' h))).1
    have s2 : ∀ W', SS W' → W'.cell? ⟨w.heap.size, 1, none⟩ = some (.slice b0 m e0) := fun W' h => (layg HBOX.out (s7.out _ (s9.out W' h))).2
    have HL2 : Hid (∀ W', Below W2.heap.size W2 W' → Ly W' a0 b0 c0 e0 n m ns0 es0 ∧ Mk W' a1 cap1 len1 z1) := hide (fun W' h => HLM.out _ (s7.out _ h))
    clear hSS x0 x1 Hb1
    refine wp_region_held_drew (S := SS) (by kernel_rfl) (s8.out _ (below_heap (Below.refl _ _) rfl rfl rfl rfl)) (fun hS0 => ?_)
    refine wpAnyH_take (i := 0) (v := .agg #[.slice a0 n c0, .slice b0 m e0]) rfl (by kernel_rfl) (by kernel_rfl) (by kernel_rfl) (fun _ _ _ h => h) (Or.inl ⟨by rfl, fun W' hW => by have x0 := s1 W' hW; have x1 := s2 W' hW; go_simp⟩) hS0 ?_
    refine wpAnyH_take (i := 3) (v := .slice a1 len1 cap1) rfl (by kernel_rfl) (by kernel_rfl) (by kernel_rfl) (fun _ _ _ h => h) (Or.inl ⟨by rfl, fun W' hW => by go_simp⟩) hS0 ?_
    refine wpAnyH_take (i := 6) (v := .agg #[.slice a0 n c0, .slice b0 m e0]) rfl (by kernel_rfl) (by kernel_rfl) (by kernel_rfl) (fun _ _ _ h => h) (Or.inl ⟨by rfl, fun W' hW => by have x0 := s1 W' hW; have x1 := s2 W' hW; go_simp⟩) hS0 ?_
    refine wpAnyH_take (i := 7) (v := .slice a1 len1 cap1) rfl (by kernel_rfl) (by kernel_rfl) (by kernel_rfl) (fun _ _ _ h => h) (Or.inl ⟨by rfl, fun W' hW => by go_simp⟩) hS0 ?_
    refine wpAnyH_ready (rs := [1, 2]) (by kernel_rfl) (by simp) ?_
    refine AllReadyH.cons rfl (fun K hK => ?_) (AllReadyH.cons rfl (fun K hK => ?_) AllReadyH.nil)
    · go_simp
      refine (copy_own (HL2.out _ (s9.out _ hS0)).1).mono ?_
      rintro e W3 ⟨aN, aE, cN, cE, rfl, hN3, hE3, hb3⟩
      have S3 := s8.out _ ((s9.out _ hS0).trans (hb3.mono (s9.out _ hS0).size))
      have HN3 := hide (hN3.mono (s9.out _ hS0).size)
      have HE3 := hide (hE3.mono (s9.out _ hS0).size)
      clear hN3 hE3 hb3
      refine hK.out _ _ S3 (fun _ => ?_)
      clear hK K
      refine wpAnyH_ready (rs := [2]) (by kernel_rfl) (by simp) ?_
      refine AllReadyH.cons rfl (fun K hK => ?_) AllReadyH.nil
      go_simp
      have S5' := s8.out _ ((s9.out _ S3).alloc (s9.out _ S3).size (.cells #[] 3))
      have O5 : Hid (intE.Own (W3.alloc (.cells #[] 3)) W2.heap.size (.slice (some ⟨W3.heap.size, 0, none⟩) 0 0) []) := hide (El.Own.new intE W3 _ (s9.out _ S3).size #[] [] rfl (by simp) _ _ _ (by simp) rfl rfl)
      have N5 : Hid (ndE.Own (W3.alloc (.cells #[] 3)) W2.heap.size (.slice aN n cN) ns0) := hide (World.ownsRow.alloc HN3.out _)
      have E5 : Hid (edE.Own (W3.alloc (.cells #[] 3)) W2.heap.size (.slice aE m cE) es0) := hide (World.ownsRow.alloc HE3.out _)
      refine hK.out _ _ S5' (fun _ => ?_)
      clear hK K
      refine wpAnyH_ready (rs := [4]) (by kernel_rfl) (by simp) ?_
      refine AllReadyH.cons rfl (fun K hK => ?_) AllReadyH.nil
      refine stepB intE (B := W2.heap.size) (s9.out _ S5').size rfl (.tmp 13) (.tmp 14) rfl _ _ rfl rfl [] z1 O5.out (HL2.out _ (s9.out _ S5')).2.hM (by rw [Hw1.out]; have := Hlen.out; simp; omega) ?_
      intro v4 W4 ho4 hg4
      rw [List.nil_append] at ho4
      have S4 := s8.out _ ((s9.out _ S5').grown hg4 (s9.out _ S5').size (fun q hq => O5.out.ge q hq))
      obtain ⟨aM, cM, hvM⟩ := ho4.rd.form
      rw [Hw1.out] at hvM
      subst hvM
      have HM4 : Hid (Mk W4 aM cM len1 z1) := hide ⟨Hw1.out, ho4.rd, by have := Hlen.out; omega⟩
      have HL4 : Hid (Ly W4 aN aE cN cE n m ns0 es0) := hide (have h0 := (HL2.out _ (s9.out _ S4)).1; ⟨h0.hn, h0.hm, (own_other (E := intE) (F := ndE) (by decide) O5.out N5.out hg4).rd, (own_other (E := intE) (F := edE) (by decide) O5.out E5.out hg4).rd, h0.n4, h0.m4, h0.hE⟩)
      clear ho4 hg4
      refine hK.out _ _ S4 (fun _ => ?_)
      clear hK K
      refine wpAnyH_ready (rs := [5]) (by kernel_rfl) (by simp) ?_
      refine AllReadyH.cons rfl (fun K hK => ?_) AllReadyH.nil
      go_simp
      refine (whole_any _ _ _ _ _ _ _ _ _ ns0 es0 z1 _ HL4.out HM4.out).mono ?_
      rintro e W5 ⟨⟨q1, rfl, hq1⟩, hb5⟩
      have S5 := s8.out _ ((s9.out _ S4).trans (hb5.mono (s9.out _ S4).size))
      refine hK.out _ _ S5 (fun _ => ?_)
      clear hK K
      refine wpAnyH_ready (rs := [8]) (by kernel_rfl) (by simp) ?_
      refine AllReadyH.cons rfl (fun K hK => ?_) AllReadyH.nil
      go_simp
      refine (rwhole_any _ _ _ _ _ _ _ _ _ ns0 es0 z1 _ (HL2.out _ (s9.out _ S5)).1 (HL2.out _ (s9.out _ S5)).2).mono ?_
      rintro e W6 ⟨⟨q2, rfl, hq2⟩, hb6⟩
      have S6 := s8.out _ ((s9.out _ S5).trans (hb6.mono (s9.out _ S5).size))
      obtain rfl : q1 = q2 := by rw [Bool.eq_iff_iff, hq1, hq2]
      have HS6 := hide (s7.out _ (s9.out _ S6))
      have hqq : (q1 == q1) = true := beq_self_eq_true _
      clear hq1 hq2 hb5 hb6
      refine hK.out _ _ S6 (fun _ => ?_)
      clear hK K
      refine wpAnyH_ready (rs := [9]) (by kernel_rfl) (by simp) ?_
      refine AllReadyH.cons rfl (fun K hK => ?_) AllReadyH.nil
      go_simp
      refine hK.out _ _ S6 (fun _ => ?_)
      clear hK K
      refine wpAnyH_ready (rs := [10]) (by kernel_rfl) (by simp) ?_
      refine AllReadyH.cons rfl (fun K hK => ?_) AllReadyH.nil
      go_simp
      refine hK.out _ _ S6 (fun _ => ?_)
      clear hK K
      refine wpAnyH_done (by kernel_rfl) ?_ _
      go_wp2_with fail
      go_ret
      exact ⟨by first | rfl | simp, HA.out.trans (HS6.out.mono HA.out.size)⟩
    · go_simp
      have S1 := s8.out _ ((s9.out _ hS0).alloc (s9.out _ hS0).size (.cells #[] 3))
      have O1 : Hid (intE.Own (W2.drew.alloc (.cells #[] 3)) W2.heap.size (.slice (some ⟨W2.heap.size, 0, none⟩) 0 0) []) := hide (El.Own.new intE W2.drew _ (s9.out _ hS0).size #[] [] rfl (by simp) _ _ _ (by simp) rfl rfl)
      refine hK.out _ _ S1 (fun _ => ?_)
      clear hK K
      refine wpAnyH_ready (rs := [1]) (by kernel_rfl) (by simp) ?_
      refine AllReadyH.cons rfl (fun K hK => ?_) AllReadyH.nil
      go_simp
      refine (copy_own (HL2.out _ (s9.out _ S1)).1).mono ?_
      rintro e W3 ⟨aN, aE, cN, cE, rfl, hN3, hE3, hb3⟩
      have S3 := s8.out _ ((s9.out _ S1).trans (hb3.mono (s9.out _ S1).size))
      have HN3 := hide (hN3.mono (s9.out _ S1).size)
      have HE3 := hide (hE3.mono (s9.out _ S1).size)
      have O3 := hide (O1.out.keep hb3)
      clear hN3 hE3 hb3
      refine hK.out _ _ S3 (fun _ => ?_)
      clear hK K
      refine wpAnyH_ready (rs := [4]) (by kernel_rfl) (by simp) ?_
      refine AllReadyH.cons rfl (fun K hK => ?_) AllReadyH.nil
      refine stepB intE (B := W2.heap.size) (s9.out _ S3).size rfl (.tmp 13) (.tmp 14) rfl _ _ rfl rfl [] z1 O3.out (HL2.out _ (s9.out _ S3)).2.hM (by rw [Hw1.out]; have := Hlen.out; simp; omega) ?_
      intro v4 W4 ho4 hg4
      rw [List.nil_append] at ho4
      have S4 := s8.out _ ((s9.out _ S3).grown hg4 (s9.out _ S3).size (fun q hq => O3.out.ge q hq))
      obtain ⟨aM, cM, hvM⟩ := ho4.rd.form
      rw [Hw1.out] at hvM
      subst hvM
      have HM4 : Hid (Mk W4 aM cM len1 z1) := hide ⟨Hw1.out, ho4.rd, by have := Hlen.out; omega⟩
      have HL4 : Hid (Ly W4 aN aE cN cE n m ns0 es0) := hide (have h0 := (HL2.out _ (s9.out _ S4)).1; ⟨h0.hn, h0.hm, (own_other (E := intE) (F := ndE) (by decide) O3.out HN3.out hg4).rd, (own_other (E := intE) (F := edE) (by decide) O3.out HE3.out hg4).rd, h0.n4, h0.m4, h0.hE⟩)
      clear ho4 hg4
      refine hK.out _ _ S4 (fun _ => ?_)
      clear hK K
      refine wpAnyH_ready (rs := [5]) (by kernel_rfl) (by simp) ?_
      refine AllReadyH.cons rfl (fun K hK => ?_) AllReadyH.nil
      go_simp
      refine (whole_any _ _ _ _ _ _ _ _ _ ns0 es0 z1 _ HL4.out HM4.out).mono ?_
      rintro e W5 ⟨⟨q1, rfl, hq1⟩, hb5⟩
      have S5 := s8.out _ ((s9.out _ S4).trans (hb5.mono (s9.out _ S4).size))
      refine hK.out _ _ S5 (fun _ => ?_)
      clear hK K
      refine wpAnyH_ready (rs := [8]) (by kernel_rfl) (by simp) ?_
      refine AllReadyH.cons rfl (fun K hK => ?_) AllReadyH.nil
      go_simp
      refine (rwhole_any _ _ _ _ _ _ _ _ _ ns0 es0 z1 _ (HL2.out _ (s9.out _ S5)).1 (HL2.out _ (s9.out _ S5)).2).mono ?_
      rintro e W6 ⟨⟨q2, rfl, hq2⟩, hb6⟩
      have S6 := s8.out _ ((s9.out _ S5).trans (hb6.mono (s9.out _ S5).size))
      obtain rfl : q1 = q2 := by rw [Bool.eq_iff_iff, hq1, hq2]
      have HS6 := hide (s7.out _ (s9.out _ S6))
      have hqq : (q1 == q1) = true := beq_self_eq_true _
      clear hq1 hq2 hb5 hb6
      refine hK.out _ _ S6 (fun _ => ?_)
      clear hK K
      refine wpAnyH_ready (rs := [9]) (by kernel_rfl) (by simp) ?_
      refine AllReadyH.cons rfl (fun K hK => ?_) AllReadyH.nil
      go_simp
      refine hK.out _ _ S6 (fun _ => ?_)
      clear hK K
      refine wpAnyH_ready (rs := [10]) (by kernel_rfl) (by simp) ?_
      refine AllReadyH.cons rfl (fun K hK => ?_) AllReadyH.nil
      go_simp
      refine hK.out _ _ S6 (fun _ => ?_)
      clear hK K
      refine wpAnyH_done (by kernel_rfl) ?_ _
      go_wp2_with fail
      go_ret
      exact ⟨by first | rfl | simp, HA.out.trans (HS6.out.mono HA.out.size)⟩

set_option maxRecDepth 100000 in
theorem lifted (os : Os) (started : os.Started) (H : Type) (enc : TypeId × Value → H) :
    ReturnsInHanded {} Try.checked os 5 .any (Rows.reachWholeSpec.pre6 enc Try.prog Try.f5 Rows.reachWholeRow.domain false) (Rows.reachWholeSpec.post enc Try.prog Try.f5 false true false false) := by
  refine returnsInHanded_of_change_sized (C := Try.checked) own started (by kernel_rfl) Try.func5
    (ChangeSpec.witness6 (enc := enc) (C := Try.checked) false ⟨#[], #[.agg #[.slice none 0 0, .slice none 0 0], .slice none 0 0], []⟩ 8 (by kernel_rfl) (by kernel_rfl) (by kernel_rfl) (by kernel_rfl)) ?_
  intro W base args ds gs before hval0 hW hcnd hsz0 _
  have hval : ∀ (j : Nat) t v, Try.f5.params[j]? = some t → args[j]? = some v → Value.okWide Try.prog W .any base t v := hval0
  have hsz : (DataW.weightsEach Try.prog (Try.f5.params.toList ++ Rows.reachWholeSpec.plain.varTypes Try.prog) (ds ++ gs)).all (· ≤ reachBytes) = true := hsz0
  have hW' := hW
  obtain ⟨p, q, hA0, hV, rfl, hfz, hnd⟩ := hW
  have hA : DataW.TrodAll enc Try.prog W 0 (fun _ => true) true Try.f5.params.toList args.toList ds p := hA0
  rw [Try.params5] at hA hval hsz
  obtain ⟨v0, vs0, d0, ds0, p0, q0, hargs, rfl, rfl, h0, r0⟩ := trodAll_cons hA
  obtain ⟨v1, vs1, d1, ds1, p1, q1, rfl, rfl, rfl, h1, r1⟩ := trodAll_cons r0
  obtain ⟨rfl, rfl, rfl⟩ := trodAll_nil r1
  obtain rfl : args = #[v0, v1] := by cases args; simp_all
  obtain ⟨rfl, rfl⟩ := trodVars_none hV
  have k0 := h0
  have lt0 : ∀ x ∈ p0, x.block < W.heap.size := by obtain ⟨m, hm⟩ := k0; exact DataW.trod_lt m _ _ _ hm
  obtain ⟨cs0, rfl, _⟩ := okWide_struct Try.underlying25 (hval 0 25 v0 rfl rfl)
  obtain ⟨a0, c0, b0, e0, ns0, es0, hcs0, rn0, re0, rs0⟩ : ∃ (a : Option Addr) (c : Nat) (a' : Option Addr) (c' : Nat) (ns : List Nd) (es : List Ed), cs0 = #[.slice a ns.length c, .slice a' es.length c'] ∧ ndE.Rd W (.slice a ns.length c) ns ∧ edE.Rd W (.slice a' es.length c') es ∧ ∀ n ∈ ns, n.name.size ≤ maxLen := by
    obtain ⟨fuel, hf⟩ := h0
    obtain ⟨a, c, a', c', ns, es, he, h1, h2, h3⟩ := layout_of_trod hf
    exact ⟨a, c, a', c', ns, es, by apply Array.toList_inj.1; exact he, h1, h2, h3⟩
  subst hcs0
  obtain ⟨a1, len1, cap1, rfl⟩ := okWide_slice Try.underlying26 (hval 1 26 v1 rfl rfl)
  have k1 := h1
  have lt1 : ∀ x ∈ p1, x.block < W.heap.size := by obtain ⟨m, hm⟩ := k1; exact DataW.trod_lt m _ _ _ hm
  obtain ⟨z1, w1, s1, _⟩ : ∃ zs : List Int, zs.length = len1 ∧ intE.Rd W (.slice a1 len1 cap1) zs ∧ ∀ y ∈ zs, (Lit.int .i64 y).wf = true := by
    obtain ⟨fuel, hf⟩ := h1
    exact rd_of_trod intE (fun y => (Lit.int .i64 y).wf = true) (by kernel_rfl) (fun n cs y hy => int_of_trod hy) hf rfl
  clear hA0 hval0
  refine (walk a0 b0 c0 e0 ns0 es0 a1 len1 cap1 z1 W rn0 re0 rs0 w1 s1).mono fun e W' ⟨he, bel⟩ => ?_
  subst he
  exact ⟨_, rfl, _, _, _, [], _, [], hW', trodAll_mk1 (shut_bool Try.underlying4 _), (trodAll_cons_mk (Below.trod laidOut (by kernel_rfl) (of_decide_eq_true (by kernel_rfl)) k0 bel lt0) (trodAll_cons_mk (Below.trod laidOut (by kernel_rfl) (of_decide_eq_true (by kernel_rfl)) k1 bel lt1) trodAll_mk0)), rfl, bel.frame _, fun h => by cases h⟩

theorem over : Rows.reachWholeRow.holds Try.pinned (OpenSpec.ofChange Rows.reachWholeSpec) :=
  OpenClaim.holds_of_wide 5 Try.f5 rfl rfl rfl rfl rfl rfl rfl ⟨rfl, rfl, rfl, rfl, rfl⟩ rfl rfl rfl rfl rfl (by kernel_rfl) Try.func5 (by kernel_rfl)
    (of_decide_eq_true (by kernel_rfl)) (by unfold Func.isWrapper; first | (rw [if_pos (by decide +kernel)]; kernel_rfl) | (rw [if_neg (by decide +kernel)]; exact ⟨rfl, rfl⟩))
    (fun os started H enc _ => lifted os started H enc)

theorem proved : Rows.ReachWholeSaid := over
end Go.Proofs.Ythimeobnfkoefaa.reachWhole
