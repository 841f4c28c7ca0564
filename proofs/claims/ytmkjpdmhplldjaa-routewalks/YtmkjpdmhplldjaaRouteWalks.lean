/- RouteWalks: for every layout, every node and every row of devices the statement's function returns true: where any row of at most 200 devices leads is told as the document says, or that it leads nowhere; and it writes nothing that was there. No condition. -/
import Derived.Test.YtmkjpdmhplldjaaAwk
import Derived.Test.YtmkjpdmhplldjaaWlk
namespace Go.Proofs.Ytmkjpdmhplldjaa.routeWalks
open Go.ChangeShapes Go.WideShapes Go.ChangeAt Go.RowKit
set_option linter.unusedVariables false

theorem own : ownKnob Try.prog.godebug = none := by kernel_rfl
theorem laidOut : laidOutB Try.prog = true := by kernel_rfl

set_option maxRecDepth 100000 in
set_option maxHeartbeats 4000000 in
theorem walk (a0 b0 : Option Addr) (c0 e0 : Nat) (ns0 : List Nd) (es0 : List Ed) (n1 : Int) (a2 : Option Addr) (len2 cap2 : Nat) (z2 : List Int) (w : World) (rn0 : ndE.Rd w (.slice a0 ns0.length c0) ns0) (re0 : edE.Rd w (.slice b0 es0.length e0) es0) (rs0 : ∀ p ∈ ns0, p.name.size ≤ maxLen) (h1 : -9223372036854775808 ≤ n1 ∧ n1 ≤ 9223372036854775807) (w2 : z2.length = len2) (s2 : intE.Rd w (.slice a2 len2 cap2) z2) :
    Calls Try.prog 5 #[.agg #[.slice a0 ns0.length c0, .slice b0 es0.length e0], .int .i64 n1, .slice a2 len2 cap2] w fun e w' => e = .returned (.bool true) ∧ Below w.heap.size w w' := by
  obtain ⟨n, hn⟩ : ∃ n, ns0.length = n := ⟨_, rfl⟩
  obtain ⟨m, hm⟩ : ∃ m, es0.length = m := ⟨_, rfl⟩
  rw [hn] at rn0 ⊢
  rw [hm] at re0 ⊢
  obtain ⟨W0, hW0⟩ : ∃ W0, w.alloc (.cells #[.slice a0 n c0, .slice b0 m e0] 25) = W0 := ⟨_, rfl⟩
  have bA : Below w.heap.size w W0 := by rw [← hW0]; exact (Below.refl _ _).alloc (Nat.le_refl _) _
  have hbox : W0.heap[w.heap.size]? = some (.cells #[.slice a0 n c0, .slice b0 m e0] 25) := by rw [← hW0]; exact heap_new _ _
  have HBOX := hide hbox
  have HA := hide bA
  have HW0 := hide hW0
  have K9 := hide awake_any
  have HR : Hid (∀ W, Below W0.heap.size W0 W → ndE.Rd W (.slice a0 n c0) ns0 ∧ edE.Rd W (.slice b0 m e0) es0 ∧ intE.Rd W (.slice a2 len2 cap2) z2) := hide (fun W h => have b := bA.trans (h.mono bA.size); ⟨rn0.keep b, re0.keep b, s2.keep b⟩)
  have K22 : Hid (∀ W, Below W0.heap.size W0 W → Calls Try.prog 22 #[.agg #[.slice a0 n c0, .slice b0 m e0]] W fun e w' => e = .returned (.bool (good ns0 es0)) ∧ Below W.heap.size W w') := hide (fun W h => by
    have := rgood_any a0 b0 c0 e0 ns0 es0 W (by rw [hn]; exact (HR.out W h).1) (by rw [hm]; exact (HR.out W h).2.1)
    rwa [hn, hm] at this)
  have HG : Hid (good ns0 es0 = true → (∀ W, Below W0.heap.size W0 W → Ly W a0 b0 c0 e0 n m ns0 es0) ∧ n ≤ 40 ∧ 1 ≤ n ∧ m ≤ 120) := hide (fun h => by
    have hg := good_ly h hn hm (HR.out _ (Below.refl _ _)).1 (HR.out _ (Below.refl _ _)).2.1
    exact ⟨fun W hW => (good_ly h hn hm (HR.out W hW).1 (HR.out W hW).2.1).1, hg.2.2.1, hg.2.1, hg.2.2.2⟩)
  have Hw2 := hide w2
  clear rn0 re0 rs0 w2 s2 hn hm bA hbox hW0 h1
  generalize good ns0 es0 = gd at *
  by_cases hlen : len2 > 200
  · have hl : (len2 : Int) > 200 := by omega
    go_enter Try.func5, Try.ntmps5
    go_upto_region 1 with fail
    rw [HW0.out]
    clear HW0
    go_upto_region 2 with (go_at_call 9; refine (K9.out _).mono ?_; rintro e W1 ⟨rfl, hb1⟩; have Hb1 := hide hb1; clear hb1)
    go_wp2_with (go_at_call 9; refine (K9.out _).mono ?_; rintro e W2 ⟨rfl, hb2⟩; have Hb2 := hide (Hb1.out.trans (hb2.mono Hb1.out.size)); clear hb2)
    go_ret
    exact ⟨rfl, HA.out.trans (Hb2.out.mono HA.out.size)⟩
  have hl : ¬ (len2 : Int) > 200 := by omega
  have hl2 : (len2 : Int) ≤ 200 := by omega
  have Hlen : Hid (len2 ≤ 200) := hide (by omega)
  clear hlen
  go_enter Try.func5, Try.ntmps5
  go_upto_region 1 with fail
  rw [HW0.out]
  clear HW0
  go_upto_region 3 with (go_at_call 9; refine (K9.out _).mono ?_; rintro e W1 ⟨rfl, hb1⟩; have Hb1 := hide hb1; obtain ⟨x0, x1⟩ := layg HBOX.out hb1; clear hb1)
  cases gd with
  | false =>
    go_wp2_with (go_at_call 22; refine (K22.out _ Hb1.out).mono ?_; rintro e W2 ⟨rfl, hb2⟩; have Hb2 := hide (Hb1.out.trans (hb2.mono Hb1.out.size)); clear hb2)
    go_ret
    exact ⟨rfl, HA.out.trans (Hb2.out.mono HA.out.size)⟩
  | true =>
    obtain ⟨hLM, hn40, hn1, hm12⟩ := HG.out rfl
    have HLM := hide hLM
    have l2 : (n : Int) ≤ 40 := by omega
    have l3 : (1 : Int) ≤ (n : Int) := by omega
    have l4 : (m : Int) ≤ 120 := by omega
    have Hm12 := hide hm12
    clear hLM hn40 hn1 hm12 HG
    go_upto_region 5 with (go_at_call 22; refine (K22.out _ Hb1.out).mono ?_; rintro e W2 ⟨rfl, hb2⟩; have Hb2 := hide (Hb1.out.trans (hb2.mono Hb1.out.size)); obtain ⟨x0, x1⟩ := layg HBOX.out Hb2.out; clear hb2)
    clear K9 K22 Hb1
    have K13 := hide (fun W => outside_any a0 b0 n c0 m e0 n1 W)
    have KARM : Hid True := hide trivial
    by_cases hx : 0 ≤ n1 ∧ n1 < (n : Int)
    · have tx : (!decide (0 ≤ n1 ∧ n1 < (n : Int))) = false := by rw [decide_eq_true hx]; rfl
      have Hx := hide hx
      clear hx
      obtain ⟨R, hR⟩ : ∃ R, wlk es0 n1 z2 = R := ⟨_, rfl⟩
      have K23 : Hid (∀ (W : World) aN aE cN cE aM cM, Ly W aN aE cN cE n m ns0 es0 → intE.Rd W (.slice aM len2 cM) z2 → Calls Try.prog 23 #[.agg #[.slice aN n cN, .slice aE m cE], .int .i64 n1, .slice aM len2 cM] W fun e w' => e = .returned (.tuple #[.int .i64 (wres R).1, .int .i64 (wres R).2]) ∧ Below W.heap.size W w') := hide (fun W aN aE cN cE aM cM hL hM => by rw [← hR]; exact walk_ok aN aE aM cN cE n m len2 cM es0 n1 z2 W hL.hm hL.hu (by have := Hm12.out; omega) Hw2.out hM (by have := Hlen.out; omega) Hx.out)
      have K24 : Hid (∀ (W : World), Below W0.heap.size W0 W → Calls Try.prog 24 #[.agg #[.slice a0 n c0, .slice b0 m e0], .int .i64 n1, .slice a2 len2 cap2] W fun e w' => e = .returned (.tuple #[.int .i64 (wres R).1, .int .i64 (wres R).2]) ∧ Below W.heap.size W w') := hide (fun W h => by rw [← hR]; exact rwalk_any a0 b0 a2 c0 e0 n m len2 cap2 es0 n1 z2 W (HLM.out W h).hm (HLM.out W h).hu (by have := Hm12.out; omega) Hw2.out (HR.out W h).2.2 (by have := Hlen.out; omega))
      clear hR
      generalize (wres R).1 = r1 at *
      generalize (wres R).2 = r2 at *
      go_upto_region 6 with (first
        | (go_at_call 11; refine (copy_ly (HLM.out _ Hb2.out)).mono ?_; rintro e W3 ⟨aN, aE, cN, cE, rfl, hL3, hb3⟩
           have HL3 := hide hL3
           have Hb3 : Hid (Below W0.heap.size W0 W3) := hide (Hb2.out.trans (hb3.mono Hb2.out.size))
           have HO3 : Hid (intE.Own (W3.alloc (.cells #[] 3)) W3.heap.size (.slice (some ⟨W3.heap.size, 0, none⟩) 0 0) []) := hide (El.Own.new intE W3 _ (Nat.le_refl _) #[] [] rfl (by simp) _ _ _ rfl rfl rfl)
           have HB3 : Hid (Below W3.heap.size W3 (W3.alloc (.cells #[] 3))) := hide ((Below.refl _ _).alloc (Nat.le_refl _) _)
           clear hL3 hb3)
        | (at_builtin; refine intE.wp (w0 := W3) HB3.out (by rfl) _ _ rfl _ _ rfl rfl [] z2 HO3.out (HR.out _ (Hb3.out.trans (HB3.out.mono Hb3.out.size))).2.2 (by rw [Hw2.out]; have := Hlen.out; simp; omega) ?_; intro v4 W4 ho4 hg4 hv4 hb4
           rw [List.nil_append] at ho4
           obtain ⟨aM, cM, hvM⟩ := ho4.rd.form
           rw [Hw2.out] at hvM
           subst hvM
           have HM4 : Hid (intE.Rd W4 (.slice aM len2 cM) z2) := hide ho4.rd
           have HL4 := hide (HL3.out.keep hb4)
           have Hb4 : Hid (Below W0.heap.size W0 W4) := hide (Hb3.out.trans (hb4.mono Hb3.out.size))
           clear ho4 hg4 hv4 hb4)
        | (go_at_call 23; refine (K23.out _ _ _ _ _ _ _ HL4.out HM4.out).mono ?_; rintro e W5 ⟨rfl, hb5⟩
           have Hb5 : Hid (Below W0.heap.size W0 W5) := hide (Hb4.out.trans (hb5.mono Hb4.out.size))
           obtain ⟨x0, x1⟩ := layg HBOX.out Hb5.out
           clear hb5))
      go_upto_region 8 with (go_at_call 13; refine (K13.out _).mono ?_; rintro e W6 ⟨rfl, hb6⟩; rw [tx]; have Hb6 : Hid (Below W0.heap.size W0 W6) := hide (Hb5.out.trans (hb6.mono Hb5.out.size)); obtain ⟨x0, x1⟩ := layg HBOX.out Hb6.out; clear hb6)
      have q1 : (r1 == r1) = true := beq_self_eq_true _
      have q2 : (r2 == r2) = true := beq_self_eq_true _
      go_wp2_with (go_at_call 24; refine (K24.out _ Hb6.out).mono ?_; rintro e W7 ⟨rfl, hb7⟩; have Hb7 : Hid (Below W0.heap.size W0 W7) := hide (Hb6.out.trans (hb7.mono Hb6.out.size)); clear hb7)
      go_ret
      exact ⟨by first | rfl | simp, HA.out.trans (Hb7.out.mono HA.out.size)⟩
    · have tx : (!decide (0 ≤ n1 ∧ n1 < (n : Int))) = true := by rw [decide_eq_false hx]; rfl
      have Hx := hide hx
      clear hx
      have K23 : Hid (∀ (W : World) aN aE cN cE v, Calls Try.prog 23 #[.agg #[.slice aN n cN, .slice aE m cE], .int .i64 n1, v] W fun e w' => e = .returned (.tuple #[.int .i64 0, .int .i64 1]) ∧ Below W.heap.size W w') := hide (fun W aN aE cN cE v => walk_no aN aE cN cE n m n1 v W Hx.out)
      go_upto_region 6 with (first
        | (go_at_call 11; refine (copy_ly (HLM.out _ Hb2.out)).mono ?_; rintro e W3 ⟨aN, aE, cN, cE, rfl, hL3, hb3⟩
           have Hb3 : Hid (Below W0.heap.size W0 W3) := hide (Hb2.out.trans (hb3.mono Hb2.out.size))
           have HO3 : Hid (intE.Own (W3.alloc (.cells #[] 3)) W3.heap.size (.slice (some ⟨W3.heap.size, 0, none⟩) 0 0) []) := hide (El.Own.new intE W3 _ (Nat.le_refl _) #[] [] rfl (by simp) _ _ _ rfl rfl rfl)
           have HB3 : Hid (Below W3.heap.size W3 (W3.alloc (.cells #[] 3))) := hide ((Below.refl _ _).alloc (Nat.le_refl _) _)
           clear hL3 hb3)
        | (at_builtin; refine intE.wp (w0 := W3) HB3.out (by rfl) _ _ rfl _ _ rfl rfl [] z2 HO3.out (HR.out _ (Hb3.out.trans (HB3.out.mono Hb3.out.size))).2.2 (by rw [Hw2.out]; have := Hlen.out; simp; omega) ?_; intro v4 W4 ho4 hg4 hv4 hb4
           have Hb4 : Hid (Below W0.heap.size W0 W4) := hide (Hb3.out.trans (hb4.mono Hb3.out.size))
           clear ho4 hg4 hv4 hb4)
        | (go_at_call 23; refine (K23.out _ _ _ _ _ _).mono ?_; rintro e W5 ⟨rfl, hb5⟩
           have Hb5 : Hid (Below W0.heap.size W0 W5) := hide (Hb4.out.trans (hb5.mono Hb4.out.size))
           obtain ⟨x0, x1⟩ := layg HBOX.out Hb5.out
           clear hb5))
      go_wp2_with (go_at_call 13; refine (K13.out _).mono ?_; rintro e W6 ⟨rfl, hb6⟩; rw [tx]; have Hb6 : Hid (Below W0.heap.size W0 W6) := hide (Hb5.out.trans (hb6.mono Hb5.out.size)); clear hb6)
      go_ret
      exact ⟨by first | rfl | simp, HA.out.trans (Hb6.out.mono HA.out.size)⟩

set_option maxRecDepth 100000 in
theorem lifted (os : Os) (started : os.Started) (H : Type) (enc : TypeId × Value → H) :
    ReturnsInHanded {} Try.checked os 5 .any (Rows.routeWalksSpec.pre6 enc Try.prog Try.f5 Rows.routeWalksRow.domain false) (Rows.routeWalksSpec.post enc Try.prog Try.f5 false true false false) := by
  refine returnsInHanded_of_change_sized (C := Try.checked) own started (by kernel_rfl) Try.func5
    (ChangeSpec.witness6 (enc := enc) (C := Try.checked) false ⟨#[], #[.agg #[.slice none 0 0, .slice none 0 0], .int .i64 0, .slice none 0 0], []⟩ 8 (by kernel_rfl) (by kernel_rfl) (by kernel_rfl) (by kernel_rfl)) ?_
  intro W base args ds gs before hval0 hW hcnd hsz0 _
  have hval : ∀ (j : Nat) t v, Try.f5.params[j]? = some t → args[j]? = some v → Value.okWide Try.prog W .any base t v := hval0
  have hsz : (DataW.weightsEach Try.prog (Try.f5.params.toList ++ Rows.routeWalksSpec.plain.varTypes Try.prog) (ds ++ gs)).all (· ≤ reachBytes) = true := hsz0
  have hW' := hW
  obtain ⟨p, q, hA0, hV, rfl, hfz, hnd⟩ := hW
  have hA : DataW.TrodAll enc Try.prog W 0 (fun _ => true) true Try.f5.params.toList args.toList ds p := hA0
  rw [Try.params5] at hA hval hsz
  obtain ⟨v0, vs0, d0, ds0, p0, q0, hargs, rfl, rfl, h0, r0⟩ := trodAll_cons hA
  obtain ⟨v1, vs1, d1, ds1, p1, q1, rfl, rfl, rfl, h1, r1⟩ := trodAll_cons r0
  obtain ⟨v2, vs2, d2, ds2, p2, q2, rfl, rfl, rfl, h2, r2⟩ := trodAll_cons r1
  obtain ⟨rfl, rfl, rfl⟩ := trodAll_nil r2
  obtain rfl : args = #[v0, v1, v2] := by cases args; simp_all
  obtain ⟨rfl, rfl⟩ := trodVars_none hV
  have k0 := h0
  have lt0 : ∀ x ∈ p0, x.block < W.heap.size := by obtain ⟨m, hm⟩ := k0; exact DataW.trod_lt m _ _ _ hm
  obtain ⟨cs0, rfl, _⟩ := okWide_struct Try.underlying25 (hval 0 25 v0 rfl rfl)
  obtain ⟨a0, c0, b0, e0, ns0, es0, hcs0, rn0, re0, rs0⟩ : ∃ (a : Option Addr) (c : Nat) (a' : Option Addr) (c' : Nat) (ns : List Nd) (es : List Ed), cs0 = #[.slice a ns.length c, .slice a' es.length c'] ∧ ndE.Rd W (.slice a ns.length c) ns ∧ edE.Rd W (.slice a' es.length c') es ∧ ∀ n ∈ ns, n.name.size ≤ maxLen := by
    obtain ⟨fuel, hf⟩ := h0
    obtain ⟨a, c, a', c', ns, es, he, h1, h2, h3⟩ := layout_of_trod hf
    exact ⟨a, c, a', c', ns, es, by apply Array.toList_inj.1; exact he, h1, h2, h3⟩
  subst hcs0
  have k1 := h1
  have lt1 : ∀ x ∈ p1, x.block < W.heap.size := by obtain ⟨m, hm⟩ := k1; exact DataW.trod_lt m _ _ _ hm
  obtain ⟨n1, rfl⟩ := okWide_int Try.underlying3 (hval 1 3 v1 rfl rfl)
  have w1 : (Lit.int .i64 n1).wf = true := by
    obtain ⟨fuel, hf⟩ := h1
    obtain ⟨m, e, _, hw⟩ := DataW.trod_int Try.underlying3 hf
    simp [Value.cells] at e
    rw [e]; exact hw
  obtain ⟨a2, len2, cap2, rfl⟩ := okWide_slice Try.underlying26 (hval 2 26 v2 rfl rfl)
  have k2 := h2
  have lt2 : ∀ x ∈ p2, x.block < W.heap.size := by obtain ⟨m, hm⟩ := k2; exact DataW.trod_lt m _ _ _ hm
  obtain ⟨z2, w2, s2, _⟩ : ∃ zs : List Int, zs.length = len2 ∧ intE.Rd W (.slice a2 len2 cap2) zs ∧ ∀ y ∈ zs, (Lit.int .i64 y).wf = true := by
    obtain ⟨fuel, hf⟩ := h2
    exact rd_of_trod intE (fun y => (Lit.int .i64 y).wf = true) (by kernel_rfl) (fun n cs y hy => int_of_trod hy) hf rfl
  clear hA0 hval0
  refine (walk a0 b0 c0 e0 ns0 es0 n1 a2 len2 cap2 z2 W rn0 re0 rs0 (bounds_i64 w1) w2 s2).mono fun e W' ⟨he, bel⟩ => ?_
  subst he
  exact ⟨_, rfl, _, _, _, [], _, [], hW', trodAll_mk1 (shut_bool Try.underlying4 _), (trodAll_cons_mk (Below.trod laidOut (by kernel_rfl) (of_decide_eq_true (by kernel_rfl)) k0 bel lt0) (trodAll_cons_mk (Below.trod laidOut (by kernel_rfl) (of_decide_eq_true (by kernel_rfl)) k1 bel lt1) (trodAll_cons_mk (Below.trod laidOut (by kernel_rfl) (of_decide_eq_true (by kernel_rfl)) k2 bel lt2) trodAll_mk0))), rfl, bel.frame _, fun h => by cases h⟩

theorem over : Rows.routeWalksRow.holds Try.pinned (OpenSpec.ofChange Rows.routeWalksSpec) :=
  OpenClaim.holds_of_wide 5 Try.f5 rfl rfl rfl rfl rfl rfl rfl ⟨rfl, rfl, rfl, rfl, rfl⟩ rfl rfl rfl rfl rfl (by kernel_rfl) Try.func5 (by kernel_rfl)
    (of_decide_eq_true (by kernel_rfl)) (by unfold Func.isWrapper; first | (rw [if_pos (by decide +kernel)]; kernel_rfl) | (rw [if_neg (by decide +kernel)]; exact ⟨rfl, rfl⟩))
    (fun os started H enc _ => lifted os started H enc)

theorem proved : Rows.RouteWalksSaid := over
end Go.Proofs.Ytmkjpdmhplldjaa.routeWalks
