/- ZoneOrders: for every list of zones Order tells them once each, rising, as the document does, or that one is none, and the list stays; no condition. -/
import Derived.Test.YtmmkfcmbmecleaaArgs
import Derived.Test.YtmmkfcmbmecleaaZaw
namespace Go.Proofs.Ytmmkfcmbmecleaa.zoneOrders
open Go.ChangeShapes Go.WideShapes Go.ChangeAt Go.RowKit
set_option linter.unusedVariables false

theorem own : ownKnob Try.prog.godebug = none := by kernel_rfl
theorem laidOut : laidOutB Try.prog = true := by kernel_rfl

set_option maxRecDepth 100000 in
set_option maxHeartbeats 4000000 in
theorem walk (a : Option Addr) (n c : Nat) (zs : List Int) (w : World) (hn : zs.length = n) (hv : intE.Rd w (.slice a n c) zs) :
    Calls Try.prog 5 #[.slice a n c] w fun e w' => e = .returned (.bool true) ∧ Below w.heap.size w w' := by
  obtain ⟨w0, rfl⟩ : ∃ w0, w0 = w := ⟨_, rfl⟩
  have KA := hide awake_any
  by_cases hl : n ≤ 300
  · have g1 : ¬ ((n : Int) > 300) := by omega
    have HR : Hid (∀ W, Below w0.heap.size w0 W → intE.Rd W (.slice a n c) zs) := hide (fun W hb => hv.keep hb)
    have K21 : Hid (∀ (W : World) (a' : Option Addr) (c' : Nat), intE.Rd W (.slice a' n c') zs → Calls Try.prog 21 #[.slice a' n c'] W fun e w' => (∃ u x, e = .returned (.tuple #[u, .int .i64 x]) ∧ OP (zs.all okZ) zs W.heap.size u x w') ∧ Below W.heap.size W w') := hide (fun W a' c' h => order_any a' c' n zs W hn h (by omega))
    have K22 : Hid (∀ (W : World), intE.Rd W (.slice a n c) zs → Calls Try.prog 22 #[.slice a n c] W fun e w' => (∃ u, e = .returned (.tuple #[u, .bool (zs.all okZ)]) ∧ ROP (zs.all okZ) zs W.heap.size u w') ∧ Below W.heap.size W w') := hide (fun W h => rorder_any a c n zs W hn h (by omega))
    have K18 : Hid (∀ (W : World) (a b : Option Addr) (c d n : Nat) (xs : List Int), xs.length = n → n ≤ 100000 → intE.Rd W (.slice a n c) xs → intE.Rd W (.slice b n d) xs → Calls Try.prog 18 #[.slice a n c, .slice b n d] W fun e w' => e = .returned (.bool true) ∧ Below W.heap.size W w') := hide (fun W a b c d n xs hx hl h1 h2 => by
      have := ints_eq h1 h2 hx hx hl
      rwa [decide_eq_true rfl] at this)
    have Hn := hide hn
    have Hl : Hid (([] : List Int).length + zs.length ≤ 1000000) := hide (by simp; omega)
    have Hn3 : Hid (n ≤ 100000) := hide (by omega)
    generalize zs.all okZ = ok at *
    clear hn hv hl
    go_enter Try.func5, Try.ntmps5
    go_upto_region 3 with (go_at_call 9; refine (KA.out _).mono ?_; rintro e W1 ⟨rfl, hb1⟩; have HB := hide hb1; clear hb1)
    have Hba : Hid (∀ (o : Obj), Below w0.heap.size w0 (W1.alloc o)) := hide (fun o => HB.out.alloc HB.out.size o)
    have Hnew : Hid (intE.Own (W1.alloc (.cells #[] 3)) w0.heap.size (.slice (some ⟨W1.heap.size, 0, none⟩) 0 0) []) := hide (El.Own.new intE W1 w0.heap.size HB.out.size #[] [] rfl (by simp) _ _ _ rfl rfl rfl)
    go_upto_region 4 with (at_builtin; refine intE.wp (w0 := w0) (Hba.out _) (by rfl) _ _ rfl _ _ rfl rfl [] zs Hnew.out (HR.out _ (Hba.out _)) Hl.out ?_; intro v1 w2 ho2 _ _ hb2; have HO := hide ho2; have HB := hide hb2; clear ho2 hb2)
    obtain ⟨a1, c1, hv1⟩ := HO.out.rd.form
    rw [List.nil_append, Hn.out] at hv1
    subst hv1
    have HO1 : Hid (intE.Rd w2 (.slice a1 n c1) zs) := hide HO.out.rd
    clear Hnew Hba HO
    go_upto_region 5 with (go_at_call 21; refine (K21.out _ _ _ HO1.out).mono ?_; rintro e W3 ⟨⟨u, x, rfl, h3⟩, hb3⟩; have H3 := hide h3; have HO3 := hide (HO1.out.keep hb3); have HB := hide (HB.out.trans (hb3.mono HB.out.size)); clear h3 hb3)
    go_upto_region 6 with (go_at_call 22; refine (K22.out _ (HR.out _ HB.out)).mono ?_; rintro e W4 ⟨⟨u', rfl, h4⟩, hb4⟩; have H4 := hide h4; have HO4 := hide (HO3.out.keep hb4); have Hb34 := hide hb4; have HB := hide (HB.out.trans (hb4.mono HB.out.size)); clear h4 hb4)
    rcases H3.out with ⟨rfl, rfl, ho⟩ | ⟨rfl, rfl, rfl⟩
    · rcases H4.out with ⟨_, ho'⟩ | ⟨h, _⟩
      · obtain ⟨pa, pc, hf⟩ := own_form ho
        obtain ⟨qa, qc, hf'⟩ := own_form ho'
        obtain ⟨m, hm⟩ : ∃ m, (ordK zs 8).length = m := ⟨_, rfl⟩
        rw [hm] at hf hf'
        subst hf hf'
        have H5 : Hid (∀ W, Below W4.heap.size W4 W → intE.Rd W (.slice pa m pc) (ints (ordK zs 8)) ∧ intE.Rd W (.slice qa m qc) (ints (ordK zs 8))) := hide (fun W hb => ⟨(ho.rd.keep Hb34.out).keep hb, ho'.rd.keep hb⟩)
        have Hm : Hid ((ints (ordK zs 8)).length = m) := hide (by rw [ints_len]; exact hm)
        have Hm8 : Hid (m ≤ 100000) := hide (by have := ordK_len zs 8; omega)
        generalize ints (ordK zs 8) = os at *
        clear ho ho' hm H3 H4
        go_wp2_with (first | (go_at_call_of 18 (Value.slice a1 n c1); refine (K18.out _ _ _ _ _ _ _ Hn.out Hn3.out HO4.out (HR.out _ HB.out)).mono ?_; rintro e W5 ⟨rfl, hb5⟩; have HB5 := hide (HB.out.trans (hb5.mono HB.out.size)); have H6 := hide (H5.out _ hb5); clear hb5) | (go_at_call_of 18 (Value.slice pa m pc); refine (K18.out _ _ _ _ _ _ _ Hm.out Hm8.out H6.out.1 H6.out.2).mono ?_; rintro e W6 ⟨rfl, hb6⟩; have HB6 := hide (HB5.out.trans (hb6.mono HB5.out.size)); clear hb6))
        go_ret
        exact ⟨rfl, HB6.out⟩
      · cases h
    · rcases H4.out with ⟨h, _⟩ | ⟨_, rfl⟩
      · cases h
      · have K0 : Hid (∀ W, Calls Try.prog 18 #[.slice none 0 0, .slice none 0 0] W fun e w' => e = .returned (.bool true) ∧ Below W.heap.size W w') := hide (fun W => K18.out W none none 0 0 0 [] rfl (by omega) (.inl ⟨rfl, rfl⟩) (.inl ⟨rfl, rfl⟩))
        clear H3 H4
        go_wp2_with (first | (go_at_call_of 18 (Value.slice a1 n c1); refine (K18.out _ _ _ _ _ _ _ Hn.out Hn3.out HO4.out (HR.out _ HB.out)).mono ?_; rintro e W5 ⟨rfl, hb5⟩; have HB5 := hide (HB.out.trans (hb5.mono HB.out.size)); clear hb5) | (go_at_call_of 18 (Value.slice none 0 0); refine (K0.out _).mono ?_; rintro e W6 ⟨rfl, hb6⟩; have HB6 := hide (HB5.out.trans (hb6.mono HB5.out.size)); clear hb6))
        go_ret
        exact ⟨rfl, HB6.out⟩
  · have g1 : ((n : Int) > 300) := by omega
    clear hn hv hl
    go_enter Try.func5, Try.ntmps5
    go_upto_region 2 with (go_at_call 9; refine (KA.out _).mono ?_; rintro e W1 ⟨rfl, hb1⟩; have HB := hide hb1; clear hb1)
    go_wp2_with (go_at_call 9; refine (KA.out _).mono ?_; rintro e W2 ⟨rfl, hb2⟩; have HB2 := hide (HB.out.trans (hb2.mono HB.out.size)); clear hb2)
    go_ret
    exact ⟨rfl, HB2.out⟩

set_option maxRecDepth 100000 in
theorem lifted (os : Os) (started : os.Started) (H : Type) (enc : TypeId × Value → H) :
    ReturnsInHanded {} Try.checked os 5 .any (Rows.zoneOrdersSpec.pre6 enc Try.prog Try.f5 Rows.zoneOrdersRow.domain false) (Rows.zoneOrdersSpec.post enc Try.prog Try.f5 false true false false) := by
  refine returnsInHanded_of_change_sized (C := Try.checked) own started (by kernel_rfl) Try.func5
    (ChangeSpec.witness6 (enc := enc) (C := Try.checked) false ⟨#[], #[.slice none 0 0], []⟩ 8 (by kernel_rfl) (by kernel_rfl) (by kernel_rfl) (by kernel_rfl)) ?_
  intro W base args ds gs before hval0 hW hcnd hsz0 _
  have hval : ∀ (j : Nat) t v, Try.f5.params[j]? = some t → args[j]? = some v → Value.okWide Try.prog W .any base t v := hval0
  have hsz : (DataW.weightsEach Try.prog (Try.f5.params.toList ++ Rows.zoneOrdersSpec.plain.varTypes Try.prog) (ds ++ gs)).all (· ≤ reachBytes) = true := hsz0
  have hW' := hW
  obtain ⟨p, q, hA0, hV, rfl, hfz, hnd⟩ := hW
  have hA : DataW.TrodAll enc Try.prog W 0 (fun _ => true) true Try.f5.params.toList args.toList ds p := hA0
  rw [Try.params5] at hA hval hsz
  obtain ⟨v0, vs0, d0, ds0, p0, q0, hargs, rfl, rfl, h0, r0⟩ := trodAll_cons hA
  obtain ⟨rfl, rfl, rfl⟩ := trodAll_nil r0
  obtain rfl : args = #[v0] := by cases args; simp_all
  obtain ⟨rfl, rfl⟩ := trodVars_none hV
  obtain ⟨a0, len0, cap0, rfl⟩ := okWide_slice Try.underlying26 (hval 0 26 v0 rfl rfl)
  have k0 := h0
  have lt0 : ∀ x ∈ p0, x.block < W.heap.size := by obtain ⟨m, hm⟩ := k0; exact DataW.trod_lt m _ _ _ hm
  obtain ⟨z0, w0, s0, _⟩ : ∃ zs : List Int, zs.length = len0 ∧ intE.Rd W (.slice a0 len0 cap0) zs ∧ ∀ y ∈ zs, (Lit.int .i64 y).wf = true := by
    obtain ⟨fuel, hf⟩ := h0
    exact rd_of_trod intE (fun y => (Lit.int .i64 y).wf = true) (by kernel_rfl) (fun n cs y hy => int_of_trod hy) hf rfl
  clear hA0 hval0
  refine (walk a0 len0 cap0 z0 W w0 s0).mono fun e W' ⟨he, bel⟩ => ?_
  subst he
  exact ⟨_, rfl, _, _, _, [], _, [], hW', trodAll_mk1 (shut_bool Try.underlying4 _), (trodAll_cons_mk (Below.trod laidOut (by kernel_rfl) (of_decide_eq_true (by kernel_rfl)) k0 bel lt0) trodAll_mk0), rfl, bel.frame _, fun h => by cases h⟩

theorem over : Rows.zoneOrdersRow.holds Try.pinned (OpenSpec.ofChange Rows.zoneOrdersSpec) :=
  OpenClaim.holds_of_wide 5 Try.f5 rfl rfl rfl rfl rfl rfl rfl ⟨rfl, rfl, rfl, rfl, rfl⟩ rfl rfl rfl rfl rfl (by kernel_rfl) Try.func5 (by kernel_rfl)
    (of_decide_eq_true (by kernel_rfl)) (by unfold Func.isWrapper; first | (rw [if_pos (by decide +kernel)]; kernel_rfl) | (rw [if_neg (by decide +kernel)]; exact ⟨rfl, rfl⟩))
    (fun os started H enc _ => lifted os started H enc)

theorem proved : Rows.ZoneOrdersSaid := over
end Go.Proofs.Ytmmkfcmbmecleaa.zoneOrders
