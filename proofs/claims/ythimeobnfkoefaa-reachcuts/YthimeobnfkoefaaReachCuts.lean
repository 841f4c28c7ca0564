/- For every layout, mask and two numbers the law ReachCuts answers true: the devices that Cut tells are the document's, what is no node is told; no conditions. -/
import Derived.Test.YthimeobnfkoefaaRct
namespace Go.Proofs.Ythimeobnfkoefaa.reachCuts
open Go.ChangeShapes Go.WideShapes Go.ChangeAt Go.RowKit
set_option linter.unusedVariables false

theorem own : ownKnob Try.prog.godebug = none := by kernel_rfl
theorem laidOut : laidOutB Try.prog = true := by kernel_rfl

set_option maxRecDepth 100000 in
set_option maxHeartbeats 2000000 in
theorem walk (a0 b0 : Option Addr) (c0 e0 : Nat) (ns0 : List Nd) (es0 : List Ed) (a1 : Option Addr) (len1 cap1 : Nat) (z1 : List Int) (x20 x21 : Int) (w : World) (rn0 : ndE.Rd w (.slice a0 ns0.length c0) ns0) (re0 : edE.Rd w (.slice b0 es0.length e0) es0) (rs0 : ∀ p ∈ ns0, p.name.size ≤ maxLen) (w1 : z1.length = len1) (s1 : intE.Rd w (.slice a1 len1 cap1) z1) :
    Calls Try.prog 4 #[.agg #[.slice a0 ns0.length c0, .slice b0 es0.length e0], .slice a1 len1 cap1, .agg #[.int .i64 x20, .int .i64 x21]] w fun e w' => e = .returned (.bool true) ∧ Below w.heap.size w w' := by
  obtain ⟨n, hn⟩ : ∃ n, ns0.length = n := ⟨_, rfl⟩
  obtain ⟨m, hm⟩ : ∃ m, es0.length = m := ⟨_, rfl⟩
  rw [hn] at rn0 ⊢
  rw [hm] at re0 ⊢
  obtain ⟨W0, hW0⟩ : ∃ W0, (w.alloc (.cells #[.slice a0 n c0, .slice b0 m e0] 25)).alloc (.cells #[.int .i64 x20, .int .i64 x21] 37) = W0 := ⟨_, rfl⟩
  have bA : Below w.heap.size w W0 := by rw [← hW0]; exact ((Below.refl _ _).alloc (Nat.le_refl _) _).alloc (by simp) _
  have hbox : W0.heap[w.heap.size]? = some (.cells #[.slice a0 n c0, .slice b0 m e0] 25) := by rw [← hW0, Below.heap_alloc _ _ _ (by simp)]; exact heap_new _ _
  have hbox2 : W0.heap[w.heap.size + 1]? = some (.cells #[.int .i64 x20, .int .i64 x21] 37) := by
    rw [← hW0]
    have := heap_new (w.alloc (.cells #[.slice a0 n c0, .slice b0 m e0] 25)) (.cells #[.int .i64 x20, .int .i64 x21] 37)
    rwa [show (w.alloc (.cells #[.slice a0 n c0, .slice b0 m e0] 25)).heap.size = w.heap.size + 1 by simp] at this
  have HBOX2 := hide hbox2
  clear hbox2
  have HBOX := hide hbox
  have HA := hide bA
  have HW0 := hide hW0
  have K9 := hide awake_any
  have HR : Hid (∀ W, Below W0.heap.size W0 W → ndE.Rd W (.slice a0 n c0) ns0 ∧ edE.Rd W (.slice b0 m e0) es0 ∧ intE.Rd W (.slice a1 len1 cap1) z1) := hide (fun W h => have b := bA.trans (h.mono bA.size); ⟨rn0.keep b, re0.keep b, s1.keep b⟩)
  have K10 : Hid (∀ W, Below W0.heap.size W0 W → Calls Try.prog 10 #[.agg #[.slice a0 n c0, .slice b0 m e0], .slice a1 len1 cap1] W fun e w' => e = .returned (.bool (decide (len1 ≤ 200) && good ns0 es0)) ∧ Below W.heap.size W w') := hide (fun W h => fits_any a0 b0 a1 c0 e0 cap1 n m len1 ns0 es0 W hn hm (HR.out W h).1 (HR.out W h).2.1 rs0)
  have HG : Hid ((decide (len1 ≤ 200) && good ns0 es0) = true → (∀ W, Below W0.heap.size W0 W → Ly W a0 b0 c0 e0 n m ns0 es0 ∧ Mk W a1 cap1 len1 z1) ∧ len1 ≤ 200 ∧ n ≤ 40 ∧ 1 ≤ n ∧ m ≤ 120) := hide (fun h => by
    simp only [Bool.and_eq_true, decide_eq_true_eq] at h
    have hg := good_ly h.2 hn hm (HR.out _ (Below.refl _ _)).1 (HR.out _ (Below.refl _ _)).2.1
    exact ⟨fun W hW => ⟨(good_ly h.2 hn hm (HR.out W hW).1 (HR.out W hW).2.1).1, w1, (HR.out W hW).2.2, by omega⟩, h.1, hg.2.2.1, hg.2.1, hg.2.2.2⟩)
  have Hw1 := hide w1
  clear rn0 re0 rs0 w1 s1 hn hm bA hbox hW0
  generalize (decide (len1 ≤ 200) && good ns0 es0) = gd at *
  go_enter Try.func4, Try.ntmps4
  go_upto_region 1 with fail
  rw [HW0.out]
  clear HW0
  go_upto_region 3 with (go_at_call 9; refine (K9.out _).mono ?_; rintro e W1 ⟨rfl, hb1⟩; have Hb1 := hide hb1; obtain ⟨x0, x1⟩ := layg HBOX.out hb1; clear hb1)
  cases gd with
  | false =>
    go_wp2_with (go_at_call 10; refine (K10.out _ Hb1.out).mono ?_; rintro e W2 ⟨rfl, hb2⟩; have Hb2 := hide (Hb1.out.trans (hb2.mono Hb1.out.size)); clear hb2)
    go_ret
    exact ⟨rfl, HA.out.trans (Hb2.out.mono HA.out.size)⟩
  | true =>
    obtain ⟨hLM, hlen, hn40, hn1, hm12⟩ := HG.out rfl
    have HLM := hide hLM
    have Hlen := hide hlen
    have Hn40 := hide hn40
    have l1 : (len1 : Int) ≤ 200 := by omega
    have l2 : (n : Int) ≤ 40 := by omega
    have l3 : (1 : Int) ≤ (n : Int) := by omega
    have l4 : (m : Int) ≤ 120 := by omega
    clear hLM hlen hn40 hn1 hm12 HG HR
    go_upto_region 5 with (go_at_call 10; refine (K10.out _ Hb1.out).mono ?_; rintro e W2 ⟨rfl, hb2⟩; have Hb2 := hide (Hb1.out.trans (hb2.mono Hb1.out.size)); obtain ⟨x0, x1⟩ := layg HBOX.out Hb2.out; clear hb2)
    clear K9 K10
    have q0 := (cells_at HBOX2.out 0)
    have q1 := (cells_at HBOX2.out 1)
    have v0 : W2.cell? ⟨w.heap.size + 1, 0, none⟩ = some (.int .i64 x20) := by rw [Hb2.out.cell (p := ⟨w.heap.size + 1, 0, none⟩) (heap_lt HBOX2.out)]; exact q0.1
    have v1 : W2.cell? ⟨w.heap.size + 1, 1, none⟩ = some (.int .i64 x21) := by rw [Hb2.out.cell (p := ⟨w.heap.size + 1, 1, none⟩) (heap_lt HBOX2.out)]; exact q1.1
    clear q0 q1
    go_quiet (fail)
    obtain ⟨Wq, hWq⟩ : ∃ Wq, W2.drewN nq = Wq := ⟨_, rfl⟩
    have Hbq : Hid (Below W0.heap.size W0 Wq) := hide (by rw [← hWq]; exact below_heap Hb2.out rfl rfl rfl rfl)
    rw [hWq]
    obtain ⟨x0, x1⟩ := layg HBOX.out Hbq.out
    clear v0 v1 hWq Hb2 Hb1
    have ARM : Hid (∀ W, Below W0.heap.size W0 W → True) := hide (fun _ _ => trivial)
    go_upto_region 7 with (first
      | (go_at_call 11; refine (copy_ly (HLM.out _ Hbq.out).1).mono ?_; rintro e W3 ⟨aN, aE, cN, cE, rfl, hL3, hb3⟩
         have HL3 := hide hL3
         have Hb3 : Hid (Below W0.heap.size W0 W3) := hide (Hbq.out.trans (hb3.mono Hbq.out.size))
         have HO3 : Hid (intE.Own (W3.alloc (.cells #[] 3)) W3.heap.size (.slice (some ⟨W3.heap.size, 0, none⟩) 0 0) []) := hide (El.Own.new intE W3 _ (Nat.le_refl _) #[] [] rfl (by simp) _ _ _ rfl rfl rfl)
         have HB3 : Hid (Below W3.heap.size W3 (W3.alloc (.cells #[] 3))) := hide ((Below.refl _ _).alloc (Nat.le_refl _) _)
         clear hL3 hb3)
      | (at_builtin; refine intE.wp (w0 := W3) HB3.out (by rfl) _ _ rfl _ _ rfl rfl [] z1 HO3.out (HLM.out _ (Hb3.out.trans (HB3.out.mono Hb3.out.size))).2.hM (by rw [Hw1.out]; have := Hlen.out; simp; omega) ?_; intro v4 W4 ho4 hg4 hv4 hb4
         rw [List.nil_append] at ho4
         obtain ⟨aM, cM, hvM⟩ := ho4.rd.form
         rw [Hw1.out] at hvM
         subst hvM
         have HM4 : Hid (Mk W4 aM cM len1 z1) := hide ⟨Hw1.out, ho4.rd, by have := Hlen.out; omega⟩
         have HL4 := hide (HL3.out.keep hb4)
         have Hb4 : Hid (Below W0.heap.size W0 W4) := hide (Hb3.out.trans (hb4.mono Hb3.out.size))
         clear ho4 hg4 hv4 hb4)
      | (go_at_call 18; refine Hid.out ?_))
    refine hide ?_
    by_cases hx : (0 ≤ x20 ∧ x20 < (n : Int)) ∧ (0 ≤ x21 ∧ x21 < (n : Int))
    · obtain ⟨s, hs⟩ := Int.eq_ofNat_of_zero_le hx.1.1
      obtain ⟨t, ht⟩ := Int.eq_ofNat_of_zero_le hx.2.1
      subst hs
      subst ht
      have Hs : Hid (s < n ∧ t < n) := hide ⟨by omega, by omega⟩
      have g0 : ¬ (s : Int) < 0 := by omega
      have g1 : ¬ (n : Int) ≤ (s : Int) := by omega
      have g2 : ¬ (t : Int) < 0 := by omega
      have g3 : ¬ (n : Int) ≤ (t : Int) := by omega
      clear hx
      refine (cut_ok _ _ _ _ _ _ _ _ _ _ _ ns0 es0 z1 _ HL4.out HM4.out Hs.out.1 Hs.out.2).mono ?_
      rintro e W5 ⟨⟨v, l, rfl, hO5, hC5⟩, hb5⟩
      obtain ⟨aX, cX, rfl⟩ := hO5.rd.form
      have Hll : Hid (l.length ≤ 1000) := hide (by
        rcases hC5 with ⟨_, rfl⟩ | ⟨_, h⟩
        · simp
        · have h1 := h.len
          have h2 := HL4.out.hm
          have h3 := HL4.out.m4
          omega)
      obtain ⟨nl, hnl⟩ : ∃ nl, l.length = nl := ⟨_, rfl⟩
      have Hnl := hide hnl
      have HR5 := hide hO5.rd
      rw [hnl] at HR5 ⊢
      have HC5 := hide hC5
      have Hb : Hid (Below W0.heap.size W0 W5) := hide (Hb4.out.trans (hb5.mono Hb4.out.size))
      obtain ⟨x0, x1⟩ := layg HBOX.out Hb.out
      clear hO5 hC5 hb5 hnl HL3 Hb3 HO3 HB3 HM4 HL4 Hb4
      go_wp2_with (first
        | (go_at_call 19; refine (rcut_any _ _ _ _ _ _ _ _ _ _ _ ns0 es0 z1 _ (HLM.out _ Hb.out).1 (HLM.out _ Hb.out).2 (by have := Hlen.out; omega) Hs.out.1 Hs.out.2).mono ?_; rintro e W6 ⟨⟨v6, l6, rfl, hO6, hC6⟩, hb6⟩
           obtain rfl := hC6.uniq HC5.out
           obtain ⟨aY, cY, rfl⟩ := hO6.rd.form
           have HR6 := hide hO6.rd
           rw [Hnl.out] at HR6 ⊢
           have HR5 := hide (HR5.out.keep hb6)
           have Hb : Hid (Below W0.heap.size W0 W6) := hide (Hb.out.trans (hb6.mono Hb.out.size))
           clear hO6 hC6 hb6)
        | (go_at_call 14; refine (ints_eq HR5.out HR6.out Hnl.out Hnl.out (by have := Hll.out; rw [Hnl.out] at this; omega)).mono ?_; rintro e W7 ⟨rfl, hb7⟩
           rw [decide_eq_true rfl]
           have Hb : Hid (Below W0.heap.size W0 W7) := hide (Hb.out.trans (hb7.mono Hb.out.size))
           clear hb7))
      go_ret
      exact ⟨rfl, HA.out.trans (Hb.out.mono HA.out.size)⟩
    · refine (cut_no _ _ _ _ _ _ _ _ _ _ _ _ hx).mono ?_
      rintro e W5 ⟨rfl, hb5⟩
      have Hb : Hid (Below W0.heap.size W0 W5) := hide (Hb4.out.trans (hb5.mono Hb4.out.size))
      obtain ⟨x0, x1⟩ := layg HBOX.out Hb.out
      have hor : x20 < 0 ∨ x21 < 0 ∨ (n : Int) ≤ x20 ∨ (n : Int) ≤ x21 := by omega
      clear hb5 hx HL3 Hb3 HO3 HB3 HM4 HL4 Hb4
      rcases Classical.em (x20 < 0) with h1 | h1
      · clear hor
        go_wp2_with fail
        go_ret
        exact ⟨rfl, HA.out.trans (Hb.out.mono HA.out.size)⟩
      rcases Classical.em (x21 < 0) with h2 | h2
      · clear hor
        go_wp2_with fail
        go_ret
        exact ⟨rfl, HA.out.trans (Hb.out.mono HA.out.size)⟩
      rcases Classical.em ((n : Int) ≤ x20) with h3 | h3
      · clear hor
        go_wp2_with fail
        go_ret
        exact ⟨rfl, HA.out.trans (Hb.out.mono HA.out.size)⟩
      · have h4 : (n : Int) ≤ x21 := by omega
        clear hor
        go_wp2_with fail
        go_ret
        exact ⟨rfl, HA.out.trans (Hb.out.mono HA.out.size)⟩

set_option maxRecDepth 100000 in
theorem lifted (os : Os) (started : os.Started) (H : Type) (enc : TypeId × Value → H) :
    ReturnsInHanded {} Try.checked os 4 .any (Rows.reachCutsSpec.pre6 enc Try.prog Try.f4 Rows.reachCutsRow.domain false) (Rows.reachCutsSpec.post enc Try.prog Try.f4 false true false false) := by
  refine returnsInHanded_of_change_sized (C := Try.checked) own started (by kernel_rfl) Try.func4
    (ChangeSpec.witness6 (enc := enc) (C := Try.checked) false ⟨#[], #[.agg #[.slice none 0 0, .slice none 0 0], .slice none 0 0, .agg #[.int .i64 0, .int .i64 0]], []⟩ 8 (by kernel_rfl) (by kernel_rfl) (by kernel_rfl) (by kernel_rfl)) ?_
  intro W base args ds gs before hval0 hW hcnd hsz0 _
  have hval : ∀ (j : Nat) t v, Try.f4.params[j]? = some t → args[j]? = some v → Value.okWide Try.prog W .any base t v := hval0
  have hsz : (DataW.weightsEach Try.prog (Try.f4.params.toList ++ Rows.reachCutsSpec.plain.varTypes Try.prog) (ds ++ gs)).all (· ≤ reachBytes) = true := hsz0
  have hW' := hW
  obtain ⟨p, q, hA0, hV, rfl, hfz, hnd⟩ := hW
  have hA : DataW.TrodAll enc Try.prog W 0 (fun _ => true) true Try.f4.params.toList args.toList ds p := hA0
  rw [Try.params4] at hA hval hsz
  obtain ⟨v0, vs0, d0, ds0, p0, q0, hargs, rfl, rfl, h0, r0⟩ := trodAll_cons hA
  obtain ⟨v1, vs1, d1, ds1, p1, q1, rfl, rfl, rfl, h1, r1⟩ := trodAll_cons r0
  obtain ⟨v2, vs2, d2, ds2, p2, q2, rfl, rfl, rfl, h2, r2⟩ := trodAll_cons r1
  obtain ⟨rfl, rfl, rfl⟩ := trodAll_nil r2
  obtain rfl : args = #[v0, v1, v2] := by cases args; simp_all
  obtain ⟨rfl, rfl⟩ := trodVars_none hV
  have k0 := h0
  have lt0 : ∀ x ∈ p0, x.block < W.heap.size := by obtain ⟨m, hm⟩ := k0; exact DataW.trod_lt m _ _ _ hm
  obtain ⟨cs0, rfl, _⟩ := okWide_struct Try.underlying25 (hval 0 25 v0 rfl rfl)
  obtain ⟨a0, c0, b0, e0, ns0, es0, hcs0, rn0, re0, rs0⟩ : ∃ (a : Option Addr) (c : Nat) (a' : Option Addr) (c' : Nat) (ns : List Nd) (es : List Ed), cs0 = #[.slice a ns.length c, .slice a' es.length c'] ∧ ndE.Rd W (.slice a ns.length c) ns ∧ edE.Rd W (.slice a' es.length c') es ∧ ∀ n ∈ ns, n.name.size ≤ maxLen := by
    obtain ⟨fuel, hf⟩ := h0
    obtain ⟨a, c, a', c', ns, es, he, h1, h2, h3⟩ := layout_of_trod hf
    exact ⟨a, c, a', c', ns, es, by apply Array.toList_inj.1; exact he, h1, h2, h3⟩
  subst hcs0
  obtain ⟨a1, len1, cap1, rfl⟩ := okWide_slice Try.underlying26 (hval 1 26 v1 rfl rfl)
  have k1 := h1
  have lt1 : ∀ x ∈ p1, x.block < W.heap.size := by obtain ⟨m, hm⟩ := k1; exact DataW.trod_lt m _ _ _ hm
  obtain ⟨z1, w1, s1, _⟩ : ∃ zs : List Int, zs.length = len1 ∧ intE.Rd W (.slice a1 len1 cap1) zs ∧ ∀ y ∈ zs, (Lit.int .i64 y).wf = true := by
    obtain ⟨fuel, hf⟩ := h1
    exact rd_of_trod intE (fun y => (Lit.int .i64 y).wf = true) (by kernel_rfl) (fun n cs y hy => int_of_trod hy) hf rfl
  have k2 := h2
  have lt2 : ∀ x ∈ p2, x.block < W.heap.size := by obtain ⟨m, hm⟩ := k2; exact DataW.trod_lt m _ _ _ hm
  obtain ⟨cs2, rfl, _⟩ : ∃ cs, v2 = .agg cs ∧ True := by
    have := hval 2 37 v2 rfl rfl
    unfold Value.okWide at this
    rw [Try.underlying37] at this
    obtain ⟨cs, h, _⟩ := this
    exact ⟨cs, h, trivial⟩
  obtain ⟨x20, x21, e2⟩ : ∃ x0 x1 : Int, cs2 = #[.int .i64 x0, .int .i64 x1] := by
    obtain ⟨fuel, hf⟩ := h2
    obtain ⟨y, he, _⟩ := ed_of_trod hf
    exact ⟨y.1, y.2, by apply Array.toList_inj.1; exact he⟩
  subst e2
  clear hA0 hval0
  refine (walk a0 b0 c0 e0 ns0 es0 a1 len1 cap1 z1 x20 x21 W rn0 re0 rs0 w1 s1).mono fun e W' ⟨he, bel⟩ => ?_
  subst he
  exact ⟨_, rfl, _, _, _, [], _, [], hW', trodAll_mk1 (shut_bool Try.underlying4 _), (trodAll_cons_mk (Below.trod laidOut (by kernel_rfl) (of_decide_eq_true (by kernel_rfl)) k0 bel lt0) (trodAll_cons_mk (Below.trod laidOut (by kernel_rfl) (of_decide_eq_true (by kernel_rfl)) k1 bel lt1) (trodAll_cons_mk (Below.trod laidOut (by kernel_rfl) (of_decide_eq_true (by kernel_rfl)) k2 bel lt2) trodAll_mk0))), rfl, bel.frame _, fun h => by cases h⟩

theorem over : Rows.reachCutsRow.holds Try.pinned (OpenSpec.ofChange Rows.reachCutsSpec) :=
  OpenClaim.holds_of_wide 4 Try.f4 rfl rfl rfl rfl rfl rfl rfl ⟨rfl, rfl, rfl, rfl, rfl⟩ rfl rfl rfl rfl rfl (by kernel_rfl) Try.func4 (by kernel_rfl)
    (of_decide_eq_true (by kernel_rfl)) (by unfold Func.isWrapper; first | (rw [if_pos (by decide +kernel)]; kernel_rfl) | (rw [if_neg (by decide +kernel)]; exact ⟨rfl, rfl⟩))
    (fun os started H enc _ => lifted os started H enc)

theorem proved : Rows.ReachCutsSaid := over
end Go.Proofs.Ythimeobnfkoefaa.reachCuts
