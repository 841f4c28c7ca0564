/- For every layout, mask and three numbers the law ReachLess answers true: with a device more out of order no way gets shorter, and none begins to be; if it is one of those of Cut, there is none, else there still is; no conditions. -/
import Derived.Test.YthimeobnfkoefaaRct
namespace Go.Proofs.Ythimeobnfkoefaa.reachLess
open Go.ChangeShapes Go.WideShapes Go.ChangeAt Go.RowKit
set_option linter.unusedVariables false

theorem own : ownKnob Try.prog.godebug = none := by kernel_rfl
theorem laidOut : laidOutB Try.prog = true := by kernel_rfl

theorem mod_in (a : Int) (m : Nat) (hm : 1 ≤ m) (hm' : m ≤ 1000) : ∃ N : Nat, wrap64 ((IntKind.u64.wrap a).tmod (m : Int)) = (N : Int) ∧ N < m := by
  have h0 : 0 ≤ IntKind.u64.wrap a := by simp [IntKind.wrap, IntKind.bits, IntKind.signed]; omega
  have e : (IntKind.u64.wrap a).tmod (m : Int) = IntKind.u64.wrap a % (m : Int) := Int.tmod_eq_emod_of_nonneg h0
  rw [e]
  generalize IntKind.u64.wrap a = b at h0
  have h1 : 0 ≤ b % (m : Int) := Int.emod_nonneg _ (by omega)
  have h2 : b % (m : Int) < (m : Int) := Int.emod_lt_of_pos _ (by omega)
  refine ⟨(b % (m : Int)).toNat, ?_, by omega⟩
  unfold wrap64
  omega
theorem far_less {E E' : Nat → Nat → Prop} {T : Nat → Prop} {s n : Nat} {l l' : List Int} (hE : ∀ u v, E' u v → E u v) (h : Far E T s n l) (h' : Far E' T s n l') (v : Nat) (hv : v < n) (h0 : 0 ≤ va l' v) : 0 ≤ va l v ∧ va l v ≤ va l' v := by
  rcases h'.2 v hv with ⟨g1, _⟩ | ⟨k, g1, g2, _⟩
  · omega
  · have hw := g2.imp hE
    rcases h.2 v hv with ⟨_, f1⟩ | ⟨j, f1, _, f3⟩
    · exact absurd hw (f1 _)
    · have := f3 _ hw
      omega
theorem eg_more {es : List Ed} {m : Nat} {ms : List Int} {d : Int} (hm : es.length = m) (u v : Nat) (h : Eg es (clo m (ms ++ [d])) 0 u v) : Eg es (clo m ms) 0 u v := by
  obtain ⟨i, h1, h2⟩ := h
  refine ⟨i, ?_, h2⟩
  have hi : i < m := by
    rcases Nat.lt_or_ge i m with h' | h'
    · exact h'
    · rw [List.getElem?_eq_none (by omega)] at h2; cases h2
  rw [clo_at m _ i hi] at h1 ⊢
  simp only [Option.some.injEq, decide_eq_false_iff_not, List.mem_append, not_or] at h1 ⊢
  exact h1.1
theorem less_cut {ns : List Nd} {es : List Ed} {m s t : Nat} {ms l : List Int} {d : Int} (hm : es.length = m) (hH : Has ns es (clo m ms) s t) (hC : Cuts ns es (clo m ms) s t l) : ¬ Has ns es (clo m (ms ++ [d])) s t ↔ d ∈ l := by
  rcases hC with ⟨h1, _⟩ | ⟨_, h2⟩
  · exact absurd hH h1
  · rw [h2.mem d, hm]
    by_cases hd : 1 ≤ d ∧ d ≤ (m : Int)
    · have e1 := clo_in m ms d hd.1 hd.2
      have hi : (d - 1).toNat < m := by omega
      constructor
      · intro h
        rw [e1] at h
        refine ⟨(d - 1).toNat, hi, ⟨?_, h⟩, by omega⟩
        rw [clo_at m ms _ hi]
        cases hc : decide ((((d - 1).toNat + 1 : Nat) : Int) ∈ ms) with
        | false => rfl
        | true =>
          exfalso
          apply h
          have : (clo m ms).set (d - 1).toNat true = clo m ms := by
            apply List.ext_getElem?
            intro k
            rw [List.getElem?_set]
            by_cases e : (d - 1).toNat = k
            · subst e
              rw [if_pos rfl, if_pos (by rw [clo_len]; exact hi), clo_at m ms _ hi, hc]
            · rw [if_neg e]
          rw [this]
          exact hH
      · rintro ⟨i, _, h3, h4⟩
        rw [e1, show (d - 1).toNat = i by omega]
        exact h3.2
    · rw [clo_off m ms d hd]
      constructor
      · intro h; exact absurd hH h
      · rintro ⟨i, h3, _, h4⟩; omega

set_option maxRecDepth 100000 in
set_option maxHeartbeats 16000000 in
theorem walk (a0 b0 : Option Addr) (c0 e0 : Nat) (ns0 : List Nd) (es0 : List Ed) (a1 : Option Addr) (len1 cap1 : Nat) (z1 : List Int) (x20 x21 x22 : Int) (w : World) (rn0 : ndE.Rd w (.slice a0 ns0.length c0) ns0) (re0 : edE.Rd w (.slice b0 es0.length e0) es0) (rs0 : ∀ p ∈ ns0, p.name.size ≤ maxLen) (w1 : z1.length = len1) (s1 : intE.Rd w (.slice a1 len1 cap1) z1) :
    Calls Try.prog 6 #[.agg #[.slice a0 ns0.length c0, .slice b0 es0.length e0], .slice a1 len1 cap1, .agg #[.int .i64 x20, .int .i64 x21, .int .i64 x22]] w fun e w' => e = .returned (.bool true) ∧ Below w.heap.size w w' := by
  obtain ⟨n, hn⟩ : ∃ n, ns0.length = n := ⟨_, rfl⟩
  obtain ⟨m, hm⟩ : ∃ m, es0.length = m := ⟨_, rfl⟩
  rw [hn] at rn0 ⊢
  rw [hm] at re0 ⊢
  obtain ⟨W0, hW0⟩ : ∃ W0, (w.alloc (.cells #[.slice a0 n c0, .slice b0 m e0] 25)).alloc (.cells #[.int .i64 x20, .int .i64 x21, .int .i64 x22] 41) = W0 := ⟨_, rfl⟩
  have bA : Below w.heap.size w W0 := by rw [← hW0]; exact ((Below.refl _ _).alloc (Nat.le_refl _) _).alloc (by simp) _
  have hbox : W0.heap[w.heap.size]? = some (.cells #[.slice a0 n c0, .slice b0 m e0] 25) := by rw [← hW0, Below.heap_alloc _ _ _ (by simp)]; exact heap_new _ _
  have hbox2 : W0.heap[w.heap.size + 1]? = some (.cells #[.int .i64 x20, .int .i64 x21, .int .i64 x22] 41) := by
    rw [← hW0]
    have := heap_new (w.alloc (.cells #[.slice a0 n c0, .slice b0 m e0] 25)) (.cells #[.int .i64 x20, .int .i64 x21, .int .i64 x22] 41)
    rwa [show (w.alloc (.cells #[.slice a0 n c0, .slice b0 m e0] 25)).heap.size = w.heap.size + 1 by simp] at this
  have HBOX2 := hide hbox2
  clear hbox2
  have HBOX := hide hbox
  have HA := hide bA
  have HW0 := hide hW0
  have K9 := hide awake_any
  have HR : Hid (∀ W, Below W0.heap.size W0 W → ndE.Rd W (.slice a0 n c0) ns0 ∧ edE.Rd W (.slice b0 m e0) es0 ∧ intE.Rd W (.slice a1 len1 cap1) z1) := hide (fun W h => have b := bA.trans (h.mono bA.size); ⟨rn0.keep b, re0.keep b, s1.keep b⟩)
  have K10 : Hid (∀ W, Below W0.heap.size W0 W → Calls Try.prog 10 #[.agg #[.slice a0 n c0, .slice b0 m e0], .slice a1 len1 cap1] W fun e w' => e = .returned (.bool (decide (len1 ≤ 200) && good ns0 es0)) ∧ Below W.heap.size W w') := hide (fun W h => fits_any a0 b0 a1 c0 e0 cap1 n m len1 ns0 es0 W hn hm (HR.out W h).1 (HR.out W h).2.1 rs0)
  have HG : Hid ((decide (len1 ≤ 200) && good ns0 es0) = true → (∀ W, Below W0.heap.size W0 W → Ly W a0 b0 c0 e0 n m ns0 es0 ∧ Mk W a1 cap1 len1 z1) ∧ len1 ≤ 200 ∧ n ≤ 40 ∧ 1 ≤ n ∧ m ≤ 120) := hide (fun h => by
    simp only [Bool.and_eq_true, decide_eq_true_eq] at h
    have hg := good_ly h.2 hn hm (HR.out _ (Below.refl _ _)).1 (HR.out _ (Below.refl _ _)).2.1
    exact ⟨fun W hW => ⟨(good_ly h.2 hn hm (HR.out W hW).1 (HR.out W hW).2.1).1, w1, (HR.out W hW).2.2, by omega⟩, h.1, hg.2.2.1, hg.2.1, hg.2.2.2⟩)
  have Hw1 := hide w1
  clear rn0 re0 rs0 w1 s1 hn hm bA hbox hW0
  generalize (decide (len1 ≤ 200) && good ns0 es0) = gd at *
  go_enter Try.func6, Try.ntmps6
  go_upto_region 1 with fail
  rw [HW0.out]
  clear HW0
  go_upto_region 3 with (go_at_call 9; refine (K9.out _).mono ?_; rintro e W1 ⟨rfl, hb1⟩; have Hb1 := hide hb1; obtain ⟨x0, x1⟩ := layg HBOX.out hb1; clear hb1)
  cases gd with
  | false =>
    go_wp2_with (go_at_call 10; refine (K10.out _ Hb1.out).mono ?_; rintro e W2 ⟨rfl, hb2⟩; have Hb2 := hide (Hb1.out.trans (hb2.mono Hb1.out.size)); clear hb2)
    go_ret
    exact ⟨rfl, HA.out.trans (Hb2.out.mono HA.out.size)⟩
  | true =>
    obtain ⟨hLM, hlen, hn40, hn1, hm12⟩ := HG.out rfl
    have HLM := hide hLM
    have Hlen := hide hlen
    have Hn40 := hide hn40
    have l1 : (len1 : Int) ≤ 200 := by omega
    have l2 : (n : Int) ≤ 40 := by omega
    have l3 : (1 : Int) ≤ (n : Int) := by omega
    have l4 : (m : Int) ≤ 120 := by omega
    obtain ⟨A, hA, A1⟩ := mod_in x20 n (by omega) (by omega)
    obtain ⟨B, hB, B1⟩ := mod_in x21 n (by omega) (by omega)
    have huw : IntKind.u64.wrap (n : Int) = (n : Int) := by unfold IntKind.wrap; simp [IntKind.bits, IntKind.signed]; omega
    clear hLM hlen hn40 hn1 hm12 HG HR
    go_upto_region 6 with (go_at_call 10; refine (K10.out _ Hb1.out).mono ?_; rintro e W2 ⟨rfl, hb2⟩; have Hb2 := hide (Hb1.out.trans (hb2.mono Hb1.out.size)); obtain ⟨x0, x1⟩ := layg HBOX.out Hb2.out; clear hb2)
    clear K9 K10
    have q0 := (cells_at HBOX2.out 0)
    have q1 := (cells_at HBOX2.out 1)
    have q2 := (cells_at HBOX2.out 2)
    have v0 : W2.cell? ⟨w.heap.size + 1, 0, none⟩ = some (.int .i64 x20) := by rw [Hb2.out.cell (p := ⟨w.heap.size + 1, 0, none⟩) (heap_lt HBOX2.out)]; exact q0.1
    have v1 : W2.cell? ⟨w.heap.size + 1, 1, none⟩ = some (.int .i64 x21) := by rw [Hb2.out.cell (p := ⟨w.heap.size + 1, 1, none⟩) (heap_lt HBOX2.out)]; exact q1.1
    have v2 : W2.cell? ⟨w.heap.size + 1, 2, none⟩ = some (.int .i64 x22) := by rw [Hb2.out.cell (p := ⟨w.heap.size + 1, 2, none⟩) (heap_lt HBOX2.out)]; exact q2.1
    have hn0 : ¬ (n : Int) = 0 := by omega
    clear q0 q1 q2
    go_quiet (fail)
    go_upto_region 7 with fail
    rw [hA, hB]
    generalize wrap64 ((IntKind.u64.wrap x20).tmod (n : Int)) = r1 at *
    generalize wrap64 ((IntKind.u64.wrap x21).tmod (n : Int)) = r2 at *
    generalize (IntKind.u64.wrap x20).tmod (n : Int) = r3 at *
    generalize (IntKind.u64.wrap x21).tmod (n : Int) = r4 at *
    generalize IntKind.u64.wrap x20 = r5 at *
    generalize IntKind.u64.wrap x21 = r6 at *
    have HA1 := hide A1
    have HB1 := hide B1
    have g0 : (0 : Int) ≤ (A : Int) := by omega
    have g1 : (A : Int) < (n : Int) := by omega
    have g2 : (0 : Int) ≤ (B : Int) := by omega
    have g3 : (B : Int) < (n : Int) := by omega
    obtain ⟨Wq, hWq⟩ : ∃ Wq, W2.drewN nq = Wq := ⟨_, rfl⟩
    have Hbq : Hid (Below W0.heap.size W0 Wq) := hide (by rw [← hWq]; exact below_heap Hb2.out rfl rfl rfl rfl)
    rw [hWq]
    obtain ⟨x0, x1⟩ := layg HBOX.out Hbq.out
    clear v0 v1 v2 hWq Hb2 Hb1 hA hB A1 B1 huw hn0
    have q1 : ((n : Int) != (n : Int)) = false := bne_self_eq_false _
    go_upto_region 8 with (go_at_call 12; refine (from_ok _ _ _ _ _ _ _ _ _ _ ns0 es0 z1 _ (HLM.out _ Hbq.out).1 (HLM.out _ Hbq.out).2 HA1.out).mono ?_; rintro e W7 ⟨⟨gx, lx, rfl, hO7, hF7⟩, hb7⟩
                           have HO7 := hide hO7
                           have HF := hide hF7
                           have Hb7 : Hid (Below W0.heap.size W0 W7) := hide (Hbq.out.trans (hb7.mono Hbq.out.size))
                           clear hO7 hF7 hb7)
    clear x0 x1
    obtain ⟨SS, hSS⟩ : ∃ SS : World → Prop, SS = fun W' => Below W7.heap.size W7 W' := ⟨_, rfl⟩
    have s9 : Hid (∀ W', SS W' → Below W7.heap.size W7 W') := hide (fun W' h => by rw [hSS] at h; exact h)
    have s8 : Hid (∀ W', Below W7.heap.size W7 W' → SS W') := hide (fun W' h => by rw [hSS]; exact h)
    have s7 : Hid (∀ W', Below W7.heap.size W7 W' → Below W0.heap.size W0 W') := hide (fun W' h => Hb7.out.trans (h.mono Hb7.out.size))
    have s1 : ∀ W', SS W' → W'.cell? ⟨w.heap.size, 0, none⟩ = some (.slice a0 n c0) := fun W' h => (layg HBOX.out (s7.out _ (s9.out W' h))).1
    have s2 : ∀ W', SS W' → W'.cell? ⟨w.heap.size, 1, none⟩ = some (.slice b0 m e0) := fun W' h => (layg HBOX.out (s7.out _ (s9.out W' h))).2
    have HRM : Hid (∀ W', Below W7.heap.size W7 W' → intE.Rd W' (.slice a1 len1 cap1) z1) := hide (fun W' h => (HLM.out _ (s7.out _ h)).2.hM)
    have K12 : Hid (∀ (W : World) (aX : Option Addr) (cX : Nat), Below W7.heap.size W7 W → Mk W aX cX (len1 + 1) (z1 ++ [x22]) → Calls Try.prog 12 #[.agg #[.slice a0 n c0, .slice b0 m e0], .slice aX (len1 + 1) cX, .int .i64 (A : Int)] W fun e w' => ∃ g l, e = .returned (.tuple #[.slice (some ⟨g, 0, none⟩) n n, .int .i64 0]) ∧ intE.Own w' W.heap.size (.slice (some ⟨g, 0, none⟩) n n) l ∧ Far (Eg es0 (clo m (z1 ++ [x22])) 0) (Tk ns0) A n l ∧ Below W.heap.size W w') := hide (fun W aX cX h hX => (from_ok _ _ _ _ _ _ _ _ _ _ ns0 es0 _ _ (HLM.out _ (s7.out _ h)).1 hX HA1.out).mono (by rintro e w' ⟨⟨g, l, h1, h2, h3⟩, h4⟩; exact ⟨g, l, h1, h2, h3, h4⟩))
    clear hSS
    go_cut [13, 14] (fun v13 v14 wx => ∃ (gy : Nat) (ly : List Int) (W : World), wx = W ∧ v13 = .slice (some ⟨gy, 0, none⟩) n n ∧ v14 = .int .i64 0 ∧ Hid (intE.Rd W (.slice (some ⟨gy, 0, none⟩) n n) ly ∧ Far (Eg es0 (clo m (z1 ++ [x22])) 0) (Tk ns0) A n ly ∧ Below W7.heap.size W7 W))
    case first =>
      refine wp_region_held_drew (S := SS) (by kernel_rfl) (s8.out _ (below_heap (Below.refl _ _) rfl rfl rfl rfl)) (fun hS0 => ?_)
      refine wpAnyH_take (i := 0) (v := .agg #[.slice a0 n c0, .slice b0 m e0]) rfl (by kernel_rfl) (by kernel_rfl) (by kernel_rfl) (fun _ _ _ h => h) (Or.inl ⟨by rfl, fun W' hW => by have x0 := s1 W' hW; have x1 := s2 W' hW; go_simp⟩) hS0 ?_
      refine wpAnyH_take (i := 2) (v := .slice a1 len1 cap1) rfl (by kernel_rfl) (by kernel_rfl) (by kernel_rfl) (fun _ _ _ h => h) (Or.inl ⟨by rfl, fun W' hW => by go_simp⟩) hS0 ?_
      refine wpAnyH_take (i := 4) (v := .int .i64 x22) rfl (by kernel_rfl) (by kernel_rfl) (by kernel_rfl) (fun _ _ _ h => h) (Or.inl ⟨by rfl, fun W' hW => by go_simp⟩) hS0 ?_
      refine wpAnyH_take (i := 7) (v := .int .i64 (A : Int)) rfl (by kernel_rfl) (by kernel_rfl) (by kernel_rfl) (fun _ _ _ h => h) (Or.inl ⟨by rfl, fun W' hW => by go_simp⟩) hS0 ?_
      refine wpAnyH_ready (rs := [1, 5]) (by kernel_rfl) (by simp) ?_
      refine AllReadyH.cons rfl (fun K hK => ?_) (AllReadyH.cons rfl (fun K hK => ?_) AllReadyH.nil)
      · go_simp
        have S1 := s8.out _ ((s9.out _ hS0).alloc (s9.out _ hS0).size (.cells #[] 3))
        have O2 : Hid (intE.Own (W7.drew.alloc (.cells #[] 3)) W7.heap.size (.slice (some ⟨W7.heap.size, 0, none⟩) 0 0) []) := hide (El.Own.new intE W7.drew _ (s9.out _ hS0).size #[] [] rfl (by simp) _ _ _ (by simp) rfl rfl)
        refine hK.out _ _ S1 (fun _ => ?_)
        clear hK K
        refine wpAnyH_ready (rs := [3, 5]) (by kernel_rfl) (by simp) ?_
        refine AllReadyH.cons rfl (fun K hK => ?_) (AllReadyH.cons rfl (fun K hK => ?_) AllReadyH.nil)
        · refine stepW intE (B := W7.heap.size) (s9.out _ S1).size (by rfl) (.tmp 55) (.tmp 56) rfl _ _ rfl rfl [] z1 O2.out (HRM.out _ (s9.out _ S1)) (by rw [Hw1.out]; have := Hlen.out; simp; omega) ?_
          intro v6 V3 ho hg hvb
          rw [List.nil_append] at ho
          have S4 := s8.out _ ((s9.out _ S1).grown hg (s9.out _ S1).size (fun q hq => O2.out.ge q hq))
          have O5 := hide ho
          clear ho hg hvb
          refine hK.out _ _ S4 (fun _ => ?_)
          clear hK K
          refine wpAnyH_ready (rs := [5]) (by kernel_rfl) (by simp) ?_
          refine AllReadyH.cons rfl (fun K hK => ?_) AllReadyH.nil
          go_simp
          have S7 := s8.out _ ((s9.out _ S4).alloc (s9.out _ S4).size (.cells #[.int .i64 x22] 3))
          have R8 : Hid (intE.Own (V3.alloc (.cells #[.int .i64 x22] 3)) W7.heap.size (.slice (some ⟨V3.heap.size, 0, none⟩) 1 1) [x22]) := hide (El.Own.new intE V3 _ (s9.out _ S4).size _ [x22] rfl (by simp) _ _ _ (by simp) rfl rfl)
          have O9 := hide (O5.out.alloc (.cells #[.int .i64 x22] 3))
          refine hK.out _ _ S7 (fun _ => ?_)
          clear hK K
          refine wpAnyH_ready (rs := [6]) (by kernel_rfl) (by simp) ?_
          refine AllReadyH.cons rfl (fun K hK => ?_) AllReadyH.nil
          refine stepW intE (B := W7.heap.size) (s9.out _ S7).size (by rfl) (.tmp 57) (.tmp 59) rfl _ _ rfl rfl z1 [x22] O9.out R8.out.rd (by rw [Hw1.out]; have := Hlen.out; simp; omega) ?_
          intro v10 V10 ho10 hg10 _
          have S10 := s8.out _ ((s9.out _ S7).grown hg10 (s9.out _ S7).size (fun q hq => O9.out.ge q hq))
          obtain ⟨aX, cX, hvX⟩ := ho10.rd.form
          have hlX : (z1 ++ [x22]).length = len1 + 1 := by rw [List.length_append, Hw1.out]; rfl
          rw [hlX] at hvX
          subst hvX
          have HMX : Hid (Mk V10 aX cX (len1 + 1) (z1 ++ [x22])) := hide ⟨hlX, ho10.rd, by have := Hlen.out; omega⟩
          clear ho10 hg10 hlX
          refine hK.out _ _ S10 (fun _ => ?_)
          clear hK K
          refine wpAnyH_ready (rs := [8]) (by kernel_rfl) (by simp) ?_
          refine AllReadyH.cons rfl (fun K hK => ?_) AllReadyH.nil
          go_simp
          refine (K12.out _ aX cX (s9.out _ S10) HMX.out).mono ?_
          rintro e W12 ⟨gX, lX, rfl, hO12, hF12, hb12⟩
          have S12 := s8.out _ ((s9.out _ S10).trans (hb12.mono (s9.out _ S10).size))
          have FIN : Hid (intE.Rd W12 (.slice (some ⟨gX, 0, none⟩) n n) lX ∧ Far (Eg es0 (clo m (z1 ++ [x22])) 0) (Tk ns0) A n lX ∧ Below W7.heap.size W7 W12) := hide ⟨hO12.rd, hF12, s9.out _ S12⟩
          clear hO12 hF12 hb12
          refine hK.out _ _ S12 (fun _ => ?_)
          clear hK K
          refine wpAnyH_take (i := 9) (v := .tuple #[.slice (some ⟨gX, 0, none⟩) n n, .int .i64 0]) rfl (by kernel_rfl) (by kernel_rfl) (by kernel_rfl) (fun _ _ _ h => h) (Or.inl ⟨by rfl, fun W' hW => by go_simp⟩) S12 ?_
          refine wpAnyH_take (i := 10) (v := .slice (some ⟨gX, 0, none⟩) n n) rfl (by kernel_rfl) (by kernel_rfl) (by kernel_rfl) (fun _ _ _ h => h) (Or.inl ⟨by rfl, fun W' hW => by go_simp⟩) S12 ?_
          refine wpAnyH_take (i := 11) (v := .int .i64 0) rfl (by kernel_rfl) (by kernel_rfl) (by kernel_rfl) (fun _ _ _ h => h) (Or.inl ⟨by rfl, fun W' hW => by go_simp⟩) S12 ?_
          refine wpAnyH_take (i := 12) (v := .slice (some ⟨gX, 0, none⟩) n n) rfl (by kernel_rfl) (by kernel_rfl) (by kernel_rfl) (fun _ _ _ h => h) (Or.inl ⟨by rfl, fun W' hW => by go_simp⟩) S12 ?_
          refine wpAnyH_ready (rs := [13]) (by kernel_rfl) (by simp) ?_
          refine AllReadyH.cons rfl (fun K hK => ?_) AllReadyH.nil
          go_simp
          refine hK.out _ _ S12 (fun _ => ?_)
          clear hK K
          refine wpAnyH_done (by kernel_rfl) ?_ _
          go_wp2_with fail
          go_meet
          exact ⟨gX, lX, W12, rfl, by first | rfl | trivial, by first | rfl | trivial, FIN⟩
        · go_simp
          have S11 := s8.out _ ((s9.out _ S1).alloc (s9.out _ S1).size (.cells #[.int .i64 x22] 3))
          have R12 : Hid (intE.Own ((W7.drew.alloc (.cells #[] 3)).alloc (.cells #[.int .i64 x22] 3)) W7.heap.size (.slice (some ⟨W7.heap.size + 1, 0, none⟩) 1 1) [x22]) := hide (El.Own.new intE (W7.drew.alloc (.cells #[] 3)) _ (s9.out _ S1).size _ [x22] rfl (by simp) _ _ _ (by simp) rfl rfl)
          have O13 := hide (O2.out.alloc (.cells #[.int .i64 x22] 3))
          have Q14 : Hid (Sep (.slice (some ⟨W7.heap.size, 0, none⟩) 0 0) (.slice (some ⟨W7.heap.size + 1, 0, none⟩) 1 1)) := hide (by intro q h1 h2; simp [Value.ownBlock] at h1 h2; omega)
          refine hK.out _ _ S11 (fun _ => ?_)
          clear hK K
          refine wpAnyH_ready (rs := [3]) (by kernel_rfl) (by simp) ?_
          refine AllReadyH.cons rfl (fun K hK => ?_) AllReadyH.nil
          refine stepW intE (B := W7.heap.size) (s9.out _ S11).size (by rfl) (.tmp 55) (.tmp 56) rfl _ _ rfl rfl [] z1 O13.out (HRM.out _ (s9.out _ S11)) (by rw [Hw1.out]; have := Hlen.out; simp; omega) ?_
          intro v18 V15 ho hg hvb
          rw [List.nil_append] at ho
          have S16 := s8.out _ ((s9.out _ S11).grown hg (s9.out _ S11).size (fun q hq => O13.out.ge q hq))
          have O17 := hide ho
          have R19 := hide (rd_beside O13.out R12.out Q14.out hg)
          clear ho hg hvb
          refine hK.out _ _ S16 (fun _ => ?_)
          clear hK K
          refine wpAnyH_ready (rs := [6]) (by kernel_rfl) (by simp) ?_
          refine AllReadyH.cons rfl (fun K hK => ?_) AllReadyH.nil
          refine stepW intE (B := W7.heap.size) (s9.out _ S16).size (by rfl) (.tmp 57) (.tmp 59) rfl _ _ rfl rfl z1 [x22] O17.out R19.out.rd (by rw [Hw1.out]; have := Hlen.out; simp; omega) ?_
          intro v10 V20 ho10 hg10 _
          have S10 := s8.out _ ((s9.out _ S16).grown hg10 (s9.out _ S16).size (fun q hq => O17.out.ge q hq))
          obtain ⟨aX, cX, hvX⟩ := ho10.rd.form
          have hlX : (z1 ++ [x22]).length = len1 + 1 := by rw [List.length_append, Hw1.out]; rfl
          rw [hlX] at hvX
          subst hvX
          have HMX : Hid (Mk V20 aX cX (len1 + 1) (z1 ++ [x22])) := hide ⟨hlX, ho10.rd, by have := Hlen.out; omega⟩
          clear ho10 hg10 hlX
          refine hK.out _ _ S10 (fun _ => ?_)
          clear hK K
          refine wpAnyH_ready (rs := [8]) (by kernel_rfl) (by simp) ?_
          refine AllReadyH.cons rfl (fun K hK => ?_) AllReadyH.nil
          go_simp
          refine (K12.out _ aX cX (s9.out _ S10) HMX.out).mono ?_
          rintro e W12 ⟨gX, lX, rfl, hO12, hF12, hb12⟩
          have S12 := s8.out _ ((s9.out _ S10).trans (hb12.mono (s9.out _ S10).size))
          have FIN : Hid (intE.Rd W12 (.slice (some ⟨gX, 0, none⟩) n n) lX ∧ Far (Eg es0 (clo m (z1 ++ [x22])) 0) (Tk ns0) A n lX ∧ Below W7.heap.size W7 W12) := hide ⟨hO12.rd, hF12, s9.out _ S12⟩
          clear hO12 hF12 hb12
          refine hK.out _ _ S12 (fun _ => ?_)
          clear hK K
          refine wpAnyH_take (i := 9) (v := .tuple #[.slice (some ⟨gX, 0, none⟩) n n, .int .i64 0]) rfl (by kernel_rfl) (by kernel_rfl) (by kernel_rfl) (fun _ _ _ h => h) (Or.inl ⟨by rfl, fun W' hW => by go_simp⟩) S12 ?_
          refine wpAnyH_take (i := 10) (v := .slice (some ⟨gX, 0, none⟩) n n) rfl (by kernel_rfl) (by kernel_rfl) (by kernel_rfl) (fun _ _ _ h => h) (Or.inl ⟨by rfl, fun W' hW => by go_simp⟩) S12 ?_
          refine wpAnyH_take (i := 11) (v := .int .i64 0) rfl (by kernel_rfl) (by kernel_rfl) (by kernel_rfl) (fun _ _ _ h => h) (Or.inl ⟨by rfl, fun W' hW => by go_simp⟩) S12 ?_
          refine wpAnyH_take (i := 12) (v := .slice (some ⟨gX, 0, none⟩) n n) rfl (by kernel_rfl) (by kernel_rfl) (by kernel_rfl) (fun _ _ _ h => h) (Or.inl ⟨by rfl, fun W' hW => by go_simp⟩) S12 ?_
          refine wpAnyH_ready (rs := [13]) (by kernel_rfl) (by simp) ?_
          refine AllReadyH.cons rfl (fun K hK => ?_) AllReadyH.nil
          go_simp
          refine hK.out _ _ S12 (fun _ => ?_)
          clear hK K
          refine wpAnyH_done (by kernel_rfl) ?_ _
          go_wp2_with fail
          go_meet
          exact ⟨gX, lX, W12, rfl, by first | rfl | trivial, by first | rfl | trivial, FIN⟩
      · go_simp
        have S21 := s8.out _ ((s9.out _ hS0).alloc (s9.out _ hS0).size (.cells #[.int .i64 x22] 3))
        have R22 : Hid (intE.Own (W7.drew.alloc (.cells #[.int .i64 x22] 3)) W7.heap.size (.slice (some ⟨W7.heap.size, 0, none⟩) 1 1) [x22]) := hide (El.Own.new intE W7.drew _ (s9.out _ hS0).size _ [x22] rfl (by simp) _ _ _ (by simp) rfl rfl)
        refine hK.out _ _ S21 (fun _ => ?_)
        clear hK K
        refine wpAnyH_ready (rs := [1]) (by kernel_rfl) (by simp) ?_
        refine AllReadyH.cons rfl (fun K hK => ?_) AllReadyH.nil
        go_simp
        have S23 := s8.out _ ((s9.out _ S21).alloc (s9.out _ S21).size (.cells #[] 3))
        have O24 : Hid (intE.Own ((W7.drew.alloc (.cells #[.int .i64 x22] 3)).alloc (.cells #[] 3)) W7.heap.size (.slice (some ⟨W7.heap.size + 1, 0, none⟩) 0 0) []) := hide (El.Own.new intE (W7.drew.alloc (.cells #[.int .i64 x22] 3)) _ (s9.out _ S21).size #[] [] rfl (by simp) _ _ _ (by simp) rfl rfl)
        have R25 := hide (R22.out.alloc (.cells #[] 3))
        have Q26 : Hid (Sep (.slice (some ⟨W7.heap.size + 1, 0, none⟩) 0 0) (.slice (some ⟨W7.heap.size, 0, none⟩) 1 1)) := hide (by intro q h1 h2; simp [Value.ownBlock] at h1 h2; omega)
        refine hK.out _ _ S23 (fun _ => ?_)
        clear hK K
        refine wpAnyH_ready (rs := [3]) (by kernel_rfl) (by simp) ?_
        refine AllReadyH.cons rfl (fun K hK => ?_) AllReadyH.nil
        refine stepW intE (B := W7.heap.size) (s9.out _ S23).size (by rfl) (.tmp 55) (.tmp 56) rfl _ _ rfl rfl [] z1 O24.out (HRM.out _ (s9.out _ S23)) (by rw [Hw1.out]; have := Hlen.out; simp; omega) ?_
        intro v30 V27 ho hg hvb
        rw [List.nil_append] at ho
        have S28 := s8.out _ ((s9.out _ S23).grown hg (s9.out _ S23).size (fun q hq => O24.out.ge q hq))
        have O29 := hide ho
        have R31 := hide (rd_beside O24.out R25.out Q26.out hg)
        clear ho hg hvb
        refine hK.out _ _ S28 (fun _ => ?_)
        clear hK K
        refine wpAnyH_ready (rs := [6]) (by kernel_rfl) (by simp) ?_
        refine AllReadyH.cons rfl (fun K hK => ?_) AllReadyH.nil
        refine stepW intE (B := W7.heap.size) (s9.out _ S28).size (by rfl) (.tmp 57) (.tmp 59) rfl _ _ rfl rfl z1 [x22] O29.out R31.out.rd (by rw [Hw1.out]; have := Hlen.out; simp; omega) ?_
        intro v10 V32 ho10 hg10 _
        have S10 := s8.out _ ((s9.out _ S28).grown hg10 (s9.out _ S28).size (fun q hq => O29.out.ge q hq))
        obtain ⟨aX, cX, hvX⟩ := ho10.rd.form
        have hlX : (z1 ++ [x22]).length = len1 + 1 := by rw [List.length_append, Hw1.out]; rfl
        rw [hlX] at hvX
        subst hvX
        have HMX : Hid (Mk V32 aX cX (len1 + 1) (z1 ++ [x22])) := hide ⟨hlX, ho10.rd, by have := Hlen.out; omega⟩
        clear ho10 hg10 hlX
        refine hK.out _ _ S10 (fun _ => ?_)
        clear hK K
        refine wpAnyH_ready (rs := [8]) (by kernel_rfl) (by simp) ?_
        refine AllReadyH.cons rfl (fun K hK => ?_) AllReadyH.nil
        go_simp
        refine (K12.out _ aX cX (s9.out _ S10) HMX.out).mono ?_
        rintro e W12 ⟨gX, lX, rfl, hO12, hF12, hb12⟩
        have S12 := s8.out _ ((s9.out _ S10).trans (hb12.mono (s9.out _ S10).size))
        have FIN : Hid (intE.Rd W12 (.slice (some ⟨gX, 0, none⟩) n n) lX ∧ Far (Eg es0 (clo m (z1 ++ [x22])) 0) (Tk ns0) A n lX ∧ Below W7.heap.size W7 W12) := hide ⟨hO12.rd, hF12, s9.out _ S12⟩
        clear hO12 hF12 hb12
        refine hK.out _ _ S12 (fun _ => ?_)
        clear hK K
        refine wpAnyH_take (i := 9) (v := .tuple #[.slice (some ⟨gX, 0, none⟩) n n, .int .i64 0]) rfl (by kernel_rfl) (by kernel_rfl) (by kernel_rfl) (fun _ _ _ h => h) (Or.inl ⟨by rfl, fun W' hW => by go_simp⟩) S12 ?_
        refine wpAnyH_take (i := 10) (v := .slice (some ⟨gX, 0, none⟩) n n) rfl (by kernel_rfl) (by kernel_rfl) (by kernel_rfl) (fun _ _ _ h => h) (Or.inl ⟨by rfl, fun W' hW => by go_simp⟩) S12 ?_
        refine wpAnyH_take (i := 11) (v := .int .i64 0) rfl (by kernel_rfl) (by kernel_rfl) (by kernel_rfl) (fun _ _ _ h => h) (Or.inl ⟨by rfl, fun W' hW => by go_simp⟩) S12 ?_
        refine wpAnyH_take (i := 12) (v := .slice (some ⟨gX, 0, none⟩) n n) rfl (by kernel_rfl) (by kernel_rfl) (by kernel_rfl) (fun _ _ _ h => h) (Or.inl ⟨by rfl, fun W' hW => by go_simp⟩) S12 ?_
        refine wpAnyH_ready (rs := [13]) (by kernel_rfl) (by simp) ?_
        refine AllReadyH.cons rfl (fun K hK => ?_) AllReadyH.nil
        go_simp
        refine hK.out _ _ S12 (fun _ => ?_)
        clear hK K
        refine wpAnyH_done (by kernel_rfl) ?_ _
        go_wp2_with fail
        go_meet
        exact ⟨gX, lX, W12, rfl, by first | rfl | trivial, by first | rfl | trivial, FIN⟩
    case rest =>
    obtain ⟨gy, ly, W8, rfl, rfl, rfl, HH⟩ := hcut
    have HrY := hide HH.out.1
    have HFY := hide HH.out.2.1
    have HB8 := hide HH.out.2.2
    have HbW : Hid (Below W0.heap.size W0 wc) := hide (s7.out _ HB8.out)
    obtain ⟨x0, x1⟩ := layg HBOX.out HbW.out
    have HrX : Hid (intE.Rd wc (.slice (some ⟨gx, 0, none⟩) n n) lx) := hide (HO7.out.rd.keep HB8.out)
    clear HH s1 s2 s8 s9 HRM K12 HO7
    go_upto_region 10 with (go_at_call 18; refine (cut_ok _ _ _ _ _ _ _ _ _ _ _ ns0 es0 z1 _ (HLM.out _ HbW.out).1 (HLM.out _ HbW.out).2 HA1.out HB1.out).mono ?_; rintro e W9 ⟨⟨vc, lc, rfl, hO9, hC9⟩, hb9⟩
                            obtain ⟨aX, cX, rfl⟩ := hO9.rd.form
                            have HrC := hide hO9.rd
                            have HC := hide hC9
                            have HrX := hide (HrX.out.keep hb9)
                            have HrY := hide (HrY.out.keep hb9)
                            have HbW : Hid (Below W0.heap.size W0 W9) := hide (HbW.out.trans (hb9.mono HbW.out.size))
                            clear hO9 hC9 hb9)
    clear x0 x1
    obtain ⟨nl, hnl⟩ : ∃ nl, lc.length = nl := ⟨_, rfl⟩
    have Hnl := hide hnl
    have HLy := hide (HLM.out _ HbW.out).1
    have Hll : Hid (nl ≤ 1000) := hide (by
      rw [← hnl]
      rcases HC.out with ⟨_, rfl⟩ | ⟨_, h⟩
      · simp
      · have h1 := h.len
        have h2 := HLy.out.hm
        have h3 := HLy.out.m4
        omega)
    rw [hnl] at HrC ⊢
    have lnl : (nl : Int) ≤ 1000 := by have := Hll.out; omega
    have HXc : Hid (∀ (W : World) (v : Nat), W.heap = W9.heap → v < n → W.cell? ⟨gx, v, none⟩ = some (.int .i64 (va lx v)) ∧ W.cell? ⟨gy, v, none⟩ = some (.int .i64 (va ly v))) := hide (fun W v h hv => by
      obtain ⟨_, _, hs1, h1⟩ := int_at (rd_heap HrX.out h) v _ (va_at lx v (by rw [HF.out.1]; exact hv))
      obtain ⟨_, _, hs2, h2⟩ := int_at (rd_heap HrY.out h) v _ (va_at ly v (by rw [HFY.out.1]; exact hv))
      simp only [Option.some.injEq, Addr.mk.injEq] at hs1 hs2
      obtain ⟨rfl, rfl, _⟩ := hs1
      obtain ⟨rfl, rfl, _⟩ := hs2
      rw [Nat.zero_add] at h1 h2
      exact ⟨h1, h2⟩)
    clear hnl
    go_wp2_with fail
    go_loopw [97] (fun v97 wr => ∃ (k q : Nat), k ≤ n ∧ v97 = .int .i64 k ∧ wr = W9.drewN q) (fun v97 _ => n - (intOf v97).toNat)
    case atStart => exact ⟨0, 0, by omega, rfl, rfl⟩
    case round =>
      obtain ⟨k, q, hk, rfl, rfl⟩ := hrel
      by_cases hlt : k < n
      · obtain ⟨cx, cy⟩ := HXc.out W9 k rfl hlt
        have j0 : (0 : Int) ≤ (k : Int) := by omega
        have j1 : (k : Int) < (n : Int) := by omega
        have Hle := hide (far_less (fun u v h => eg_more HLy.out.hm u v h) HF.out HFY.out k hlt)
        obtain ⟨dx, hdx⟩ : ∃ d, va lx k = d := ⟨_, rfl⟩
        obtain ⟨dy, hdy⟩ : ∃ d, va ly k = d := ⟨_, rfl⟩
        rw [hdx] at cx Hle
        rw [hdy] at cy Hle
        clear hdx hdy
        by_cases hy : 0 ≤ dy
        · have h1 := Hle.out hy
          have hyd : decide (0 ≤ dy) = true := decide_eq_true hy
          have hx1 : ¬ dx < 0 := by omega
          have hx2 : ¬ dy < dx := by omega
          have hd1 : decide (dx < 0) = false := decide_eq_false hx1
          have hd2 : decide (dy < dx) = false := decide_eq_false hx2
          clear h1
          go_upto_region 15 with fail
          go_quiet (fail)
          go_wp2_with fail
          go_roundw
          case rel => exact ⟨k + 1, _, by omega, by go_num, rfl⟩
          case measure => simp [intOf]; omega
        · have hyd : decide (0 ≤ dy) = false := decide_eq_false hy
          go_upto_region 15 with fail
          go_quiet (fail)
          go_wp2_with fail
          go_roundw
          case rel => exact ⟨k + 1, _, by omega, by go_num, rfl⟩
          case measure => simp [intOf]; omega
      · obtain rfl : k = n := by omega
        have j1 : ¬ (k : Int) < (k : Int) := by omega
        obtain ⟨n, rfl⟩ : ∃ n', n' = k := ⟨_, rfl⟩
        have Hq : Hid (Below W0.heap.size W0 (W9.drewN q)) := hide (below_heap HbW.out rfl rfl rfl rfl)
        have HrC2 := hide (rd_heap (W := W9.drewN q) HrC.out rfl)
        obtain ⟨cx, cy⟩ := HXc.out (W9.drewN q) B rfl HB1.out
        obtain ⟨WZ, hWZ⟩ : ∃ WZ, W9.drewN q = WZ := ⟨_, rfl⟩
        rw [hWZ] at cx cy Hq HrC2 ⊢
        clear hWZ
        go_wp2_with fail
        go_loopw [18, 126] (fun v18 v126 wr => ∃ (i : Nat), i ≤ nl ∧ v126 = .int .i64 i ∧ v18 = .bool (decide (x22 ∈ lc.take i)) ∧ wr = WZ) (fun _ v126 _ => nl - (intOf v126).toNat)
        case atStart => exact ⟨0, by omega, rfl, by simp, rfl⟩
        case round =>
          obtain ⟨i, hi, rfl, rfl, rfl⟩ := hrel
          by_cases hlt2 : i < nl
          · obtain ⟨p, hp⟩ : ∃ p, lc[i]? = some p := ⟨_, List.getElem?_eq_getElem (by rw [Hnl.out]; exact hlt2)⟩
            obtain ⟨bC, oC, rfl, cc⟩ := int_at HrC2.out i p hp
            have j2 : (0 : Int) ≤ (i : Int) := by omega
            have j3 : (i : Int) < (nl : Int) := by omega
            have Htk : Hid (decide (x22 ∈ lc.take (i + 1)) = (decide (x22 ∈ lc.take i) || (p == x22))) := hide (by
              rw [List.take_add_one, hp]
              by_cases e : x22 ∈ lc.take i
              · simp [e]
              · by_cases e2 : p = x22
                · simp [e, e2]
                · simp [e, e2, Ne.symm e2])
            clear hp
            obtain ⟨bi, hbi⟩ : ∃ b, decide (x22 ∈ lc.take i) = b := ⟨_, rfl⟩
            rw [hbi] at Htk ⊢
            clear hbi
            obtain ⟨bp, hbp⟩ : ∃ b, (p == x22) = b := ⟨_, rfl⟩
            have Htk2 : Hid (decide (x22 ∈ lc.take (i + 1)) = (bi || bp)) := hide (by rw [Htk.out, hbp])
            clear Htk
            cases bi with
            | true =>
              have Ht3 : Hid (decide (x22 ∈ lc.take (i + 1)) = true) := hide (by rw [Htk2.out]; rfl)
              go_wp2_with fail
              go_roundw
              case rel => exact ⟨i + 1, by omega, by go_num, by rw [Ht3.out], by first | rfl | trivial⟩
              case measure => simp [intOf]; omega
            | false =>
              have Ht3 : Hid (decide (x22 ∈ lc.take (i + 1)) = bp) := hide (by rw [Htk2.out]; rfl)
              go_wp2_with fail
              go_roundw
              case rel => exact ⟨i + 1, by omega, by go_num, by rw [Ht3.out], by first | rfl | trivial⟩
              case measure => simp [intOf]; omega
          · obtain rfl : i = nl := by omega
            have j3 : ¬ (i : Int) < (i : Int) := by omega
            have hall : lc.take i = lc := List.take_of_length_le (by rw [Hnl.out]; omega)
            rw [hall]
            have HDx := hide (HF.out.2 B HB1.out)
            have HDy := hide (HFY.out.2 B HB1.out)
            obtain ⟨dx, hdx⟩ : ∃ d, va lx B = d := ⟨_, rfl⟩
            obtain ⟨dy, hdy⟩ : ∃ d, va ly B = d := ⟨_, rfl⟩
            rw [hdx] at cx HDx
            rw [hdy] at cy HDy
            have HX2 : Hid (dx < 0 → i = 0) := hide (fun h => by
              have h1 : ¬ Has ns0 es0 (clo m z1) A B := fun h2 => by
                have h3 := bne_iff_ne.1 (HDx.out.has.1.2 h2)
                have h4 := HDx.out.has.2
                omega
              rcases HC.out with ⟨_, h2⟩ | ⟨h2, _⟩
              · rw [← Hnl.out, h2]; rfl
              · exact absurd h2 h1)
            have HY2 : Hid (¬ dx < 0 → decide (dy < 0) = decide (x22 ∈ lc)) := hide (fun h => by
              have h1 : Has ns0 es0 (clo m z1) A B := HDx.out.has.1.1 (bne_iff_ne.2 (by omega))
              have h2 := less_cut (d := x22) HLy.out.hm h1 HC.out
              rw [decide_eq_decide, ← h2]
              have h3 := HDy.out.has
              rw [← h3.1]
              simp only [bne_iff_ne, ne_eq, Decidable.not_not]
              have := h3.2
              omega)
            clear hall hdx hdy
            by_cases hneg : dx < 0
            · obtain rfl := HX2.out hneg
              go_wp2_with fail
              go_ret
              exact ⟨rfl, HA.out.trans (Hq.out.mono HA.out.size)⟩
            · have hge : 0 ≤ dx := by omega
              have he := HY2.out hneg
              obtain ⟨b, hb⟩ : ∃ b, decide (x22 ∈ lc) = b := ⟨_, rfl⟩
              rw [hb] at he ⊢
              have hbb : (b == b) = true := beq_self_eq_true _
              clear hb
              go_wp2_with fail
              go_ret
              exact ⟨by first | rfl | simp | simp [he], HA.out.trans (Hq.out.mono HA.out.size)⟩

set_option maxRecDepth 100000 in
theorem lifted (os : Os) (started : os.Started) (H : Type) (enc : TypeId × Value → H) :
    ReturnsInHanded {} Try.checked os 6 .any (Rows.reachLessSpec.pre6 enc Try.prog Try.f6 Rows.reachLessRow.domain false) (Rows.reachLessSpec.post enc Try.prog Try.f6 false true false false) := by
  refine returnsInHanded_of_change_sized (C := Try.checked) own started (by kernel_rfl) Try.func6
    (ChangeSpec.witness6 (enc := enc) (C := Try.checked) false ⟨#[], #[.agg #[.slice none 0 0, .slice none 0 0], .slice none 0 0, .agg #[.int .i64 0, .int .i64 0, .int .i64 0]], []⟩ 8 (by kernel_rfl) (by kernel_rfl) (by kernel_rfl) (by kernel_rfl)) ?_
  intro W base args ds gs before hval0 hW hcnd hsz0 _
  have hval : ∀ (j : Nat) t v, Try.f6.params[j]? = some t → args[j]? = some v → Value.okWide Try.prog W .any base t v := hval0
  have hsz : (DataW.weightsEach Try.prog (Try.f6.params.toList ++ Rows.reachLessSpec.plain.varTypes Try.prog) (ds ++ gs)).all (· ≤ reachBytes) = true := hsz0
  have hW' := hW
  obtain ⟨p, q, hA0, hV, rfl, hfz, hnd⟩ := hW
  have hA : DataW.TrodAll enc Try.prog W 0 (fun _ => true) true Try.f6.params.toList args.toList ds p := hA0
  rw [Try.params6] at hA hval hsz
  obtain ⟨v0, vs0, d0, ds0, p0, q0, hargs, rfl, rfl, h0, r0⟩ := trodAll_cons hA
  obtain ⟨v1, vs1, d1, ds1, p1, q1, rfl, rfl, rfl, h1, r1⟩ := trodAll_cons r0
  obtain ⟨v2, vs2, d2, ds2, p2, q2, rfl, rfl, rfl, h2, r2⟩ := trodAll_cons r1
  obtain ⟨rfl, rfl, rfl⟩ := trodAll_nil r2
  obtain rfl : args = #[v0, v1, v2] := by cases args; simp_all
  obtain ⟨rfl, rfl⟩ := trodVars_none hV
  have k0 := h0
  have lt0 : ∀ x ∈ p0, x.block < W.heap.size := by obtain ⟨m, hm⟩ := k0; exact DataW.trod_lt m _ _ _ hm
  obtain ⟨cs0, rfl, _⟩ := okWide_struct Try.underlying25 (hval 0 25 v0 rfl rfl)
  obtain ⟨a0, c0, b0, e0, ns0, es0, hcs0, rn0, re0, rs0⟩ : ∃ (a : Option Addr) (c : Nat) (a' : Option Addr) (c' : Nat) (ns : List Nd) (es : List Ed), cs0 = #[.slice a ns.length c, .slice a' es.length c'] ∧ ndE.Rd W (.slice a ns.length c) ns ∧ edE.Rd W (.slice a' es.length c') es ∧ ∀ n ∈ ns, n.name.size ≤ maxLen := by
    obtain ⟨fuel, hf⟩ := h0
    obtain ⟨a, c, a', c', ns, es, he, h1, h2, h3⟩ := layout_of_trod hf
    exact ⟨a, c, a', c', ns, es, by apply Array.toList_inj.1; exact he, h1, h2, h3⟩
  subst hcs0
  obtain ⟨a1, len1, cap1, rfl⟩ := okWide_slice Try.underlying26 (hval 1 26 v1 rfl rfl)
  have k1 := h1
  have lt1 : ∀ x ∈ p1, x.block < W.heap.size := by obtain ⟨m, hm⟩ := k1; exact DataW.trod_lt m _ _ _ hm
  obtain ⟨z1, w1, s1, _⟩ : ∃ zs : List Int, zs.length = len1 ∧ intE.Rd W (.slice a1 len1 cap1) zs ∧ ∀ y ∈ zs, (Lit.int .i64 y).wf = true := by
    obtain ⟨fuel, hf⟩ := h1
    exact rd_of_trod intE (fun y => (Lit.int .i64 y).wf = true) (by kernel_rfl) (fun n cs y hy => int_of_trod hy) hf rfl
  have k2 := h2
  have lt2 : ∀ x ∈ p2, x.block < W.heap.size := by obtain ⟨m, hm⟩ := k2; exact DataW.trod_lt m _ _ _ hm
  obtain ⟨cs2, rfl, _⟩ : ∃ cs, v2 = .agg cs ∧ True := by
    have := hval 2 41 v2 rfl rfl
    unfold Value.okWide at this
    rw [Try.underlying41] at this
    obtain ⟨cs, h, _⟩ := this
    exact ⟨cs, h, trivial⟩
  obtain ⟨x20, x21, x22, e2⟩ : ∃ x0 x1 x2 : Int, cs2 = #[.int .i64 x0, .int .i64 x1, .int .i64 x2] := by
    obtain ⟨fuel, hf⟩ := h2
    obtain ⟨x0, x1, x2, he, _⟩ := arr3_of_trod hf
    exact ⟨x0, x1, x2, by apply Array.toList_inj.1; exact he⟩
  subst e2
  clear hA0 hval0
  refine (walk a0 b0 c0 e0 ns0 es0 a1 len1 cap1 z1 x20 x21 x22 W rn0 re0 rs0 w1 s1).mono fun e W' ⟨he, bel⟩ => ?_
  subst he
  exact ⟨_, rfl, _, _, _, [], _, [], hW', trodAll_mk1 (shut_bool Try.underlying4 _), (trodAll_cons_mk (Below.trod laidOut (by kernel_rfl) (of_decide_eq_true (by kernel_rfl)) k0 bel lt0) (trodAll_cons_mk (Below.trod laidOut (by kernel_rfl) (of_decide_eq_true (by kernel_rfl)) k1 bel lt1) (trodAll_cons_mk (Below.trod laidOut (by kernel_rfl) (of_decide_eq_true (by kernel_rfl)) k2 bel lt2) trodAll_mk0))), rfl, bel.frame _, fun h => by cases h⟩

theorem over : Rows.reachLessRow.holds Try.pinned (OpenSpec.ofChange Rows.reachLessSpec) :=
  OpenClaim.holds_of_wide 6 Try.f6 rfl rfl rfl rfl rfl rfl rfl ⟨rfl, rfl, rfl, rfl, rfl⟩ rfl rfl rfl rfl rfl (by kernel_rfl) Try.func6 (by kernel_rfl)
    (of_decide_eq_true (by kernel_rfl)) (by unfold Func.isWrapper; first | (rw [if_pos (by decide +kernel)]; kernel_rfl) | (rw [if_neg (by decide +kernel)]; exact ⟨rfl, rfl⟩))
    (fun os started H enc _ => lifted os started H enc)

theorem proved : Rows.ReachLessSaid := over
end Go.Proofs.Ythimeobnfkoefaa.reachLess
