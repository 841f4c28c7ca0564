/- RoutePaths: for every layout, every mask and every two ends the statement's function returns true: paths, those around full nodes, and loops are the document's, or it is told that there is none or that an end is no place. It writes nothing that was there. No condition. -/
import Derived.Test.YtmkjpdmhplldjaaAwk
import Derived.Test.YtmkjpdmhplldjaaRpt
namespace Go.Proofs.Ytmkjpdmhplldjaa.routePaths
open Go.ChangeShapes Go.WideShapes Go.ChangeAt Go.RowKit
set_option linter.unusedVariables false

theorem own : ownKnob Try.prog.godebug = none := by kernel_rfl
theorem laidOut : laidOutB Try.prog = true := by kernel_rfl

/-- a path of the program's and the document's -/
theorem both_path {ns : List Nd} {es : List Ed} {cs l : List Int} {t n u B : Nat} {w' W3 : World} {e : Ending} {f : Nat} {args : Array Value} (hg : Gr ns es cs l t n) (hn : n ≤ 900)
    (h : (va l u = -1 ∧ e = .returned (.tuple #[.slice none 0 0, .int .i64 80])) ∨ ∃ (k : Nat) (v : Value), va l u = (k : Int) ∧ e = .returned (.tuple #[v, .int .i64 0]) ∧ intE.Own w' B v (pth ns es cs l t k u))
    (R : ∀ W, Below W3.heap.size W3 W → Calls Try.prog f args W fun e w' => (∃ v cd, e = .returned (.tuple #[v, .int .i64 cd]) ∧ ((va l u = -1 ∧ cd = 80 ∧ v = .slice none 0 0) ∨ ∃ k : Nat, va l u = (k : Int) ∧ cd = 0 ∧ intE.Own w' W.heap.size v (pth ns es cs l t k u))) ∧ Below W.heap.size W w') :
    ∃ aP kP cP cd xs, e = .returned (.tuple #[.slice aP kP cP, .int .i64 cd]) ∧ intE.Rd w' (.slice aP kP cP) xs ∧ xs.length = kP ∧ kP ≤ 1000 ∧ (cd == 1) = false ∧ (cd == cd) = true ∧ ∀ W, Below W3.heap.size W3 W → Calls Try.prog f args W fun e w' => (∃ aR cR, e = .returned (.tuple #[.slice aR kP cR, .int .i64 cd]) ∧ intE.Rd w' (.slice aR kP cR) xs) ∧ Below W.heap.size W w' := by
  rcases h with ⟨h1, rfl⟩ | ⟨k, v, h1, rfl, h2⟩
  · refine ⟨_, _, _, _, [], rfl, .inl ⟨rfl, rfl⟩, rfl, by omega, by decide, beq_self_eq_true _, fun W h => (R W h).mono ?_⟩
    rintro e w' ⟨⟨v, cd, rfl, h3⟩, hb⟩
    rcases h3 with ⟨_, rfl, rfl⟩ | ⟨k, h3, _⟩
    · exact ⟨⟨_, _, rfl, .inl ⟨rfl, rfl⟩⟩, hb⟩
    · omega
  · have hk : k ≤ 1000 := by have := hg.high u; omega
    obtain ⟨aP, cP, rfl⟩ := h2.rd.form
    have hl : (pth ns es cs l t k u).length = k := pth_len k u
    refine ⟨aP, _, cP, _, _, rfl, h2.rd, rfl, by rw [hl]; exact hk, by decide, beq_self_eq_true _, fun W h => (R W h).mono ?_⟩
    rintro e w' ⟨⟨v, cd, rfl, h3⟩, hb⟩
    rcases h3 with ⟨h3, _⟩ | ⟨k', h3, rfl, h4⟩
    · omega
    · obtain rfl : k' = k := by omega
      obtain ⟨aR, cR, rfl⟩ := h4.rd.form
      exact ⟨⟨aR, cR, rfl, h4.rd⟩, hb⟩
theorem lp_uniq {ns : List Nd} {es : List Ed} {ms l : List Int} {t n : Nat} {r r' : Option (List Int)} (h : Lp ns es ms l t n r) (h' : Lp ns es ms l t n r') : r = r' := by
  rcases h with ⟨rfl, h1⟩ | ⟨j, h1, h2, h3, h4, rfl⟩ <;> rcases h' with ⟨rfl, g1⟩ | ⟨i, g1, g2, g3, g4, rfl⟩
  · rfl
  · exact absurd (h1 i g1 g2) g4
  · exact absurd (g1 j h1 h2) h4
  · obtain rfl : i = j := by
      rcases Nat.lt_trichotomy i j with h | h | h
      · exact absurd (h3 i g1 h) g4
      · exact h
      · exact absurd (g3 j h1 h) h4
    rfl
theorem lp_len {ns : List Nd} {es : List Ed} {ms l : List Int} {t n : Nat} {xs : List Int} (h : Lp ns es ms l t n (some xs)) : xs.length ≤ n := by
  rcases h with ⟨h, _⟩ | ⟨j, h1, h2, h3, h4, h5⟩
  · cases h
  · obtain rfl := Option.some.inj h5
    rw [List.length_cons, pth_len]; omega
/-- a loop of the program's and the document's -/
theorem both_loop {ns : List Nd} {es : List Ed} {cs l : List Int} {t n B : Nat} {w' W3 : World} {e : Ending} {f : Nat} {args : Array Value} (hn : n ≤ 900)
    (h : (Lp ns es cs l t n none ∧ e = .returned (.tuple #[.slice none 0 0, .int .i64 80])) ∨ ∃ v xs, Lp ns es cs l t n (some xs) ∧ e = .returned (.tuple #[v, .int .i64 0]) ∧ intE.Own w' B v xs)
    (R : ∀ W, Below W3.heap.size W3 W → Calls Try.prog f args W fun e w' => (∃ v cd, e = .returned (.tuple #[v, .int .i64 cd]) ∧ ((Lp ns es cs l t n none ∧ cd = 80 ∧ v = .slice none 0 0) ∨ ∃ xs, Lp ns es cs l t n (some xs) ∧ cd = 0 ∧ intE.Own w' W.heap.size v xs)) ∧ Below W.heap.size W w') :
    ∃ aP kP cP cd xs, e = .returned (.tuple #[.slice aP kP cP, .int .i64 cd]) ∧ intE.Rd w' (.slice aP kP cP) xs ∧ xs.length = kP ∧ kP ≤ 1000 ∧ (cd == 1) = false ∧ (cd == cd) = true ∧ ∀ W, Below W3.heap.size W3 W → Calls Try.prog f args W fun e w' => (∃ aR cR, e = .returned (.tuple #[.slice aR kP cR, .int .i64 cd]) ∧ intE.Rd w' (.slice aR kP cR) xs) ∧ Below W.heap.size W w' := by
  rcases h with ⟨h1, rfl⟩ | ⟨v, xs, h1, rfl, h2⟩
  · refine ⟨_, _, _, _, [], rfl, .inl ⟨rfl, rfl⟩, rfl, by omega, by decide, beq_self_eq_true _, fun W h => (R W h).mono ?_⟩
    rintro e w' ⟨⟨v, cd, rfl, h3⟩, hb⟩
    rcases h3 with ⟨_, rfl, rfl⟩ | ⟨ys, h3, _⟩
    · exact ⟨⟨_, _, rfl, .inl ⟨rfl, rfl⟩⟩, hb⟩
    · cases lp_uniq h1 h3
  · obtain ⟨aP, cP, rfl⟩ := h2.rd.form
    refine ⟨aP, _, cP, _, _, rfl, h2.rd, rfl, by have := lp_len h1; omega, by decide, beq_self_eq_true _, fun W h => (R W h).mono ?_⟩
    rintro e w' ⟨⟨v, cd, rfl, h3⟩, hb⟩
    rcases h3 with ⟨h3, _⟩ | ⟨ys, h3, rfl, h4⟩
    · cases lp_uniq h1 h3
    · obtain rfl := Option.some.inj (lp_uniq h1 h3)
      obtain ⟨aR, cR, rfl⟩ := h4.rd.form
      exact ⟨⟨aR, cR, rfl, h4.rd⟩, hb⟩

set_option maxRecDepth 100000 in
set_option maxHeartbeats 8000000 in
theorem walk (a0 b0 : Option Addr) (c0 e0 : Nat) (ns0 : List Nd) (es0 : List Ed) (a1 : Option Addr) (len1 cap1 : Nat) (z1 : List Int) (x20 x21 : Int) (w : World) (rn0 : ndE.Rd w (.slice a0 ns0.length c0) ns0) (re0 : edE.Rd w (.slice b0 es0.length e0) es0) (rs0 : ∀ p ∈ ns0, p.name.size ≤ maxLen) (w1 : z1.length = len1) (s1 : intE.Rd w (.slice a1 len1 cap1) z1) :
    Calls Try.prog 4 #[.agg #[.slice a0 ns0.length c0, .slice b0 es0.length e0], .slice a1 len1 cap1, .agg #[.int .i64 x20, .int .i64 x21]] w fun e w' => e = .returned (.bool true) ∧ Below w.heap.size w w' := by
  obtain ⟨n, hn⟩ : ∃ n, ns0.length = n := ⟨_, rfl⟩
  obtain ⟨m, hm⟩ : ∃ m, es0.length = m := ⟨_, rfl⟩
  rw [hn] at rn0 ⊢
  rw [hm] at re0 ⊢
  obtain ⟨W0, hW0⟩ : ∃ W0, (w.alloc (.cells #[.slice a0 n c0, .slice b0 m e0] 25)).alloc (.cells #[.int .i64 x20, .int .i64 x21] 38) = W0 := ⟨_, rfl⟩
  have bA : Below w.heap.size w W0 := by rw [← hW0]; exact ((Below.refl _ _).alloc (Nat.le_refl _) _).alloc (by simp) _
  have hbox : W0.heap[w.heap.size]? = some (.cells #[.slice a0 n c0, .slice b0 m e0] 25) := by rw [← hW0, Below.heap_alloc _ _ _ (by simp)]; exact heap_new _ _
  have hbox2 : W0.heap[w.heap.size + 1]? = some (.cells #[.int .i64 x20, .int .i64 x21] 38) := by
    rw [← hW0]
    have := heap_new (w.alloc (.cells #[.slice a0 n c0, .slice b0 m e0] 25)) (.cells #[.int .i64 x20, .int .i64 x21] 38)
    rwa [show (w.alloc (.cells #[.slice a0 n c0, .slice b0 m e0] 25)).heap.size = w.heap.size + 1 by simp] at this
  have HBOX2 := hide hbox2
  clear hbox2
  have HBOX := hide hbox
  have HA := hide bA
  have HW0 := hide hW0
  have K9 := hide awake_any
  have HR : Hid (∀ W, Below W0.heap.size W0 W → ndE.Rd W (.slice a0 n c0) ns0 ∧ edE.Rd W (.slice b0 m e0) es0 ∧ intE.Rd W (.slice a1 len1 cap1) z1) := hide (fun W h => have b := bA.trans (h.mono bA.size); ⟨rn0.keep b, re0.keep b, s1.keep b⟩)
  have K10 : Hid (∀ W, Below W0.heap.size W0 W → Calls Try.prog 10 #[.agg #[.slice a0 n c0, .slice b0 m e0], .slice a1 len1 cap1] W fun e w' => e = .returned (.bool ((decide (len1 ≤ 200) && good ns0 es0) && (decide (n ≤ 16) && decide (m ≤ 40)))) ∧ Below W.heap.size W w') := hide (fun W h => small_any a0 b0 a1 c0 e0 cap1 n m len1 ns0 es0 W hn hm (HR.out W h).1 (HR.out W h).2.1 rs0)
  have HG : Hid (((decide (len1 ≤ 200) && good ns0 es0) && (decide (n ≤ 16) && decide (m ≤ 40))) = true → (∀ W, Below W0.heap.size W0 W → Ly W a0 b0 c0 e0 n m ns0 es0 ∧ Mk W a1 cap1 len1 z1) ∧ len1 ≤ 200 ∧ n ≤ 40 ∧ 1 ≤ n ∧ m ≤ 120 ∧ ∀ e ∈ es0, e.1 ≠ e.2) := hide (fun h => by
    simp only [Bool.and_eq_true, decide_eq_true_eq] at h
    have h1 := h.1.1
    have h2 := h.1.2
    have hg := good_ly h2 hn hm (HR.out _ (Below.refl _ _)).1 (HR.out _ (Below.refl _ _)).2.1
    refine ⟨fun W hW => ⟨(good_ly h2 hn hm (HR.out W hW).1 (HR.out W hW).2.1).1, w1, (HR.out W hW).2.2, by omega⟩, h1, hg.2.2.1, hg.2.1, hg.2.2.2, ?_⟩
    unfold good goodE at h2
    simp only [Bool.and_eq_true, decide_eq_true_eq] at h2
    intro e he
    have h3 := h2.2.2.1 e he
    unfold edB at h3
    simp only [Bool.and_eq_true, decide_eq_true_eq] at h3
    exact h3.1.2)
  have Hw1 := hide w1
  clear rn0 re0 rs0 w1 s1 hn hm bA hbox hW0
  generalize ((decide (len1 ≤ 200) && good ns0 es0) && (decide (n ≤ 16) && decide (m ≤ 40))) = gd at *
  go_enter Try.func4, Try.ntmps4
  go_upto_region 1 with fail
  rw [HW0.out]
  clear HW0
  go_upto_region 3 with (go_at_call 9; refine (K9.out _).mono ?_; rintro e W1 ⟨rfl, hb1⟩; have Hb1 := hide hb1; obtain ⟨x0, x1⟩ := layg HBOX.out hb1; clear hb1)
  cases gd with
  | false =>
    go_wp2_with (go_at_call 10; refine (K10.out _ Hb1.out).mono ?_; rintro e W2 ⟨rfl, hb2⟩; have Hb2 := hide (Hb1.out.trans (hb2.mono Hb1.out.size)); clear hb2)
    go_ret
    exact ⟨rfl, HA.out.trans (Hb2.out.mono HA.out.size)⟩
  | true =>
    obtain ⟨hLM, hlen, hn40, hn1, hm12, hself⟩ := HG.out rfl
    have HLM := hide hLM
    have Hlen := hide hlen
    have Hn40 := hide hn40
    have Hm12 := hide hm12
    have Hself := hide hself
    have l1 : (len1 : Int) ≤ 200 := by omega
    have l2 : (n : Int) ≤ 40 := by omega
    have l3 : (1 : Int) ≤ (n : Int) := by omega
    have l4 : (m : Int) ≤ 120 := by omega
    clear hLM hlen hn40 hn1 hm12 hself HG HR
    go_upto_region 5 with (go_at_call 10; refine (K10.out _ Hb1.out).mono ?_; rintro e W2 ⟨rfl, hb2⟩; have Hb2 := hide (Hb1.out.trans (hb2.mono Hb1.out.size)); obtain ⟨x0, x1⟩ := layg HBOX.out Hb2.out; clear hb2)
    clear K9 K10 Hb1
    have v0 : W2.cell? ⟨w.heap.size + 1, 0, none⟩ = some (.int .i64 x20) := by rw [Hb2.out.cell (p := ⟨w.heap.size + 1, 0, none⟩) (heap_lt HBOX2.out)]; exact (cells_at HBOX2.out 0).1
    have v1 : W2.cell? ⟨w.heap.size + 1, 1, none⟩ = some (.int .i64 x21) := by rw [Hb2.out.cell (p := ⟨w.heap.size + 1, 1, none⟩) (heap_lt HBOX2.out)]; exact (cells_at HBOX2.out 1).1
    go_quiet (fail)
    obtain ⟨Wq, hWq⟩ : ∃ Wq, W2.drewN nq = Wq := ⟨_, rfl⟩
    have Hbq : Hid (Below W0.heap.size W0 Wq) := hide (by rw [← hWq]; exact below_heap Hb2.out rfl rfl rfl rfl)
    rw [hWq]
    clear v0 v1 hWq Hb2
    have b3 : Below Wq.heap.size Wq (Wq.alloc (.cells #[.int .i64 x20, .int .i64 x21, .int .i64 1, .int .i64 2, .int .i64 5] 3)) := (Below.refl _ _).alloc (Nat.le_refl _) _
    have Hb3 := hide (Hbq.out.trans (b3.mono Hbq.out.size))
    have HF3 : Hid (Mk (Wq.alloc (.cells #[.int .i64 x20, .int .i64 x21, .int .i64 1, .int .i64 2, .int .i64 5] 3)) (some ⟨Wq.heap.size, 0, none⟩) 5 5 [x20, x21, 1, 2, 5]) := hide ⟨rfl, (El.Own.new intE Wq 0 (by omega) _ [x20, x21, 1, 2, 5] rfl (by simp) _ _ _ rfl rfl rfl).rd, by omega⟩
    go_upto_region 7 with fail
    obtain ⟨W3, hW3⟩ : ∃ W3, Wq.alloc (.cells #[.int .i64 x20, .int .i64 x21, .int .i64 1, .int .i64 2, .int .i64 5] 3) = W3 := ⟨_, rfl⟩
    rw [hW3] at Hb3 HF3
    rw [hW3]
    obtain ⟨aF, haF⟩ : ∃ aF : Option Addr, some ⟨Wq.heap.size, 0, none⟩ = aF := ⟨_, rfl⟩
    rw [haF] at HF3
    rw [haF]
    clear hW3 haF b3 Hbq
    obtain ⟨fs, hfs⟩ : ∃ fs : List Int, [x20, x21, 1, 2, 5] = fs := ⟨_, rfl⟩
    rw [hfs] at HF3
    clear hfs
    have HFW : Hid (∀ W, Below W3.heap.size W3 W → Mk W aF 5 5 fs) := hide (fun W h => HF3.out.keep h)
    have HLW : Hid (∀ W, Below W3.heap.size W3 W → Ly W a0 b0 c0 e0 n m ns0 es0 ∧ Mk W a1 cap1 len1 z1) := hide (fun W h => HLM.out W (Hb3.out.trans (h.mono Hb3.out.size)))
    have HXW : Hid (∀ W, Below W3.heap.size W3 W → W.cell? ⟨w.heap.size, 0, none⟩ = some (.slice a0 n c0) ∧ W.cell? ⟨w.heap.size, 1, none⟩ = some (.slice b0 m e0)) := hide (fun W h => layg HBOX.out (Hb3.out.trans (h.mono Hb3.out.size)))
    have HBb : Hid (Below W3.heap.size W3 W3) := hide (Below.refl _ _)
    obtain ⟨x0, x1⟩ := HXW.out _ HBb.out
    have K14 : Hid (∀ (W : World) a b k c d xs, xs.length = k → intE.Rd W (.slice a k c) xs → intE.Rd W (.slice b k d) xs → k ≤ 1000 → Calls Try.prog 14 #[.slice a k c, .slice b k d] W fun e w' => e = .returned (.bool true) ∧ Below W.heap.size W w') := hide (fun W a b k c d xs h1 h3 h4 h5 => (ints_eq h3 h4 h1 h1 (by omega)).mono (by
      rintro e w' ⟨h6, h7⟩
      rw [decide_eq_true rfl] at h6
      exact ⟨h6, h7⟩))
    have K13a := hide (fun W => outside_any a0 b0 n c0 m e0 x20 W)
    have K13b := hide (fun W => outside_any a0 b0 n c0 m e0 x21 W)
    by_cases ha : 0 ≤ x20 ∧ x20 < (n : Int)
    · have tx : (!decide (0 ≤ x20 ∧ x20 < (n : Int))) = false := by rw [decide_eq_true ha]; rfl
      by_cases hb : 0 ≤ x21 ∧ x21 < (n : Int)
      · have ty : (!decide (0 ≤ x21 ∧ x21 < (n : Int))) = false := by rw [decide_eq_true hb]; rfl
        rw [tx] at K13a
        rw [ty] at K13b
        obtain ⟨u, hu⟩ := Int.eq_ofNat_of_zero_le ha.1
        obtain ⟨t, ht⟩ := Int.eq_ofNat_of_zero_le hb.1
        subst hu
        subst ht
        have Hu : Hid (u < n ∧ t < n) := hide ⟨by omega, by omega⟩
        clear ha hb tx ty
        have K17 : Hid (∀ W, Below W3.heap.size W3 W → Calls Try.prog 17 #[.agg #[.slice a0 n c0, .slice b0 m e0], .slice a1 len1 cap1, .int .i64 (u : Int), .int .i64 (t : Int)] W fun e w' => (∃ aP kP cP cd xs, e = .returned (.tuple #[.slice aP kP cP, .int .i64 cd]) ∧ intE.Rd w' (.slice aP kP cP) xs ∧ xs.length = kP ∧ kP ≤ 1000 ∧ (cd == 1) = false ∧ (cd == cd) = true ∧ ∀ W, Below W3.heap.size W3 W → Calls Try.prog 20 #[.agg #[.slice a0 n c0, .slice b0 m e0], .slice a1 len1 cap1, .int .i64 (u : Int), .int .i64 (t : Int), .slice none 0 0] W fun e w' => (∃ aR cR, e = .returned (.tuple #[.slice aR kP cR, .int .i64 cd]) ∧ intE.Rd w' (.slice aR kP cR) xs) ∧ Below W.heap.size W w') ∧ Below W.heap.size W w') := hide (fun W h => (path_ok a0 b0 a1 c0 e0 cap1 n m len1 u t ns0 es0 z1 W (HLW.out W h).1 (HLW.out W h).2 (by have := Hlen.out; omega) Hu.out.1 Hu.out.2).mono (by
          rintro e w' ⟨⟨l, hg, h2⟩, h3⟩
          have R := fun W (h : Below W3.heap.size W3 W) => rpath_any a0 b0 a1 none c0 e0 cap1 0 n m len1 0 u t ns0 es0 z1 [] l W (HLW.out W h).1 (HLW.out W h).2 ⟨rfl, .inl ⟨rfl, rfl⟩, by omega⟩ (by have := Hlen.out; omega) (by rw [shut_nil, List.append_nil]; exact hg) Hu.out.1
          rw [shut_nil, List.append_nil] at R
          exact ⟨both_path hg (by have := Hn40.out; omega) h2 R, h3⟩))
        have K18 : Hid (∀ W, Below W3.heap.size W3 W → Calls Try.prog 18 #[.agg #[.slice a0 n c0, .slice b0 m e0], .slice a1 len1 cap1, .int .i64 (u : Int), .int .i64 (t : Int), .slice aF 5 5] W fun e w' => (∃ aP kP cP cd xs, e = .returned (.tuple #[.slice aP kP cP, .int .i64 cd]) ∧ intE.Rd w' (.slice aP kP cP) xs ∧ xs.length = kP ∧ kP ≤ 1000 ∧ (cd == 1) = false ∧ (cd == cd) = true ∧ ∀ W, Below W3.heap.size W3 W → Calls Try.prog 20 #[.agg #[.slice a0 n c0, .slice b0 m e0], .slice a1 len1 cap1, .int .i64 (u : Int), .int .i64 (t : Int), .slice aF 5 5] W fun e w' => (∃ aR cR, e = .returned (.tuple #[.slice aR kP cR, .int .i64 cd]) ∧ intE.Rd w' (.slice aR kP cR) xs) ∧ Below W.heap.size W w') ∧ Below W.heap.size W w') := hide (fun W h => (around_ok a0 b0 a1 aF c0 e0 cap1 5 n m len1 5 u t ns0 es0 z1 fs W (HLW.out W h).1 (HLW.out W h).2 (HFW.out W h) (by have := Hlen.out; omega) Hu.out.1 Hu.out.2).mono (by
          rintro e w' ⟨⟨l, hg, h2⟩, h3⟩
          have R := fun W (h : Below W3.heap.size W3 W) => rpath_any a0 b0 a1 aF c0 e0 cap1 5 n m len1 5 u t ns0 es0 z1 fs l W (HLW.out W h).1 (HLW.out W h).2 (HFW.out W h) (by have := Hlen.out; omega) hg Hu.out.1
          exact ⟨both_path hg (by have := Hn40.out; omega) h2 R, h3⟩))
        have K19 : Hid (∀ W, Below W3.heap.size W3 W → Calls Try.prog 19 #[.agg #[.slice a0 n c0, .slice b0 m e0], .slice a1 len1 cap1, .int .i64 (u : Int)] W fun e w' => (∃ aP kP cP cd xs, e = .returned (.tuple #[.slice aP kP cP, .int .i64 cd]) ∧ intE.Rd w' (.slice aP kP cP) xs ∧ xs.length = kP ∧ kP ≤ 1000 ∧ (cd == 1) = false ∧ (cd == cd) = true ∧ ∀ W, Below W3.heap.size W3 W → Calls Try.prog 21 #[.agg #[.slice a0 n c0, .slice b0 m e0], .slice a1 len1 cap1, .int .i64 (u : Int)] W fun e w' => (∃ aR cR, e = .returned (.tuple #[.slice aR kP cR, .int .i64 cd]) ∧ intE.Rd w' (.slice aR kP cR) xs) ∧ Below W.heap.size W w') ∧ Below W.heap.size W w') := hide (fun W h => (loop_ok a0 b0 a1 c0 e0 cap1 n m len1 u ns0 es0 z1 W (HLW.out W h).1 (HLW.out W h).2 Hu.out.1).mono (by
          rintro e w' ⟨⟨l, hg, h2⟩, h3⟩
          have R := fun W (h : Below W3.heap.size W3 W) => rloop_any a0 b0 a1 c0 e0 cap1 n m len1 u ns0 es0 z1 l W (HLW.out W h).1 (HLW.out W h).2 (by have := Hlen.out; omega) hg (by have := Hn40.out; omega) Hself.out
          exact ⟨both_loop (by have := Hn40.out; omega) h2 R, h3⟩))
        go_upto_region 8 with (go_at_call 17; refine (K17.out _ HBb.out).mono ?_; rintro e W4 ⟨⟨aP, kP, cP, cd1, ps, rfl, hr, hl, hl2, g1, g1', hR⟩, hb4⟩; have HRp := hide hr; have Hlp := hide (And.intro hl hl2); have KR1 := hide hR; have HB4 := hide hb4; obtain ⟨x0, x1⟩ := HXW.out _ hb4; clear hb4 hr hl hl2 hR)
        go_upto_region 9 with (go_at_call 18; refine (K18.out _ HB4.out).mono ?_; rintro e W5 ⟨⟨aQ, kQ, cQ, cd2, qs, rfl, hr, hl, hl2, g2, g2', hR⟩, hb5⟩; have HRq := hide hr; have Hlq := hide (And.intro hl hl2); have KR2 := hide hR; have HRp := hide (HRp.out.keep hb5); have HB5 := hide (HB4.out.trans (hb5.mono HB4.out.size)); obtain ⟨x0, x1⟩ := HXW.out _ HB5.out; clear hb5 hr hl hl2 hR)
        go_upto_region 10 with (go_at_call 19; refine (K19.out _ HB5.out).mono ?_; rintro e W6 ⟨⟨aS, kS, cS, cd3, ss, rfl, hr, hl, hl2, g3, g3', hR⟩, hb6⟩; have HRs := hide hr; have Hls := hide (And.intro hl hl2); have KR3 := hide hR; have HRp := hide (HRp.out.keep hb6); have HRq := hide (HRq.out.keep hb6); have HB6 := hide (HB5.out.trans (hb6.mono HB5.out.size)); obtain ⟨x0, x1⟩ := HXW.out _ HB6.out; clear hb6 hr hl hl2 hR)
        clear K17 K18 K19
        have HBl : Hid (Below W3.heap.size W3 W6) := HB6
        have HK : Hid (intE.Rd W6 (.slice aP kP cP) ps ∧ intE.Rd W6 (.slice aQ kQ cQ) qs ∧ intE.Rd W6 (.slice aS kS cS) ss) := hide ⟨HRp.out, HRq.out, HRs.out⟩
        clear HRp HRq HRs
        go_upto_region 14 with (first
          | (go_at_call_of 13 (Value.int IntKind.i64 (u : Int)); refine (K13a.out _).mono ?_; rintro e W7 ⟨rfl, hb7⟩; have HBl := hide (HBl.out.trans (hb7.mono HBl.out.size)); have HK := hide (And.intro (HK.out.1.keep hb7) (And.intro (HK.out.2.1.keep hb7) (HK.out.2.2.keep hb7))); obtain ⟨x0, x1⟩ := HXW.out _ HBl.out; clear hb7)
          | (go_at_call_of 13 (Value.int IntKind.i64 (t : Int)); refine (K13b.out _).mono ?_; rintro e W9 ⟨rfl, hb9⟩; have HBl := hide (HBl.out.trans (hb9.mono HBl.out.size)); have HK := hide (And.intro (HK.out.1.keep hb9) (And.intro (HK.out.2.1.keep hb9) (HK.out.2.2.keep hb9))); obtain ⟨x0, x1⟩ := HXW.out _ HBl.out; clear hb9))
        go_upto_region 15 with (go_at_call 20; refine (KR1.out _ HBl.out).mono ?_; rintro e WA ⟨⟨aR1, cR1, rfl, hr⟩, hbA⟩; have HR1 := hide hr; have HBA := hide (HBl.out.trans (hbA.mono HBl.out.size)); have HKA := hide (And.intro (HK.out.1.keep hbA) (And.intro (HK.out.2.1.keep hbA) (HK.out.2.2.keep hbA))); obtain ⟨x0, x1⟩ := HXW.out _ HBA.out; clear hbA hr)
        go_upto_region 16 with (go_at_call 20; refine (KR2.out _ HBA.out).mono ?_; rintro e WB ⟨⟨aR2, cR2, rfl, hr⟩, hbB⟩; have HR2 := hide hr; have HR1 := hide (HR1.out.keep hbB); have HBB := hide (HBA.out.trans (hbB.mono HBA.out.size)); have HKB := hide (And.intro (HKA.out.1.keep hbB) (And.intro (HKA.out.2.1.keep hbB) (HKA.out.2.2.keep hbB))); obtain ⟨x0, x1⟩ := HXW.out _ HBB.out; clear hbB hr)
        go_upto_region 17 with (go_at_call 21; refine (KR3.out _ HBB.out).mono ?_; rintro e WC ⟨⟨aR3, cR3, rfl, hr⟩, hbC⟩; have HR3 := hide hr; have HR1 := hide (HR1.out.keep hbC); have HR2 := hide (HR2.out.keep hbC); have HBC := hide (HBB.out.trans (hbC.mono HBB.out.size)); have HKC := hide (And.intro (HKB.out.1.keep hbC) (And.intro (HKB.out.2.1.keep hbC) (HKB.out.2.2.keep hbC))); clear hbC hr)
        have HE : Hid (Below WC.heap.size WC WC) := hide (Below.refl _ _)
        go_wp2_with (go_at_call 14; first
          | (go_at_call_of 14 aR1; refine (K14.out _ _ _ kP _ _ ps Hlp.out.1 (HKC.out.1.keep HE.out) (HR1.out.keep HE.out) Hlp.out.2).mono ?_; rintro e WD ⟨rfl, hbD⟩; have HE := hide (HE.out.trans (hbD.mono HE.out.size)); clear hbD)
          | (go_at_call_of 14 aR2; refine (K14.out _ _ _ kQ _ _ qs Hlq.out.1 (HKC.out.2.1.keep HE.out) (HR2.out.keep HE.out) Hlq.out.2).mono ?_; rintro e WE ⟨rfl, hbE⟩; have HE := hide (HE.out.trans (hbE.mono HE.out.size)); clear hbE)
          | (go_at_call_of 14 aR3; refine (K14.out _ _ _ kS _ _ ss Hls.out.1 (HKC.out.2.2.keep HE.out) (HR3.out.keep HE.out) Hls.out.2).mono ?_; rintro e WF ⟨rfl, hbF⟩; have HE := hide (HE.out.trans (hbF.mono HE.out.size)); clear hbF))
        go_ret
        exact ⟨by first | rfl | simp, HA.out.trans ((Hb3.out.trans ((HBC.out.trans (HE.out.mono HBC.out.size)).mono Hb3.out.size)).mono HA.out.size)⟩
      · have ty : (!decide (0 ≤ x21 ∧ x21 < (n : Int))) = true := by rw [decide_eq_false hb]; rfl
        rw [tx] at K13a
        rw [ty] at K13b
        have Hx : Hid (¬ ((0 ≤ x20 ∧ x20 < (n : Int)) ∧ 0 ≤ x21 ∧ x21 < (n : Int))) := hide (fun h => hb h.2)
        obtain ⟨u, hu⟩ := Int.eq_ofNat_of_zero_le ha.1
        subst hu
        have Hu : Hid (u < n) := hide (by omega)
        clear ha hb tx ty
        have K19 : Hid (∀ W, Below W3.heap.size W3 W → Calls Try.prog 19 #[.agg #[.slice a0 n c0, .slice b0 m e0], .slice a1 len1 cap1, .int .i64 (u : Int)] W fun e w' => (∃ v cd, e = .returned (.tuple #[v, .int .i64 cd]) ∧ (cd == 1) = false) ∧ Below W.heap.size W w') := hide (fun W h => (loop_ok a0 b0 a1 c0 e0 cap1 n m len1 u ns0 es0 z1 W (HLW.out W h).1 (HLW.out W h).2 Hu.out).mono (by
          rintro e w' ⟨⟨l, _, h2⟩, h3⟩
          rcases h2 with ⟨_, rfl⟩ | ⟨v, xs, _, rfl, _⟩
          · exact ⟨⟨_, _, rfl, by decide⟩, h3⟩
          · exact ⟨⟨_, _, rfl, by decide⟩, h3⟩))
        go_upto_region 8 with (go_at_call 17; refine (path_no a0 b0 a1 c0 e0 cap1 n m len1 _ _ _ Hx.out).mono ?_; rintro e W4 ⟨rfl, hb4⟩; have HB4 := hide hb4; obtain ⟨x0, x1⟩ := HXW.out _ hb4; clear hb4)
        go_upto_region 9 with (go_at_call 18; refine (around_no a0 b0 a1 c0 e0 cap1 n m len1 _ _ _ _ Hx.out).mono ?_; rintro e W5 ⟨rfl, hb5⟩; have HB5 := hide (HB4.out.trans (hb5.mono HB4.out.size)); obtain ⟨x0, x1⟩ := HXW.out _ HB5.out; clear hb5)
        go_upto_region 10 with (go_at_call 19; refine (K19.out _ HB5.out).mono ?_; rintro e W6 ⟨⟨v6, cd, rfl, q1⟩, hb6⟩; have HB6 := hide (HB5.out.trans (hb6.mono HB5.out.size)); obtain ⟨x0, x1⟩ := HXW.out _ HB6.out; clear hb6)
        have HBl : Hid (Below W3.heap.size W3 W6) := HB6
        go_wp2_with (first
          | (go_at_call_of 13 (Value.int IntKind.i64 (u : Int)); refine (K13a.out _).mono ?_; rintro e W7 ⟨rfl, hb7⟩; have HBl := hide (HBl.out.trans (hb7.mono HBl.out.size)); obtain ⟨x0, x1⟩ := HXW.out _ HBl.out; clear hb7)
          | (go_at_call_of 13 (Value.int IntKind.i64 x21); refine (K13b.out _).mono ?_; rintro e W9 ⟨rfl, hb9⟩; have HBe := hide (HBl.out.trans (hb9.mono HBl.out.size)); clear hb9))
        go_ret
        exact ⟨by first | rfl | simp, HA.out.trans ((Hb3.out.trans (HBe.out.mono Hb3.out.size)).mono HA.out.size)⟩
    · have tx : (!decide (0 ≤ x20 ∧ x20 < (n : Int))) = true := by rw [decide_eq_false ha]; rfl
      rw [tx] at K13a
      have Hx : Hid (¬ ((0 ≤ x20 ∧ x20 < (n : Int)) ∧ 0 ≤ x21 ∧ x21 < (n : Int))) := hide (fun h => ha h.1)
      have Hxa := hide ha
      clear ha tx
      have K19 : Hid (∀ W, Below W3.heap.size W3 W → Calls Try.prog 19 #[.agg #[.slice a0 n c0, .slice b0 m e0], .slice a1 len1 cap1, .int .i64 x20] W fun e w' => (∃ v, e = .returned (.tuple #[v, .int .i64 1])) ∧ Below W.heap.size W w') := hide (fun W h => (loop_no a0 b0 a1 c0 e0 cap1 n m len1 x20 W Hxa.out).mono (by
        rintro e w' ⟨rfl, h3⟩
        exact ⟨⟨_, rfl⟩, h3⟩))
      go_upto_region 8 with (go_at_call 17; refine (path_no a0 b0 a1 c0 e0 cap1 n m len1 _ _ _ Hx.out).mono ?_; rintro e W4 ⟨rfl, hb4⟩; have HB4 := hide hb4; obtain ⟨x0, x1⟩ := HXW.out _ hb4; clear hb4)
      go_upto_region 9 with (go_at_call 18; refine (around_no a0 b0 a1 c0 e0 cap1 n m len1 _ _ _ _ Hx.out).mono ?_; rintro e W5 ⟨rfl, hb5⟩; have HB5 := hide (HB4.out.trans (hb5.mono HB4.out.size)); obtain ⟨x0, x1⟩ := HXW.out _ HB5.out; clear hb5)
      go_upto_region 10 with (go_at_call 19; refine (K19.out _ HB5.out).mono ?_; rintro e W6 ⟨⟨v6, rfl⟩, hb6⟩; have HB6 := hide (HB5.out.trans (hb6.mono HB5.out.size)); obtain ⟨x0, x1⟩ := HXW.out _ HB6.out; clear hb6)
      have HBl : Hid (Below W3.heap.size W3 W6) := HB6
      go_wp2_with (go_at_call_of 13 (Value.int IntKind.i64 x20); refine (K13a.out _).mono ?_; rintro e W7 ⟨rfl, hb7⟩; have HBl := hide (HBl.out.trans (hb7.mono HBl.out.size)); obtain ⟨x0, x1⟩ := HXW.out _ HBl.out; clear hb7)
      go_ret
      exact ⟨by first | rfl | simp, HA.out.trans ((Hb3.out.trans (HBl.out.mono Hb3.out.size)).mono HA.out.size)⟩

set_option maxRecDepth 100000 in
theorem lifted (os : Os) (started : os.Started) (H : Type) (enc : TypeId × Value → H) :
    ReturnsInHanded {} Try.checked os 4 .any (Rows.routePathsSpec.pre6 enc Try.prog Try.f4 Rows.routePathsRow.domain false) (Rows.routePathsSpec.post enc Try.prog Try.f4 false true false false) := by
  refine returnsInHanded_of_change_sized (C := Try.checked) own started (by kernel_rfl) Try.func4
    (ChangeSpec.witness6 (enc := enc) (C := Try.checked) false ⟨#[], #[.agg #[.slice none 0 0, .slice none 0 0], .slice none 0 0, .agg #[.int .i64 0, .int .i64 0]], []⟩ 8 (by kernel_rfl) (by kernel_rfl) (by kernel_rfl) (by kernel_rfl)) ?_
  intro W base args ds gs before hval0 hW hcnd hsz0 _
  have hval : ∀ (j : Nat) t v, Try.f4.params[j]? = some t → args[j]? = some v → Value.okWide Try.prog W .any base t v := hval0
  have hsz : (DataW.weightsEach Try.prog (Try.f4.params.toList ++ Rows.routePathsSpec.plain.varTypes Try.prog) (ds ++ gs)).all (· ≤ reachBytes) = true := hsz0
  have hW' := hW
  obtain ⟨p, q, hA0, hV, rfl, hfz, hnd⟩ := hW
  have hA : DataW.TrodAll enc Try.prog W 0 (fun _ => true) true Try.f4.params.toList args.toList ds p := hA0
  rw [Try.params4] at hA hval hsz
  obtain ⟨v0, vs0, d0, ds0, p0, q0, hargs, rfl, rfl, h0, r0⟩ := trodAll_cons hA
  obtain ⟨v1, vs1, d1, ds1, p1, q1, rfl, rfl, rfl, h1, r1⟩ := trodAll_cons r0
  obtain ⟨v2, vs2, d2, ds2, p2, q2, rfl, rfl, rfl, h2, r2⟩ := trodAll_cons r1
  obtain ⟨rfl, rfl, rfl⟩ := trodAll_nil r2
  obtain rfl : args = #[v0, v1, v2] := by cases args; simp_all
  obtain ⟨rfl, rfl⟩ := trodVars_none hV
  have k0 := h0
  have lt0 : ∀ x ∈ p0, x.block < W.heap.size := by obtain ⟨m, hm⟩ := k0; exact DataW.trod_lt m _ _ _ hm
  obtain ⟨cs0, rfl, _⟩ := okWide_struct Try.underlying25 (hval 0 25 v0 rfl rfl)
  obtain ⟨a0, c0, b0, e0, ns0, es0, hcs0, rn0, re0, rs0⟩ : ∃ (a : Option Addr) (c : Nat) (a' : Option Addr) (c' : Nat) (ns : List Nd) (es : List Ed), cs0 = #[.slice a ns.length c, .slice a' es.length c'] ∧ ndE.Rd W (.slice a ns.length c) ns ∧ edE.Rd W (.slice a' es.length c') es ∧ ∀ n ∈ ns, n.name.size ≤ maxLen := by
    obtain ⟨fuel, hf⟩ := h0
    obtain ⟨a, c, a', c', ns, es, he, h1, h2, h3⟩ := layout_of_trod hf
    exact ⟨a, c, a', c', ns, es, by apply Array.toList_inj.1; exact he, h1, h2, h3⟩
  subst hcs0
  obtain ⟨a1, len1, cap1, rfl⟩ := okWide_slice Try.underlying26 (hval 1 26 v1 rfl rfl)
  have k1 := h1
  have lt1 : ∀ x ∈ p1, x.block < W.heap.size := by obtain ⟨m, hm⟩ := k1; exact DataW.trod_lt m _ _ _ hm
  obtain ⟨z1, w1, s1, _⟩ : ∃ zs : List Int, zs.length = len1 ∧ intE.Rd W (.slice a1 len1 cap1) zs ∧ ∀ y ∈ zs, (Lit.int .i64 y).wf = true := by
    obtain ⟨fuel, hf⟩ := h1
    exact rd_of_trod intE (fun y => (Lit.int .i64 y).wf = true) (by kernel_rfl) (fun n cs y hy => int_of_trod hy) hf rfl
  have k2 := h2
  have lt2 : ∀ x ∈ p2, x.block < W.heap.size := by obtain ⟨m, hm⟩ := k2; exact DataW.trod_lt m _ _ _ hm
  obtain ⟨cs2, rfl, _⟩ : ∃ cs, v2 = .agg cs ∧ True := by
    have := hval 2 38 v2 rfl rfl
    unfold Value.okWide at this
    rw [Try.underlying38] at this
    obtain ⟨cs, h, _⟩ := this
    exact ⟨cs, h, trivial⟩
  obtain ⟨x20, x21, e2⟩ : ∃ x0 x1 : Int, cs2 = #[.int .i64 x0, .int .i64 x1] := by
    obtain ⟨fuel, hf⟩ := h2
    obtain ⟨y, he, _⟩ := ed_of_trod hf
    exact ⟨y.1, y.2, by apply Array.toList_inj.1; exact he⟩
  subst e2
  clear hA0 hval0
  refine (walk a0 b0 c0 e0 ns0 es0 a1 len1 cap1 z1 x20 x21 W rn0 re0 rs0 w1 s1).mono fun e W' ⟨he, bel⟩ => ?_
  subst he
  exact ⟨_, rfl, _, _, _, [], _, [], hW', trodAll_mk1 (shut_bool Try.underlying4 _), (trodAll_cons_mk (Below.trod laidOut (by kernel_rfl) (of_decide_eq_true (by kernel_rfl)) k0 bel lt0) (trodAll_cons_mk (Below.trod laidOut (by kernel_rfl) (of_decide_eq_true (by kernel_rfl)) k1 bel lt1) (trodAll_cons_mk (Below.trod laidOut (by kernel_rfl) (of_decide_eq_true (by kernel_rfl)) k2 bel lt2) trodAll_mk0))), rfl, bel.frame _, fun h => by cases h⟩

theorem over : Rows.routePathsRow.holds Try.pinned (OpenSpec.ofChange Rows.routePathsSpec) :=
  OpenClaim.holds_of_wide 4 Try.f4 rfl rfl rfl rfl rfl rfl rfl ⟨rfl, rfl, rfl, rfl, rfl⟩ rfl rfl rfl rfl rfl (by kernel_rfl) Try.func4 (by kernel_rfl)
    (of_decide_eq_true (by kernel_rfl)) (by unfold Func.isWrapper; first | (rw [if_pos (by decide +kernel)]; kernel_rfl) | (rw [if_neg (by decide +kernel)]; exact ⟨rfl, rfl⟩))
    (fun os started H enc _ => lifted os started H enc)

theorem proved : Rows.RoutePathsSaid := over
end Go.Proofs.Ytmkjpdmhplldjaa.routePaths
