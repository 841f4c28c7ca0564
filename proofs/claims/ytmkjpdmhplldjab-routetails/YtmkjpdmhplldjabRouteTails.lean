/- RouteTails: for every layout, every mask and every two ends the statement's function returns true: what is left of a path behind its first device is the path from there, and it leads to the end. It writes nothing that was there. No condition. -/
import Derived.Test.YtmkjpdmhplldjabAwk
import Derived.Test.YtmkjpdmhplldjabWlk
namespace Go.Proofs.Ytmkjpdmhplldjab.routeTails
open Go.ChangeShapes Go.WideShapes Go.ChangeAt Go.RowKit
set_option linter.unusedVariables false

theorem own : ownKnob Try.prog.godebug = none := by kernel_rfl
theorem laidOut : laidOutB Try.prog = true := by kernel_rfl

theorem own_cap {W : World} {B k c : Nat} {a : Option Addr} {xs : List Int} (h : intE.Own W B (.slice a k c) xs) : k ≤ c := by
  rcases h.2 with ⟨hx, _⟩ | ⟨g, cap, cur, hx, _, _, h3, _⟩
  · cases hx; omega
  · simp only [Value.slice.injEq] at hx
    omega
/-- a list cut behind its first -/
theorem rd_cut {W : World} {b off r cQ : Nat} {D : Int} {P : List Int} (h : intE.Rd W (.slice (some ⟨b, off, none⟩) (r + 1) cQ) (D :: P)) (hl : P.length = r) (hc : r + 1 ≤ cQ) : intE.Rd W (.slice (some ⟨b, off, none⟩) 1 cQ) [D] ∧ intE.Rd W (.slice (if cQ = 1 then some ⟨b, off, none⟩ else some ⟨b, off + 1, none⟩) r (cQ - 1)) P := by
  subst hl
  rcases h with ⟨h, _⟩ | ⟨x, cap, h1, h2⟩
  · cases h
  · simp only [Value.slice.injEq, Option.some.injEq] at h1
    obtain ⟨rfl, _, rfl⟩ := h1
    have e1 : ∀ xs : List Int, intE.fl xs = xs.map (Value.int .i64) := fun xs => fl_map intE (Value.int .i64) (fun _ => rfl) xs
    refine ⟨.inr ⟨_, _, rfl, fun k hk => ?_⟩, ?_⟩
    · have hk0 : k = 0 := by simp [intE] at hk; omega
      subst hk0
      have := h2 0 (by show 0 < (D :: P).length * 1; simp)
      rw [this, e1, e1]; rfl
    · by_cases hc1 : cQ = 1
      · rw [if_pos hc1]
        have hP0 : P = [] := List.eq_nil_of_length_eq_zero (by omega)
        subst hP0
        exact .inr ⟨_, _, rfl, fun k hk => by simp at hk⟩
      rw [if_neg hc1]
      refine .inr ⟨⟨b, off + 1, none⟩, _, rfl, fun k hk => ?_⟩
      have hk' : k < P.length := by simpa [intE] using hk
      have := h2 (k + 1) (by show k + 1 < (D :: P).length * 1; simp; omega)
      rw [addr_plain] at this ⊢
      rw [show off + 1 + k = off + (k + 1) by omega, this, e1, e1]
      simp
/-- one device leads to its edge's end -/
theorem wlk_one {es : List Ed} {i : Nat} {u v : Int} (h : es[i]? = some (u, v)) : wlk es u [((i + 1 : Nat) : Int)] = some v := by
  have hl : i < es.length := by
    rcases Nat.lt_or_ge i es.length with h' | h'
    · exact h'
    · rw [List.getElem?_eq_none h'] at h; cases h
  unfold wlk
  rw [if_pos (by omega), show ((((i + 1 : Nat) : Int) - 1).toNat) = i by omega, h]
  simp [wlk]

set_option maxRecDepth 100000 in
set_option maxHeartbeats 8000000 in
theorem walk (a0 b0 : Option Addr) (c0 e0 : Nat) (ns0 : List Nd) (es0 : List Ed) (a1 : Option Addr) (len1 cap1 : Nat) (z1 : List Int) (x20 x21 : Int) (w : World) (rn0 : ndE.Rd w (.slice a0 ns0.length c0) ns0) (re0 : edE.Rd w (.slice b0 es0.length e0) es0) (rs0 : ∀ p ∈ ns0, p.name.size ≤ maxLen) (w1 : z1.length = len1) (s1 : intE.Rd w (.slice a1 len1 cap1) z1) :
    Calls Try.prog 3 #[.agg #[.slice a0 ns0.length c0, .slice b0 es0.length e0], .slice a1 len1 cap1, .agg #[.int .i64 x20, .int .i64 x21]] w fun e w' => e = .returned (.bool true) ∧ Below w.heap.size w w' := by
  obtain ⟨n, hn⟩ : ∃ n, ns0.length = n := ⟨_, rfl⟩
  obtain ⟨m, hm⟩ : ∃ m, es0.length = m := ⟨_, rfl⟩
  rw [hn] at rn0 ⊢
  rw [hm] at re0 ⊢
  obtain ⟨W0, hW0⟩ : ∃ W0, (w.alloc (.cells #[.slice a0 n c0, .slice b0 m e0] 25)).alloc (.cells #[.int .i64 x20, .int .i64 x21] 27) = W0 := ⟨_, rfl⟩
  have bA : Below w.heap.size w W0 := by rw [← hW0]; exact ((Below.refl _ _).alloc (Nat.le_refl _) _).alloc (by simp) _
  have hbox : W0.heap[w.heap.size]? = some (.cells #[.slice a0 n c0, .slice b0 m e0] 25) := by rw [← hW0, Below.heap_alloc _ _ _ (by simp)]; exact heap_new _ _
  have hbox2 : W0.heap[w.heap.size + 1]? = some (.cells #[.int .i64 x20, .int .i64 x21] 27) := by
    rw [← hW0]
    have := heap_new (w.alloc (.cells #[.slice a0 n c0, .slice b0 m e0] 25)) (.cells #[.int .i64 x20, .int .i64 x21] 27)
    rwa [show (w.alloc (.cells #[.slice a0 n c0, .slice b0 m e0] 25)).heap.size = w.heap.size + 1 by simp] at this
  have HBOX2 := hide hbox2
  clear hbox2
  have HBOX := hide hbox
  have HA := hide bA
  have HW0 := hide hW0
  have K9 := hide awake_any
  have HR : Hid (∀ W, Below W0.heap.size W0 W → ndE.Rd W (.slice a0 n c0) ns0 ∧ edE.Rd W (.slice b0 m e0) es0 ∧ intE.Rd W (.slice a1 len1 cap1) z1) := hide (fun W h => have b := bA.trans (h.mono bA.size); ⟨rn0.keep b, re0.keep b, s1.keep b⟩)
  have K10 : Hid (∀ W, Below W0.heap.size W0 W → Calls Try.prog 5 #[.agg #[.slice a0 n c0, .slice b0 m e0], .slice a1 len1 cap1] W fun e w' => e = .returned (.bool (decide (len1 ≤ 200) && good ns0 es0)) ∧ Below W.heap.size W w') := hide (fun W h => fits_any a0 b0 a1 c0 e0 cap1 n m len1 ns0 es0 W hn hm (HR.out W h).1 (HR.out W h).2.1 rs0)
  have HG : Hid ((decide (len1 ≤ 200) && good ns0 es0) = true → (∀ W, Below W0.heap.size W0 W → Ly W a0 b0 c0 e0 n m ns0 es0 ∧ Mk W a1 cap1 len1 z1) ∧ len1 ≤ 200 ∧ n ≤ 40 ∧ 1 ≤ n ∧ m ≤ 120 ∧ ∀ e ∈ es0, e.1 ≠ e.2) := hide (fun h => by
    simp only [Bool.and_eq_true, decide_eq_true_eq] at h
    have h1 := h.1
    have h2 := h.2
    have hg := good_ly h2 hn hm (HR.out _ (Below.refl _ _)).1 (HR.out _ (Below.refl _ _)).2.1
    refine ⟨fun W hW => ⟨(good_ly h2 hn hm (HR.out W hW).1 (HR.out W hW).2.1).1, w1, (HR.out W hW).2.2, by omega⟩, h1, hg.2.2.1, hg.2.1, hg.2.2.2, ?_⟩
    unfold good goodE at h2
    simp only [Bool.and_eq_true, decide_eq_true_eq] at h2
    intro e he
    have h3 := h2.2.2.1 e he
    unfold edB at h3
    simp only [Bool.and_eq_true, decide_eq_true_eq] at h3
    exact h3.1.2)
  have Hw1 := hide w1
  clear rn0 re0 rs0 w1 s1 hn hm bA hbox hW0
  generalize (decide (len1 ≤ 200) && good ns0 es0) = gd at *
  go_enter Try.func3, Try.ntmps3
  go_upto_region 1 with fail
  rw [HW0.out]
  clear HW0
  go_upto_region 3 with (go_at_call 4; refine (K9.out _).mono ?_; rintro e W1 ⟨rfl, hb1⟩; have Hb1 := hide hb1; obtain ⟨x0, x1⟩ := layg HBOX.out hb1; clear hb1)
  cases gd with
  | false =>
    go_wp2_with (go_at_call 5; refine (K10.out _ Hb1.out).mono ?_; rintro e W2 ⟨rfl, hb2⟩; have Hb2 := hide (Hb1.out.trans (hb2.mono Hb1.out.size)); clear hb2)
    go_ret
    exact ⟨rfl, HA.out.trans (Hb2.out.mono HA.out.size)⟩
  | true =>
    obtain ⟨hLM, hlen, hn40, hn1, hm12, hself⟩ := HG.out rfl
    have HLM := hide hLM
    have Hlen := hide hlen
    have Hn40 := hide hn40
    have Hm12 := hide hm12
    have Hself := hide hself
    have l1 : (len1 : Int) ≤ 200 := by omega
    have l2 : (n : Int) ≤ 40 := by omega
    have l3 : (1 : Int) ≤ (n : Int) := by omega
    have l4 : (m : Int) ≤ 120 := by omega
    clear hLM hlen hn40 hn1 hm12 hself HG HR
    go_upto_region 5 with (go_at_call 5; refine (K10.out _ Hb1.out).mono ?_; rintro e W2 ⟨rfl, hb2⟩; have Hb2 := hide (Hb1.out.trans (hb2.mono Hb1.out.size)); obtain ⟨x0, x1⟩ := layg HBOX.out Hb2.out; clear hb2)
    clear K9 K10 Hb1
    have HV : Hid (∀ W, Below W0.heap.size W0 W → W.cell? ⟨w.heap.size + 1, 0, none⟩ = some (.int .i64 x20) ∧ W.cell? ⟨w.heap.size + 1, 1, none⟩ = some (.int .i64 x21)) := hide (fun W h => by
      rw [h.cell (p := ⟨w.heap.size + 1, 0, none⟩) (heap_lt HBOX2.out), h.cell (p := ⟨w.heap.size + 1, 1, none⟩) (heap_lt HBOX2.out)]
      exact ⟨(cells_at HBOX2.out 0).1, (cells_at HBOX2.out 1).1⟩)
    obtain ⟨v0, v1⟩ := HV.out _ Hb2.out
    by_cases hx : (0 ≤ x20 ∧ x20 < (n : Int)) ∧ 0 ≤ x21 ∧ x21 < (n : Int)
    case neg =>
      have Hx := hide hx
      clear hx
      go_wp2_with (go_at_call 6; refine (path_no a0 b0 a1 c0 e0 cap1 n m len1 _ _ _ Hx.out).mono ?_; rintro e W4 ⟨rfl, hb4⟩; have Hb4 := hide (Hb2.out.trans (hb4.mono Hb2.out.size)); clear hb4)
      go_ret
      exact ⟨by first | rfl | simp, HA.out.trans (Hb4.out.mono HA.out.size)⟩
    case pos =>
    obtain ⟨u, hu⟩ := Int.eq_ofNat_of_zero_le hx.1.1
    obtain ⟨t, ht⟩ := Int.eq_ofNat_of_zero_le hx.2.1
    subst hu
    subst ht
    have Hu : Hid (u < n ∧ t < n) := hide ⟨by omega, by omega⟩
    clear hx
    have K6 : Hid (∀ (W : World) (v : Nat), Below W0.heap.size W0 W → v < n → Calls Try.prog 6 #[.agg #[.slice a0 n c0, .slice b0 m e0], .slice a1 len1 cap1, .int .i64 (v : Int), .int .i64 (t : Int)] W fun e w' => (∃ l, Gr ns0 es0 z1 l t n ∧ ((va l v = -1 ∧ e = .returned (.tuple #[.slice none 0 0, .int .i64 80])) ∨ ∃ (k : Nat) (aP : Option Addr) (cP : Nat), va l v = (k : Int) ∧ e = .returned (.tuple #[.slice aP k cP, .int .i64 0]) ∧ intE.Rd w' (.slice aP k cP) (pth ns0 es0 z1 l t k v) ∧ k ≤ cP)) ∧ Below W.heap.size W w') := hide (fun W v h hv => (path_ok a0 b0 a1 c0 e0 cap1 n m len1 v t ns0 es0 z1 W (HLM.out W h).1 (HLM.out W h).2 (by have := Hlen.out; omega) hv Hu.out.2).mono (by
      rintro e w' ⟨⟨l, hg, h2⟩, hb⟩
      rcases h2 with h3 | ⟨k, v', h3, rfl, h4⟩
      · exact ⟨⟨l, hg, .inl h3⟩, hb⟩
      · obtain ⟨aP, cP, rfl⟩ := h4.rd.form
        have hl : (pth ns0 es0 z1 l t k v).length = k := pth_len k v
        rw [hl] at h4 ⊢
        exact ⟨⟨l, hg, .inr ⟨k, aP, cP, h3, rfl, h4.rd, own_cap h4⟩⟩, hb⟩))
    go_upto_region 6 with (go_at_call 6; refine (K6.out _ u Hb2.out Hu.out.1).mono ?_; rintro e W4 ⟨⟨l, hg4, hcs⟩, hb4⟩; have Hb4 := hide (Hb2.out.trans (hb4.mono Hb2.out.size)); have HG4 := hide hg4; obtain ⟨aP, kP, cP, cd, rfl, hcs2⟩ : ∃ aP kP cP cd, e = .returned (.tuple #[.slice aP kP cP, .int .i64 cd]) ∧ ((cd = 80 ∧ kP = 0) ∨ (cd = 0 ∧ va l u = (kP : Int) ∧ intE.Rd W4 (.slice aP kP cP) (pth ns0 es0 z1 l t kP u) ∧ kP ≤ cP)) := (by
      rcases hcs with ⟨h1, h2⟩ | ⟨k, aP, cP, h1, h2, h3, h4⟩
      · exact ⟨_, _, _, _, h2, .inl ⟨rfl, rfl⟩⟩
      · exact ⟨_, _, _, _, h2, .inr ⟨rfl, h1, h3, h4⟩⟩); have Hcs := hide hcs2; clear hb4 hg4 hcs hcs2)
    rcases Hcs.out with ⟨rfl, rfl⟩ | ⟨rfl, hv1, hv2, hv3⟩
    · go_wp2_with fail
      go_ret
      exact ⟨by first | rfl | simp, HA.out.trans (Hb4.out.mono HA.out.size)⟩
    have Hv1 := hide hv1
    have Hv2 := hide hv2
    have Hv3 := hide hv3
    clear Hcs hv1 hv2 hv3
    obtain ⟨v0, v1⟩ := HV.out _ Hb4.out
    have K6' : Hid (∀ (W : World) (v r : Nat), Below W0.heap.size W0 W → va l v = (r : Int) → Calls Try.prog 6 #[.agg #[.slice a0 n c0, .slice b0 m e0], .slice a1 len1 cap1, .int .i64 (v : Int), .int .i64 (t : Int)] W fun e w' => (∃ aP cP, e = .returned (.tuple #[.slice aP r cP, .int .i64 0]) ∧ intE.Rd w' (.slice aP r cP) (pth ns0 es0 z1 l t r v) ∧ r ≤ cP) ∧ Below W.heap.size W w') := hide (fun W v r h hr => (K6.out W v h (HG4.out.out (by omega))).mono (by
      rintro e w' ⟨⟨l2, hg, h2⟩, hb⟩
      obtain rfl := hg.far.uniq HG4.out.far
      rcases h2 with ⟨h3, _⟩ | ⟨k, aP, cP, h3, rfl, h4, h5⟩
      · omega
      · obtain rfl : k = r := by omega
        exact ⟨⟨aP, cP, rfl, h4, h5⟩, hb⟩))
    have K7 : Hid (∀ (W : World) (v y : Nat) (ps : List Int) aX kX cX, Below W0.heap.size W0 W → v < n → ps.length = kX → kX ≤ 1000 → intE.Rd W (.slice aX kX cX) ps → wlk es0 (v : Int) ps = some (y : Int) → Calls Try.prog 7 #[.agg #[.slice a0 n c0, .slice b0 m e0], .int .i64 (v : Int), .slice aX kX cX] W fun e w' => e = .returned (.tuple #[.int .i64 (y : Int), .int .i64 0]) ∧ Below W.heap.size W w') := hide (fun W v y ps aX kX cX h hv hl hk hr hw => by
      have h0 := walk_ok a0 b0 aX c0 e0 n m kX cX es0 (v : Int) ps W (HLM.out W h).1.hm (HLM.out W h).1.hu (by have := Hm12.out; omega) hl hr (by omega) ⟨by omega, by omega⟩
      rw [hw] at h0
      exact h0)
    have K8 : Hid (∀ (W : World) a b k c d xs, xs.length = k → intE.Rd W (.slice a k c) xs → intE.Rd W (.slice b k d) xs → k ≤ 1000 → Calls Try.prog 8 #[.slice a k c, .slice b k d] W fun e w' => e = .returned (.bool true) ∧ Below W.heap.size W w') := hide (fun W a b k c d xs h1 h3 h4 h5 => (ints_eq h3 h4 h1 h1 (by omega)).mono (by
      rintro e w' ⟨h6, h7⟩
      rw [decide_eq_true rfl] at h6
      exact ⟨h6, h7⟩))
    obtain ⟨SS, hSS⟩ : ∃ SS : World → Prop, SS = fun W' => Below W0.heap.size W0 W' := ⟨_, rfl⟩
    have s9 : Hid (∀ W', SS W' → Below W0.heap.size W0 W') := hide (fun W' h => by rw [hSS] at h; exact h)
    have s8 : Hid (∀ W', Below W0.heap.size W0 W' → SS W') := hide (fun W' h => by rw [hSS]; exact h)
    have sb : Hid (∀ W', SS W' → W'.cell? ⟨w.heap.size, 0, none⟩ = some (.slice a0 n c0) ∧ W'.cell? ⟨w.heap.size, 1, none⟩ = some (.slice b0 m e0)) := hide (fun W' h => layg HBOX.out (s9.out W' h))
    clear hSS
    go_wp2_with fail
    clear v0 v1
    go_loopw [7, 9] (fun v7 v9 wr => ∃ (r v : Nat) (aQ : Option Addr) (cQ : Nat), v7 = .slice aQ r cQ ∧ v9 = .int .i64 (v : Int) ∧ Hid (va l v = (r : Int)) ∧ Hid (intE.Rd wr (.slice aQ r cQ) (pth ns0 es0 z1 l t r v)) ∧ Hid (r ≤ cQ) ∧ Hid (Below W0.heap.size W0 wr)) (fun v7 _ _ => lenV v7)
    case atStart => exact ⟨kP, u, aP, cP, rfl, rfl, Hv1, Hv2, Hv3, Hb4⟩
    case round =>
      obtain ⟨r, v, aQ, cQ, rfl, rfl, HR, HP, HC, HB⟩ := hrel
      obtain ⟨v0, v1⟩ := HV.out _ HB.out
      rcases r with _ | r
      · have hvt : v = t := HG4.out.only (by simpa using HR.out)
        subst hvt
        go_wp2_with fail
        go_ret
        exact ⟨by first | rfl | simp, HA.out.trans (HB.out.mono HA.out.size)⟩
      · obtain ⟨i, y, g1, g2, g3, g4, g5, g6, g7, g8⟩ := HG4.out.on HR.out
        have hvn : v < n := HG4.out.out (by rw [HR.out]; omega)
        have hrn : r + 1 < n := by have := HG4.out.high v; rw [HR.out] at this; omega
        obtain ⟨P, hP⟩ : ∃ P, pth ns0 es0 z1 l t r y = P := ⟨_, rfl⟩
        have hP1 : pth ns0 es0 z1 l t (r + 1) v = ((i + 1 : Nat) : Int) :: P := by
          rw [show pth ns0 es0 z1 l t (r + 1) v = stp ns0 es0 z1 l t (v : Int) (r : Int) :: pth ns0 es0 z1 l t r (endN es0 (stp ns0 es0 z1 l t (v : Int) (r : Int))) from rfl, g8, g1, hP]
        have Hwk : Hid (wlk es0 (v : Int) (((i + 1 : Nat) : Int) :: P) = some (t : Int)) := hide (by rw [← hP1]; exact HG4.out.walk (r + 1) v HR.out)
        have Hw1' : Hid (wlk es0 (v : Int) [((i + 1 : Nat) : Int)] = some (y : Int)) := hide (wlk_one g3)
        have HPl : Hid (P.length = r) := hide (by rw [← hP]; exact pth_len r y)
        have Hy6 := hide g6
        have HVn := hide hvn
        have Hrn := hide hrn
        rw [hP1] at HP
        -- the slice has an address
        obtain ⟨b, off, haq, _⟩ := int_at HP.out 0 _ rfl
        subst haq
        have HT : Hid (∀ W, intE.Rd W (.slice (some ⟨b, off, none⟩) (r + 1) cQ) (((i + 1 : Nat) : Int) :: P) → intE.Rd W (.slice (some ⟨b, off, none⟩) 1 cQ) [((i + 1 : Nat) : Int)] ∧ intE.Rd W (.slice (if cQ = 1 then some ⟨b, off, none⟩ else some ⟨b, off + 1, none⟩) r (cQ - 1)) P) := hide (fun W h => rd_cut h HPl.out HC.out)
        have K6'' : Hid (∀ (W : World), Below W0.heap.size W0 W → Calls Try.prog 6 #[.agg #[.slice a0 n c0, .slice b0 m e0], .slice a1 len1 cap1, .int .i64 (y : Int), .int .i64 (t : Int)] W fun e w' => (∃ aP cP, e = .returned (.tuple #[.slice aP r cP, .int .i64 0]) ∧ intE.Rd w' (.slice aP r cP) P ∧ r ≤ cP) ∧ Below W.heap.size W w') := hide (fun W h => by rw [← hP]; exact K6'.out W y r h Hy6.out)
        have HPe := hide hP
        generalize ((i + 1 : Nat) : Int) = D at *
        have c1 : (1 : Int) ≤ (cQ : Int) := by have := HC.out; omega
        have c2 : (r : Int) + 1 ≤ (cQ : Int) := by have := HC.out; omega
        have c3 : ¬ ((cQ : Int) < 1) := by omega
        have l5 : (r : Int) ≤ 40 := by have := Hn40.out; omega
        have l6 : (0 : Int) ≤ (r : Int) := by omega
        clear g1 g2 g3 g4 g5 g6 g7 g8 hvn hrn hP hP1
        go_upto_region 10 with fail
        refine wp_region_held_drew (S := SS) (by kernel_rfl) (s8.out _ (below_heap HB.out rfl rfl rfl rfl)) (fun hS0 => ?_)
        refine wpAnyH_take (i := 0) (v := .agg #[.slice a0 n c0, .slice b0 m e0]) rfl (by kernel_rfl) (by kernel_rfl) (by kernel_rfl) (fun _ _ _ h => h) (Or.inl ⟨by rfl, fun W' hW => by obtain ⟨z0, z1⟩ := sb.out W' hW; go_simp⟩) hS0 ?_
        refine wpAnyH_take (i := 1) (v := .int .i64 (v : Int)) rfl (by kernel_rfl) (by kernel_rfl) (by kernel_rfl) (fun _ _ _ h => h) (Or.inl ⟨by rfl, fun W' hW => by go_simp⟩) hS0 ?_
        refine wpAnyH_take (i := 2) (v := .slice (some ⟨b, off, none⟩) (r + 1) cQ) rfl (by kernel_rfl) (by kernel_rfl) (by kernel_rfl) (fun _ _ _ h => h) (Or.inl ⟨by rfl, fun W' hW => by go_simp⟩) hS0 ?_
        refine wpAnyH_take (i := 3) (v := .slice (some ⟨b, off, none⟩) 1 cQ) rfl (by kernel_rfl) (by kernel_rfl) (by kernel_rfl) (fun _ _ _ h => h) (Or.inl ⟨by rfl, fun W' hW => by go_simp⟩) hS0 ?_
        refine wpAnyH_ready (rs := [4]) (by kernel_rfl) (by simp) ?_
        refine AllReadyH.cons rfl (fun K hK => ?_) AllReadyH.nil
        go_simp
        refine (K7.out _ v y _ _ 1 _ (s9.out _ hS0) HVn.out rfl (by omega) (HT.out _ (HP.out.keep (Below.refl _ _).drew)).1 Hw1'.out).mono ?_
        rintro e W6 ⟨rfl, hb6⟩
        refine hK.out _ _ (s8.out _ ((s9.out _ hS0).trans (hb6.mono (s9.out _ hS0).size))) (fun hS1 => ?_)
        clear hK K
        refine wpAnyH_ready (rs := [5]) (by kernel_rfl) (by simp) ?_
        refine AllReadyH.cons rfl (fun K hK => ?_) AllReadyH.nil
        go_simp
        refine hK.out _ _ hS1 (fun hS2 => ?_)
        clear hK K
        refine wpAnyH_take (i := 6) (v := .int .i64 (y : Int)) rfl (by kernel_rfl) (by kernel_rfl) (by kernel_rfl) (fun _ _ _ h => h) (Or.inl ⟨by rfl, fun W' hW => by go_simp⟩) hS2 ?_
        refine wpAnyH_take (i := 7) (v := .int .i64 0) rfl (by kernel_rfl) (by kernel_rfl) (by kernel_rfl) (fun _ _ _ h => h) (Or.inl ⟨by rfl, fun W' hW => by go_simp⟩) hS2 ?_
        refine wpAnyH_ready (rs := [8]) (by kernel_rfl) (by simp) ?_
        refine AllReadyH.cons rfl (fun K hK => ?_) AllReadyH.nil
        go_simp
        refine hK.out _ _ hS2 (fun hS3 => ?_)
        clear hK K
        refine wpAnyH_ready (rs := [9]) (by kernel_rfl) (by simp) ?_
        refine AllReadyH.cons rfl (fun K hK => ?_) AllReadyH.nil
        go_simp
        refine hK.out _ _ hS3 (fun _ => ?_)
        clear hK K
        refine wpAnyH_done (by kernel_rfl) ?_ _
        have HB6 : Hid (Below W0.heap.size W0 W6) := hide (s9.out _ hS1)
        have HP6 : Hid (intE.Rd W6 (.slice (some ⟨b, off, none⟩) (r + 1) cQ) (D :: P)) := hide ((HP.out.keep (Below.refl _ _).drew).keep hb6)
        obtain ⟨x0, x1⟩ := sb.out _ hS1
        obtain ⟨v0, v1⟩ := HV.out _ HB6.out
        clear hb6 hS0 hS1 hS2 hS3
        go_upto_region 12 with (go_at_call 6; refine (K6''.out _ HB6.out).mono ?_; rintro e W7 ⟨⟨aR, cR, rfl, hr7, hc7⟩, hb7⟩; have HR7 := hide hr7; have HC7 := hide hc7; clear hc7; have HB7 := hide (HB6.out.trans (hb7.mono HB6.out.size)); have HP7 := hide (HP6.out.keep hb7); obtain ⟨x0, x1⟩ := layg HBOX.out HB7.out; obtain ⟨v0, v1⟩ := HV.out _ HB7.out; clear hb7 hr7)
        go_upto_region 13 with (go_at_call 7; refine (K7.out _ v t _ _ (r + 1) _ HB7.out HVn.out (by rw [List.length_cons, HPl.out]) (by have h1 := Hrn.out; have h2 := Hn40.out; omega) HP7.out Hwk.out).mono ?_; rintro e W8 ⟨rfl, hb8⟩; have HB8 := hide (HB7.out.trans (hb8.mono HB7.out.size)); have HP8 := hide (HP7.out.keep hb8); have HR8 := hide (HR7.out.keep hb8); obtain ⟨x0, x1⟩ := layg HBOX.out HB8.out; obtain ⟨v0, v1⟩ := HV.out _ HB8.out; clear hb8)
        have qt : ((t : Int) != (t : Int)) = false := bne_self_eq_false _
        have HX : Hid (∀ W, intE.Rd W (.slice aR r cR) P → intE.Rd W (.slice aR r cR) (pth ns0 es0 z1 l t r y)) := hide (fun W h => by rw [HPe.out]; exact h)
        go_wp2_with (go_at_call 8; refine (K8.out _ _ _ r _ _ P HPl.out HR8.out (HT.out _ HP8.out).2 (by have h1 := Hrn.out; have h2 := Hn40.out; omega)).mono ?_; rintro e W9 ⟨rfl, hb9⟩; have HB9 := hide (HB8.out.trans (hb9.mono HB8.out.size)); have HR9 := hide (HX.out _ (HR8.out.keep hb9)); clear hb9)
        go_roundw
        case rel => exact ⟨r, y, aR, cR, rfl, rfl, Hy6, HR9, HC7, HB9⟩
        case measure => simp [lenV]

set_option maxRecDepth 100000 in
theorem lifted (os : Os) (started : os.Started) (H : Type) (enc : TypeId × Value → H) :
    ReturnsInHanded {} Try.checked os 3 .any (Rows.routeTailsSpec.pre6 enc Try.prog Try.f3 Rows.routeTailsRow.domain false) (Rows.routeTailsSpec.post enc Try.prog Try.f3 false true false false) := by
  refine returnsInHanded_of_change_sized (C := Try.checked) own started (by kernel_rfl) Try.func3
    (ChangeSpec.witness6 (enc := enc) (C := Try.checked) false ⟨#[], #[.agg #[.slice none 0 0, .slice none 0 0], .slice none 0 0, .agg #[.int .i64 0, .int .i64 0]], []⟩ 8 (by kernel_rfl) (by kernel_rfl) (by kernel_rfl) (by kernel_rfl)) ?_
  intro W base args ds gs before hval0 hW hcnd hsz0 _
  have hval : ∀ (j : Nat) t v, Try.f3.params[j]? = some t → args[j]? = some v → Value.okWide Try.prog W .any base t v := hval0
  have hsz : (DataW.weightsEach Try.prog (Try.f3.params.toList ++ Rows.routeTailsSpec.plain.varTypes Try.prog) (ds ++ gs)).all (· ≤ reachBytes) = true := hsz0
  have hW' := hW
  obtain ⟨p, q, hA0, hV, rfl, hfz, hnd⟩ := hW
  have hA : DataW.TrodAll enc Try.prog W 0 (fun _ => true) true Try.f3.params.toList args.toList ds p := hA0
  rw [Try.params3] at hA hval hsz
  obtain ⟨v0, vs0, d0, ds0, p0, q0, hargs, rfl, rfl, h0, r0⟩ := trodAll_cons hA
  obtain ⟨v1, vs1, d1, ds1, p1, q1, rfl, rfl, rfl, h1, r1⟩ := trodAll_cons r0
  obtain ⟨v2, vs2, d2, ds2, p2, q2, rfl, rfl, rfl, h2, r2⟩ := trodAll_cons r1
  obtain ⟨rfl, rfl, rfl⟩ := trodAll_nil r2
  obtain rfl : args = #[v0, v1, v2] := by cases args; simp_all
  obtain ⟨rfl, rfl⟩ := trodVars_none hV
  have k0 := h0
  have lt0 : ∀ x ∈ p0, x.block < W.heap.size := by obtain ⟨m, hm⟩ := k0; exact DataW.trod_lt m _ _ _ hm
  obtain ⟨cs0, rfl, _⟩ := okWide_struct Try.underlying25 (hval 0 25 v0 rfl rfl)
  obtain ⟨a0, c0, b0, e0, ns0, es0, hcs0, rn0, re0, rs0⟩ : ∃ (a : Option Addr) (c : Nat) (a' : Option Addr) (c' : Nat) (ns : List Nd) (es : List Ed), cs0 = #[.slice a ns.length c, .slice a' es.length c'] ∧ ndE.Rd W (.slice a ns.length c) ns ∧ edE.Rd W (.slice a' es.length c') es ∧ ∀ n ∈ ns, n.name.size ≤ maxLen := by
    obtain ⟨fuel, hf⟩ := h0
    obtain ⟨a, c, a', c', ns, es, he, h1, h2, h3⟩ := layout_of_trod hf
    exact ⟨a, c, a', c', ns, es, by apply Array.toList_inj.1; exact he, h1, h2, h3⟩
  subst hcs0
  obtain ⟨a1, len1, cap1, rfl⟩ := okWide_slice Try.underlying26 (hval 1 26 v1 rfl rfl)
  have k1 := h1
  have lt1 : ∀ x ∈ p1, x.block < W.heap.size := by obtain ⟨m, hm⟩ := k1; exact DataW.trod_lt m _ _ _ hm
  obtain ⟨z1, w1, s1, _⟩ : ∃ zs : List Int, zs.length = len1 ∧ intE.Rd W (.slice a1 len1 cap1) zs ∧ ∀ y ∈ zs, (Lit.int .i64 y).wf = true := by
    obtain ⟨fuel, hf⟩ := h1
    exact rd_of_trod intE (fun y => (Lit.int .i64 y).wf = true) (by kernel_rfl) (fun n cs y hy => int_of_trod hy) hf rfl
  have k2 := h2
  have lt2 : ∀ x ∈ p2, x.block < W.heap.size := by obtain ⟨m, hm⟩ := k2; exact DataW.trod_lt m _ _ _ hm
  obtain ⟨cs2, rfl, _⟩ : ∃ cs, v2 = .agg cs ∧ True := by
    have := hval 2 27 v2 rfl rfl
    unfold Value.okWide at this
    rw [Try.underlying27] at this
    obtain ⟨cs, h, _⟩ := this
    exact ⟨cs, h, trivial⟩
  obtain ⟨x20, x21, e2⟩ : ∃ x0 x1 : Int, cs2 = #[.int .i64 x0, .int .i64 x1] := by
    obtain ⟨fuel, hf⟩ := h2
    obtain ⟨y, he, _⟩ := ed_of_trod hf
    exact ⟨y.1, y.2, by apply Array.toList_inj.1; exact he⟩
  subst e2
  clear hA0 hval0
  refine (walk a0 b0 c0 e0 ns0 es0 a1 len1 cap1 z1 x20 x21 W rn0 re0 rs0 w1 s1).mono fun e W' ⟨he, bel⟩ => ?_
  subst he
  exact ⟨_, rfl, _, _, _, [], _, [], hW', trodAll_mk1 (shut_bool Try.underlying4 _), (trodAll_cons_mk (Below.trod laidOut (by kernel_rfl) (of_decide_eq_true (by kernel_rfl)) k0 bel lt0) (trodAll_cons_mk (Below.trod laidOut (by kernel_rfl) (of_decide_eq_true (by kernel_rfl)) k1 bel lt1) (trodAll_cons_mk (Below.trod laidOut (by kernel_rfl) (of_decide_eq_true (by kernel_rfl)) k2 bel lt2) trodAll_mk0))), rfl, bel.frame _, fun h => by cases h⟩

theorem over : Rows.routeTailsRow.holds Try.pinned (OpenSpec.ofChange Rows.routeTailsSpec) :=
  OpenClaim.holds_of_wide 3 Try.f3 rfl rfl rfl rfl rfl rfl rfl ⟨rfl, rfl, rfl, rfl, rfl⟩ rfl rfl rfl rfl rfl (by kernel_rfl) Try.func3 (by kernel_rfl)
    (of_decide_eq_true (by kernel_rfl)) (by unfold Func.isWrapper; first | (rw [if_pos (by decide +kernel)]; kernel_rfl) | (rw [if_neg (by decide +kernel)]; exact ⟨rfl, rfl⟩))
    (fun os started H enc _ => lifted os started H enc)

theorem proved : Rows.RouteTailsSaid := over
end Go.Proofs.Ytmkjpdmhplldjab.routeTails
