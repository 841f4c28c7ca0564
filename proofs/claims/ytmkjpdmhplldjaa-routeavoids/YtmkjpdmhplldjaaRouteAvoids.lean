/- RouteAvoids: for every layout, every mask and every list of full nodes the statement's function returns true: a path around comes to no full node but its end, and isn't shorter than the path; with nothing full it is the path. It writes nothing that was there. No condition. -/
import Derived.Test.YtmkjpdmhplldjaaAwk
namespace Go.Proofs.Ytmkjpdmhplldjaa.routeAvoids
open Go.ChangeShapes Go.WideShapes Go.ChangeAt Go.RowKit
set_option linter.unusedVariables false

theorem own : ownKnob Try.prog.godebug = none := by kernel_rfl
theorem laidOut : laidOutB Try.prog = true := by kernel_rfl

/-- with more out of order no way gets shorter -/
theorem gr_less {ns : List Nd} {es : List Ed} {ms cs l lf : List Int} {t n u : Nat} (g : Gr ns es ms l t n) (gf : Gr ns es cs lf t n) (hs : ∀ d, d ∈ ms → d ∈ cs) (h : 0 ≤ va lf u) : 0 ≤ va l u ∧ va l u ≤ va lf u := by
  have hu := gf.out h
  obtain ⟨k, hk, hw⟩ := (gf.far.2 u hu).way h
  have hw' : Way (Eg es (clo es.length ms) 1) (Tk ns) t k u := hw.imp (fun x y hE => by
    obtain ⟨i, hi, hm⟩ := of_eg hE
    exact eg_of hi (fun h => hm (hs _ h)))
  have := (g.far.2 u hu).le hw'
  omega
/-- a device of a way around comes to no full node but the end -/
theorem not_full {ns : List Nd} {es : List Ed} {ms fs lf : List Int} {t i y : Nat} {u : Int} (hi : es[i]? = some (u, (y : Int))) (hm : ((i + 1 : Nat) : Int) ∉ ms ++ shut es (t : Int) fs) : y = t ∨ (y : Int) ∉ fs := by
  by_cases h : y = t
  · exact .inl h
  · refine .inr (fun hf => hm (List.mem_append_right _ ?_))
    have hl : i < es.length := by
      rcases Nat.lt_or_ge i es.length with h' | h'
      · exact h'
      · rw [List.getElem?_eq_none h'] at hi; cases hi
    exact (dvs_mem es _ _ _).2 ⟨i, _, hl, rfl, hi, by simp; omega, hf⟩

set_option maxRecDepth 100000 in
set_option maxHeartbeats 8000000 in
theorem walk (a0 b0 : Option Addr) (c0 e0 : Nat) (ns0 : List Nd) (es0 : List Ed) (a1 : Option Addr) (len1 cap1 : Nat) (z1 : List Int) (a2 : Option Addr) (len2 cap2 : Nat) (z2 : List Int) (w : World) (rn0 : ndE.Rd w (.slice a0 ns0.length c0) ns0) (re0 : edE.Rd w (.slice b0 es0.length e0) es0) (rs0 : ∀ p ∈ ns0, p.name.size ≤ maxLen) (w1 : z1.length = len1) (s1 : intE.Rd w (.slice a1 len1 cap1) z1) (w2 : z2.length = len2) (s2 : intE.Rd w (.slice a2 len2 cap2) z2) :
    Calls Try.prog 7 #[.agg #[.slice a0 ns0.length c0, .slice b0 es0.length e0], .slice a1 len1 cap1, .slice a2 len2 cap2] w fun e w' => e = .returned (.bool true) ∧ Below w.heap.size w w' := by
  obtain ⟨n, hn⟩ : ∃ n, ns0.length = n := ⟨_, rfl⟩
  obtain ⟨m, hm⟩ : ∃ m, es0.length = m := ⟨_, rfl⟩
  rw [hn] at rn0 ⊢
  rw [hm] at re0 ⊢
  obtain ⟨W0, hW0⟩ : ∃ W0, w.alloc (.cells #[.slice a0 n c0, .slice b0 m e0] 25) = W0 := ⟨_, rfl⟩
  have bA : Below w.heap.size w W0 := by rw [← hW0]; exact (Below.refl _ _).alloc (Nat.le_refl _) _
  have hbox : W0.heap[w.heap.size]? = some (.cells #[.slice a0 n c0, .slice b0 m e0] 25) := by rw [← hW0]; exact heap_new _ _
  have HBOX := hide hbox
  have HA := hide bA
  have HW0 := hide hW0
  have K9 := hide awake_any
  have HF0 : Hid (∀ W, Below W0.heap.size W0 W → intE.Rd W (.slice a2 len2 cap2) z2) := hide (fun W h => s2.keep (bA.trans (h.mono bA.size)))
  have Hw2 := hide w2
  have HR : Hid (∀ W, Below W0.heap.size W0 W → ndE.Rd W (.slice a0 n c0) ns0 ∧ edE.Rd W (.slice b0 m e0) es0 ∧ intE.Rd W (.slice a1 len1 cap1) z1) := hide (fun W h => have b := bA.trans (h.mono bA.size); ⟨rn0.keep b, re0.keep b, s1.keep b⟩)
  have K10 : Hid (∀ W, Below W0.heap.size W0 W → Calls Try.prog 25 #[.agg #[.slice a0 n c0, .slice b0 m e0], .slice a1 len1 cap1] W fun e w' => e = .returned (.bool (decide (len1 ≤ 200) && good ns0 es0)) ∧ Below W.heap.size W w') := hide (fun W h => fits_any a0 b0 a1 c0 e0 cap1 n m len1 ns0 es0 W hn hm (HR.out W h).1 (HR.out W h).2.1 rs0)
  have HG : Hid ((decide (len1 ≤ 200) && good ns0 es0) = true → (∀ W, Below W0.heap.size W0 W → Ly W a0 b0 c0 e0 n m ns0 es0 ∧ Mk W a1 cap1 len1 z1) ∧ len1 ≤ 200 ∧ n ≤ 40 ∧ 1 ≤ n ∧ m ≤ 120 ∧ ∀ e ∈ es0, e.1 ≠ e.2) := hide (fun h => by
    simp only [Bool.and_eq_true, decide_eq_true_eq] at h
    have h1 := h.1
    have h2 := h.2
    have hg := good_ly h2 hn hm (HR.out _ (Below.refl _ _)).1 (HR.out _ (Below.refl _ _)).2.1
    refine ⟨fun W hW => ⟨(good_ly h2 hn hm (HR.out W hW).1 (HR.out W hW).2.1).1, w1, (HR.out W hW).2.2, by omega⟩, h1, hg.2.2.1, hg.2.1, hg.2.2.2, ?_⟩
    unfold good goodE at h2
    simp only [Bool.and_eq_true, decide_eq_true_eq] at h2
    intro e he
    have h3 := h2.2.2.1 e he
    unfold edB at h3
    simp only [Bool.and_eq_true, decide_eq_true_eq] at h3
    exact h3.1.2)
  have Hw1 := hide w1
  clear rn0 re0 rs0 w1 s1 hn hm bA hbox hW0 s2 w2
  generalize (decide (len1 ≤ 200) && good ns0 es0) = gd at *
  go_enter Try.func7, Try.ntmps7
  go_upto_region 1 with fail
  rw [HW0.out]
  clear HW0
  go_upto_region 3 with (go_at_call 9; refine (K9.out _).mono ?_; rintro e W1 ⟨rfl, hb1⟩; have Hb1 := hide hb1; obtain ⟨x0, x1⟩ := layg HBOX.out hb1; clear hb1)
  cases gd with
  | false =>
    go_wp2_with (go_at_call 25; refine (K10.out _ Hb1.out).mono ?_; rintro e W2 ⟨rfl, hb2⟩; have Hb2 := hide (Hb1.out.trans (hb2.mono Hb1.out.size)); clear hb2)
    go_ret
    exact ⟨rfl, HA.out.trans (Hb2.out.mono HA.out.size)⟩
  | true =>
    obtain ⟨hLM, hlen, hn40, hn1, hm12, hself⟩ := HG.out rfl
    have HLM := hide hLM
    have Hlen := hide hlen
    have l1 : (len1 : Int) ≤ 200 := by omega
    have l2 : (n : Int) ≤ 40 := by omega
    have l4 : (m : Int) ≤ 120 := by omega
    have Hn40 := hide hn40
    clear hLM hlen hn40 hn1 hm12 hself HG HR
    by_cases hf5 : len2 > 50
    case pos =>
      have f5 : (len2 : Int) > 50 := by omega
      go_wp2_with (go_at_call 25; refine (K10.out _ Hb1.out).mono ?_; rintro e W2 ⟨rfl, hb2⟩; have Hb2 := hide (Hb1.out.trans (hb2.mono Hb1.out.size)); obtain ⟨x0, x1⟩ := layg HBOX.out Hb2.out; clear hb2)
      go_ret
      exact ⟨rfl, HA.out.trans (Hb2.out.mono HA.out.size)⟩
    case neg =>
    have f5 : ¬ (len2 : Int) > 50 := by omega
    by_cases hn2 : n > 20
    case pos =>
      have f6 : (n : Int) > 20 := by omega
      go_wp2_with (go_at_call 25; refine (K10.out _ Hb1.out).mono ?_; rintro e W2 ⟨rfl, hb2⟩; have Hb2 := hide (Hb1.out.trans (hb2.mono Hb1.out.size)); obtain ⟨x0, x1⟩ := layg HBOX.out Hb2.out; clear hb2)
      go_ret
      exact ⟨rfl, HA.out.trans (Hb2.out.mono HA.out.size)⟩
    case neg =>
    have f6 : ¬ (n : Int) > 20 := by omega
    have HFM : Hid (∀ W, Below W0.heap.size W0 W → Mk W a2 cap2 len2 z2) := hide (fun W h => ⟨Hw2.out, HF0.out W h, by omega⟩)
    have f7 : (len2 : Int) ≤ 50 := by omega
    clear hf5 hn2 HF0
    go_upto_region 5 with (go_at_call 25; refine (K10.out _ Hb1.out).mono ?_; rintro e W5 ⟨rfl, hb2⟩; have Hb5 := hide (Hb1.out.trans (hb2.mono Hb1.out.size)); obtain ⟨x0, x1⟩ := layg HBOX.out Hb5.out; clear hb2)
    clear K9 K10 Hb1
    have HLW : Hid (∀ W, Below W5.heap.size W5 W → Ly W a0 b0 c0 e0 n m ns0 es0 ∧ Mk W a1 cap1 len1 z1 ∧ Mk W a2 cap2 len2 z2) := hide (fun W h => have b := Hb5.out.trans (h.mono Hb5.out.size); ⟨(HLM.out W b).1, (HLM.out W b).2, HFM.out W b⟩)
    have HXW : Hid (∀ W, Below W5.heap.size W5 W → W.cell? ⟨w.heap.size, 0, none⟩ = some (.slice a0 n c0) ∧ W.cell? ⟨w.heap.size, 1, none⟩ = some (.slice b0 m e0)) := hide (fun W h => layg HBOX.out (Hb5.out.trans (h.mono Hb5.out.size)))
    have Hm : Hid (es0.length = m) := hide (HLM.out _ Hb5.out).1.hm
    have K14 : Hid (∀ (W : World) a b k c d xs, xs.length = k → intE.Rd W (.slice a k c) xs → intE.Rd W (.slice b k d) xs → k ≤ 1000 → Calls Try.prog 14 #[.slice a k c, .slice b k d] W fun e w' => e = .returned (.bool true) ∧ Below W.heap.size W w') := hide (fun W a b k c d xs h1 h3 h4 h5 => (ints_eq h3 h4 h1 h1 (by omega)).mono (by
      rintro e w' ⟨h6, h7⟩
      rw [decide_eq_true rfl] at h6
      exact ⟨h6, h7⟩))
    -- the two programs' ways, from a node to another
    have KEY : Hid (∀ (W : World) (u t : Nat), Below W5.heap.size W5 W → u < n → t < n → Calls Try.prog 17 #[.agg #[.slice a0 n c0, .slice b0 m e0], .slice a1 len1 cap1, .int .i64 (u : Int), .int .i64 (t : Int)] W fun e w' => (∃ aP kP cP cd l, Gr ns0 es0 z1 l t n ∧ e = .returned (.tuple #[.slice aP kP cP, .int .i64 cd]) ∧ kP ≤ 1000 ∧ ((va l u = -1 ∧ cd = 80 ∧ kP = 0 ∧ aP = none ∧ cP = 0) ∨ (va l u = (kP : Int) ∧ cd = 0 ∧ intE.Rd w' (.slice aP kP cP) (pth ns0 es0 z1 l t kP u)))) ∧ Below W.heap.size W w') := hide (fun W u t h hu ht => (path_ok a0 b0 a1 c0 e0 cap1 n m len1 u t ns0 es0 z1 W (HLW.out W h).1 (HLW.out W h).2.1 (by have := Hlen.out; omega) hu ht).mono (by
      rintro e w' ⟨⟨l, hg, h2⟩, hb⟩
      rcases h2 with ⟨h3, rfl⟩ | ⟨k, v, h3, rfl, h4⟩
      · exact ⟨⟨_, _, _, _, l, hg, rfl, by omega, .inl ⟨h3, rfl, rfl, rfl, rfl⟩⟩, hb⟩
      · obtain ⟨aP, cP, rfl⟩ := h4.rd.form
        have hl : (pth ns0 es0 z1 l t k u).length = k := pth_len k u
        rw [hl] at h4 ⊢
        exact ⟨⟨_, _, _, _, l, hg, rfl, by have := hg.high u; have := Hn40.out; omega, .inr ⟨h3, rfl, h4.rd⟩⟩, hb⟩))
    have K18f : Hid (∀ (W : World) (u t : Nat), Below W5.heap.size W5 W → u < n → t < n → Calls Try.prog 18 #[.agg #[.slice a0 n c0, .slice b0 m e0], .slice a1 len1 cap1, .int .i64 (u : Int), .int .i64 (t : Int), .slice a2 len2 cap2] W fun e w' => (∃ aP kP cP cd l, Gr ns0 es0 (z1 ++ shut es0 (t : Int) z2) l t n ∧ e = .returned (.tuple #[.slice aP kP cP, .int .i64 cd]) ∧ ((va l u = -1 ∧ cd = 80 ∧ kP = 0 ∧ aP = none ∧ cP = 0) ∨ (va l u = (kP : Int) ∧ cd = 0 ∧ intE.Rd w' (.slice aP kP cP) (pth ns0 es0 (z1 ++ shut es0 (t : Int) z2) l t kP u)))) ∧ Below W.heap.size W w') := hide (fun W u t h hu ht => (around_ok a0 b0 a1 a2 c0 e0 cap1 cap2 n m len1 len2 u t ns0 es0 z1 z2 W (HLW.out W h).1 (HLW.out W h).2.1 (HLW.out W h).2.2 (by have := Hlen.out; omega) hu ht).mono (by
      rintro e w' ⟨⟨l, hg, h2⟩, hb⟩
      rcases h2 with ⟨h3, rfl⟩ | ⟨k, v, h3, rfl, h4⟩
      · exact ⟨⟨_, _, _, _, l, hg, rfl, .inl ⟨h3, rfl, rfl, rfl, rfl⟩⟩, hb⟩
      · obtain ⟨aP, cP, rfl⟩ := h4.rd.form
        have hl : (pth ns0 es0 (z1 ++ shut es0 (t : Int) z2) l t k u).length = k := pth_len k u
        rw [hl] at h4 ⊢
        exact ⟨⟨_, _, _, _, l, hg, rfl, .inr ⟨h3, rfl, h4.rd⟩⟩, hb⟩))
    have K18n : Hid (∀ (W : World) (u t : Nat) l, Below W5.heap.size W5 W → u < n → t < n → Gr ns0 es0 z1 l t n → Calls Try.prog 18 #[.agg #[.slice a0 n c0, .slice b0 m e0], .slice a1 len1 cap1, .int .i64 (u : Int), .int .i64 (t : Int), .slice none 0 0] W fun e w' => (∃ aP kP cP cd, e = .returned (.tuple #[.slice aP kP cP, .int .i64 cd]) ∧ ((va l u = -1 ∧ cd = 80 ∧ kP = 0 ∧ aP = none ∧ cP = 0) ∨ (va l u = (kP : Int) ∧ cd = 0 ∧ intE.Rd w' (.slice aP kP cP) (pth ns0 es0 z1 l t kP u)))) ∧ Below W.heap.size W w') := hide (fun W u t l h hu ht hgl => by
      have h0 := around_ok a0 b0 a1 none c0 e0 cap1 0 n m len1 0 u t ns0 es0 z1 [] W (HLW.out W h).1 (HLW.out W h).2.1 ⟨rfl, .inl ⟨rfl, rfl⟩, by omega⟩ (by have := Hlen.out; omega) hu ht
      rw [shut_nil, List.append_nil] at h0
      refine h0.mono ?_
      rintro e w' ⟨⟨l2, hg, h2⟩, hb⟩
      obtain rfl := hg.far.uniq hgl.far
      rcases h2 with ⟨h3, rfl⟩ | ⟨k, v, h3, rfl, h4⟩
      · exact ⟨⟨_, _, _, _, rfl, .inl ⟨h3, rfl, rfl, rfl, rfl⟩⟩, hb⟩
      · obtain ⟨aP, cP, rfl⟩ := h4.rd.form
        have hl : (pth ns0 es0 z1 l2 t k u).length = k := pth_len k u
        rw [hl] at h4 ⊢
        exact ⟨⟨_, _, _, _, rfl, .inr ⟨h3, rfl, h4.rd⟩⟩, hb⟩)
    go_wp2_with fail
    go_loopw [40] (fun v40 wr => ∃ k : Nat, k ≤ n ∧ v40 = .int .i64 k ∧ Hid (Below W5.heap.size W5 wr)) (fun v40 _ => n - (intOf v40).toNat)
    case atStart => exact ⟨0, by omega, rfl, hide (Below.refl _ _)⟩
    case round =>
      obtain ⟨u, hk, rfl, HB⟩ := hrel
      obtain ⟨wA, hwA⟩ : ∃ W, W = wr := ⟨_, rfl⟩
      rw [← hwA] at HB
      rw [← hwA]
      clear hwA
      obtain ⟨x0, x1⟩ := HXW.out _ HB.out
      by_cases hlt : u < n
      case neg =>
        obtain rfl : u = n := by omega
        have j1 : ¬ (u : Int) < (u : Int) := by omega
        go_wp2_with fail
        go_ret
        exact ⟨rfl, HA.out.trans ((Hb5.out.trans (HB.out.mono Hb5.out.size)).mono HA.out.size)⟩
      case pos =>
      have j0 : (0 : Int) ≤ (u : Int) := by omega
      have j1 : (u : Int) < (n : Int) := by omega
      have Hun := hide hlt
      go_wp2_with fail
      go_loopw [46] (fun v46 wr => ∃ k : Nat, k ≤ n ∧ v46 = .int .i64 k ∧ Hid (Below W5.heap.size W5 wr)) (fun v46 _ => n - (intOf v46).toNat)
      case atStart => exact ⟨0, by omega, rfl, HB⟩
      case round =>
        obtain ⟨t, hk2, rfl, HB⟩ := hrel
        obtain ⟨wB, hwB⟩ : ∃ W, W = wr := ⟨_, rfl⟩
        rw [← hwB] at HB
        rw [← hwB]
        clear hwB
        obtain ⟨x0, x1⟩ := HXW.out _ HB.out
        by_cases hlt2 : t < n
        case neg =>
          obtain rfl : t = n := by omega
          have j1' : ¬ (t : Int) < (t : Int) := by omega
          go_wp2_with fail
          go_roundw
          case rel => exact ⟨u + 1, by omega, by go_num, HB⟩
          case measure => simp [intOf]; omega
        case pos =>
        have k0 : (0 : Int) ≤ (t : Int) := by omega
        have k1 : (t : Int) < (n : Int) := by omega
        have Htn := hide hlt2
        go_upto_region 12 with (go_at_call 17; refine (KEY.out _ u t HB.out Hun.out Htn.out).mono ?_; rintro e W6 ⟨⟨aP, kP, cP, cd, l, hg6, rfl, hkP, hcs⟩, hb6⟩; have HG6 := hide hg6; have Hcs := hide hcs; have HkP := hide hkP; have HB6 := hide (HB.out.trans (hb6.mono HB.out.size)); obtain ⟨x0, x1⟩ := HXW.out _ HB6.out; clear hb6 hcs hg6 hkP)
        go_upto_region 13 with (go_at_call 18; refine (K18f.out _ u t HB6.out Hun.out Htn.out).mono ?_; rintro e W7 ⟨⟨aQ, kQ, cQ, cd2, lf, hg7, rfl, hcs⟩, hb7⟩; have HG7 := hide hg7; have Hcf := hide hcs; have HB7 := hide (HB6.out.trans (hb7.mono HB6.out.size)); have Hb67 := hide hb7; obtain ⟨x0, x1⟩ := HXW.out _ HB7.out; clear hb7 hcs hg7)
        go_upto_region 14 with (go_at_call 18; refine (K18n.out _ u t l HB7.out Hun.out Htn.out HG6.out).mono ?_; rintro e W8 ⟨⟨aR, kR, cR, cd3, rfl, hcs⟩, hb8⟩; have Hcr := hide hcs; have HB8 := hide (HB7.out.trans (hb8.mono HB7.out.size)); have Hb78 := hide hb8; obtain ⟨x0, x1⟩ := HXW.out _ HB8.out; clear hb8 hcs)
        have HSUB := hide (fun (h : 0 ≤ va lf u) => gr_less HG6.out HG7.out (fun d hd => List.mem_append_left _ hd) h)
        have qz : ((80 : Int) != 80) = false := by decide
        have qo : ((0 : Int) != 0) = false := by decide
        have HEND : Hid True := hide trivial
        rcases Hcs.out with ⟨v1, rfl, rfl, rfl, rfl⟩ | ⟨v1, rfl, v2⟩
        · -- no way at all
          obtain ⟨r1, rfl, rfl, rfl, rfl⟩ : va l u = -1 ∧ cd3 = 80 ∧ kR = 0 ∧ aR = none ∧ cR = 0 := by
            rcases Hcr.out with h | ⟨h, _⟩
            · exact h
            · omega
          obtain ⟨r2, rfl, rfl, rfl, rfl⟩ : va lf u = -1 ∧ cd2 = 80 ∧ kQ = 0 ∧ aQ = none ∧ cQ = 0 := by
            rcases Hcf.out with h | ⟨h, _⟩
            · exact h
            · have := HSUB.out (by omega); omega
          clear Hcs Hcr Hcf v1 r1 r2
          go_wp2_with (go_at_call 14; refine (K14.out _ _ _ 0 _ _ [] rfl (.inl ⟨rfl, rfl⟩) (.inl ⟨rfl, rfl⟩) (by omega)).mono ?_; rintro e W9 ⟨rfl, hb9⟩; have HB9 := hide (HB8.out.trans (hb9.mono HB8.out.size)); obtain ⟨x0, x1⟩ := HXW.out _ HB9.out; clear hb9)
          go_loopw [15, 101] (fun v15 v101 wr => v15 = .int .i64 (u : Int) ∧ v101 = .int .i64 0 ∧ wr = W9) (fun _ _ _ => 0)
          case atStart => exact ⟨rfl, rfl, rfl⟩
          case round =>
            obtain ⟨rfl, rfl, hw⟩ := hrel
            have hw' := hw.symm
            clear hw
            subst hw'
            go_wp2_with fail
            go_roundw
            case rel => exact ⟨t + 1, by omega, by go_num, HB9⟩
            case measure => simp [intOf]; omega
        · obtain ⟨r1, hkR, rfl, r3⟩ : va l u = (kR : Int) ∧ kR = kP ∧ cd3 = 0 ∧ intE.Rd W8 (.slice aR kR cR) (pth ns0 es0 z1 l t kR u) := by
            rcases Hcr.out with ⟨h, _⟩ | ⟨h, h2, h3⟩
            · omega
            · exact ⟨h, by omega, h2, h3⟩
          subst hkR
          have HP8 : Hid (intE.Rd W8 (.slice aP kR cP) (pth ns0 es0 z1 l t kR u)) := hide ((v2.keep Hb67.out).keep Hb78.out)
          have HR8 := hide r3
          have Hpl : Hid ((pth ns0 es0 z1 l t kR u).length = kR) := hide (pth_len kR u)
          have Hvl := hide v1
          clear Hcs Hcr v1 v2 r1 r3
          rcases Hcf.out with ⟨g1, rfl, rfl, rfl, rfl⟩ | ⟨g1, rfl, g2⟩
          · -- around there is none
            clear Hcf g1
            go_wp2_with (go_at_call 14; refine (K14.out _ _ _ kR _ _ _ Hpl.out HP8.out HR8.out HkP.out).mono ?_; rintro e W9 ⟨rfl, hb9⟩; have HB9 := hide (HB8.out.trans (hb9.mono HB8.out.size)); obtain ⟨x0, x1⟩ := HXW.out _ HB9.out; clear hb9)
            go_loopw [15, 101] (fun v15 v101 wr => v15 = .int .i64 (u : Int) ∧ v101 = .int .i64 0 ∧ wr = W9) (fun _ _ _ => 0)
            case atStart => exact ⟨rfl, rfl, rfl⟩
            case round =>
              obtain ⟨rfl, rfl, hw⟩ := hrel
              have hw' := hw.symm
              clear hw
              subst hw'
              go_wp2_with fail
              go_roundw
              case rel => exact ⟨t + 1, by omega, by go_num, HB9⟩
              case measure => simp [intOf]; omega
          · have hle := HSUB.out (by omega)
            rw [Hvl.out, g1] at hle
            have q9 : ¬ ((kQ : Int) < (kR : Int)) := by omega
            have Hg1 := hide g1
            have HQ8 : Hid (intE.Rd W8 (.slice aQ kQ cQ) (pth ns0 es0 (z1 ++ shut es0 (t : Int) z2) lf t kQ u)) := hide (g2.keep Hb78.out)
            have hkQ : (kQ : Int) ≤ 1000 := by have h1 := HG7.out.high u; have h2 := Hn40.out; omega
            have hkQ0 : (0 : Int) ≤ (kQ : Int) := by omega
            clear Hcf g1 g2 hle
            go_wp2_with (go_at_call 14; refine (K14.out _ _ _ kR _ _ _ Hpl.out HP8.out HR8.out HkP.out).mono ?_; rintro e W9 ⟨rfl, hb9⟩; have HB9 := hide (HB8.out.trans (hb9.mono HB8.out.size)); have HQ9 := hide (HQ8.out.keep hb9); obtain ⟨x0, x1⟩ := HXW.out _ HB9.out; clear hb9)
            have HL9 := hide (HLW.out W9 HB9.out)
            go_loopw [15, 101] (fun v15 v101 wr => ∃ (j r v : Nat), v15 = .int .i64 (v : Int) ∧ v101 = .int .i64 (j : Int) ∧ wr = W9 ∧ Hid (j + r = kQ ∧ va lf v = (r : Int) ∧ (pth ns0 es0 (z1 ++ shut es0 (t : Int) z2) lf t kQ u).drop j = pth ns0 es0 (z1 ++ shut es0 (t : Int) z2) lf t r v)) (fun _ v101 _ => kQ - (intOf v101).toNat)
            case atStart => exact ⟨0, kQ, u, rfl, rfl, rfl, hide ⟨by omega, Hg1.out, rfl⟩⟩
            case round =>
              obtain ⟨j, r, v, rfl, rfl, hw, HX⟩ := hrel
              have hw' := hw.symm
              clear hw
              subst hw'
              rcases r with _ | r
              · have hvt : v = t := HG7.out.only (by simpa using HX.out.2.1)
                have hjk : j = kQ := by have := HX.out.1; omega
                subst hvt
                subst hjk
                have q1 : ((v : Int) != (v : Int)) = false := bne_self_eq_false _
                have q2 : ¬ (j : Int) < (j : Int) := by omega
                go_wp2_with fail
                go_roundw
                case rel => exact ⟨v + 1, by omega, by go_num, HB9⟩
                case measure => simp [intOf]; omega
              · obtain ⟨i, y, g1, g2, g3, g4, g5, g6, g7, g8⟩ := HG7.out.on HX.out.2.1
                have hpj : (pth ns0 es0 (z1 ++ shut es0 (t : Int) z2) lf t kQ u)[j]? = some ((i : Int) + 1) := by
                  have h1 := HX.out.2.2
                  have h2 : ((pth ns0 es0 (z1 ++ shut es0 (t : Int) z2) lf t kQ u).drop j)[0]? = (pth ns0 es0 (z1 ++ shut es0 (t : Int) z2) lf t (r + 1) v)[0]? := by rw [h1]
                  rw [List.getElem?_drop, Nat.add_zero] at h2
                  rw [h2]
                  unfold pth
                  rw [g1, show ((i + 1 : Nat) : Int) = (i : Int) + 1 by omega]; rfl
                have HX1 : Hid (j + 1 + r = kQ ∧ va lf y = (r : Int) ∧ (pth ns0 es0 (z1 ++ shut es0 (t : Int) z2) lf t kQ u).drop (j + 1) = pth ns0 es0 (z1 ++ shut es0 (t : Int) z2) lf t r y) := hide ⟨by have := HX.out.1; omega, g6, by
                  have h1 := HX.out.2.2
                  rw [← List.drop_drop, h1, show pth ns0 es0 (z1 ++ shut es0 (t : Int) z2) lf t (r + 1) v = stp ns0 es0 (z1 ++ shut es0 (t : Int) z2) lf t (v : Int) (r : Int) :: pth ns0 es0 (z1 ++ shut es0 (t : Int) z2) lf t r (endN es0 (stp ns0 es0 (z1 ++ shut es0 (t : Int) z2) lf t (v : Int) (r : Int))) from rfl, g8]
                  rfl⟩
                obtain ⟨bp, op, hap, cp⟩ := int_at HQ9.out j _ hpj
                subst hap
                obtain ⟨be, oe, hae, ce0, ce1⟩ := ed_at HL9.out.1.hu i ((v : Int), (y : Int)) g3
                subst hae
                simp only at ce0 ce1
                have p2 : (0 : Int) ≤ (j : Int) := by omega
                have p3 : (j : Int) < (kQ : Int) := by have := HX.out.1; omega
                have p4 : (0 : Int) ≤ (i : Int) := by omega
                have p5 : (i : Int) < (m : Int) := by have := Hm.out; omega
                have p6 : ¬ ((i : Int) + 1 < 1) := by omega
                have p7 : ¬ ((i : Int) + 1 > (m : Int)) := by omega
                have p9 : ((v : Int) != (v : Int)) = false := bne_self_eq_false _
                have Hnf := hide (not_full (ns := ns0) (lf := lf) g3 g5)
                have HFm : Hid (intE.Rd W9 (.slice a2 len2 cap2) z2) := hide HL9.out.2.2.hM
                have HFl : Hid (z2.length = len2) := hide HL9.out.2.2.hk
                clear g1 g2 g3 g4 g5 g6 g7 g8 hpj HX
                go_upto_region 24 with fail
                go_loopw [134] (fun v134 wr => ∃ z : Nat, z ≤ len2 ∧ v134 = .int .i64 (z : Int) ∧ wr = W9) (fun v134 _ => len2 - (intOf v134).toNat)
                case atStart => exact ⟨0, by omega, rfl, rfl⟩
                case round =>
                  obtain ⟨z, hz, rfl, hw⟩ := hrel
                  have hw' := hw.symm
                  clear hw
                  subst hw'
                  by_cases hzl : z < len2
                  · obtain ⟨p, hp⟩ : ∃ p, z2[z]? = some p := ⟨_, List.getElem?_eq_getElem (by rw [HFl.out]; exact hzl)⟩
                    obtain ⟨bm, om, hbm, cm⟩ := int_at HFm.out z p hp
                    subst hbm
                    have z0 : (0 : Int) ≤ (z : Int) := by omega
                    have z1' : (z : Int) < (len2 : Int) := by omega
                    by_cases hpy : p = (y : Int)
                    · have zb : (p == (y : Int)) = true := by rw [hpy]; exact beq_self_eq_true _
                      have zt : ((y : Int) != (t : Int)) = false := by
                        have : y = t := Hnf.out.resolve_right (fun h => h (by rw [← hpy]; exact List.mem_of_getElem? hp))
                        rw [this]; exact bne_self_eq_false _
                      clear hp hpy
                      go_wp2_with fail
                      go_roundw
                      case rel => exact ⟨z + 1, by omega, by go_num, trivial⟩
                      case measure => simp [intOf]; omega
                    · have zb : (p == (y : Int)) = false := beq_eq_false_iff_ne.2 hpy
                      clear hp hpy
                      go_wp2_with fail
                      go_roundw
                      case rel => exact ⟨z + 1, by omega, by go_num, trivial⟩
                      case measure => simp [intOf]; omega
                  · obtain rfl : z = len2 := by omega
                    have z1' : ¬ (z : Int) < (z : Int) := by omega
                    go_wp2_with fail
                    go_roundw
                    case rel =>
                      exact ⟨_, .int .i64 (y : Int), _, _, .int .i64 ((j : Int) + 1), ⟨j + 1, r, y, rfl, by go_num, HX1⟩, rfl, rfl, rfl, rfl, rfl⟩
                    case measure => simp [intOf]; omega

set_option maxRecDepth 100000 in
theorem lifted (os : Os) (started : os.Started) (H : Type) (enc : TypeId × Value → H) :
    ReturnsInHanded {} Try.checked os 7 .any (Rows.routeAvoidsSpec.pre6 enc Try.prog Try.f7 Rows.routeAvoidsRow.domain false) (Rows.routeAvoidsSpec.post enc Try.prog Try.f7 false true false false) := by
  refine returnsInHanded_of_change_sized (C := Try.checked) own started (by kernel_rfl) Try.func7
    (ChangeSpec.witness6 (enc := enc) (C := Try.checked) false ⟨#[], #[.agg #[.slice none 0 0, .slice none 0 0], .slice none 0 0, .slice none 0 0], []⟩ 8 (by kernel_rfl) (by kernel_rfl) (by kernel_rfl) (by kernel_rfl)) ?_
  intro W base args ds gs before hval0 hW hcnd hsz0 _
  have hval : ∀ (j : Nat) t v, Try.f7.params[j]? = some t → args[j]? = some v → Value.okWide Try.prog W .any base t v := hval0
  have hsz : (DataW.weightsEach Try.prog (Try.f7.params.toList ++ Rows.routeAvoidsSpec.plain.varTypes Try.prog) (ds ++ gs)).all (· ≤ reachBytes) = true := hsz0
  have hW' := hW
  obtain ⟨p, q, hA0, hV, rfl, hfz, hnd⟩ := hW
  have hA : DataW.TrodAll enc Try.prog W 0 (fun _ => true) true Try.f7.params.toList args.toList ds p := hA0
  rw [Try.params7] at hA hval hsz
  obtain ⟨v0, vs0, d0, ds0, p0, q0, hargs, rfl, rfl, h0, r0⟩ := trodAll_cons hA
  obtain ⟨v1, vs1, d1, ds1, p1, q1, rfl, rfl, rfl, h1, r1⟩ := trodAll_cons r0
  obtain ⟨v2, vs2, d2, ds2, p2, q2, rfl, rfl, rfl, h2, r2⟩ := trodAll_cons r1
  obtain ⟨rfl, rfl, rfl⟩ := trodAll_nil r2
  obtain rfl : args = #[v0, v1, v2] := by cases args; simp_all
  obtain ⟨rfl, rfl⟩ := trodVars_none hV
  have k0 := h0
  have lt0 : ∀ x ∈ p0, x.block < W.heap.size := by obtain ⟨m, hm⟩ := k0; exact DataW.trod_lt m _ _ _ hm
  obtain ⟨cs0, rfl, _⟩ := okWide_struct Try.underlying25 (hval 0 25 v0 rfl rfl)
  obtain ⟨a0, c0, b0, e0, ns0, es0, hcs0, rn0, re0, rs0⟩ : ∃ (a : Option Addr) (c : Nat) (a' : Option Addr) (c' : Nat) (ns : List Nd) (es : List Ed), cs0 = #[.slice a ns.length c, .slice a' es.length c'] ∧ ndE.Rd W (.slice a ns.length c) ns ∧ edE.Rd W (.slice a' es.length c') es ∧ ∀ n ∈ ns, n.name.size ≤ maxLen := by
    obtain ⟨fuel, hf⟩ := h0
    obtain ⟨a, c, a', c', ns, es, he, h1, h2, h3⟩ := layout_of_trod hf
    exact ⟨a, c, a', c', ns, es, by apply Array.toList_inj.1; exact he, h1, h2, h3⟩
  subst hcs0
  obtain ⟨a1, len1, cap1, rfl⟩ := okWide_slice Try.underlying26 (hval 1 26 v1 rfl rfl)
  have k1 := h1
  have lt1 : ∀ x ∈ p1, x.block < W.heap.size := by obtain ⟨m, hm⟩ := k1; exact DataW.trod_lt m _ _ _ hm
  obtain ⟨z1, w1, s1, _⟩ : ∃ zs : List Int, zs.length = len1 ∧ intE.Rd W (.slice a1 len1 cap1) zs ∧ ∀ y ∈ zs, (Lit.int .i64 y).wf = true := by
    obtain ⟨fuel, hf⟩ := h1
    exact rd_of_trod intE (fun y => (Lit.int .i64 y).wf = true) (by kernel_rfl) (fun n cs y hy => int_of_trod hy) hf rfl
  obtain ⟨a2, len2, cap2, rfl⟩ := okWide_slice Try.underlying26 (hval 2 26 v2 rfl rfl)
  have k2 := h2
  have lt2 : ∀ x ∈ p2, x.block < W.heap.size := by obtain ⟨m, hm⟩ := k2; exact DataW.trod_lt m _ _ _ hm
  obtain ⟨z2, w2, s2, _⟩ : ∃ zs : List Int, zs.length = len2 ∧ intE.Rd W (.slice a2 len2 cap2) zs ∧ ∀ y ∈ zs, (Lit.int .i64 y).wf = true := by
    obtain ⟨fuel, hf⟩ := h2
    exact rd_of_trod intE (fun y => (Lit.int .i64 y).wf = true) (by kernel_rfl) (fun n cs y hy => int_of_trod hy) hf rfl
  clear hA0 hval0
  refine (walk a0 b0 c0 e0 ns0 es0 a1 len1 cap1 z1 a2 len2 cap2 z2 W rn0 re0 rs0 w1 s1 w2 s2).mono fun e W' ⟨he, bel⟩ => ?_
  subst he
  exact ⟨_, rfl, _, _, _, [], _, [], hW', trodAll_mk1 (shut_bool Try.underlying4 _), (trodAll_cons_mk (Below.trod laidOut (by kernel_rfl) (of_decide_eq_true (by kernel_rfl)) k0 bel lt0) (trodAll_cons_mk (Below.trod laidOut (by kernel_rfl) (of_decide_eq_true (by kernel_rfl)) k1 bel lt1) (trodAll_cons_mk (Below.trod laidOut (by kernel_rfl) (of_decide_eq_true (by kernel_rfl)) k2 bel lt2) trodAll_mk0))), rfl, bel.frame _, fun h => by cases h⟩

theorem over : Rows.routeAvoidsRow.holds Try.pinned (OpenSpec.ofChange Rows.routeAvoidsSpec) :=
  OpenClaim.holds_of_wide 7 Try.f7 rfl rfl rfl rfl rfl rfl rfl ⟨rfl, rfl, rfl, rfl, rfl⟩ rfl rfl rfl rfl rfl (by kernel_rfl) Try.func7 (by kernel_rfl)
    (of_decide_eq_true (by kernel_rfl)) (by unfold Func.isWrapper; first | (rw [if_pos (by decide +kernel)]; kernel_rfl) | (rw [if_neg (by decide +kernel)]; exact ⟨rfl, rfl⟩))
    (fun os started H enc _ => lifted os started H enc)

theorem proved : Rows.RouteAvoidsSaid := over
end Go.Proofs.Ytmkjpdmhplldjaa.routeAvoids
