/- RouteFollows: for every layout, every mask and every target the statement's function returns true: who goes by the table is at the target behind as many edges as From says, over open edges and tracks, and a path is just that. It writes nothing that was there. No condition. -/
import Derived.Test.YtmkjpdmhplldjaaAwk
namespace Go.Proofs.Ytmkjpdmhplldjaa.routeFollows
open Go.ChangeShapes Go.WideShapes Go.ChangeAt Go.RowKit
set_option linter.unusedVariables false

theorem own : ownKnob Try.prog.godebug = none := by kernel_rfl
theorem laidOut : laidOutB Try.prog = true := by kernel_rfl

set_option maxRecDepth 100000 in
set_option maxHeartbeats 8000000 in
theorem walk (a0 b0 : Option Addr) (c0 e0 : Nat) (ns0 : List Nd) (es0 : List Ed) (a1 : Option Addr) (len1 cap1 : Nat) (z1 : List Int) (n2 : Int) (w : World) (rn0 : ndE.Rd w (.slice a0 ns0.length c0) ns0) (re0 : edE.Rd w (.slice b0 es0.length e0) es0) (rs0 : ∀ p ∈ ns0, p.name.size ≤ maxLen) (w1 : z1.length = len1) (s1 : intE.Rd w (.slice a1 len1 cap1) z1) (h2 : -9223372036854775808 ≤ n2 ∧ n2 ≤ 9223372036854775807) :
    Calls Try.prog 6 #[.agg #[.slice a0 ns0.length c0, .slice b0 es0.length e0], .slice a1 len1 cap1, .int .i64 n2] w fun e w' => e = .returned (.bool true) ∧ Below w.heap.size w w' := by
  obtain ⟨n, hn⟩ : ∃ n, ns0.length = n := ⟨_, rfl⟩
  obtain ⟨m, hm⟩ : ∃ m, es0.length = m := ⟨_, rfl⟩
  rw [hn] at rn0 ⊢
  rw [hm] at re0 ⊢
  obtain ⟨W0, hW0⟩ : ∃ W0, w.alloc (.cells #[.slice a0 n c0, .slice b0 m e0] 25) = W0 := ⟨_, rfl⟩
  have bA : Below w.heap.size w W0 := by rw [← hW0]; exact (Below.refl _ _).alloc (Nat.le_refl _) _
  have hbox : W0.heap[w.heap.size]? = some (.cells #[.slice a0 n c0, .slice b0 m e0] 25) := by rw [← hW0]; exact heap_new _ _
  have HBOX := hide hbox
  have HA := hide bA
  have HW0 := hide hW0
  have K9 := hide awake_any
  have HR : Hid (∀ W, Below W0.heap.size W0 W → ndE.Rd W (.slice a0 n c0) ns0 ∧ edE.Rd W (.slice b0 m e0) es0 ∧ intE.Rd W (.slice a1 len1 cap1) z1) := hide (fun W h => have b := bA.trans (h.mono bA.size); ⟨rn0.keep b, re0.keep b, s1.keep b⟩)
  have K10 : Hid (∀ W, Below W0.heap.size W0 W → Calls Try.prog 25 #[.agg #[.slice a0 n c0, .slice b0 m e0], .slice a1 len1 cap1] W fun e w' => e = .returned (.bool (decide (len1 ≤ 200) && good ns0 es0)) ∧ Below W.heap.size W w') := hide (fun W h => fits_any a0 b0 a1 c0 e0 cap1 n m len1 ns0 es0 W hn hm (HR.out W h).1 (HR.out W h).2.1 rs0)
  have HG : Hid ((decide (len1 ≤ 200) && good ns0 es0) = true → (∀ W, Below W0.heap.size W0 W → Ly W a0 b0 c0 e0 n m ns0 es0 ∧ Mk W a1 cap1 len1 z1) ∧ len1 ≤ 200 ∧ n ≤ 40 ∧ 1 ≤ n ∧ m ≤ 120 ∧ ∀ e ∈ es0, e.1 ≠ e.2) := hide (fun h => by
    simp only [Bool.and_eq_true, decide_eq_true_eq] at h
    have h1 := h.1
    have h2 := h.2
    have hg := good_ly h2 hn hm (HR.out _ (Below.refl _ _)).1 (HR.out _ (Below.refl _ _)).2.1
    refine ⟨fun W hW => ⟨(good_ly h2 hn hm (HR.out W hW).1 (HR.out W hW).2.1).1, w1, (HR.out W hW).2.2, by omega⟩, h1, hg.2.2.1, hg.2.1, hg.2.2.2, ?_⟩
    unfold good goodE at h2
    simp only [Bool.and_eq_true, decide_eq_true_eq] at h2
    intro e he
    have h3 := h2.2.2.1 e he
    unfold edB at h3
    simp only [Bool.and_eq_true, decide_eq_true_eq] at h3
    exact h3.1.2)
  have Hw1 := hide w1
  clear rn0 re0 rs0 w1 s1 hn hm bA hbox hW0 h2
  generalize (decide (len1 ≤ 200) && good ns0 es0) = gd at *
  go_enter Try.func6, Try.ntmps6
  go_upto_region 1 with fail
  rw [HW0.out]
  clear HW0
  go_upto_region 3 with (go_at_call 9; refine (K9.out _).mono ?_; rintro e W1 ⟨rfl, hb1⟩; have Hb1 := hide hb1; obtain ⟨x0, x1⟩ := layg HBOX.out hb1; clear hb1)
  cases gd with
  | false =>
    go_wp2_with (go_at_call 25; refine (K10.out _ Hb1.out).mono ?_; rintro e W2 ⟨rfl, hb2⟩; have Hb2 := hide (Hb1.out.trans (hb2.mono Hb1.out.size)); clear hb2)
    go_ret
    exact ⟨rfl, HA.out.trans (Hb2.out.mono HA.out.size)⟩
  | true =>
    obtain ⟨hLM, hlen, hn40, hn1, hm12, hself⟩ := HG.out rfl
    have HLM := hide hLM
    have Hlen := hide hlen
    have l1 : (len1 : Int) ≤ 200 := by omega
    have l2 : (n : Int) ≤ 40 := by omega
    have l4 : (m : Int) ≤ 120 := by omega
    have Hn40 := hide hn40
    clear hLM hlen hn40 hn1 hm12 hself HG HR
    have K13 := hide (fun W => outside_any a0 b0 n c0 m e0 n2 W)
    by_cases hx : 0 ≤ n2 ∧ n2 < (n : Int)
    case neg =>
      have tx : (!decide (0 ≤ n2 ∧ n2 < (n : Int))) = true := by rw [decide_eq_false hx]; rfl
      rw [tx] at K13
      clear tx hx
      go_wp2_with (first
        | (go_at_call 25; refine (K10.out _ Hb1.out).mono ?_; rintro e W2 ⟨rfl, hb2⟩; have Hb2 := hide (Hb1.out.trans (hb2.mono Hb1.out.size)); obtain ⟨x0, x1⟩ := layg HBOX.out Hb2.out; clear hb2)
        | (go_at_call 13; refine (K13.out _).mono ?_; rintro e W3 ⟨rfl, hb3⟩; have Hb3 := hide (Hb2.out.trans (hb3.mono Hb2.out.size)); clear hb3))
      go_ret
      exact ⟨rfl, HA.out.trans (Hb3.out.mono HA.out.size)⟩
    case pos =>
    have tx : (!decide (0 ≤ n2 ∧ n2 < (n : Int))) = false := by rw [decide_eq_true hx]; rfl
    rw [tx] at K13
    clear tx
    obtain ⟨t, rfl⟩ := Int.eq_ofNat_of_zero_le hx.1
    have Ht : Hid (t < n) := hide (by omega)
    have t0 : (0 : Int) ≤ (t : Int) := by omega
    have t1 : (t : Int) < (n : Int) := hx.2
    clear hx
    go_upto_region 5 with (first
      | (go_at_call 25; refine (K10.out _ Hb1.out).mono ?_; rintro e W2 ⟨rfl, hb2⟩; have Hb2 := hide (Hb1.out.trans (hb2.mono Hb1.out.size)); obtain ⟨x0, x1⟩ := layg HBOX.out Hb2.out; clear hb2)
      | (go_at_call 13; refine (K13.out _).mono ?_; rintro e W3 ⟨rfl, hb3⟩; have Hb3 := hide (Hb2.out.trans (hb3.mono Hb2.out.size)); obtain ⟨x0, x1⟩ := layg HBOX.out Hb3.out; clear hb3))
    clear K9 K10 K13 Hb1 Hb2
    have qn : ((n : Int) != (n : Int)) = false := bne_self_eq_false _
    go_upto_region 8 with (go_at_call 12; refine (table_ok a0 b0 a1 c0 e0 cap1 n m len1 t ns0 es0 z1 _ (HLM.out _ Hb3.out).1 (HLM.out _ Hb3.out).2 Ht.out).mono ?_; rintro e W5 ⟨⟨gN, l, hg5, rfl, ho5⟩, hb5⟩; have HG5 := hide hg5; have HO5 := hide ho5; have Hb5 : Hid (Below W0.heap.size W0 W5) := hide (Hb3.out.trans (hb5.mono Hb3.out.size)); obtain ⟨x0, x1⟩ := layg HBOX.out Hb5.out; clear hg5 ho5 hb5)
    have HLW : Hid (∀ W, Below W5.heap.size W5 W → Ly W a0 b0 c0 e0 n m ns0 es0 ∧ Mk W a1 cap1 len1 z1) := hide (fun W h => HLM.out W (Hb5.out.trans (h.mono Hb5.out.size)))
    have HXW : Hid (∀ W, Below W5.heap.size W5 W → W.cell? ⟨w.heap.size, 0, none⟩ = some (.slice a0 n c0) ∧ W.cell? ⟨w.heap.size, 1, none⟩ = some (.slice b0 m e0)) := hide (fun W h => layg HBOX.out (Hb5.out.trans (h.mono Hb5.out.size)))
    have HTW : Hid (∀ W, Below W5.heap.size W5 W → ∀ v, v < n → W.cell? ⟨gN, v, none⟩ = some (.int .i64 (stp ns0 es0 z1 l t (v : Int) (va l v - 1)))) := hide (fun W h v hv => ((HO5.out.keep h).at1 (Value.int .i64) (fun _ => rfl) rfl v _ (tbl_at ns0 es0 z1 l t n v hv)).1)
    have Hm : Hid (es0.length = m) := hide (HLM.out _ Hb5.out).1.hm
    have K26 : Hid (∀ W (u : Nat), Below W5.heap.size W5 W → u < n → Calls Try.prog 26 #[.agg #[.slice a0 n c0, .slice b0 m e0], .slice a1 len1 cap1, .int .i64 (u : Int)] W fun e w' => ∃ g, e = .returned (.tuple #[.slice (some ⟨g, 0, none⟩) n n, .int .i64 0]) ∧ w'.cell? ⟨g, t, none⟩ = some (.int .i64 (va l u)) ∧ Below W.heap.size W w') := hide (fun W u h hu => (from_ok a0 b0 a1 c0 e0 cap1 n m len1 u ns0 es0 z1 W (HLW.out W h).1 (HLW.out W h).2 hu).mono (by
      rintro e w' ⟨⟨g, l', rfl, ho, hf⟩, hb⟩
      have h1 : va l u = va l' t := far_both hf (by have := HG5.out.far; rw [Hm.out] at this; exact this) hu Ht.out
      exact ⟨g, rfl, by rw [h1]; exact (ho.at1 (Value.int .i64) (fun _ => rfl) rfl t _ (va_at l' t (by rw [hf.1]; exact Ht.out))).1, hb⟩))
    have K17 : Hid (∀ W (u : Nat), Below W5.heap.size W5 W → u < n → Calls Try.prog 17 #[.agg #[.slice a0 n c0, .slice b0 m e0], .slice a1 len1 cap1, .int .i64 (u : Int), .int .i64 (t : Int)] W fun e w' => ((va l u = -1 ∧ e = .returned (.tuple #[.slice none 0 0, .int .i64 80])) ∨ ∃ (k : Nat) (v : Value), va l u = (k : Int) ∧ e = .returned (.tuple #[v, .int .i64 0]) ∧ intE.Own w' W.heap.size v (pth ns0 es0 z1 l t k u)) ∧ Below W.heap.size W w') := hide (fun W u h hu => (path_ok a0 b0 a1 c0 e0 cap1 n m len1 u t ns0 es0 z1 W (HLW.out W h).1 (HLW.out W h).2 (by have := Hlen.out; omega) hu Ht.out).mono (by
      rintro e w' ⟨⟨l2, hg2, h2⟩, hb⟩
      obtain rfl := hg2.far.uniq HG5.out.far
      exact ⟨h2, hb⟩))
    go_wp2_with fail
    go_loopw [50] (fun v50 wr => ∃ k : Nat, k ≤ n ∧ v50 = .int .i64 k ∧ Hid (Below W5.heap.size W5 wr)) (fun v50 _ => n - (intOf v50).toNat)
    case atStart => exact ⟨0, by omega, rfl, hide (Below.refl _ _)⟩
    case round =>
      obtain ⟨u, hk, rfl, HB⟩ := hrel
      obtain ⟨x0, x1⟩ := HXW.out _ HB.out
      obtain ⟨wA, hwA⟩ : ∃ W, W = wr := ⟨_, rfl⟩
      rw [← hwA] at HB x0 x1
      rw [← hwA]
      clear hwA
      by_cases hlt : u < n
      · have j0 : (0 : Int) ≤ (u : Int) := by omega
        have j1 : (u : Int) < (n : Int) := by omega
        have Hun := hide hlt
        rcases Int.lt_or_le (va l u) 0 with hv | hv
        · have hv1 : va l u = -1 := by have := HG5.out.low u; omega
          have K17' : Hid (∀ W, Below W5.heap.size W5 W → Calls Try.prog 17 #[.agg #[.slice a0 n c0, .slice b0 m e0], .slice a1 len1 cap1, .int .i64 (u : Int), .int .i64 (t : Int)] W fun e w' => e = .returned (.tuple #[.slice none 0 0, .int .i64 80]) ∧ Below W.heap.size W w') := hide (fun W h => (K17.out W u h Hun.out).mono (by
            rintro e w' ⟨h1 | ⟨k, v, h1, _⟩, hb⟩
            · exact ⟨h1.2, hb⟩
            · omega))
          have K26' := hide (fun W h => K26.out W u h Hun.out)
          rw [hv1] at K26'
          clear hv hv1
          go_upto_region 12 with (go_at_call 26; refine (K26'.out _ HB.out).mono ?_; rintro e W6 ⟨gF, rfl, y0, hb6⟩; have HB6 := hide (HB.out.trans (hb6.mono HB.out.size)); obtain ⟨x0, x1⟩ := HXW.out _ HB6.out; clear hb6)
          go_upto_region 13 with (go_at_call 17; refine (K17'.out _ HB6.out).mono ?_; rintro e W7 ⟨rfl, hb7⟩; have HB7 := hide (HB6.out.trans (hb7.mono HB6.out.size)); have y1 := (hb7.cell (p := ⟨gF, t, none⟩) (cell_lt y0)).trans y0; obtain ⟨x0, x1⟩ := HXW.out _ HB7.out; clear hb7 y0)
          go_wp2_with fail
          go_loopw [14, 15] (fun v14 v15 wr => v14 = .int .i64 (u : Int) ∧ v15 = .int .i64 0 ∧ wr = W7) (fun _ _ _ => 0)
          case atStart => exact ⟨rfl, rfl, rfl⟩
          case round =>
            obtain ⟨rfl, rfl, hw⟩ := hrel
            have hw' := hw.symm
            clear hw
            subst hw'
            go_wp2_with fail
            go_roundw
            case rel => exact ⟨u + 1, by omega, by go_num, HB7⟩
            case measure => simp [intOf]; omega
        · obtain ⟨kk, hkk⟩ := Int.eq_ofNat_of_zero_le hv
          have Hkk := hide hkk
          have hkn : kk < n := by have := HG5.out.high u; omega
          have j2 : (kk : Int) < (n : Int) := by omega
          have j3 : (0 : Int) ≤ (kk : Int) := by omega
          have j4 : (kk : Int) ≥ 0 := j3
          have Hkn := hide hkn
          have K17' : Hid (∀ W, Below W5.heap.size W5 W → Calls Try.prog 17 #[.agg #[.slice a0 n c0, .slice b0 m e0], .slice a1 len1 cap1, .int .i64 (u : Int), .int .i64 (t : Int)] W fun e w' => (∃ aP cP, e = .returned (.tuple #[.slice aP kk cP, .int .i64 0]) ∧ intE.Rd w' (.slice aP kk cP) (pth ns0 es0 z1 l t kk u)) ∧ Below W.heap.size W w') := hide (fun W h => (K17.out W u h Hun.out).mono (by
            rintro e w' ⟨h1 | ⟨k, v, h1, rfl, h3⟩, hb⟩
            · omega
            · obtain rfl : k = kk := by omega
              obtain ⟨aP, cP, rfl⟩ := h3.rd.form
              have hl : (pth ns0 es0 z1 l t k u).length = k := pth_len k u
              rw [hl] at h3 ⊢
              exact ⟨⟨aP, cP, rfl, h3.rd⟩, hb⟩))
          have K26' := hide (fun W h => K26.out W u h Hun.out)
          rw [hkk] at K26'
          clear hv hkk hkn
          have qk : ((kk : Int) != (kk : Int)) = false := bne_self_eq_false _
          go_upto_region 12 with (go_at_call 26; refine (K26'.out _ HB.out).mono ?_; rintro e W6 ⟨gF, rfl, y0, hb6⟩; have HB6 := hide (HB.out.trans (hb6.mono HB.out.size)); obtain ⟨x0, x1⟩ := HXW.out _ HB6.out; clear hb6)
          go_upto_region 13 with (go_at_call 17; refine (K17'.out _ HB6.out).mono ?_; rintro e W7 ⟨⟨aP, cP, rfl, hrp⟩, hb7⟩; have HRp := hide hrp; have HB7 := hide (HB6.out.trans (hb7.mono HB6.out.size)); have y1 := (hb7.cell (p := ⟨gF, t, none⟩) (cell_lt y0)).trans y0; obtain ⟨x0, x1⟩ := HXW.out _ HB7.out; clear hb7 y0 hrp)
          go_wp2_with fail
          go_loopw [14, 15] (fun v14 v15 wr => ∃ (j r v : Nat), v14 = .int .i64 (v : Int) ∧ v15 = .int .i64 (j : Int) ∧ wr = W7 ∧ Hid (j + r = kk ∧ va l v = (r : Int) ∧ (pth ns0 es0 z1 l t kk u).drop j = pth ns0 es0 z1 l t r v)) (fun _ v15 _ => kk - (intOf v15).toNat)
          case atStart => exact ⟨0, kk, u, rfl, rfl, rfl, hide ⟨by omega, Hkk.out, rfl⟩⟩
          case round =>
            obtain ⟨j, r, v, rfl, rfl, hw, HX⟩ := hrel
            have hw' := hw.symm
            clear hw
            subst hw'
            rcases r with _ | r
            · have hvt : v = t := HG5.out.only (by simpa using HX.out.2.1)
              have hjk : j = kk := by have := HX.out.1; omega
              subst hvt
              subst hjk
              have q1 : ((v : Int) != (v : Int)) = false := bne_self_eq_false _
              have q2 : ¬ (j : Int) < (j : Int) := by omega
              go_wp2_with fail
              go_roundw
              case rel => exact ⟨u + 1, by omega, by go_num, HB7⟩
              case measure => simp [intOf]; omega
            · obtain ⟨i, y, g1, g2, g3, g4, g5, g6, g7, g8⟩ := HG5.out.on HX.out.2.1
              have hvn : v < n := HG5.out.out (by rw [HX.out.2.1]; omega)
              have hpj : (pth ns0 es0 z1 l t kk u)[j]? = some ((i + 1 : Nat) : Int) := by
                have h1 := HX.out.2.2
                have h2 : ((pth ns0 es0 z1 l t kk u).drop j)[0]? = (pth ns0 es0 z1 l t (r + 1) v)[0]? := by rw [h1]
                rw [List.getElem?_drop, Nat.add_zero] at h2
                rw [h2]
                unfold pth
                rw [g1]; rfl
              have HX1 : Hid (j + 1 + r = kk ∧ va l y = (r : Int) ∧ (pth ns0 es0 z1 l t kk u).drop (j + 1) = pth ns0 es0 z1 l t r y) := hide ⟨by have := HX.out.1; omega, g6, by
                have h1 := HX.out.2.2
                rw [← List.drop_drop, h1, show pth ns0 es0 z1 l t (r + 1) v = stp ns0 es0 z1 l t (v : Int) (r : Int) :: pth ns0 es0 z1 l t r (endN es0 (stp ns0 es0 z1 l t (v : Int) (r : Int))) from rfl, g8]
                rfl⟩
              have Htd : Hid (W7.cell? ⟨gN, v, none⟩ = some (.int .i64 ((i : Int) + 1))) := hide (by
                rw [HTW.out W7 HB7.out v hvn, HX.out.2.1, show ((r + 1 : Nat) : Int) - 1 = (r : Int) by omega, g1, show ((i + 1 : Nat) : Int) = (i : Int) + 1 by omega])
              rw [show ((i + 1 : Nat) : Int) = (i : Int) + 1 by omega] at hpj g5
              obtain ⟨bp, op, hap, cp⟩ := int_at HRp.out j _ hpj
              subst hap
              obtain ⟨be, oe, hae, ce0, ce1⟩ := ed_at (HLW.out W7 HB7.out).1.hu i ((v : Int), (y : Int)) g3
              subst hae
              simp only at ce0 ce1
              obtain ⟨bn, on, hbn, ck⟩ := (show ∃ b off, a0 = some ⟨b, off, none⟩ ∧ W7.cell? ⟨b, off + y * 3 + 1, none⟩ = some (.int .i64 (kindAt ns0 (y : Int))) from by
                have hl : y < ns0.length := by rw [(HLW.out W7 HB7.out).1.hn]; exact g4
                obtain ⟨b, off, h1, _, h2, _⟩ := nd_at (HLW.out W7 HB7.out).1.hv y _ (List.getElem?_eq_getElem hl)
                exact ⟨b, off, h1, by rw [kind_at (List.getElem?_eq_getElem hl)]; exact h2⟩)
              subst hbn
              have ct := Htd.out
              have p0 : (0 : Int) ≤ (v : Int) := by omega
              have p1 : (v : Int) < (n : Int) := by omega
              have p2 : (0 : Int) ≤ (j : Int) := by omega
              have p3 : (j : Int) < (kk : Int) := by have := HX.out.1; omega
              have p4 : (0 : Int) ≤ (i : Int) := by omega
              have p5 : (i : Int) < (m : Int) := by have := Hm.out; omega
              have p6 : ¬ ((i : Int) + 1 < 1) := by omega
              have p7 : ¬ ((i : Int) + 1 > (m : Int)) := by omega
              have p8 : ((i : Int) + 1 != (i : Int) + 1) = false := bne_self_eq_false _
              have p9 : ((v : Int) != (v : Int)) = false := bne_self_eq_false _
              have pa : (0 : Int) ≤ (y : Int) := by omega
              have pb : (y : Int) < (n : Int) := by omega
              have Hno := hide g5
              have Hkd := hide g7
              have HMm : Hid (intE.Rd W7 (.slice a1 len1 cap1) z1) := hide (HLW.out W7 HB7.out).2.hM
              have HMl : Hid (z1.length = len1) := hide (HLW.out W7 HB7.out).2.hk
              clear g1 g2 g3 g4 g5 g6 g7 g8 hvn hpj HX Htd
              go_upto_region 23 with fail
              go_loopw [138] (fun v138 wr => ∃ z : Nat, z ≤ len1 ∧ v138 = .int .i64 (z : Int) ∧ wr = W7) (fun v138 _ => len1 - (intOf v138).toNat)
              case atStart => exact ⟨0, by omega, rfl, rfl⟩
              case round =>
                obtain ⟨z, hz, rfl, hw⟩ := hrel
                have hw' := hw.symm
                clear hw
                subst hw'
                by_cases hzl : z < len1
                · obtain ⟨p, hp⟩ : ∃ p, z1[z]? = some p := ⟨_, List.getElem?_eq_getElem (by rw [HMl.out]; exact hzl)⟩
                  obtain ⟨bm, om, hbm, cm⟩ := int_at HMm.out z p hp
                  subst hbm
                  have z0 : (0 : Int) ≤ (z : Int) := by omega
                  have z1' : (z : Int) < (len1 : Int) := by omega
                  have zb : (p == (i : Int) + 1) = false := beq_eq_false_iff_ne.2 (fun e => by subst e; exact Hno.out (List.mem_of_getElem? hp))
                  clear hp
                  go_wp2_with fail
                  go_roundw
                  case rel => exact ⟨z + 1, by omega, by go_num, trivial⟩
                  case measure => simp [intOf]; omega
                · obtain rfl : z = len1 := by omega
                  have z1' : ¬ (z : Int) < (z : Int) := by omega
                  by_cases hyt : y = t
                  · subst hyt
                    have zq : ((y : Int) != (y : Int)) = false := bne_self_eq_false _
                    go_wp2_with fail
                    go_roundw
                    case rel => exact ⟨j + 1, r, y, rfl, by go_num, trivial, HX1⟩
                    case measure => simp [intOf]; omega
                  · have zq : ((y : Int) != (t : Int)) = true := bne_iff_ne.2 (by omega)
                    have hk1 : kindAt ns0 (y : Int) = 1 := Hkd.out.resolve_left hyt
                    rw [hk1] at ck
                    clear hk1
                    go_wp2_with fail
                    go_roundw
                    case rel => exact ⟨j + 1, r, y, rfl, by go_num, trivial, HX1⟩
                    case measure => simp [intOf]; omega
      · obtain rfl : u = n := by omega
        have j1 : ¬ (u : Int) < (u : Int) := by omega
        have ct := HTW.out _ HB.out t Ht.out
        rw [stp_neg (by rw [HG5.out.zero]; omega)] at ct
        go_wp2_with fail
        go_ret
        exact ⟨by first | rfl | simp, HA.out.trans ((Hb5.out.trans (HB.out.mono Hb5.out.size)).mono HA.out.size)⟩

set_option maxRecDepth 100000 in
theorem lifted (os : Os) (started : os.Started) (H : Type) (enc : TypeId × Value → H) :
    ReturnsInHanded {} Try.checked os 6 .any (Rows.routeFollowsSpec.pre6 enc Try.prog Try.f6 Rows.routeFollowsRow.domain false) (Rows.routeFollowsSpec.post enc Try.prog Try.f6 false true false false) := by
  refine returnsInHanded_of_change_sized (C := Try.checked) own started (by kernel_rfl) Try.func6
    (ChangeSpec.witness6 (enc := enc) (C := Try.checked) false ⟨#[], #[.agg #[.slice none 0 0, .slice none 0 0], .slice none 0 0, .int .i64 0], []⟩ 8 (by kernel_rfl) (by kernel_rfl) (by kernel_rfl) (by kernel_rfl)) ?_
  intro W base args ds gs before hval0 hW hcnd hsz0 _
  have hval : ∀ (j : Nat) t v, Try.f6.params[j]? = some t → args[j]? = some v → Value.okWide Try.prog W .any base t v := hval0
  have hsz : (DataW.weightsEach Try.prog (Try.f6.params.toList ++ Rows.routeFollowsSpec.plain.varTypes Try.prog) (ds ++ gs)).all (· ≤ reachBytes) = true := hsz0
  have hW' := hW
  obtain ⟨p, q, hA0, hV, rfl, hfz, hnd⟩ := hW
  have hA : DataW.TrodAll enc Try.prog W 0 (fun _ => true) true Try.f6.params.toList args.toList ds p := hA0
  rw [Try.params6] at hA hval hsz
  obtain ⟨v0, vs0, d0, ds0, p0, q0, hargs, rfl, rfl, h0, r0⟩ := trodAll_cons hA
  obtain ⟨v1, vs1, d1, ds1, p1, q1, rfl, rfl, rfl, h1, r1⟩ := trodAll_cons r0
  obtain ⟨v2, vs2, d2, ds2, p2, q2, rfl, rfl, rfl, h2, r2⟩ := trodAll_cons r1
  obtain ⟨rfl, rfl, rfl⟩ := trodAll_nil r2
  obtain rfl : args = #[v0, v1, v2] := by cases args; simp_all
  obtain ⟨rfl, rfl⟩ := trodVars_none hV
  have k0 := h0
  have lt0 : ∀ x ∈ p0, x.block < W.heap.size := by obtain ⟨m, hm⟩ := k0; exact DataW.trod_lt m _ _ _ hm
  obtain ⟨cs0, rfl, _⟩ := okWide_struct Try.underlying25 (hval 0 25 v0 rfl rfl)
  obtain ⟨a0, c0, b0, e0, ns0, es0, hcs0, rn0, re0, rs0⟩ : ∃ (a : Option Addr) (c : Nat) (a' : Option Addr) (c' : Nat) (ns : List Nd) (es : List Ed), cs0 = #[.slice a ns.length c, .slice a' es.length c'] ∧ ndE.Rd W (.slice a ns.length c) ns ∧ edE.Rd W (.slice a' es.length c') es ∧ ∀ n ∈ ns, n.name.size ≤ maxLen := by
    obtain ⟨fuel, hf⟩ := h0
    obtain ⟨a, c, a', c', ns, es, he, h1, h2, h3⟩ := layout_of_trod hf
    exact ⟨a, c, a', c', ns, es, by apply Array.toList_inj.1; exact he, h1, h2, h3⟩
  subst hcs0
  obtain ⟨a1, len1, cap1, rfl⟩ := okWide_slice Try.underlying26 (hval 1 26 v1 rfl rfl)
  have k1 := h1
  have lt1 : ∀ x ∈ p1, x.block < W.heap.size := by obtain ⟨m, hm⟩ := k1; exact DataW.trod_lt m _ _ _ hm
  obtain ⟨z1, w1, s1, _⟩ : ∃ zs : List Int, zs.length = len1 ∧ intE.Rd W (.slice a1 len1 cap1) zs ∧ ∀ y ∈ zs, (Lit.int .i64 y).wf = true := by
    obtain ⟨fuel, hf⟩ := h1
    exact rd_of_trod intE (fun y => (Lit.int .i64 y).wf = true) (by kernel_rfl) (fun n cs y hy => int_of_trod hy) hf rfl
  have k2 := h2
  have lt2 : ∀ x ∈ p2, x.block < W.heap.size := by obtain ⟨m, hm⟩ := k2; exact DataW.trod_lt m _ _ _ hm
  obtain ⟨n2, rfl⟩ := okWide_int Try.underlying3 (hval 2 3 v2 rfl rfl)
  have w2 : (Lit.int .i64 n2).wf = true := by
    obtain ⟨fuel, hf⟩ := h2
    obtain ⟨m, e, _, hw⟩ := DataW.trod_int Try.underlying3 hf
    simp [Value.cells] at e
    rw [e]; exact hw
  clear hA0 hval0
  refine (walk a0 b0 c0 e0 ns0 es0 a1 len1 cap1 z1 n2 W rn0 re0 rs0 w1 s1 (bounds_i64 w2)).mono fun e W' ⟨he, bel⟩ => ?_
  subst he
  exact ⟨_, rfl, _, _, _, [], _, [], hW', trodAll_mk1 (shut_bool Try.underlying4 _), (trodAll_cons_mk (Below.trod laidOut (by kernel_rfl) (of_decide_eq_true (by kernel_rfl)) k0 bel lt0) (trodAll_cons_mk (Below.trod laidOut (by kernel_rfl) (of_decide_eq_true (by kernel_rfl)) k1 bel lt1) (trodAll_cons_mk (Below.trod laidOut (by kernel_rfl) (of_decide_eq_true (by kernel_rfl)) k2 bel lt2) trodAll_mk0))), rfl, bel.frame _, fun h => by cases h⟩

theorem over : Rows.routeFollowsRow.holds Try.pinned (OpenSpec.ofChange Rows.routeFollowsSpec) :=
  OpenClaim.holds_of_wide 6 Try.f6 rfl rfl rfl rfl rfl rfl rfl ⟨rfl, rfl, rfl, rfl, rfl⟩ rfl rfl rfl rfl rfl (by kernel_rfl) Try.func6 (by kernel_rfl)
    (of_decide_eq_true (by kernel_rfl)) (by unfold Func.isWrapper; first | (rw [if_pos (by decide +kernel)]; kernel_rfl) | (rw [if_neg (by decide +kernel)]; exact ⟨rfl, rfl⟩))
    (fun os started H enc _ => lifted os started H enc)

theorem proved : Rows.RouteFollowsSaid := over
end Go.Proofs.Ytmkjpdmhplldjaa.routeFollows
