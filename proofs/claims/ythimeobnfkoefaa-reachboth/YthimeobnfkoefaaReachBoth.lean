/- For every layout and mask the law ReachBoth answers true: From and To tell the same lengths, and one edge more is one more at most; no conditions. -/
import Derived.Test.YthimeobnfkoefaaSmm
namespace Go.Proofs.Ythimeobnfkoefaa.reachBoth
open Go.ChangeShapes Go.WideShapes Go.ChangeAt Go.RowKit
set_option linter.unusedVariables false

theorem own : ownKnob Try.prog.godebug = none := by kernel_rfl
theorem laidOut : laidOutB Try.prog = true := by kernel_rfl

set_option maxRecDepth 100000 in
set_option maxHeartbeats 16000000 in
theorem walk (a0 b0 : Option Addr) (c0 e0 : Nat) (ns0 : List Nd) (es0 : List Ed) (a1 : Option Addr) (len1 cap1 : Nat) (z1 : List Int) (w : World) (rn0 : ndE.Rd w (.slice a0 ns0.length c0) ns0) (re0 : edE.Rd w (.slice b0 es0.length e0) es0) (rs0 : ∀ p ∈ ns0, p.name.size ≤ maxLen) (w1 : z1.length = len1) (s1 : intE.Rd w (.slice a1 len1 cap1) z1) :
    Calls Try.prog 7 #[.agg #[.slice a0 ns0.length c0, .slice b0 es0.length e0], .slice a1 len1 cap1] w fun e w' => e = .returned (.bool true) ∧ Below w.heap.size w w' := by
  obtain ⟨n, hn⟩ : ∃ n, ns0.length = n := ⟨_, rfl⟩
  obtain ⟨m, hm⟩ : ∃ m, es0.length = m := ⟨_, rfl⟩
  rw [hn] at rn0 ⊢
  rw [hm] at re0 ⊢
  obtain ⟨W0, hW0⟩ : ∃ W0, w.alloc (.cells #[.slice a0 n c0, .slice b0 m e0] 25) = W0 := ⟨_, rfl⟩
  have bA : Below w.heap.size w W0 := by rw [← hW0]; exact (Below.refl _ _).alloc (Nat.le_refl _) _
  have hbox : W0.heap[w.heap.size]? = some (.cells #[.slice a0 n c0, .slice b0 m e0] 25) := by rw [← hW0]; exact heap_new _ _
  have HBOX := hide hbox
  have HA := hide bA
  have HW0 := hide hW0
  have K9 := hide awake_any
  have HR : Hid (∀ W, Below W0.heap.size W0 W → ndE.Rd W (.slice a0 n c0) ns0 ∧ edE.Rd W (.slice b0 m e0) es0 ∧ intE.Rd W (.slice a1 len1 cap1) z1) := hide (fun W h => have b := bA.trans (h.mono bA.size); ⟨rn0.keep b, re0.keep b, s1.keep b⟩)
  have K10 : Hid (∀ W, Below W0.heap.size W0 W → Calls Try.prog 10 #[.agg #[.slice a0 n c0, .slice b0 m e0], .slice a1 len1 cap1] W fun e w' => e = .returned (.bool (decide (len1 ≤ 200) && good ns0 es0)) ∧ Below W.heap.size W w') := hide (fun W h => fits_any a0 b0 a1 c0 e0 cap1 n m len1 ns0 es0 W hn hm (HR.out W h).1 (HR.out W h).2.1 rs0)
  have HG : Hid ((decide (len1 ≤ 200) && good ns0 es0) = true → (∀ W, Below W0.heap.size W0 W → Ly W a0 b0 c0 e0 n m ns0 es0 ∧ Mk W a1 cap1 len1 z1) ∧ len1 ≤ 200 ∧ n ≤ 40 ∧ 1 ≤ n ∧ m ≤ 120) := hide (fun h => by
    simp only [Bool.and_eq_true, decide_eq_true_eq] at h
    have hg := good_ly h.2 hn hm (HR.out _ (Below.refl _ _)).1 (HR.out _ (Below.refl _ _)).2.1
    exact ⟨fun W hW => ⟨(good_ly h.2 hn hm (HR.out W hW).1 (HR.out W hW).2.1).1, w1, (HR.out W hW).2.2, by omega⟩, h.1, hg.2.2.1, hg.2.1, hg.2.2.2⟩)
  have Hw1 := hide w1
  clear rn0 re0 rs0 w1 s1 hn hm bA hbox hW0
  generalize (decide (len1 ≤ 200) && good ns0 es0) = gd at *
  go_enter Try.func7, Try.ntmps7
  go_upto_region 1 with fail
  rw [HW0.out]
  clear HW0
  go_upto_region 3 with (go_at_call 9; refine (K9.out _).mono ?_; rintro e W1 ⟨rfl, hb1⟩; have Hb1 := hide hb1; obtain ⟨x0, x1⟩ := layg HBOX.out hb1; clear hb1)
  by_cases h25 : (25 : Int) < (n : Int)
  · cases gd with
    | false =>
      go_wp2_with (go_at_call 10; refine (K10.out _ Hb1.out).mono ?_; rintro e W2 ⟨rfl, hb2⟩; have Hb2 := hide (Hb1.out.trans (hb2.mono Hb1.out.size)); clear hb2)
      go_ret
      exact ⟨rfl, HA.out.trans (Hb2.out.mono HA.out.size)⟩
    | true =>
      go_wp2_with (go_at_call 10; refine (K10.out _ Hb1.out).mono ?_; rintro e W2 ⟨rfl, hb2⟩; have Hb2 := hide (Hb1.out.trans (hb2.mono Hb1.out.size)); obtain ⟨x0, x1⟩ := layg HBOX.out Hb2.out; clear hb2)
      go_ret
      exact ⟨rfl, HA.out.trans (Hb2.out.mono HA.out.size)⟩
  cases gd with
  | false =>
    go_wp2_with (go_at_call 10; refine (K10.out _ Hb1.out).mono ?_; rintro e W2 ⟨rfl, hb2⟩; have Hb2 := hide (Hb1.out.trans (hb2.mono Hb1.out.size)); clear hb2)
    go_ret
    exact ⟨rfl, HA.out.trans (Hb2.out.mono HA.out.size)⟩
  | true =>
    obtain ⟨hLM, hlen, hn40, hn1, hm12⟩ := HG.out rfl
    have HLM := hide hLM
    have Hlen := hide hlen
    have Hn40 := hide hn40
    have l1 : (len1 : Int) ≤ 200 := by omega
    have l2 : (n : Int) ≤ 40 := by omega
    have l3 : (1 : Int) ≤ (n : Int) := by omega
    have l4 : (m : Int) ≤ 120 := by omega
    clear hLM hlen hn40 hn1 hm12 HG HR
    go_upto_region 5 with (go_at_call 10; refine (K10.out _ Hb1.out).mono ?_; rintro e W2 ⟨rfl, hb2⟩; have Hb2 := hide (Hb1.out.trans (hb2.mono Hb1.out.size)); obtain ⟨x0, x1⟩ := layg HBOX.out Hb2.out; clear hb2)
    clear K9 K10
    have Hn25 : Hid (n ≤ 25) := hide (by omega)
    clear h25
    have HK12 : Hid (∀ (W : World) (i : Nat), Below W0.heap.size W0 W → i < n → Calls Try.prog 12 #[.agg #[.slice a0 n c0, .slice b0 m e0], .slice a1 len1 cap1, .int .i64 (i : Int)] W fun e w' => ∃ g l, e = .returned (.tuple #[.slice (some ⟨g, 0, none⟩) n n, .int .i64 0]) ∧ intE.Own w' W.heap.size (.slice (some ⟨g, 0, none⟩) n n) l ∧ Far (Eg es0 (clo m z1) 0) (Tk ns0) i n l ∧ Below W.heap.size W w') := hide (fun W i h hi => (from_ok _ _ _ _ _ _ _ _ _ _ ns0 es0 z1 _ (HLM.out _ h).1 (HLM.out _ h).2 hi).mono (by rintro e w' ⟨⟨g, l, h1, h2, h3⟩, h4⟩; exact ⟨g, l, h1, h2, h3, h4⟩))
    have HK13 : Hid (∀ (W : World) (i : Nat), Below W0.heap.size W0 W → i < n → Calls Try.prog 13 #[.agg #[.slice a0 n c0, .slice b0 m e0], .slice a1 len1 cap1, .int .i64 (i : Int)] W fun e w' => ∃ g l, e = .returned (.tuple #[.slice (some ⟨g, 0, none⟩) n n, .int .i64 0]) ∧ intE.Own w' W.heap.size (.slice (some ⟨g, 0, none⟩) n n) l ∧ Far (Eg es0 (clo m z1) 1) (Tk ns0) i n l ∧ Below W.heap.size W w') := hide (fun W i h hi => (to_ok _ _ _ _ _ _ _ _ _ _ ns0 es0 z1 _ (HLM.out _ h).1 (HLM.out _ h).2 hi).mono (by rintro e w' ⟨⟨g, l, h1, h2, h3⟩, h4⟩; exact ⟨g, l, h1, h2, h3, h4⟩))
    have q1 : ((n : Int) != (n : Int)) = false := bne_self_eq_false _
    go_wp2_with fail
    go_loopw [6] (fun v6 wr => ∃ (k : Nat), k ≤ n ∧ v6 = .int .i64 k ∧ Hid (Below W0.heap.size W0 wr)) (fun v6 _ => n - (intOf v6).toNat)
    case atStart => exact ⟨0, by omega, rfl, Hb2⟩
    case round =>
      clear x0 x1 Hb2 Hb1
      obtain ⟨k, hk, rfl, HB⟩ := hrel
      by_cases hlt : k < n
      · have Hlt := hide hlt
        have j0 : (0 : Int) ≤ (k : Int) := by omega
        have j1 : (k : Int) < (n : Int) := by omega
        obtain ⟨x0, x1⟩ := layg HBOX.out HB.out
        clear hk hlt
        go_upto_region 10 with (go_at_call 12; refine (HK12.out _ k HB.out Hlt.out).mono ?_; rintro e W6 ⟨gx, lx, rfl, hO6, hF6, hb6⟩
                                have HF := hide hF6
                                have HO6 := hide hO6
                                have HB6 : Hid (Below W0.heap.size W0 W6) := hide (HB.out.trans (hb6.mono HB.out.size))
                                clear hO6 hF6 hb6)
        clear x0 x1
        have HX : Hid (∀ (W : World) (v : Nat), Below W6.heap.size W6 W → v < n → W.cell? ⟨gx, v, none⟩ = some (.int .i64 (va lx v))) := hide (fun W v h hv => by
          have h1 := (HO6.out.keep h).at1 (Value.int .i64) (fun _ => rfl) rfl v _ (va_at lx v (by rw [HF.out.1]; exact hv))
          exact h1.1)
        have y0 := HX.out W6 k (Below.refl _ _) Hlt.out
        rw [far_self HF.out Hlt.out] at y0
        go_wp2_with fail
        clear y0
        go_loopw [9] (fun v9 wr => ∃ (j : Nat), j ≤ n ∧ v9 = .int .i64 j ∧ Hid (Below W6.heap.size W6 wr)) (fun v9 _ => n - (intOf v9).toNat)
        case atStart => exact ⟨0, by omega, rfl, hide (Below.refl _ _)⟩
        case round =>
          obtain ⟨j, hj, rfl, HBi⟩ := hrel
          by_cases hlt2 : j < n
          · have Hlt2 := hide hlt2
            have j2 : (0 : Int) ≤ (j : Int) := by omega
            have j3 : (j : Int) < (n : Int) := by omega
            have HBW : Hid (Below W0.heap.size W0 wr) := hide (HB6.out.trans (HBi.out.mono HB6.out.size))
            obtain ⟨x0, x1⟩ := layg HBOX.out HBW.out
            clear hj hlt2
            go_upto_region 16 with (go_at_call 13; refine (HK13.out _ j HBW.out Hlt2.out).mono ?_; rintro e W7 ⟨gy, ly, rfl, hO7, hF7, hb7⟩
                                    have y1 := (hO7.at1 (Value.int .i64) (fun _ => rfl) rfl k _ (va_at ly k (by rw [hF7.1]; exact Hlt.out))).1
                                    rw [far_both HF.out hF7 Hlt.out Hlt2.out] at y1
                                    have HB7 : Hid (Below W6.heap.size W6 W7) := hide (HBi.out.trans (hb7.mono HBi.out.size))
                                    clear hO7 hF7 hb7)
            have y2 := HX.out W7 j HB7.out Hlt2.out
            generalize va lx j = d at y1 y2
            have hdd : (d != d) = false := bne_self_eq_false _
            clear x0 x1
            go_quiet (fail)
            go_wp2_with fail
            go_roundw
            case rel => exact ⟨j + 1, by have := Hlt2.out; omega, by go_num, hide (below_heap HB7.out rfl rfl rfl rfl)⟩
            case measure => have := Hlt2.out; simp [intOf]; omega
          · obtain rfl : j = n := by omega
            have j5 : ¬ (j : Int) < (j : Int) := by omega
            obtain ⟨n, rfl⟩ : ∃ n', n' = j := ⟨_, rfl⟩
            have HBW : Hid (Below W0.heap.size W0 wr) := hide (HB6.out.trans (HBi.out.mono HB6.out.size))
            obtain ⟨x0, x1⟩ := layg HBOX.out HBW.out
            go_wp2_with fail
            clear x0 x1
            go_loopw [90] (fun v90 wr => ∃ (i : Nat), i ≤ m ∧ v90 = .int .i64 i ∧ Hid (Below W6.heap.size W6 wr)) (fun v90 _ => m - (intOf v90).toNat)
            case atStart => exact ⟨0, by omega, rfl, HBi⟩
            case round =>
              clear HBi HBW
              obtain ⟨i, hi, rfl, HBi⟩ := hrel
              have HBW : Hid (Below W0.heap.size W0 wr) := hide (HB6.out.trans (HBi.out.mono HB6.out.size))
              by_cases hlt3 : i < m
              · have HLy := hide (HLM.out wr HBW.out).1
                obtain ⟨p, hp⟩ : ∃ p, es0[i]? = some p := ⟨_, List.getElem?_eq_getElem (by rw [HLy.out.hm]; exact hlt3)⟩
                obtain ⟨y, z⟩ := p
                have hpb := HLy.out.hE _ (List.mem_of_getElem? hp)
                simp only at hpb
                obtain ⟨y', hy⟩ := Int.eq_ofNat_of_zero_le hpb.1
                obtain ⟨z', hz⟩ := Int.eq_ofNat_of_zero_le hpb.2.2.1
                subst hy
                subst hz
                obtain ⟨bE, offE, rfl, e1, e2⟩ := ed_at HLy.out.hu i _ hp
                simp only at e1 e2
                have yn : (y' : Int) < (n : Int) := hpb.2.1
                have zn : (z' : Int) < (n : Int) := hpb.2.2.2
                have y0 : (0 : Int) ≤ (y' : Int) := by omega
                have z0 : (0 : Int) ≤ (z' : Int) := by omega
                obtain ⟨p, hpn⟩ : ∃ p, ns0[y']? = some p := ⟨_, List.getElem?_eq_getElem (by rw [HLy.out.hn]; omega)⟩
                obtain ⟨nm, kd, zo⟩ := p
                have Hkd : Hid (kindAt ns0 (y' : Int) = kd) := hide (kind_at hpn)
                obtain ⟨WA, hWA⟩ : ∃ WA, wr.alloc (.cells #[.int .i64 (y' : Int), .int .i64 (z' : Int)] 37) = WA := ⟨_, rfl⟩
                have bB : Below wr.heap.size wr WA := by rw [← hWA]; exact (Below.refl _ _).alloc (Nat.le_refl _) _
                have hbx : WA.heap[wr.heap.size]? = some (.cells #[.int .i64 (y' : Int), .int .i64 (z' : Int)] 37) := by rw [← hWA]; exact heap_new _ _
                have k0 := (cells_at hbx 0).1
                have k1 := (cells_at hbx 1).1
                simp at k0 k1
                have HBA : Hid (Below W6.heap.size W6 WA) := hide (HBi.out.trans (bB.mono HBi.out.size))
                have HBW2 : Hid (Below W0.heap.size W0 WA) := hide (HB6.out.trans (HBA.out.mono HB6.out.size))
                obtain ⟨bN, offN, haN, _, cK, _⟩ := nd_at (HLM.out WA HBW2.out).1.hv y' _ hpn
                simp only at cK
                subst haN
                obtain ⟨x0, x1⟩ := layg HBOX.out HBW2.out
                have cy := HX.out WA y' HBA.out (by omega)
                have cz := HX.out WA z' HBA.out (by omega)
                have Hst : Hid (((i : Int) + 1) ∉ z1 → (y' = k ∨ kd = 1) → 0 ≤ va lx y' → 0 ≤ va lx z' ∧ va lx z' ≤ va lx y' + 1) := hide (fun h1 h2 h3 => far_step HF.out (by omega) (by omega) ⟨i, by rw [clo_at m z1 i hlt3, decide_eq_false (show ¬ ((i + 1 : Nat) : Int) ∈ z1 from h1)], by rw [hp]; rfl⟩ (h2.elim .inl (fun h => .inr (by unfold Tk; rw [Hkd.out]; exact h))) h3)
                have Hbd : Hid (-1 ≤ va lx y' ∧ va lx y' ≤ 1000) := hide ⟨far_low HF.out y', by
                  have h1 := far_high (fun u v h => eg_lt HLy.out.hE h) Hlt.out HF.out y'
                  have := Hn25.out
                  omega⟩
                have K22 : Hid (∀ q, Calls Try.prog 22 #[.slice a1 len1 cap1, .int .i64 ((i : Int) + 1)] (WA.drewN q) fun e w' => e = .returned (.bool (decide (((i : Int) + 1) ∉ z1))) ∧ w' = WA.drewN q) := hide (fun q => open_any a1 cap1 len1 z1 _ (WA.drewN q) Hw1.out (rd_heap (HLM.out WA HBW2.out).2.hM rfl) (by have := Hlen.out; omega))
                have j6 : (0 : Int) ≤ (i : Int) := by omega
                have j7 : (i : Int) < (m : Int) := by omega
                obtain ⟨dy, hdy⟩ : ∃ d, va lx y' = d := ⟨_, rfl⟩
                obtain ⟨dz, hdz⟩ : ∃ d, va lx z' = d := ⟨_, rfl⟩
                rw [hdy] at cy Hst Hbd
                rw [hdz] at cz Hst
                have hw1 : IntKind.i64.wrap (dy + 1) = dy + 1 := i64_small _ (by have := Hbd.out; omega) (by have := Hbd.out; omega)
                have HWA := hide hWA
                clear hp hpb hpn bB hbx hWA hdy hdz HLy
                go_upto_region 21 with fail
                rw [HWA.out]
                clear HWA e1 e2
                by_cases hop : ((i : Int) + 1) ∈ z1
                · have top : decide (((i : Int) + 1) ∉ z1) = false := decide_eq_false (fun h => h hop)
                  rw [top] at K22
                  clear hop
                  go_quiet ((go_at_call 22; exact Calls.quiet_of_same (K22.out _)))
                  go_wp2_with fail
                  go_roundw
                  case rel => exact ⟨i + 1, by omega, by go_num, hide (below_heap HBA.out (by rfl) (by rfl) (by rfl) (by rfl))⟩
                  case measure => simp [intOf]; omega
                · have top : decide (((i : Int) + 1) ∉ z1) = true := decide_eq_true hop
                  have Hst2 := hide (Hst.out hop)
                  rw [top] at K22
                  clear hop Hst
                  by_cases hy0 : 0 ≤ dy
                  · have hyd : decide (0 ≤ dy) = true := decide_eq_true hy0
                    by_cases hyk : y' = k
                    · have hbe : ((y' : Int) == (k : Int)) = true := beq_iff_eq.2 (by omega)
                      have hr := Hst2.out (.inl hyk) hy0
                      clear hyk
                      have hr1 : ¬ dz < 0 := by omega
                      have hr2 : ¬ dy + 1 < dz := by omega
                      have hd1 : decide (dz < 0) = false := decide_eq_false hr1
                      have hd2 : decide (dy + 1 < dz) = false := decide_eq_false hr2
                      clear hr
                      go_quiet ((go_at_call 22; exact Calls.quiet_of_same (K22.out _)))
                      go_wp2_with fail
                      go_roundw
                      case rel => exact ⟨i + 1, by omega, by go_num, hide (below_heap HBA.out (by rfl) (by rfl) (by rfl) (by rfl))⟩
                      case measure => simp [intOf]; omega
                    · have hbe : ((y' : Int) == (k : Int)) = false := beq_eq_false_iff_ne.2 (by omega)
                      clear hyk
                      by_cases hk1 : kd = 1
                      · have hkb : (kd == 1) = true := beq_iff_eq.2 hk1
                        have hr := Hst2.out (.inr hk1) hy0
                        clear hk1
                        have hr1 : ¬ dz < 0 := by omega
                        have hr2 : ¬ dy + 1 < dz := by omega
                        have hd1 : decide (dz < 0) = false := decide_eq_false hr1
                        have hd2 : decide (dy + 1 < dz) = false := decide_eq_false hr2
                        clear hr
                        go_quiet ((go_at_call 22; exact Calls.quiet_of_same (K22.out _)))
                        go_wp2_with fail
                        go_roundw
                        case rel => exact ⟨i + 1, by omega, by go_num, hide (below_heap HBA.out (by rfl) (by rfl) (by rfl) (by rfl))⟩
                        case measure => simp [intOf]; omega
                      · have hkb : (kd == 1) = false := beq_eq_false_iff_ne.2 hk1
                        clear hk1
                        go_quiet ((go_at_call 22; exact Calls.quiet_of_same (K22.out _)))
                        go_wp2_with fail
                        go_roundw
                        case rel => exact ⟨i + 1, by omega, by go_num, hide (below_heap HBA.out (by rfl) (by rfl) (by rfl) (by rfl))⟩
                        case measure => simp [intOf]; omega
                  · have hyd : decide (0 ≤ dy) = false := decide_eq_false hy0
                    go_quiet ((go_at_call 22; exact Calls.quiet_of_same (K22.out _)))
                    go_wp2_with fail
                    go_roundw
                    case rel => exact ⟨i + 1, by omega, by go_num, hide (below_heap HBA.out (by rfl) (by rfl) (by rfl) (by rfl))⟩
                    case measure => simp [intOf]; omega
              · obtain rfl : i = m := by omega
                have j8 : ¬ (i : Int) < (i : Int) := by omega
                go_wp2_with fail
                go_roundw
                case rel => exact ⟨k + 1, by have := Hlt.out; omega, by go_num, HBW⟩
                case measure => have := Hlt.out; simp [intOf]; omega
      · obtain rfl : k = n := by omega
        have j1 : ¬ (k : Int) < (k : Int) := by omega
        go_wp2_with fail
        go_ret
        exact ⟨rfl, HA.out.trans (HB.out.mono HA.out.size)⟩

set_option maxRecDepth 100000 in
theorem lifted (os : Os) (started : os.Started) (H : Type) (enc : TypeId × Value → H) :
    ReturnsInHanded {} Try.checked os 7 .any (Rows.reachBothSpec.pre6 enc Try.prog Try.f7 Rows.reachBothRow.domain false) (Rows.reachBothSpec.post enc Try.prog Try.f7 false true false false) := by
  refine returnsInHanded_of_change_sized (C := Try.checked) own started (by kernel_rfl) Try.func7
    (ChangeSpec.witness6 (enc := enc) (C := Try.checked) false ⟨#[], #[.agg #[.slice none 0 0, .slice none 0 0], .slice none 0 0], []⟩ 8 (by kernel_rfl) (by kernel_rfl) (by kernel_rfl) (by kernel_rfl)) ?_
  intro W base args ds gs before hval0 hW hcnd hsz0 _
  have hval : ∀ (j : Nat) t v, Try.f7.params[j]? = some t → args[j]? = some v → Value.okWide Try.prog W .any base t v := hval0
  have hsz : (DataW.weightsEach Try.prog (Try.f7.params.toList ++ Rows.reachBothSpec.plain.varTypes Try.prog) (ds ++ gs)).all (· ≤ reachBytes) = true := hsz0
  have hW' := hW
  obtain ⟨p, q, hA0, hV, rfl, hfz, hnd⟩ := hW
  have hA : DataW.TrodAll enc Try.prog W 0 (fun _ => true) true Try.f7.params.toList args.toList ds p := hA0
  rw [Try.params7] at hA hval hsz
  obtain ⟨v0, vs0, d0, ds0, p0, q0, hargs, rfl, rfl, h0, r0⟩ := trodAll_cons hA
  obtain ⟨v1, vs1, d1, ds1, p1, q1, rfl, rfl, rfl, h1, r1⟩ := trodAll_cons r0
  obtain ⟨rfl, rfl, rfl⟩ := trodAll_nil r1
  obtain rfl : args = #[v0, v1] := by cases args; simp_all
  obtain ⟨rfl, rfl⟩ := trodVars_none hV
  have k0 := h0
  have lt0 : ∀ x ∈ p0, x.block < W.heap.size := by obtain ⟨m, hm⟩ := k0; exact DataW.trod_lt m _ _ _ hm
  obtain ⟨cs0, rfl, _⟩ := okWide_struct Try.underlying25 (hval 0 25 v0 rfl rfl)
  obtain ⟨a0, c0, b0, e0, ns0, es0, hcs0, rn0, re0, rs0⟩ : ∃ (a : Option Addr) (c : Nat) (a' : Option Addr) (c' : Nat) (ns : List Nd) (es : List Ed), cs0 = #[.slice a ns.length c, .slice a' es.length c'] ∧ ndE.Rd W (.slice a ns.length c) ns ∧ edE.Rd W (.slice a' es.length c') es ∧ ∀ n ∈ ns, n.name.size ≤ maxLen := by
    obtain ⟨fuel, hf⟩ := h0
    obtain ⟨a, c, a', c', ns, es, he, h1, h2, h3⟩ := layout_of_trod hf
    exact ⟨a, c, a', c', ns, es, by apply Array.toList_inj.1; exact he, h1, h2, h3⟩
  subst hcs0
  obtain ⟨a1, len1, cap1, rfl⟩ := okWide_slice Try.underlying26 (hval 1 26 v1 rfl rfl)
  have k1 := h1
  have lt1 : ∀ x ∈ p1, x.block < W.heap.size := by obtain ⟨m, hm⟩ := k1; exact DataW.trod_lt m _ _ _ hm
  obtain ⟨z1, w1, s1, _⟩ : ∃ zs : List Int, zs.length = len1 ∧ intE.Rd W (.slice a1 len1 cap1) zs ∧ ∀ y ∈ zs, (Lit.int .i64 y).wf = true := by
    obtain ⟨fuel, hf⟩ := h1
    exact rd_of_trod intE (fun y => (Lit.int .i64 y).wf = true) (by kernel_rfl) (fun n cs y hy => int_of_trod hy) hf rfl
  clear hA0 hval0
  refine (walk a0 b0 c0 e0 ns0 es0 a1 len1 cap1 z1 W rn0 re0 rs0 w1 s1).mono fun e W' ⟨he, bel⟩ => ?_
  subst he
  exact ⟨_, rfl, _, _, _, [], _, [], hW', trodAll_mk1 (shut_bool Try.underlying4 _), (trodAll_cons_mk (Below.trod laidOut (by kernel_rfl) (of_decide_eq_true (by kernel_rfl)) k0 bel lt0) (trodAll_cons_mk (Below.trod laidOut (by kernel_rfl) (of_decide_eq_true (by kernel_rfl)) k1 bel lt1) trodAll_mk0)), rfl, bel.frame _, fun h => by cases h⟩

theorem over : Rows.reachBothRow.holds Try.pinned (OpenSpec.ofChange Rows.reachBothSpec) :=
  OpenClaim.holds_of_wide 7 Try.f7 rfl rfl rfl rfl rfl rfl rfl ⟨rfl, rfl, rfl, rfl, rfl⟩ rfl rfl rfl rfl rfl (by kernel_rfl) Try.func7 (by kernel_rfl)
    (of_decide_eq_true (by kernel_rfl)) (by unfold Func.isWrapper; first | (rw [if_pos (by decide +kernel)]; kernel_rfl) | (rw [if_neg (by decide +kernel)]; exact ⟨rfl, rfl⟩))
    (fun os started H enc _ => lifted os started H enc)

theorem proved : Rows.ReachBothSaid := over
end Go.Proofs.Ythimeobnfkoefaa.reachBoth
