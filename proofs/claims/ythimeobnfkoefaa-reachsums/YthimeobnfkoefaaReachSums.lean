/- For every layout and mask the law ReachSums answers true: by way of a track no shortest way is longer than its two parts, and each way of two edges or more goes by a track; no conditions. -/
import Derived.Test.YthimeobnfkoefaaSmm
namespace Go.Proofs.Ythimeobnfkoefaa.reachSums
open Go.ChangeShapes Go.WideShapes Go.ChangeAt Go.RowKit
set_option linter.unusedVariables false

theorem own : ownKnob Try.prog.godebug = none := by kernel_rfl
theorem laidOut : laidOutB Try.prog = true := by kernel_rfl

set_option maxRecDepth 100000 in
set_option maxHeartbeats 16000000 in
theorem walk (a0 b0 : Option Addr) (c0 e0 : Nat) (ns0 : List Nd) (es0 : List Ed) (a1 : Option Addr) (len1 cap1 : Nat) (z1 : List Int) (w : World) (rn0 : ndE.Rd w (.slice a0 ns0.length c0) ns0) (re0 : edE.Rd w (.slice b0 es0.length e0) es0) (rs0 : ∀ p ∈ ns0, p.name.size ≤ maxLen) (w1 : z1.length = len1) (s1 : intE.Rd w (.slice a1 len1 cap1) z1) :
    Calls Try.prog 8 #[.agg #[.slice a0 ns0.length c0, .slice b0 es0.length e0], .slice a1 len1 cap1] w fun e w' => e = .returned (.bool true) ∧ Below w.heap.size w w' := by
  obtain ⟨n, hn⟩ : ∃ n, ns0.length = n := ⟨_, rfl⟩
  obtain ⟨m, hm⟩ : ∃ m, es0.length = m := ⟨_, rfl⟩
  rw [hn] at rn0 ⊢
  rw [hm] at re0 ⊢
  obtain ⟨W0, hW0⟩ : ∃ W0, w.alloc (.cells #[.slice a0 n c0, .slice b0 m e0] 25) = W0 := ⟨_, rfl⟩
  have bA : Below w.heap.size w W0 := by rw [← hW0]; exact (Below.refl _ _).alloc (Nat.le_refl _) _
  have hbox : W0.heap[w.heap.size]? = some (.cells #[.slice a0 n c0, .slice b0 m e0] 25) := by rw [← hW0]; exact heap_new _ _
  have HBOX := hide hbox
  have HA := hide bA
  have HW0 := hide hW0
  have K9 := hide awake_any
  have HR : Hid (∀ W, Below W0.heap.size W0 W → ndE.Rd W (.slice a0 n c0) ns0 ∧ edE.Rd W (.slice b0 m e0) es0 ∧ intE.Rd W (.slice a1 len1 cap1) z1) := hide (fun W h => have b := bA.trans (h.mono bA.size); ⟨rn0.keep b, re0.keep b, s1.keep b⟩)
  have K10 : Hid (∀ W, Below W0.heap.size W0 W → Calls Try.prog 10 #[.agg #[.slice a0 n c0, .slice b0 m e0], .slice a1 len1 cap1] W fun e w' => e = .returned (.bool (decide (len1 ≤ 200) && good ns0 es0)) ∧ Below W.heap.size W w') := hide (fun W h => fits_any a0 b0 a1 c0 e0 cap1 n m len1 ns0 es0 W hn hm (HR.out W h).1 (HR.out W h).2.1 rs0)
  have HG : Hid ((decide (len1 ≤ 200) && good ns0 es0) = true → (∀ W, Below W0.heap.size W0 W → Ly W a0 b0 c0 e0 n m ns0 es0 ∧ Mk W a1 cap1 len1 z1) ∧ len1 ≤ 200 ∧ n ≤ 40 ∧ 1 ≤ n ∧ m ≤ 120) := hide (fun h => by
    simp only [Bool.and_eq_true, decide_eq_true_eq] at h
    have hg := good_ly h.2 hn hm (HR.out _ (Below.refl _ _)).1 (HR.out _ (Below.refl _ _)).2.1
    exact ⟨fun W hW => ⟨(good_ly h.2 hn hm (HR.out W hW).1 (HR.out W hW).2.1).1, w1, (HR.out W hW).2.2, by omega⟩, h.1, hg.2.2.1, hg.2.1, hg.2.2.2⟩)
  have Hw1 := hide w1
  clear rn0 re0 rs0 w1 s1 hn hm bA hbox hW0
  generalize (decide (len1 ≤ 200) && good ns0 es0) = gd at *
  go_enter Try.func8, Try.ntmps8
  go_upto_region 1 with fail
  rw [HW0.out]
  clear HW0
  go_upto_region 3 with (go_at_call 9; refine (K9.out _).mono ?_; rintro e W1 ⟨rfl, hb1⟩; have Hb1 := hide hb1; obtain ⟨x0, x1⟩ := layg HBOX.out hb1; clear hb1)
  by_cases h20 : (20 : Int) < (n : Int)
  · cases gd with
    | false =>
      go_wp2_with (go_at_call 10; refine (K10.out _ Hb1.out).mono ?_; rintro e W2 ⟨rfl, hb2⟩; have Hb2 := hide (Hb1.out.trans (hb2.mono Hb1.out.size)); clear hb2)
      go_ret
      exact ⟨rfl, HA.out.trans (Hb2.out.mono HA.out.size)⟩
    | true =>
      go_wp2_with (go_at_call 10; refine (K10.out _ Hb1.out).mono ?_; rintro e W2 ⟨rfl, hb2⟩; have Hb2 := hide (Hb1.out.trans (hb2.mono Hb1.out.size)); obtain ⟨x0, x1⟩ := layg HBOX.out Hb2.out; clear hb2)
      go_ret
      exact ⟨rfl, HA.out.trans (Hb2.out.mono HA.out.size)⟩
  cases gd with
  | false =>
    go_wp2_with (go_at_call 10; refine (K10.out _ Hb1.out).mono ?_; rintro e W2 ⟨rfl, hb2⟩; have Hb2 := hide (Hb1.out.trans (hb2.mono Hb1.out.size)); clear hb2)
    go_ret
    exact ⟨rfl, HA.out.trans (Hb2.out.mono HA.out.size)⟩
  | true =>
    obtain ⟨hLM, hlen, hn40, hn1, hm12⟩ := HG.out rfl
    have HLM := hide hLM
    have Hlen := hide hlen
    have Hn40 := hide hn40
    have l1 : (len1 : Int) ≤ 200 := by omega
    have l2 : (n : Int) ≤ 40 := by omega
    have l3 : (1 : Int) ≤ (n : Int) := by omega
    have l4 : (m : Int) ≤ 120 := by omega
    have Hn1 := hide hn1
    clear hLM hlen hn40 hn1 hm12 HG HR
    go_upto_region 5 with (go_at_call 10; refine (K10.out _ Hb1.out).mono ?_; rintro e W2 ⟨rfl, hb2⟩; have Hb2 := hide (Hb1.out.trans (hb2.mono Hb1.out.size)); obtain ⟨x0, x1⟩ := layg HBOX.out Hb2.out; clear hb2)
    clear K9 K10
    have Hn20 : Hid (n ≤ 20) := hide (by omega)
    clear h20
    have HK12 : Hid (∀ (W : World) (i : Nat), Below W0.heap.size W0 W → i < n → Calls Try.prog 12 #[.agg #[.slice a0 n c0, .slice b0 m e0], .slice a1 len1 cap1, .int .i64 (i : Int)] W fun e w' => ∃ g l, e = .returned (.tuple #[.slice (some ⟨g, 0, none⟩) n n, .int .i64 0]) ∧ intE.Own w' W.heap.size (.slice (some ⟨g, 0, none⟩) n n) l ∧ Far (Eg es0 (clo m z1) 0) (Tk ns0) i n l ∧ Below W.heap.size W w') := hide (fun W i h hi => (from_ok _ _ _ _ _ _ _ _ _ _ ns0 es0 z1 _ (HLM.out _ h).1 (HLM.out _ h).2 hi).mono (by rintro e w' ⟨⟨g, l, h1, h2, h3⟩, h4⟩; exact ⟨g, l, h1, h2, h3, h4⟩))
    have q1 : ((n : Int) != (n : Int)) = false := bne_self_eq_false _
    go_wp2_with fail
    go_loopw [6, 7] (fun v6 v7 wr => ∃ (k : Nat) (ps : List Rw), k ≤ n ∧ v7 = .int .i64 k ∧ Hid ((farE n).Own wr W0.heap.size v6 ps) ∧ Hid (ps.length = k ∧ ∀ (i : Nat) p, ps[i]? = some p → intE.Own wr W0.heap.size (.slice (some ⟨p.1, 0, none⟩) n n) p.2 ∧ Far (Eg es0 (clo m z1) 0) (Tk ns0) i n p.2) ∧ Hid (Below W0.heap.size W0 wr)) (fun _ v7 _ => n - (intOf v7).toNat)
    case atStart => exact ⟨0, [], by omega, rfl, hide (El.Own.nil _ _ _), hide ⟨rfl, fun i p hp => by simp at hp⟩, Hb2⟩
    case round =>
      clear x0 x1 Hb2 Hb1
      obtain ⟨k, ps, hk, rfl, HO, HX, HB⟩ := hrel
      by_cases hlt : k < n
      · have Hlt := hide hlt
        have j0 : (0 : Int) ≤ (k : Int) := by omega
        have j1 : (k : Int) < (n : Int) := by omega
        obtain ⟨x0, x1⟩ := layg HBOX.out HB.out
        clear hk hlt
        go_upto_region 11 with (go_at_call 12; refine (HK12.out _ k HB.out Hlt.out).mono ?_; rintro e W6 ⟨gx, lx, rfl, hO6, hF6, hb6⟩
                                have HO7 := hide (HO.out.keep hb6)
                                have HX7 : Hid ((ps ++ [((gx, lx) : Rw)]).length = k + 1 ∧ ∀ (i : Nat) p, (ps ++ [((gx, lx) : Rw)])[i]? = some p → intE.Own W6 W0.heap.size (.slice (some ⟨p.1, 0, none⟩) n n) p.2 ∧ Far (Eg es0 (clo m z1) 0) (Tk ns0) i n p.2) := hide ⟨by rw [List.length_append, HX.out.1]; rfl, fun i p hp => by
                                  rcases Nat.lt_or_ge i ps.length with h' | h'
                                  · rw [List.getElem?_append_left h'] at hp
                                    have := HX.out.2 i p hp
                                    exact ⟨this.1.keep hb6, this.2⟩
                                  · rw [List.getElem?_append_right h'] at hp
                                    have h0 : i - ps.length = 0 := by
                                      rcases Nat.eq_zero_or_pos (i - ps.length) with h | h
                                      · exact h
                                      · rw [List.getElem?_eq_none (by simp; omega)] at hp; cases hp
                                    rw [h0] at hp
                                    simp at hp
                                    subst hp
                                    have hik : i = k := by have := HX.out.1; omega
                                    subst hik
                                    exact ⟨hO6.mono HB.out.size, hF6⟩⟩
                                have HB7 : Hid (Below W0.heap.size W0 W6) := hide (HB.out.trans (hb6.mono HB.out.size))
                                clear hO6 hF6 hb6)
        clear x0 x1
        have HAl : Hid (Below W0.heap.size W0 (W6.alloc (.cells #[.slice (some ⟨gx, 0, none⟩) n n] 26))) := hide (HB7.out.alloc HB7.out.size _)
        have HOA : Hid ((farE n).Own (W6.alloc (.cells #[.slice (some ⟨gx, 0, none⟩) n n] 26)) W0.heap.size u6 ps) := hide (World.ownsRow.alloc HO7.out _)
        have HNA : Hid ((farE n).Rd (W6.alloc (.cells #[.slice (some ⟨gx, 0, none⟩) n n] 26)) (.slice (some ⟨W6.heap.size, 0, none⟩) 1 1) [((gx, lx) : Rw)]) := hide (El.Own.new (farE n) W6 0 (by omega) _ [((gx, lx) : Rw)] rfl (by simp) _ _ _ rfl rfl rfl).rd
        have Hpl : Hid (ps.length = k) := hide HX.out.1
        go_wp2_with (at_builtin; refine (farE n).wp (w0 := W0) HAl.out (by rfl) _ _ rfl _ _ rfl rfl ps [((gx, lx) : Rw)] HOA.out HNA.out (by rw [Hpl.out]; have := Hlt.out; have := Hn20.out; simp; omega) ?_; intro v8 W8 ho8 hg8 hv8 hb8
                     have HO8 := hide ho8
                     have HX8 : Hid ((ps ++ [((gx, lx) : Rw)]).length = k + 1 ∧ ∀ (i : Nat) p, (ps ++ [((gx, lx) : Rw)])[i]? = some p → intE.Own W8 W0.heap.size (.slice (some ⟨p.1, 0, none⟩) n n) p.2 ∧ Far (Eg es0 (clo m z1) 0) (Tk ns0) i n p.2) := hide ⟨HX7.out.1, fun i p hp => ⟨own_other (E := farE n) (F := intE) (show (26 : Nat) ≠ 3 by decide) HOA.out (World.ownsRow.alloc (HX7.out.2 i p hp).1 _) hg8, (HX7.out.2 i p hp).2⟩⟩
                     have HB8 := hide hb8
                     clear ho8 hg8 hv8 hb8)
        go_roundw
        case rel => exact ⟨k + 1, _, by have := Hlt.out; omega, by go_num, HO8, HX8, HB8⟩
        case measure => have := Hlt.out; simp [intOf]; omega
      · obtain rfl : k = n := by omega
        have j1 : ¬ (k : Int) < (k : Int) := by omega
        obtain ⟨n, rfl⟩ : ∃ n', n' = k := ⟨_, rfl⟩
        have HRw : Hid (Rows (Eg es0 (clo m z1) 0) (Tk ns0) n ps) := hide ⟨HX.out.1, fun i p hp => (HX.out.2 i p hp).2⟩
        obtain ⟨gf, cf, hv6⟩ : ∃ gf cf, u6 = .slice (some ⟨gf, 0, none⟩) n cf := by
          rcases HO.out.2 with ⟨_, h⟩ | ⟨gf, cf, _, h, _⟩
          · have := HX.out.1; have := Hn1.out; omega
          · rw [HX.out.1] at h
            exact ⟨gf, cf, h⟩
        subst hv6
        have HC : Hid (∀ (a b : Nat), a < n → b < n → ∃ g, wr.cell? ⟨gf, a, none⟩ = some (.slice (some ⟨g, 0, none⟩) n n) ∧ wr.cell? ⟨g, b, none⟩ = some (.int .i64 (dd ps a b))) := hide (fun a b ha hb => by
          obtain ⟨p, hp⟩ : ∃ p, ps[a]? = some p := ⟨_, List.getElem?_eq_getElem (by rw [HX.out.1]; exact ha)⟩
          refine ⟨p.1, (HO.out.at1 (fun p : Rw => .slice (some ⟨p.1, 0, none⟩) n n) (fun _ => rfl) rfl a p hp).1, ?_⟩
          have h2 := HX.out.2 a p hp
          rw [dd_at hp]
          exact (h2.1.at1 (Value.int .i64) (fun _ => rfl) rfl b _ (va_at p.2 b (by rw [h2.2.1]; exact hb))).1)
        have HLy := hide (HLM.out wr HB.out).1
        have Hed : Hid (∀ u v, Eg es0 (clo m z1) 0 u v → v < n) := hide (fun u v h => eg_lt HLy.out.hE h)
        have Hbd : Hid (∀ (a b : Nat), a < n → b < n → -1 ≤ dd ps a b ∧ dd ps a b ≤ 20) := hide (fun a b ha hb => by
          obtain ⟨p, hp⟩ : ∃ p, ps[a]? = some p := ⟨_, List.getElem?_eq_getElem (by rw [HX.out.1]; exact ha)⟩
          have h2 := (HX.out.2 a p hp).2
          rw [dd_at hp]
          have h3 := far_high Hed.out ha h2 b
          have h4 := far_low h2 b
          have := Hn20.out
          omega)
        obtain ⟨WF, hWF⟩ : ∃ W, W = wr := ⟨_, rfl⟩
        subst hWF
        obtain ⟨x0, x1⟩ := layg HBOX.out HB.out
        have HNd : Hid (∀ b : Nat, b < n → ∃ bN off, a0 = some ⟨bN, off, none⟩ ∧ WF.cell? ⟨bN, off + b * 3 + 1, none⟩ = some (.int .i64 (kindAt ns0 (b : Int)))) := hide (fun b hb => by
          obtain ⟨p, hp⟩ : ∃ p, ns0[b]? = some p := ⟨_, List.getElem?_eq_getElem (by rw [HLy.out.hn]; exact hb)⟩
          obtain ⟨bN, off, h1, _, h2, _⟩ := nd_at HLy.out.hv b p hp
          rw [kind_at hp]
          exact ⟨bN, off, h1, h2⟩)
        obtain ⟨bN, oN, haN, _⟩ := HNd.out 0 Hn1.out
        subst haN
        have HNc : Hid (∀ b : Nat, b < n → WF.cell? ⟨bN, oN + b * 3 + 1, none⟩ = some (.int .i64 (kindAt ns0 (b : Int)))) := hide (fun b hb => by
          obtain ⟨bN', off', h1, h2⟩ := HNd.out b hb
          simp only [Option.some.injEq, Addr.mk.injEq] at h1
          obtain ⟨rfl, rfl, _⟩ := h1
          exact h2)
        clear HNd HO HX HLy hk hlt
        go_wp2_with fail
        go_loopw [10] (fun v10 wr => ∃ (ka q : Nat), ka ≤ n ∧ v10 = .int .i64 ka ∧ wr = WF.drewN q) (fun v10 _ => n - (intOf v10).toNat)
        case atStart => exact ⟨0, 0, by omega, rfl, rfl⟩
        case round =>
          obtain ⟨ka, qa, hka, rfl, rfl⟩ := hrel
          by_cases hla : ka < n
          · have Hla := hide hla
            have ja0 : (0 : Int) ≤ (ka : Int) := by omega
            have ja1 : (ka : Int) < (n : Int) := by omega
            clear hka hla
            go_wp2_with fail
            go_loopw [11] (fun v11 wr => ∃ (kc q : Nat), kc ≤ n ∧ v11 = .int .i64 kc ∧ wr = WF.drewN q) (fun v11 _ => n - (intOf v11).toNat)
            case atStart => exact ⟨0, qa, by omega, rfl, rfl⟩
            case round =>
              obtain ⟨kc, qc, hkc, rfl, rfl⟩ := hrel
              by_cases hlc : kc < n
              · have Hlc := hide hlc
                have jc0 : (0 : Int) ≤ (kc : Int) := by omega
                have jc1 : (kc : Int) < (n : Int) := by omega
                clear hkc hlc
                go_wp2_with fail
                go_loopw [12, 13] (fun v12 v13 wr => ∃ (kb q : Nat) (x : Int), kb ≤ n ∧ v13 = .int .i64 kb ∧ v12 = .int .i64 x ∧ wr = WF.drewN q ∧ Hid (Best (Tk ns0) ps ka kc kb x)) (fun _ v13 _ => n - (intOf v13).toNat)
                case atStart => exact ⟨0, qc, -1, by omega, rfl, rfl, rfl, hide (.inl ⟨rfl, fun b hb => by omega⟩)⟩
                case round =>
                  obtain ⟨kb, qb, x, hkb, rfl, rfl, rfl, HBe⟩ := hrel
                  by_cases hlb : kb < n
                  · have Hlb := hide hlb
                    have jb0 : (0 : Int) ≤ (kb : Int) := by omega
                    have jb1 : (kb : Int) < (n : Int) := by omega
                    have ck := HNc.out kb hlb
                    obtain ⟨ga, ca, cab⟩ := HC.out ka kb Hla.out hlb
                    obtain ⟨gb, cb, cbc⟩ := HC.out kb kc hlb Hlc.out
                    have Bab := hide (Hbd.out ka kb Hla.out hlb)
                    have Bbc := hide (Hbd.out kb kc hlb Hlc.out)
                    have Hcd : Hid (cand (Tk ns0) ps ka kc kb ↔ (kindAt ns0 (kb : Int) = 1 ∧ kb ≠ ka ∧ kb ≠ kc ∧ 0 ≤ dd ps ka kb ∧ 0 ≤ dd ps kb kc)) := hide Iff.rfl
                    have Hsk := hide HBe.out.skip
                    have Hke := hide HBe.out.keep
                    have Htk := hide HBe.out.take
                    obtain ⟨kd, hkd⟩ : ∃ kd, kindAt ns0 (kb : Int) = kd := ⟨_, rfl⟩
                    obtain ⟨dab, hdab⟩ : ∃ d, dd ps ka kb = d := ⟨_, rfl⟩
                    obtain ⟨dbc, hdbc⟩ : ∃ d, dd ps kb kc = d := ⟨_, rfl⟩
                    rw [hkd] at ck Hcd
                    rw [hdab] at cab Bab Hcd Hke Htk
                    rw [hdbc] at cbc Bbc Hcd Hke Htk
                    clear hkd hdab hdbc hkb hlb
                    by_cases hk1 : kd = 1
                    · have hkb1 : (kd != 1) = false := by rw [hk1]; rfl
                      have Hk1 := hide hk1
                      clear hk1
                      by_cases hba : kb = ka
                      · have e1 : ((kb : Int) == (ka : Int)) = true := beq_iff_eq.2 (by omega)
                        have HB1 := hide (Hsk.out (fun h => (Hcd.out.1 h).2.1 hba))
                        clear hba
                        go_wp2_with fail
                        go_roundw
                        case rel => exact ⟨kb + 1, _, _, by have := Hlb.out; omega, by go_num, rfl, rfl, HB1⟩
                        case measure => have := Hlb.out; simp [intOf]; omega
                      · have e1 : ((kb : Int) == (ka : Int)) = false := beq_eq_false_iff_ne.2 (by omega)
                        have Hba := hide hba
                        clear hba
                        by_cases hbc : kb = kc
                        · have e2 : ((kb : Int) == (kc : Int)) = true := beq_iff_eq.2 (by omega)
                          have HB1 := hide (Hsk.out (fun h => (Hcd.out.1 h).2.2.1 hbc))
                          clear hbc
                          go_wp2_with fail
                          go_roundw
                          case rel => exact ⟨kb + 1, _, _, by have := Hlb.out; omega, by go_num, rfl, rfl, HB1⟩
                          case measure => have := Hlb.out; simp [intOf]; omega
                        · have e2 : ((kb : Int) == (kc : Int)) = false := beq_eq_false_iff_ne.2 (by omega)
                          have Hbc := hide hbc
                          clear hbc
                          by_cases n1 : dab < 0
                          · have HB1 := hide (Hsk.out (fun h => by have := (Hcd.out.1 h).2.2.2.1; omega))
                            go_wp2_with fail
                            go_roundw
                            case rel => exact ⟨kb + 1, _, _, by have := Hlb.out; omega, by go_num, rfl, rfl, HB1⟩
                            case measure => have := Hlb.out; simp [intOf]; omega
                          · by_cases n2 : dbc < 0
                            · have HB1 := hide (Hsk.out (fun h => by have := (Hcd.out.1 h).2.2.2.2; omega))
                              go_wp2_with fail
                              go_roundw
                              case rel => exact ⟨kb + 1, _, _, by have := Hlb.out; omega, by go_num, rfl, rfl, HB1⟩
                              case measure => have := Hlb.out; simp [intOf]; omega
                            · have Hc := hide (Hcd.out.2 ⟨Hk1.out, Hba.out, Hbc.out, by omega, by omega⟩)
                              have hws : IntKind.i64.wrap (dab + dbc) = dab + dbc := i64_small _ (by omega) (by have := Bab.out; have := Bbc.out; omega)
                              by_cases hx : x < 0
                              · have HB1 := hide (Htk.out Hc.out (.inl hx))
                                go_upto_region 25 with fail
                                go_quiet (fail)
                                go_wp2_with fail
                                go_roundw
                                case rel => exact ⟨kb + 1, _, _, by have := Hlb.out; omega, by go_num, rfl, rfl, HB1⟩
                                case measure => have := Hlb.out; simp [intOf]; omega
                              · by_cases hx2 : dab + dbc < x
                                · have HB1 := hide (Htk.out Hc.out (.inr hx2))
                                  go_upto_region 25 with fail
                                  go_quiet (fail)
                                  go_wp2_with fail
                                  go_roundw
                                  case rel => exact ⟨kb + 1, _, _, by have := Hlb.out; omega, by go_num, rfl, rfl, HB1⟩
                                  case measure => have := Hlb.out; simp [intOf]; omega
                                · have HB1 := hide (Hke.out (by omega) (by omega))
                                  go_upto_region 25 with fail
                                  go_quiet (fail)
                                  go_wp2_with fail
                                  go_roundw
                                  case rel => exact ⟨kb + 1, _, _, by have := Hlb.out; omega, by go_num, rfl, rfl, HB1⟩
                                  case measure => have := Hlb.out; simp [intOf]; omega
                    · have hkb1 : (kd != 1) = true := bne_iff_ne.2 hk1
                      have HB1 := hide (Hsk.out (fun h => hk1 (Hcd.out.1 h).1))
                      clear hk1
                      go_wp2_with fail
                      go_roundw
                      case rel => exact ⟨kb + 1, _, _, by have := Hlb.out; omega, by go_num, rfl, rfl, HB1⟩
                      case measure => have := Hlb.out; simp [intOf]; omega
                  · obtain rfl : kb = n := by omega
                    have jb1 : ¬ (kb : Int) < (kb : Int) := by omega
                    obtain ⟨ga, ca, cac⟩ := HC.out ka kc Hla.out Hlc.out
                    have H1 := hide (HRw.out.less Hla.out Hlc.out HBe.out)
                    have H2 := hide (HRw.out.more Hed.out Hla.out Hlc.out HBe.out)
                    obtain ⟨dac, hdac⟩ : ∃ d, dd ps ka kc = d := ⟨_, rfl⟩
                    rw [hdac] at cac H1 H2
                    clear hdac
                    by_cases hx : 0 ≤ x
                    · obtain ⟨h3, h4⟩ := H1.out hx
                      have n1 : ¬ dac < 0 := by omega
                      have n2 : ¬ x < dac := by omega
                      by_cases h5 : 2 ≤ dac
                      · have h6 := H2.out h5
                        have e3 : (dac != x) = false := by rw [h6]; exact bne_self_eq_false _
                        have H6 := hide h6
                        clear h6 h3 h4
                        by_cases hac : ka = kc
                        · have e1 : ((ka : Int) != (kc : Int)) = false := by rw [hac]; exact bne_self_eq_false _
                          clear hac
                          go_wp2_with fail
                          go_roundw
                          case rel => exact ⟨kc + 1, qb, by have := Hlc.out; omega, by go_num, by first | rfl | trivial⟩
                          case measure => have := Hlc.out; simp [intOf]; omega
                        · have e1 : ((ka : Int) != (kc : Int)) = true := bne_iff_ne.2 (by omega)
                          clear hac
                          go_wp2_with fail
                          go_roundw
                          case rel => exact ⟨kc + 1, qb, by have := Hlc.out; omega, by go_num, by first | rfl | trivial⟩
                          case measure => have := Hlc.out; simp [intOf]; omega
                      · clear h3 h4
                        by_cases hac : ka = kc
                        · have e1 : ((ka : Int) != (kc : Int)) = false := by rw [hac]; exact bne_self_eq_false _
                          clear hac
                          go_wp2_with fail
                          go_roundw
                          case rel => exact ⟨kc + 1, qb, by have := Hlc.out; omega, by go_num, by first | rfl | trivial⟩
                          case measure => have := Hlc.out; simp [intOf]; omega
                        · have e1 : ((ka : Int) != (kc : Int)) = true := bne_iff_ne.2 (by omega)
                          clear hac
                          go_wp2_with fail
                          go_roundw
                          case rel => exact ⟨kc + 1, qb, by have := Hlc.out; omega, by go_num, by first | rfl | trivial⟩
                          case measure => have := Hlc.out; simp [intOf]; omega
                    · have h5 : ¬ 2 ≤ dac := fun h => by have := H2.out h; omega
                      go_wp2_with fail
                      go_roundw
                      case rel => exact ⟨kc + 1, qb, by have := Hlc.out; omega, by go_num, by first | rfl | trivial⟩
                      case measure => have := Hlc.out; simp [intOf]; omega
              · obtain rfl : kc = n := by omega
                have jc1 : ¬ (kc : Int) < (kc : Int) := by omega
                go_wp2_with fail
                go_roundw
                case rel => exact ⟨ka + 1, qc, by have := Hla.out; omega, by go_num, rfl⟩
                case measure => have := Hla.out; simp [intOf]; omega
          · obtain rfl : ka = n := by omega
            have ja1 : ¬ (ka : Int) < (ka : Int) := by omega
            go_wp2_with fail
            go_ret
            exact ⟨rfl, HA.out.trans ((below_heap HB.out rfl rfl rfl rfl : Below W0.heap.size W0 (WF.drewN qa)).mono HA.out.size)⟩

set_option maxRecDepth 100000 in
theorem lifted (os : Os) (started : os.Started) (H : Type) (enc : TypeId × Value → H) :
    ReturnsInHanded {} Try.checked os 8 .any (Rows.reachSumsSpec.pre6 enc Try.prog Try.f8 Rows.reachSumsRow.domain false) (Rows.reachSumsSpec.post enc Try.prog Try.f8 false true false false) := by
  refine returnsInHanded_of_change_sized (C := Try.checked) own started (by kernel_rfl) Try.func8
    (ChangeSpec.witness6 (enc := enc) (C := Try.checked) false ⟨#[], #[.agg #[.slice none 0 0, .slice none 0 0], .slice none 0 0], []⟩ 8 (by kernel_rfl) (by kernel_rfl) (by kernel_rfl) (by kernel_rfl)) ?_
  intro W base args ds gs before hval0 hW hcnd hsz0 _
  have hval : ∀ (j : Nat) t v, Try.f8.params[j]? = some t → args[j]? = some v → Value.okWide Try.prog W .any base t v := hval0
  have hsz : (DataW.weightsEach Try.prog (Try.f8.params.toList ++ Rows.reachSumsSpec.plain.varTypes Try.prog) (ds ++ gs)).all (· ≤ reachBytes) = true := hsz0
  have hW' := hW
  obtain ⟨p, q, hA0, hV, rfl, hfz, hnd⟩ := hW
  have hA : DataW.TrodAll enc Try.prog W 0 (fun _ => true) true Try.f8.params.toList args.toList ds p := hA0
  rw [Try.params8] at hA hval hsz
  obtain ⟨v0, vs0, d0, ds0, p0, q0, hargs, rfl, rfl, h0, r0⟩ := trodAll_cons hA
  obtain ⟨v1, vs1, d1, ds1, p1, q1, rfl, rfl, rfl, h1, r1⟩ := trodAll_cons r0
  obtain ⟨rfl, rfl, rfl⟩ := trodAll_nil r1
  obtain rfl : args = #[v0, v1] := by cases args; simp_all
  obtain ⟨rfl, rfl⟩ := trodVars_none hV
  have k0 := h0
  have lt0 : ∀ x ∈ p0, x.block < W.heap.size := by obtain ⟨m, hm⟩ := k0; exact DataW.trod_lt m _ _ _ hm
  obtain ⟨cs0, rfl, _⟩ := okWide_struct Try.underlying25 (hval 0 25 v0 rfl rfl)
  obtain ⟨a0, c0, b0, e0, ns0, es0, hcs0, rn0, re0, rs0⟩ : ∃ (a : Option Addr) (c : Nat) (a' : Option Addr) (c' : Nat) (ns : List Nd) (es : List Ed), cs0 = #[.slice a ns.length c, .slice a' es.length c'] ∧ ndE.Rd W (.slice a ns.length c) ns ∧ edE.Rd W (.slice a' es.length c') es ∧ ∀ n ∈ ns, n.name.size ≤ maxLen := by
    obtain ⟨fuel, hf⟩ := h0
    obtain ⟨a, c, a', c', ns, es, he, h1, h2, h3⟩ := layout_of_trod hf
    exact ⟨a, c, a', c', ns, es, by apply Array.toList_inj.1; exact he, h1, h2, h3⟩
  subst hcs0
  obtain ⟨a1, len1, cap1, rfl⟩ := okWide_slice Try.underlying26 (hval 1 26 v1 rfl rfl)
  have k1 := h1
  have lt1 : ∀ x ∈ p1, x.block < W.heap.size := by obtain ⟨m, hm⟩ := k1; exact DataW.trod_lt m _ _ _ hm
  obtain ⟨z1, w1, s1, _⟩ : ∃ zs : List Int, zs.length = len1 ∧ intE.Rd W (.slice a1 len1 cap1) zs ∧ ∀ y ∈ zs, (Lit.int .i64 y).wf = true := by
    obtain ⟨fuel, hf⟩ := h1
    exact rd_of_trod intE (fun y => (Lit.int .i64 y).wf = true) (by kernel_rfl) (fun n cs y hy => int_of_trod hy) hf rfl
  clear hA0 hval0
  refine (walk a0 b0 c0 e0 ns0 es0 a1 len1 cap1 z1 W rn0 re0 rs0 w1 s1).mono fun e W' ⟨he, bel⟩ => ?_
  subst he
  exact ⟨_, rfl, _, _, _, [], _, [], hW', trodAll_mk1 (shut_bool Try.underlying4 _), (trodAll_cons_mk (Below.trod laidOut (by kernel_rfl) (of_decide_eq_true (by kernel_rfl)) k0 bel lt0) (trodAll_cons_mk (Below.trod laidOut (by kernel_rfl) (of_decide_eq_true (by kernel_rfl)) k1 bel lt1) trodAll_mk0)), rfl, bel.frame _, fun h => by cases h⟩

theorem over : Rows.reachSumsRow.holds Try.pinned (OpenSpec.ofChange Rows.reachSumsSpec) :=
  OpenClaim.holds_of_wide 8 Try.f8 rfl rfl rfl rfl rfl rfl rfl ⟨rfl, rfl, rfl, rfl, rfl⟩ rfl rfl rfl rfl rfl (by kernel_rfl) Try.func8 (by kernel_rfl)
    (of_decide_eq_true (by kernel_rfl)) (by unfold Func.isWrapper; first | (rw [if_pos (by decide +kernel)]; kernel_rfl) | (rw [if_neg (by decide +kernel)]; exact ⟨rfl, rfl⟩))
    (fun os started H enc _ => lifted os started H enc)

theorem proved : Rows.ReachSumsSaid := over
end Go.Proofs.Ythimeobnfkoefaa.reachSums
