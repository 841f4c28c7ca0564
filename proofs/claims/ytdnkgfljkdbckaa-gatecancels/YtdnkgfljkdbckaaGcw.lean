/- GateCancels, the walk. -/
import Derived.Test.YtdnkgfljkdbckaaGcm
namespace Go.Proofs.Ytdnkgfljkdbckaa
open Go.RowKit
set_option linter.unusedVariables false

set_option maxRecDepth 100000 in
set_option maxHeartbeats 8000000 in
theorem cancels_walk (n0 : Int) (a : Option Addr) (m cp : Nat) (zs : List Int) (a2 : Option Addr) (m2 cp2 : Nat) (w : World) (hm : zs.length = m) (hv : intE.Rd w (.slice a m cp) zs) (hb2 : IsBools w a2 m2) : Calls Try.prog 7 #[.int .i64 n0, .slice a m cp, .slice a2 m2 cp2] w fun e w' => e = .returned (.bool true) ∧ Below w.heap.size w w' := by
  obtain ⟨w0, rfl⟩ : ∃ w0, w0 = w := ⟨_, rfl⟩
  have KA := hide awake_any
  obtain ⟨k, hk, hk20⟩ := few n0 16 (by omega)
  obtain ⟨N, hN⟩ : ∃ N : Nat, (k : Int) + 1 = (N : Int) := ⟨k + 1, by omega⟩
  have hN1 : 1 ≤ N := by omega
  have hN2 : N ≤ 16 := by omega
  have KN : Hid (∀ W l, Its w0 l W → Calls Try.prog 10 #[.int .i64 N] W fun e w' => ∃ g c, e = .returned (.tuple #[.pointer (some ⟨g, 0, none⟩), .int .i64 0]) ∧ Its w0 (.gate w0.heap.size g c (.slice none 0 0) ⟨N, [], []⟩ :: l) w') := hide (fun W l h => new_ok N w0 W l hN1 hN2 h)
  have Hm := hide hm
  have HV := hide hv
  have HV2 := hide hb2
  clear hm hv hb2
  go_enter Try.func7, Try.ntmps7
  go_upto_region 4 with (go_at_call 9; refine (KA.out _).mono ?_; rintro e W1 ⟨rfl, hb1⟩; have HB := hide hb1; clear hb1)
  try rw [hN]
  have HI : Hid (Its w0 [] W1) := hide ⟨HB.out, by simp, by simp, .nil⟩
  generalize wrap64 ((IntKind.u64.wrap n0).tmod 16) = y1 at *
  generalize (IntKind.u64.wrap n0).tmod 16 = y2 at *
  generalize IntKind.u64.wrap n0 = y3 at *
  clear hk hk20 hN KA HB hN1 hN2
  go_upto_block 0 with (first
    | (go_at_call 10; refine (KN.out _ _ HGa.out).mono ?_; rintro e WB ⟨gb, cb, rfl, hg⟩; have HG0 := hide hg.swap; clear hg)
    | (go_at_call 10; refine (KN.out _ _ HI.out).mono ?_; rintro e WA ⟨ga, ca, rfl, hg⟩; have HGa := hide hg; clear hg))
  clear KN HI HGa
  go_cut [11, 12] (fun v11 v12 wx => ∃ (vwa vwb : Value) (all left : List Int) (a11 : Option Addr) (n11 p11 : Nat) (a12 : Option Addr) (n12 p12 : Nat), v11 = .slice a11 n11 p11 ∧ v12 = .slice a12 n12 p12 ∧ Hid (all.length = n11 ∧ left.length = n12 ∧ n11 ≤ 60 ∧ Kpt all left) ∧ Hid (Its w0 [.gate w0.heap.size ga ca vwa ⟨N, all, []⟩, .gate w0.heap.size gb cb vwb ⟨N, left, []⟩, .ints w0.heap.size (.slice a11 n11 p11) all, .ints w0.heap.size (.slice a12 n12 p12) left] wx))
  case first =>
    go_wp2_with fail
    go_loopw [11, 12, 13] (fun v11 v12 v13 wr => ∃ (i : Nat) (vwa vwb : Value) (all left : List Int) (a11 : Option Addr) (n11 p11 : Nat) (a12 : Option Addr) (n12 p12 : Nat), v11 = .slice a11 n11 p11 ∧ v12 = .slice a12 n12 p12 ∧ v13 = .int .i64 i ∧ i ≤ m ∧ i ≤ 60 ∧ Hid (all.length = n11 ∧ left.length = n12 ∧ n11 ≤ i ∧ Kpt all left) ∧ Hid (Its w0 [.gate w0.heap.size ga ca vwa ⟨N, all, []⟩, .gate w0.heap.size gb cb vwb ⟨N, left, []⟩, .ints w0.heap.size (.slice a11 n11 p11) all, .ints w0.heap.size (.slice a12 n12 p12) left] wr)) (fun _ _ v13 _ => 60 - (intOf v13).toNat)
    case atStart => exact ⟨0, _, _, [], [], none, 0, 0, none, 0, 0, rfl, rfl, rfl, Nat.zero_le _, by omega, hide ⟨rfl, rfl, Nat.zero_le _, Kpt.nil⟩, hide (((HG0.out.empty intE).empty intE).rot4.rot4)⟩
    case round =>
      obtain ⟨i, vwa, vwb, all, left, a11, n11, p11, a12, n12, p12, rfl, rfl, rfl, him, hi2, HL, HI⟩ := hrel
      by_cases hlt : i < m
      · by_cases hlt2 : i < 60
        · have q0 : (i : Int) < (m : Int) := by omega
          have q1 : (i : Int) < 60 := by omega
          have q2 : (0 : Int) ≤ (i : Int) := by omega
          obtain ⟨x, hx⟩ : ∃ x, zs[i]? = some x := ⟨_, List.getElem?_eq_getElem (by rw [Hm.out]; exact hlt)⟩
          obtain ⟨b, off, rfl, z0⟩ := int_at HV.out i x hx
          have HZ : Hid (∀ W, Below w0.heap.size w0 W → W.cell? ⟨b, off + i, none⟩ = some (.int .i64 x)) := hide (fun W hb => by rw [hb.cell (p := ⟨b, off + i, none⟩) (cell_lt z0)]; exact z0)
          have z1 := HZ.out wr HI.out.bel
          have HR : Hid (∀ W : World, intE.Rd (W.alloc (.cells #[.int .i64 x] 3)) (.slice (some ⟨W.heap.size, 0, none⟩) 1 1) [x]) := hide (fun W => int_new W x _ rfl)
          have hl1 : all.length ≤ 64 := by have := HI.out.one.ok.ml; simpa using this
          have hl2 : left.length ≤ 64 := by have := HI.out.two.ok.ml; simpa using this
          have HLn : Hid (all.length + [x].length ≤ 1000000) := hide (by simp; omega)
          have HLm : Hid (left.length + [x].length ≤ 1000000) := hide (by simp; omega)
          by_cases hc : Gt.acC ⟨N, all, []⟩ x = 0
          · have H11 := hide (acceptS x HI.out hc (Gt.ac_yes hc))
            have hxn : x ∉ all := (Gt.acC_zero hc).1
            have hcb : Gt.acC ⟨N, left, []⟩ x = 0 := Gt.acC_yes (fun q => hxn (HL.out.2.2.2.sub q)) (by simp) (by
              have h1 : left.length ≤ all.length := by
                have e := HL.out.2.2.2
                unfold Kpt at e
                have := List.length_filter_le (fun y => decide (y ∈ left)) all
                rw [e] at this
                exact this
              have := HL.out.1
              have := HL.out.2.2.1
              simp; omega)
            have H11b : Hid (∀ W vw l, Its w0 (.gate w0.heap.size gb cb vw ⟨N, left, []⟩ :: l) W → _) := hide (fun W vw l h => acceptS (S' := ⟨N, left ++ [x], []⟩) x h hcb (Gt.ac_yes hcb))
            have HXN := hide hxn
            clear hc hcb hxn z0 hx hlt hlt2 hl1 hl2
            by_cases hg : i < m2
            · have g0 : (i : Int) < (m2 : Int) := by omega
              obtain ⟨b2, off2, t, rfl, hb2, y0⟩ := HV2.out i hg
              have HY : Hid (∀ W, Below w0.heap.size w0 W → W.cell? ⟨b2, off2 + i, none⟩ = some (.bool t)) := hide (fun W hb => by rw [hb.cell (p := ⟨b2, off2 + i, none⟩) hb2]; exact y0)
              clear y0 hb2 hg
              cases t with
              | true =>
                go_wp2_with (first
                  | (at_builtin; refine intE.wpB (B := w0.heap.size) HX3.out.size (by rfl) _ _ rfl _ _ rfl rfl (all) [x] HX3.out.one HR3.out HLn.out ?_; intro v4 W4 ho hg hs; obtain ⟨a4, p4, hf4⟩ := ho.rd.form; obtain ⟨n4, hn4⟩ : ∃ n4, (all ++ [x]).length = n4 := ⟨_, rfl⟩; rw [hn4] at hf4; subst hf4; have HI4 := hide (HX3.out.grow ho hg hs); have Hn4 := hide hn4; clear ho hg hs hn4; have y4 := HY.out W4 HI4.out.bel)
                  | (go_at_call 11; refine H11.out.mono ?_; rintro e W3 ⟨rfl, vw3, hg⟩; have HX3 := hide (hg.rot3.alloc (.cells #[.int .i64 x] 3)); have HR3 := hide (HR.out W3); have z3 := HZ.out W3 hg.bel; clear hg))
                go_roundw
                case rel => exact ⟨i + 1, vw3, vwb, all ++ [x], left, a4, n4, p4, a12, n12, p12, rfl, rfl, by go_num, by omega, by omega, hide ⟨Hn4.out, HL.out.2.1, by have := Hn4.out; have := HL.out.1; have := HL.out.2.2.1; simp at *; omega, HL.out.2.2.2.one HXN.out⟩, hide HI4.out.rot3'⟩
                case measure => simp [intOf]; omega
              | false =>
                go_wp2_with (first
                  | (go_at_call 11; refine (H11b.out _ _ _ HJ5.out).mono ?_; rintro e W6 ⟨rfl, vw6, hg⟩; have HI6 := hide hg.rot4.swap34; clear hg)
                  | (at_builtin; refine intE.wpB (B := w0.heap.size) HX4.out.size (by rfl) _ _ rfl _ _ rfl rfl (left) [x] HX4.out.one HR4.out HLm.out ?_; intro v5 W5 ho hg hs; obtain ⟨a5, p5, hf5⟩ := ho.rd.form; obtain ⟨n5, hn5⟩ : ∃ n5, (left ++ [x]).length = n5 := ⟨_, rfl⟩; rw [hn5] at hf5; subst hf5; have HI5 := hide (HX4.out.grow ho hg hs); have Hn5 := hide hn5; clear ho hg hs hn5; have z5 := HZ.out W5 HI5.out.bel; have HJ5 := hide HI5.out.rot4)
                  | (at_builtin; refine intE.wpB (B := w0.heap.size) HX3.out.size (by rfl) _ _ rfl _ _ rfl rfl (all) [x] HX3.out.one HR3.out HLn.out ?_; intro v4 W4 ho hg hs; obtain ⟨a4, p4, hf4⟩ := ho.rd.form; obtain ⟨n4, hn4⟩ : ∃ n4, (all ++ [x]).length = n4 := ⟨_, rfl⟩; rw [hn4] at hf4; subst hf4; have HI4 := hide (HX3.out.grow ho hg hs); have Hn4 := hide hn4; clear ho hg hs hn4; have HX4 := hide (HI4.out.rot4.alloc (.cells #[.int .i64 x] 3)); have HR4 := hide (HR.out W4); have z4 := HZ.out W4 HI4.out.bel; have y4 := HY.out W4 HI4.out.bel)
                  | (go_at_call 11; refine H11.out.mono ?_; rintro e W3 ⟨rfl, vw3, hg⟩; have HX3 := hide (hg.rot3.alloc (.cells #[.int .i64 x] 3)); have HR3 := hide (HR.out W3); have z3 := HZ.out W3 hg.bel; clear hg))
                go_roundw
                case rel => exact ⟨i + 1, vw3, vw6, all ++ [x], left ++ [x], a4, n4, p4, a5, n5, p5, rfl, rfl, by go_num, by omega, by omega, hide ⟨Hn4.out, Hn5.out, by have := Hn4.out; have := HL.out; simp at *; omega, HL.out.2.2.2.both HXN.out⟩, HI6⟩
                case measure => simp [intOf]; omega
            · have g0 : ¬ (i : Int) < (m2 : Int) := by omega
              have HY : Hid (∀ W : World, Below w0.heap.size w0 W → True) := hide (fun _ _ => trivial)
              clear hg
              go_wp2_with (first
                | (go_at_call 11; refine (H11b.out _ _ _ HJ5.out).mono ?_; rintro e W6 ⟨rfl, vw6, hg⟩; have HI6 := hide hg.rot4.swap34; clear hg)
                | (at_builtin; refine intE.wpB (B := w0.heap.size) HX4.out.size (by rfl) _ _ rfl _ _ rfl rfl (left) [x] HX4.out.one HR4.out HLm.out ?_; intro v5 W5 ho hg hs; obtain ⟨a5, p5, hf5⟩ := ho.rd.form; obtain ⟨n5, hn5⟩ : ∃ n5, (left ++ [x]).length = n5 := ⟨_, rfl⟩; rw [hn5] at hf5; subst hf5; have HI5 := hide (HX4.out.grow ho hg hs); have Hn5 := hide hn5; clear ho hg hs hn5; have z5 := HZ.out W5 HI5.out.bel; have HJ5 := hide HI5.out.rot4)
                | (at_builtin; refine intE.wpB (B := w0.heap.size) HX3.out.size (by rfl) _ _ rfl _ _ rfl rfl (all) [x] HX3.out.one HR3.out HLn.out ?_; intro v4 W4 ho hg hs; obtain ⟨a4, p4, hf4⟩ := ho.rd.form; obtain ⟨n4, hn4⟩ : ∃ n4, (all ++ [x]).length = n4 := ⟨_, rfl⟩; rw [hn4] at hf4; subst hf4; have HI4 := hide (HX3.out.grow ho hg hs); have Hn4 := hide hn4; clear ho hg hs hn4; have HX4 := hide (HI4.out.rot4.alloc (.cells #[.int .i64 x] 3)); have HR4 := hide (HR.out W4); have z4 := HZ.out W4 HI4.out.bel; have y4 := HY.out W4 HI4.out.bel)
                | (go_at_call 11; refine H11.out.mono ?_; rintro e W3 ⟨rfl, vw3, hg⟩; have HX3 := hide (hg.rot3.alloc (.cells #[.int .i64 x] 3)); have HR3 := hide (HR.out W3); have z3 := HZ.out W3 hg.bel; clear hg))
              go_roundw
              case rel => exact ⟨i + 1, vw3, vw6, all ++ [x], left ++ [x], a4, n4, p4, a5, n5, p5, rfl, rfl, by go_num, by omega, by omega, hide ⟨Hn4.out, Hn5.out, by have := Hn4.out; have := HL.out; simp at *; omega, HL.out.2.2.2.both HXN.out⟩, HI6⟩
              case measure => simp [intOf]; omega
          · have H11 := hide (acceptS x HI.out rfl (Gt.ac_no hc))
            obtain ⟨y, hy⟩ : ∃ y, Gt.acC ⟨N, all, []⟩ x = y := ⟨_, rfl⟩
            rw [hy] at H11 hc
            have hyb : (y != 0) = true := bne_iff_ne.2 hc
            clear z0 hx hc hlt hlt2 hy hl1 hl2
            go_wp2_with (go_at_call 11; refine H11.out.mono ?_; rintro e W3 ⟨rfl, vw3, hg⟩; have HI3 := hide hg; clear hg)
            go_roundw
            case rel => exact ⟨i + 1, vw3, vwb, all, left, a11, n11, p11, a12, n12, p12, rfl, rfl, by go_num, by omega, by omega, hide ⟨HL.out.1, HL.out.2.1, by have := HL.out.2.2.1; omega, HL.out.2.2.2⟩, HI3⟩
            case measure => simp [intOf]; omega
        · have q0 : (i : Int) < (m : Int) := by omega
          have q1 : ¬ (i : Int) < 60 := by omega
          have HE : Hid (all.length = n11 ∧ left.length = n12 ∧ n11 ≤ 60 ∧ Kpt all left) := hide ⟨HL.out.1, HL.out.2.1, by have := HL.out.2.2.1; omega, HL.out.2.2.2⟩
          go_wp2_with fail
          go_meet
          exact ⟨vwa, vwb, all, left, a11, n11, p11, a12, n12, p12, rfl, rfl, HE, HI⟩
      · have q0 : ¬ (i : Int) < (m : Int) := by omega
        have HE : Hid (all.length = n11 ∧ left.length = n12 ∧ n11 ≤ 60 ∧ Kpt all left) := hide ⟨HL.out.1, HL.out.2.1, by have := HL.out.2.2.1; omega, HL.out.2.2.2⟩
        go_wp2_with fail
        go_meet
        exact ⟨vwa, vwb, all, left, a11, n11, p11, a12, n12, p12, rfl, rfl, HE, HI⟩
  case rest =>
    obtain ⟨vwa, vwb, all, left, a11, n11, p11, a12, n12, p12, rfl, rfl, HL, HI⟩ := hcut
    have HLl : Hid (n12 ≤ 64) := hide (by have := HI.out.two.ok.ml; have := HL.out.2.1; simp at *; omega)
    have s0 : (n11 : Int) ≤ 60 := by have := HL.out.2.2.1; omega
    have s1 : (n12 : Int) ≤ 64 := by have := HLl.out; omega
    have HI1 : Hid (Its w0 [.gate w0.heap.size ga ca vwa ⟨N, wk all left 0, []⟩, .gate w0.heap.size gb cb vwb ⟨N, left, []⟩, .ints w0.heap.size (.slice a11 n11 p11) all, .ints w0.heap.size (.slice a12 n12 p12) left] wc) := hide (by rw [wk_zero]; exact HI.out)
    clear HI
    go_wp2_with fail
    go_loopw [99] (fun v99 wr => ∃ (k : Nat) (vwa : Value), v99 = .int .i64 k ∧ k ≤ n11 ∧ Hid (Its w0 [.gate w0.heap.size ga ca vwa ⟨N, wk all left k, []⟩, .gate w0.heap.size gb cb vwb ⟨N, left, []⟩, .ints w0.heap.size (.slice a11 n11 p11) all, .ints w0.heap.size (.slice a12 n12 p12) left] wr)) (fun v99 _ => n11 - (intOf v99).toNat)
    case atStart => exact ⟨0, vwa, rfl, Nat.zero_le _, HI1⟩
    case round =>
      obtain ⟨k, vwk, rfl, hk, HI⟩ := hrel
      by_cases hlt : k < n11
      · obtain ⟨x, hx⟩ : ∃ x, all[k]? = some x := ⟨_, List.getElem?_eq_getElem (by rw [HL.out.1]; exact hlt)⟩
        obtain ⟨b, off, rfl, z0⟩ := int_at (El.Own.rd HI.out.three) k x hx
        have q0 : (k : Int) < (n11 : Int) := by omega
        have q2 : (0 : Int) ≤ (k : Int) := by omega
        have H23 := hide (has_any a12 p12 n12 left x wr HL.out.2.1 (El.Own.rd HI.out.four) (by have := HLl.out; omega))
        by_cases hm : x ∈ left
        · rw [decide_eq_true hm] at H23
          have HI2 : Hid (Its w0 [.gate w0.heap.size ga ca vwk ⟨N, wk all left (k + 1), []⟩, .gate w0.heap.size gb cb vwb ⟨N, left, []⟩, .ints w0.heap.size (.slice (some ⟨b, off, none⟩) n11 p11) all, .ints w0.heap.size (.slice a12 n12 p12) left] wr) := hide (by rw [wk_yes hx hm]; exact HI.out)
          clear hx hm hlt
          go_wp2_with (go_at_call 23; refine H23.out.mono ?_; rintro e W5 ⟨rfl, h5⟩; have h5' := h5.symm; clear h5; subst h5')
          go_roundw
          case rel => exact ⟨k + 1, vwk, by go_num, by omega, HI2⟩
          case measure => simp [intOf]; omega
        · rw [decide_eq_false hm] at H23
          obtain ⟨e1, e2⟩ := wk_no hx hm
          have H13 := hide (cancelS (S' := ⟨N, wk all left (k + 1), []⟩) (e := 0) x HI.out (if_pos e1) (by unfold Gt.ca; rw [e2]))
          clear hx hm hlt e1 e2
          go_wp2_with (first
            | (go_at_call 23; refine H23.out.mono ?_; rintro e W5 ⟨rfl, h5⟩; have h5' := h5.symm; clear h5; subst h5')
            | (go_at_call 13; refine H13.out.mono ?_; rintro e W6 ⟨rfl, vw6, hg⟩; have HI2 := hide hg; clear hg))
          go_roundw
          case rel => exact ⟨k + 1, vw6, by go_num, by omega, HI2⟩
          case measure => simp [intOf]; omega
      · have h11 : k = n11 := by omega
        have q0 : ¬ (k : Int) < (n11 : Int) := by omega
        have HI2 : Hid (Its w0 [.gate w0.heap.size ga ca vwk ⟨N, left, []⟩, .gate w0.heap.size gb cb vwb ⟨N, left, []⟩, .ints w0.heap.size (.slice a11 n11 p11) all, .ints w0.heap.size (.slice a12 n12 p12) left] wr) := hide (by have := HI.out; rw [h11, wk_end HL.out.2.2.2 HL.out.1] at this; exact this)
        have H19 := hide (waitingS (n := n12) HI2.out HL.out.2.1)
        have H22 : Hid (∀ W (a' : Option Addr) (c' : Nat), intE.Rd W (.slice a' n12 c') left → intE.Rd W (.slice a12 n12 p12) left → _) := hide (fun W a' c' h1 h2 => ints_eq a' a12 c' p12 n12 left W HL.out.2.1 h1 h2 (by have := HLl.out; omega))
        clear HI hlt hk h11
        go_wp2_with (first
          | (go_at_call 19; refine H19.out.mono ?_; rintro e W5 ⟨a5, p5, rfl, hg⟩; have HI5 := hide hg; clear hg)
          | (go_at_call 22; refine (H22.out _ _ _ (El.Own.rd HI5.out.one) (El.Own.rd (HI5.out.tail.four))).mono ?_; rintro e W6 ⟨rfl, qq, rfl⟩; have HI6 := hide ((HI5.out.drew qq).tail.rot3.tail)))
        obtain ⟨wA, rfl⟩ : ∃ W, W = wr := ⟨_, rfl⟩
        go_loopw [121] (fun v121 wr => ∃ (k : Nat) (vwa vwb : Value) (S : Gt), v121 = .int .i64 k ∧ k ≤ n12 ∧ Hid (Its w0 [.gate w0.heap.size ga ca vwa S, .gate w0.heap.size gb cb vwb S, .ints w0.heap.size (.slice a12 n12 p12) left] wr)) (fun v121 _ => n12 - (intOf v121).toNat)
        case atStart => exact ⟨0, vwk, vwb, _, rfl, Nat.zero_le _, HI6⟩
        case round =>
          obtain ⟨j, vwx, vwy, S, rfl, hj, HI⟩ := hrel
          by_cases hlt : j < n12
          · obtain ⟨x, hx⟩ : ∃ x, left[j]? = some x := ⟨_, List.getElem?_eq_getElem (by rw [HL.out.2.1]; exact hlt)⟩
            obtain ⟨b, off, rfl, z0⟩ := int_at (El.Own.rd HI.out.three) j x hx
            have q0 : (j : Int) < (n12 : Int) := by omega
            have q2 : (0 : Int) ≤ (j : Int) := by omega
            obtain ⟨y, hy⟩ : ∃ y, Gt.arC S x = y := ⟨_, rfl⟩
            obtain ⟨S2, hS2⟩ : ∃ S2, Gt.ar S x = S2 := ⟨_, rfl⟩
            obtain ⟨v, hv⟩ : ∃ v, (S2.cr : Int) - (S2.ins.length : Int) = v := ⟨_, rfl⟩
            have H15 := hide (arriveS x HI.out hy hS2)
            have H15b : Hid (∀ W vw l, Its w0 (.gate w0.heap.size gb cb vw S :: l) W → _) := hide (fun W vw l h => arriveS x h hy hS2)
            have H21 : Hid (∀ W vw l, Its w0 (.gate w0.heap.size ga ca vw S2 :: l) W → _) := hide (fun W vw l h => creditsS h hv rfl)
            have H21b : Hid (∀ W vw l, Its w0 (.gate w0.heap.size gb cb vw S2 :: l) W → _) := hide (fun W vw l h => creditsS h hv rfl)
            have b1 : (y != y) = false := bne_self_eq_false _
            have b2 : (v != v) = false := bne_self_eq_false _
            clear hy hS2 hv hx hlt
            go_wp2_with (first
              | (go_at_call 21; refine (H21b.out _ _ _ HI3.out).mono ?_; rintro e W8 ⟨rfl, vw8, hg⟩; have HI4 := hide hg.swap; clear hg)
              | (go_at_call 21; refine (H21.out _ _ _ HI2.out).mono ?_; rintro e W7 ⟨rfl, vw7, hg⟩; have HI3 := hide hg.swap; clear hg)
              | (go_at_call 15; refine (H15b.out _ _ _ HI1.out).mono ?_; rintro e W6 ⟨rfl, vw6, hg⟩; have HI2 := hide hg.swap; clear hg)
              | (go_at_call 15; refine H15.out.mono ?_; rintro e W5 ⟨rfl, vw5, hg⟩; have HI1 := hide hg.swap; clear hg))
            go_roundw
            case rel => exact ⟨j + 1, _, _, S2, by go_num, by omega, HI4⟩
            case measure => simp [intOf]; omega
          · have q0 : ¬ (j : Int) < (n12 : Int) := by omega
            obtain ⟨ni, hni⟩ : ∃ ni, S.ins.length = ni := ⟨_, rfl⟩
            obtain ⟨nw, hnw⟩ : ∃ nw, S.wt.length = nw := ⟨_, rfl⟩
            have hml := HI.out.one.ok.ml
            have Hi64 : Hid (S.ins.length = ni ∧ S.wt.length = nw ∧ ni ≤ 64 ∧ nw ≤ 64) := hide ⟨hni, hnw, by omega, by omega⟩
            have K20 : Hid (∀ W g c vw l, Its w0 (.gate w0.heap.size g c vw S :: l) W → _) := hide (fun W g c vw l h => insideS (n := ni) h hni)
            have K19 : Hid (∀ W g c vw l, Its w0 (.gate w0.heap.size g c vw S :: l) W → _) := hide (fun W g c vw l h => waitingS (n := nw) h hnw)
            have K22 : Hid (∀ W (a b : Option Addr) (c d : Nat), intE.Rd W (.slice a ni c) S.ins → intE.Rd W (.slice b ni d) S.ins → _) := hide (fun W a b c d h1 h2 => ints_eq a b c d ni S.ins W Hi64.out.1 h1 h2 (by have := Hi64.out; omega))
            have K22w : Hid (∀ W (a b : Option Addr) (c d : Nat), intE.Rd W (.slice a nw c) S.wt → intE.Rd W (.slice b nw d) S.wt → _) := hide (fun W a b c d h1 h2 => ints_eq a b c d nw S.wt W Hi64.out.2.1 h1 h2 (by have := Hi64.out; omega))
            have HI0 := HI
            clear HI hni hnw hml hlt
            go_wp2_with (first
              | (go_at_call 22; refine (K22w.out _ _ _ _ _ (El.Own.rd HJ4.out.three) (El.Own.rd HJ4.out.one)).mono ?_; rintro e W9 ⟨rfl, q9, rfl⟩; have HJ5 := hide (HJ4.out.drew q9))
              | (go_at_call 19; refine (K19.out _ _ _ _ _ HJ3.out).mono ?_; rintro e W8 ⟨a8, p8, rfl, hg⟩; have HJ4 := hide hg; clear hg)
              | (go_at_call 19; refine (K19.out _ _ _ _ _ HJ2.out).mono ?_; rintro e W7 ⟨a7, p7, rfl, hg⟩; have HJ3 := hide hg.rot4; clear hg)
              | (go_at_call 22; refine (K22.out _ _ _ _ _ (El.Own.rd HJ1.out.three) (El.Own.rd HJ1.out.one)).mono ?_; rintro e W6 ⟨rfl, q6, rfl⟩; have HJ2 := hide ((HJ1.out.drew q6).rot4))
              | (go_at_call 20; refine (K20.out _ _ _ _ _ HJ0.out).mono ?_; rintro e W5 ⟨a5, p5, rfl, hg⟩; have HJ1 := hide hg; clear hg)
              | (go_at_call 20; refine (K20.out _ _ _ _ _ HI0.out).mono ?_; rintro e W4 ⟨a4, p4, rfl, hg⟩; have HJ0 := hide hg.rot3; clear hg))
            go_ret
            exact ⟨rfl, HJ5.out.bel⟩
end Go.Proofs.Ytdnkgfljkdbckaa
