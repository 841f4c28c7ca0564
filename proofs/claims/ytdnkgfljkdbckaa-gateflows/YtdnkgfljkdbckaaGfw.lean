/- GateFlows, the walk. -/
import Derived.Test.YtdnkgfljkdbckaaGfm
namespace Go.Proofs.Ytdnkgfljkdbckaa
open Go.RowKit
set_option linter.unusedVariables false

set_option maxRecDepth 100000 in
set_option maxHeartbeats 8000000 in
theorem flows_walk (n0 : Int) (a : Option Addr) (m cp : Nat) (zs : List Int) (n2 : Int) (w : World) (hm : zs.length = m) (hv : intE.Rd w (.slice a m cp) zs) : Calls Try.prog 5 #[.int .i64 n0, .slice a m cp, .int .i64 n2] w fun e w' => e = .returned (.bool true) ∧ Below w.heap.size w w' := by
  obtain ⟨w0, rfl⟩ : ∃ w0, w0 = w := ⟨_, rfl⟩
  have KA := hide awake_any
  obtain ⟨k, hk, hk20⟩ := few n0 16 (by omega)
  obtain ⟨N, hN⟩ : ∃ N : Nat, (k : Int) + 1 = (N : Int) := ⟨k + 1, by omega⟩
  have hN1 : 1 ≤ N := by omega
  have hN2 : N ≤ 16 := by omega
  obtain ⟨t, ht, ht64⟩ := few n2 64 (by omega)
  have HN1 := hide hN1
  have KN : Hid (∀ W, Its w0 [] W → Calls Try.prog 10 #[.int .i64 N] W fun e w' => ∃ g c, e = .returned (.tuple #[.pointer (some ⟨g, 0, none⟩), .int .i64 0]) ∧ Its w0 [.gate w0.heap.size g c (.slice none 0 0) ⟨N, [], []⟩] w') := hide (fun W h => new_ok N w0 W [] hN1 hN2 h)
  have Hm := hide hm
  have HV := hide hv
  clear hm hv
  go_enter Try.func5, Try.ntmps5
  go_upto_region 3 with (go_at_call 9; refine (KA.out _).mono ?_; rintro e W1 ⟨rfl, hb1⟩; have HB := hide hb1; clear hb1)
  have HI : Hid (Its w0 [] W1) := hide ⟨HB.out, by simp, by simp, .nil⟩
  go_upto_region 6 with (go_at_call 10; refine (KN.out _ HI.out).mono ?_; rintro e W2 ⟨g, c, rfl, hg⟩; have HG0 := hide hg; clear hg)
  generalize wrap64 ((IntKind.u64.wrap n0).tmod 16) = y1 at *
  generalize (IntKind.u64.wrap n0).tmod 16 = y2 at *
  generalize IntKind.u64.wrap n0 = y3 at *
  clear hk hk20 hN KA KN HI HB hN1 hN2
  go_upto_block 0 with fail
  go_cut [9] (fun v9 wx => ∃ (vw : Value) (L : List Int) (a9 : Option Addr) (n9 p9 : Nat), v9 = .slice a9 n9 p9 ∧ Hid (L.length = n9 ∧ n9 ≤ 64) ∧ Hid (Its w0 [.gate w0.heap.size g c vw ⟨N, L, []⟩, .ints w0.heap.size (.slice a9 n9 p9) L] wx))
  case first =>
    go_wp2_with fail
    go_loopw [9, 10] (fun v9 v10 wr => ∃ (i : Nat) (vw : Value) (L : List Int) (a9 : Option Addr) (n9 p9 : Nat), v9 = .slice a9 n9 p9 ∧ v10 = .int .i64 i ∧ i ≤ m ∧ i ≤ 100 ∧ Hid (L.length = n9) ∧ Hid (Its w0 [.gate w0.heap.size g c vw ⟨N, L, []⟩, .ints w0.heap.size (.slice a9 n9 p9) L] wr)) (fun _ v10 _ => 100 - (intOf v10).toNat)
    case atStart => exact ⟨0, _, [], none, 0, 0, rfl, rfl, Nat.zero_le _, by omega, hide rfl, hide (HG0.out.empty intE).swap⟩
    case round =>
      obtain ⟨i, vw, L, a9, n9, p9, rfl, rfl, him, hi2, HL, HI⟩ := hrel
      by_cases hlt : i < m
      · by_cases hlt2 : i < 100
        · have q0 : (i : Int) < (m : Int) := by omega
          have q1 : (i : Int) < 100 := by omega
          have q2 : (0 : Int) ≤ (i : Int) := by omega
          obtain ⟨x, hx⟩ : ∃ x, zs[i]? = some x := ⟨_, List.getElem?_eq_getElem (by rw [Hm.out]; exact hlt)⟩
          obtain ⟨b, off, rfl, z0⟩ := int_at HV.out i x hx
          have HZ : Hid (∀ W, Below w0.heap.size w0 W → W.cell? ⟨b, off + i, none⟩ = some (.int .i64 x)) := hide (fun W hb => by rw [hb.cell (p := ⟨b, off + i, none⟩) (cell_lt z0)]; exact z0)
          have z1 := HZ.out wr HI.out.bel
          have hl64 : L.length ≤ 64 := by have := HI.out.one.ok.ml; simpa using this
          by_cases hc : Gt.acC ⟨N, L, []⟩ x = 0
          · have H11 := hide (acceptS x HI.out hc (Gt.ac_yes hc))
            have HR : Hid (∀ W : World, intE.Rd (W.alloc (.cells #[.int .i64 x] 3)) (.slice (some ⟨W.heap.size, 0, none⟩) 1 1) [x]) := hide (fun W => int_new W x _ rfl)
            have HLn : Hid (L.length + [x].length ≤ 1000000) := hide (by simp; omega)
            clear z0 hx hc hlt hlt2 hl64
            go_wp2_with (first
              | (go_at_call 11; refine H11.out.mono ?_; rintro e W3 ⟨rfl, vw3, hg⟩; have HI3 := hide hg; have HX3 := hide (hg.swap.alloc (.cells #[.int .i64 x] 3)); have HR3 := hide (HR.out W3); have z3 := HZ.out W3 hg.bel; clear hg)
              | (at_builtin; refine intE.wpB (B := w0.heap.size) HX3.out.size (by rfl) _ _ rfl _ _ rfl rfl (L) [x] HX3.out.one HR3.out HLn.out ?_; intro v4 W4 ho hg hs; obtain ⟨a4, p4, hf4⟩ := ho.rd.form; obtain ⟨n4, hn4⟩ : ∃ n4, (L ++ [x]).length = n4 := ⟨_, rfl⟩; rw [hn4] at hf4; subst hf4; have HI4 := hide (HX3.out.grow ho hg hs); have Hn4 := hide hn4; clear ho hg hs hn4))
            go_roundw
            case rel => exact ⟨i + 1, vw3, L ++ [x], a4, n4, p4, rfl, by go_num, by omega, by omega, Hn4, hide HI4.out.swap⟩
            case measure => simp [intOf]; omega
          · have H11 := hide (acceptS x HI.out rfl (Gt.ac_no hc))
            obtain ⟨y, hy⟩ : ∃ y, Gt.acC ⟨N, L, []⟩ x = y := ⟨_, rfl⟩
            rw [hy] at H11 hc
            have hyb : (y == 0) = false := beq_eq_false_iff_ne.2 hc
            clear z0 hx hc hlt hlt2 hl64 hy
            go_wp2_with (go_at_call 11; refine H11.out.mono ?_; rintro e W3 ⟨rfl, vw3, hg⟩; have HI3 := hide hg; clear hg)
            go_roundw
            case rel => exact ⟨i + 1, vw3, L, a9, n9, p9, rfl, by go_num, by omega, by omega, HL, HI3⟩
            case measure => simp [intOf]; omega
        · have q0 : (i : Int) < (m : Int) := by omega
          have q1 : ¬ (i : Int) < 100 := by omega
          have H64 : Hid (L.length = n9 ∧ n9 ≤ 64) := hide ⟨HL.out, by have := HI.out.one.ok.ml; have := HL.out; simp at *; omega⟩
          go_wp2_with fail
          go_meet
          exact ⟨vw, L, a9, n9, p9, rfl, H64, HI⟩
      · have q0 : ¬ (i : Int) < (m : Int) := by omega
        have H64 : Hid (L.length = n9 ∧ n9 ≤ 64) := hide ⟨HL.out, by have := HI.out.one.ok.ml; have := HL.out; simp at *; omega⟩
        go_wp2_with fail
        go_meet
        exact ⟨vw, L, a9, n9, p9, rfl, H64, HI⟩
  case rest =>
    obtain ⟨vw, L, a9, n9, p9, rfl, HL, HI⟩ := hcut
    have s0 : (n9 : Int) ≤ 64 := by have := HL.out.2; omega
    have s1 : (0 : Int) ≤ (n9 : Int) := by omega
    have Ht64 := hide ht64
    go_wp2_with fail
    go_loopw [11, 12] (fun v11 v12 wr => ∃ (r : Nat) (vw : Value) (wt ins ol : List Int) (a11 : Option Addr) (n11 p11 : Nat), v11 = .slice a11 n11 p11 ∧ v12 = .int .i64 r ∧ r ≤ 2 * n9 + 1 ∧ Hid (ol.length = n11 ∧ Rd2 L ol ins wt r n9) ∧ Hid (Its w0 [.gate w0.heap.size g c vw ⟨N, wt, ins⟩, .ints w0.heap.size (.slice a9 n9 p9) L, .ints w0.heap.size (.slice a11 n11 p11) ol] wr)) (fun _ v12 _ => 2 * n9 + 1 - (intOf v12).toNat)
    case atStart => exact ⟨0, vw, L, [], [], none, 0, 0, rfl, rfl, Nat.zero_le _, hide ⟨rfl, by simp, by simp⟩, hide (HI.out.empty intE).rot3'⟩
    case round =>
      obtain ⟨r, vw2, wt, ins, ol, a11, n11, p11, rfl, rfl, hr, HO, HI2⟩ := hrel
      by_cases hlt : r ≤ 2 * n9
      · have q0 : (r : Int) ≤ 2 * (n9 : Int) := by omega
        have q1 : (0 : Int) ≤ (r : Int) := by omega
        obtain ⟨n13, hn13⟩ : ∃ n13, wt.length = n13 := ⟨_, rfl⟩
        have H19 := hide (waitingS HI2.out hn13)
        have Hn13 := hide hn13
        have hl64 : wt.length + ins.length ≤ 64 := HI2.out.one.ok.ml
        have s2 : (n13 : Int) ≤ 64 := by omega
        have s2' : n13 ≤ 64 := by omega
        have HLo : Hid (ol.length ≤ 1000) := hide (by
          have h1 := congrArg List.length HO.out.2.all
          have h2 := HL.out
          simp only [List.length_append] at h1
          omega)
        clear hn13 hlt hl64
        go_upto_region 20 with (go_at_call 19; refine H19.out.mono ?_; rintro e W3 ⟨a13, p13, rfl, hg⟩; have HW := hide hg.swap; clear hg)
        go_loopw [72] (fun v72 wr => ∃ (k : Nat) (vw : Value) (wt' ins' : List Int), v72 = .int .i64 k ∧ k ≤ n13 ∧ Hid (ins' ++ wt' = ins ++ wt ∧ Fl t n13 k wt wt' ins') ∧ Hid (Its w0 [.gate w0.heap.size g c vw ⟨N, wt', ins'⟩, .ints w0.heap.size (.slice a13 n13 p13) wt, .ints w0.heap.size (.slice a9 n9 p9) L, .ints w0.heap.size (.slice a11 n11 p11) ol] wr)) (fun v72 _ => n13 - (intOf v72).toNat)
        case atStart => exact ⟨0, vw2, wt, ins, rfl, Nat.zero_le _, hide ⟨rfl, Fl.zero _ _ _ _⟩, HW⟩
        case round =>
          obtain ⟨k, vw4, wt', ins', rfl, hk, HF, HI4⟩ := hrel
          by_cases hkn : k < n13
          · obtain ⟨q, hq⟩ : ∃ q, (k + t) % n13 = q := ⟨_, rfl⟩
            have hqn : q < n13 := by rw [← hq]; exact Nat.mod_lt _ (by omega)
            obtain ⟨x, hx⟩ : ∃ x, wt[q]? = some x := ⟨_, List.getElem?_eq_getElem (by rw [Hn13.out]; exact hqn)⟩
            obtain ⟨b, off, rfl, z0⟩ := int_at (El.Own.rd HI4.out.two) q x hx
            obtain ⟨wt2, ins2, e1, e2, e3⟩ := ar_flow N wt' ins' x
            have H15 := hide (arriveS x HI4.out rfl e1)
            have HF2 : Hid (ins2 ++ wt2 = ins ++ wt ∧ Fl t n13 (k + 1) wt wt2 ins2) := hide ⟨e2.trans HF.out.1, HF.out.2.step HN1.out hq hx e3⟩
            obtain ⟨y, hy⟩ : ∃ y, Gt.arC ⟨N, wt', ins'⟩ x = y := ⟨_, rfl⟩
            rw [hy] at H15
            have j0 : (k : Int) < (n13 : Int) := by omega
            have j1 : (0 : Int) ≤ (k : Int) := by omega
            have j2 : (q : Int) < (n13 : Int) := by omega
            have j3 : (0 : Int) ≤ (q : Int) := by omega
            have j4 : ¬ (n13 : Int) = 0 := by omega
            have j5 : ¬ n13 = 0 := by omega
            have j6 : ((k : Int) + (t : Int)).tmod (n13 : Int) = (q : Int) := by rw [Int.tmod_eq_emod_of_nonneg (by omega), ← hq, Int.natCast_emod, Int.natCast_add]
            clear hy e1 e2 e3 hx hq hqn hkn
            go_wp2_with (go_at_call 15; refine H15.out.mono ?_; rintro e W5 ⟨rfl, vw5, hg⟩; have HI5 := hide hg; clear hg)
            go_roundw
            case rel => exact ⟨k + 1, vw5, wt2, ins2, by go_num, by omega, HF2, HI5⟩
            case measure => simp [intOf]; omega
          · obtain rfl : k = n13 := by omega
            have j0 : ¬ (k : Int) < (k : Int) := by omega
            have HD := hide (HF.out.2.done Hn13.out)
            have HE : Hid (Rd2 L ol ins' wt' r n9) := hide ⟨by rw [HF.out.1]; exact HO.out.2.all, HO.out.2.up⟩
            have HI6 := hide (HI4.out.swap.tail)
            clear hkn HF
            cases ins' with
            | nil =>
              have e1 : wt' = [] := by
                rcases HD.out with h | h
                · exact absurd rfl h
                · exact h
              subst e1
              have H17 := hide (leaveS (S' := ⟨N, [], []⟩) (v := 0) (e := 4) HI6.out ⟨rfl, rfl⟩ rfl)
              have HE2 := hide (HE.out.stop HL.out.1)
              go_wp2_with (go_at_call 17; refine H17.out.mono ?_; rintro e W7 ⟨rfl, vw7, hg⟩; have HI7 := hide hg; clear hg)
              go_roundw
              case rel => exact ⟨r + 1, vw7, [], [], ol, a11, n11, p11, rfl, by go_num, by omega, hide ⟨HO.out.1, HE2.out⟩, HI7⟩
              case measure => simp [intOf]; omega
            | cons y ins3 =>
              have H17 := hide (leaveS (S' := ⟨N, wt', ins3⟩) (v := y) (e := 0) HI6.out ⟨rfl, rfl⟩ rfl)
              have HE2 := hide HE.out.step
              have HR : Hid (∀ W : World, intE.Rd (W.alloc (.cells #[.int .i64 y] 3)) (.slice (some ⟨W.heap.size, 0, none⟩) 1 1) [y]) := hide (fun W => int_new W y _ rfl)
              have HLn : Hid (ol.length + [y].length ≤ 1000000) := hide (by have := HLo.out; simp; omega)
              go_wp2_with (first
                | (go_at_call 17; refine H17.out.mono ?_; rintro e W7 ⟨rfl, vw7, hg⟩; have HX7 := hide (hg.rot3.alloc (.cells #[.int .i64 y] 3)); have HR7 := hide (HR.out W7); clear hg)
                | (at_builtin; refine intE.wpB (B := w0.heap.size) HX7.out.size (by rfl) _ _ rfl _ _ rfl rfl (ol) [y] HX7.out.one HR7.out HLn.out ?_; intro v8 W8 ho hg hs; obtain ⟨a8, p8, hf8⟩ := ho.rd.form; obtain ⟨n8, hn8⟩ : ∃ n8, (ol ++ [y]).length = n8 := ⟨_, rfl⟩; rw [hn8] at hf8; subst hf8; have HI8 := hide (HX7.out.grow ho hg hs); have Hn8 := hide hn8; clear ho hg hs hn8))
              go_roundw
              case rel => exact ⟨r + 1, vw7, wt', ins3, ol ++ [y], a8, n8, p8, rfl, by go_num, by omega, hide ⟨Hn8.out, HE2.out⟩, hide HI8.out.rot3'⟩
              case measure => simp [intOf]; omega
      · have q0 : ¬ (r : Int) ≤ 2 * (n9 : Int) := by omega
        obtain ⟨e1, e2, e3⟩ := HO.out.2.done HL.out.1 (by omega)
        subst e1 e2 e3
        have hnn : n9 = n11 := HL.out.1.symm.trans HO.out.1
        subst hnn
        have HS : Hid (∀ W, Its w0 [.gate w0.heap.size g c vw2 ⟨N, [], []⟩, .ints w0.heap.size (.slice a9 n9 p9) ol, .ints w0.heap.size (.slice a11 n9 p11) ol] W → Calls Try.prog 22 #[.slice a11 n9 p11, .slice a9 n9 p9] W fun e w' => e = .returned (.bool true) ∧ ∃ q, w' = W.drewN q) := hide (fun W h => by
          have := ints_any a11 a9 p11 p9 n9 n9 ol ol W HL.out.1 HL.out.1 (El.Own.rd h.three) (El.Own.rd h.two) (by have := HL.out.2; omega)
          rw [decide_eq_true rfl] at this
          exact this)
        have K19 : Hid (∀ W vw l, Its w0 (.gate w0.heap.size g c vw ⟨N, [], []⟩ :: l) W → _) := hide (fun W vw l h => waitingS (n := 0) h rfl)
        have K20 : Hid (∀ W vw l, Its w0 (.gate w0.heap.size g c vw ⟨N, [], []⟩ :: l) W → _) := hide (fun W vw l h => insideS (n := 0) h rfl)
        clear hlt
        go_wp2_with (first
          | (go_at_call 22; refine (HS.out _ HI2.out).mono ?_; rintro e W6 ⟨rfl, qq, rfl⟩; have HI6 := hide (HI2.out.drew qq))
          | (go_at_call 20; refine (K20.out _ _ _ HI6.out).mono ?_; rintro e W7 ⟨a7, c7, rfl, hg⟩; have HI7 := hide hg.swap; clear hg)
          | (go_at_call 19; refine (K19.out _ _ _ HI7.out).mono ?_; rintro e W8 ⟨a8, c8, rfl, hg⟩; have HI8 := hide hg; clear hg))
        go_ret
        exact ⟨rfl, HI8.out.bel⟩
end Go.Proofs.Ytdnkgfljkdbckaa
