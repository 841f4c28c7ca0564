/- LaneRoom, the walk. -/
import Derived.Test.YtlmfmkjbdgbbjaaLnc
import Derived.Test.YtlmfmkjbdgbbjaaLag
import Derived.Deep.CutBlock
namespace Go.Proofs.Ytlmfmkjbdgbbjaa
open Go.RowKit
set_option linter.unusedVariables false

/-- a row of the call's own outlives what a lane's method changes -/
theorem own_lane {w w' : World} {B g : Nat} {v : Value} {xs : List Int} (h : intE.Own w B v xs) (hg : w.grownBy w' (some g)) (hB : g < B) : intE.Own w' B v xs :=
  own_stay h fun k hk hlt => hg.block k hlt (fun e => by cases e; have := h.ge _ hk; omega)
theorem below_drew {B : Nat} {a w : World} (h : Below B a w) (q : Nat) : Below B a (w.drewN q) := ⟨h.os, h.tape, h.output, h.size, h.block⟩

theorem pushL_len (d : Nat) (xs : List Int) (t : Int) : (pushC d xs t ≠ 0 → pushL d xs t = xs) ∧ (pushC d xs t = 0 → ((pushL d xs t).length : Int) = (xs.length : Int) + 1) :=
  ⟨fun h => if_neg h, fun h => by unfold pushL; rw [if_pos h]; simp⟩
theorem takeL_len (xs : List Int) (t : Int) : (takeC xs t ≠ 0 → takeL xs t = xs) ∧ (takeC xs t = 0 → ((takeL xs t).length : Int) = (xs.length : Int) - 1) :=
  ⟨fun h => if_neg h, fun h => by
    have hm : ¬ t ∉ xs := fun e => by unfold takeC at h; rw [if_pos e] at h; cases h
    have := List.length_pos_of_mem (Decidable.not_not.1 hm)
    unfold takeL; rw [if_pos h]; simp; omega⟩

/-- Pop, told as one -/
theorem pop_any {g d : Nat} {xs : List Int} (w : World) (h : Ln w g d xs) : ∃ (t c : Int) (ys : List Int), (c ≠ 0 → ys = xs) ∧ (c = 0 → (ys.length : Int) = (xs.length : Int) + -1) ∧
    Calls Try.prog 12 #[.pointer (some ⟨g, 0, none⟩)] w fun e w' => e = .returned (.tuple #[.int .i64 t, .int .i64 c]) ∧ Ln w' g d ys ∧ w.grownBy w' (some g) := by
  cases hx : xs.getLast? with
  | none =>
    have : xs = [] := List.getLast?_eq_none_iff.1 hx
    subst this
    refine ⟨0, 4, [], fun _ => rfl, fun h => by omega, (pop_none w h).mono ?_⟩
    rintro e w' ⟨rfl, rfl⟩
    exact ⟨rfl, h, .refl _ _⟩
  | some t =>
    refine ⟨t, 0, xs.dropLast, fun h => absurd rfl h, fun _ => ?_, pop_some w h hx⟩
    have : xs.length ≠ 0 := fun e => by rw [List.eq_nil_of_length_eq_zero e] at hx; cases hx
    simp; omega

set_option maxRecDepth 100000 in
set_option maxHeartbeats 8000000 in
theorem room_walk (n0 : Int) (a : Option Addr) (m c : Nat) (zs : List Op) (w : World) (hm : zs.length = m) (hv : Ops w (.slice a m c) zs) : Calls Try.prog 7 #[.int .i64 n0, .slice a m c] w fun e w' => e = .returned (.bool true) ∧ Below w.heap.size w w' := by
  obtain ⟨w0, rfl⟩ : ∃ w0, w0 = w := ⟨_, rfl⟩
  have KA := hide awake_any
  obtain ⟨k, hk, hk20⟩ := few n0 8 (by omega)
  obtain ⟨N, hN⟩ : ∃ N : Nat, (k : Int) + 1 = (N : Int) := ⟨k + 1, by omega⟩
  have hN1 : 1 ≤ N := by omega
  have hN2 : N ≤ 8 := by omega
  have Hm := hide hm
  have HV := hide hv
  clear hm hv
  go_enter Try.func7, Try.ntmps7
  go_upto_region 4 with (go_at_call 8; refine (KA.out _).mono ?_; rintro e W1 ⟨rfl, hb1⟩; have HB := hide hb1; clear hb1)
  try rw [hN]
  generalize wrap64 ((IntKind.u64.wrap n0).tmod 8) = y1 at *
  generalize (IntKind.u64.wrap n0).tmod 8 = y2 at *
  generalize IntKind.u64.wrap n0 = y3 at *
  clear hk hk20 hN KA
  obtain ⟨g, hg⟩ : ∃ g, W1.heap.size = g := ⟨_, rfl⟩
  have KN : Hid (Calls Try.prog 9 #[.int .i64 N] W1 fun e w' => e = .returned (.tuple #[.pointer (some ⟨g, 0, none⟩), .int .i64 0]) ∧ Ln w' g N [] ∧ Below g W1 w') := hide (by rw [← hg]; exact new_ok N W1 hN1 hN2)
  have Hg : Hid (w0.heap.size ≤ g) := hide (by rw [← hg]; exact HB.out.size)
  have KB : Hid (∀ W W', Below w0.heap.size w0 W → W.grownBy W' (some g) → Below w0.heap.size w0 W') := hide (fun W W' hb hg' => hb.grown hg' hb.size (fun k hk => by cases hk; exact Hg.out))
  have K19 : Hid (∀ (W : World) (xs : List Int), Ln W g N xs → Calls Try.prog 19 #[.pointer (some ⟨g, 0, none⟩)] W fun e w' => ∃ a c, e = .returned (.slice a xs.length c) ∧ intE.Own w' W.heap.size (.slice a xs.length c) xs ∧ Ln w' g N xs ∧ Below W.heap.size W w') := hide (fun W xs h => (totes_any W h).mono (by
    rintro e w' ⟨v, rfl, ho, hb⟩
    obtain ⟨a, c, rfl⟩ := ho.rd.form
    exact ⟨a, c, rfl, ho, h.keep hb, hb⟩))
  have K10 : Hid (∀ (W : World) (xs : List Int) (t : Int), Ln W g N xs → _) := hide (fun W xs t h => push_any t W h)
  have K14 : Hid (∀ (W : World) (xs : List Int) (t : Int), Ln W g N xs → _) := hide (fun W xs t h => take_any t W h)
  have K20 : Hid (∀ (W : World) (xs : List Int), Ln W g N xs → _) := hide (fun W xs h => room_any W h)
  clear hg
  go_upto_region 8 with (go_at_call 9; refine KN.out.mono ?_; rintro e WN ⟨rfl, hL, hb⟩; have HL0 := hide hL; have HB0 : Hid (Below w0.heap.size w0 WN) := hide (HB.out.trans (hb.mono Hg.out)); clear hL hb)
  go_loopw [7] (fun v7 wr => ∃ (i : Nat) (xs : List Int), v7 = .int .i64 i ∧ i ≤ m ∧ i ≤ 200 ∧ Hid (Ln wr g N xs) ∧ Hid (Below w0.heap.size w0 wr)) (fun v7 _ => 200 - (intOf v7).toNat)
  case atStart => exact ⟨0, [], rfl, Nat.zero_le _, by omega, HL0, HB0⟩
  case round =>
    obtain ⟨i, xs, rfl, him, hi2, HL, HB1⟩ := hrel
    by_cases hlt : i < m
    · by_cases hlt2 : i < 200
      · have q0 : (i : Int) < (m : Int) := by omega
        have q1 : (i : Int) < 200 := by omega
        have q2 : (0 : Int) ≤ (i : Int) := by omega
        obtain ⟨o, ho⟩ : ∃ o, zs[i]? = some o := ⟨_, List.getElem?_eq_getElem (by rw [Hm.out]; exact hlt)⟩
        obtain ⟨b, off, rfl, z0, z1⟩ := HV.out.at i o ho
        obtain ⟨kd, tt⟩ := o
        simp only at z0 z1
        have HZ : Hid (∀ W, Below w0.heap.size w0 W → W.cell? ⟨b, off + i * 2, none⟩ = some (.int .i64 kd) ∧ W.cell? ⟨b, off + i * 2 + 1, none⟩ = some (.int .i64 tt)) := hide (fun W hb => ⟨by rw [hb.cell (p := ⟨b, off + i * 2, none⟩) (cell_lt z0)]; exact z0, by rw [hb.cell (p := ⟨b, off + i * 2 + 1, none⟩) (cell_lt z1)]; exact z1⟩)
        have Hgl := hide HL.out.lt
        clear z0 z1 ho hlt hlt2
        go_upto_region 12 with (go_at_call 19; refine (K19.out _ _ HL.out).mono ?_; rintro e W2 ⟨a8, c8, rfl, ho, hL, hb⟩; have HO := hide ho; have HL2 := hide hL; have HB2 := hide (HB1.out.trans (hb.mono HB1.out.size)); clear ho hL hb)
        have hn2 : Hid (xs.length ≤ 8) := hide (by have := HL2.out.le; omega)
        obtain ⟨z0, z1⟩ := HZ.out W2 HB2.out
        have K12 := pop_any W2 HL2.out
        obtain ⟨n, hn⟩ : ∃ n, xs.length = n := ⟨_, rfl⟩
        have Hn := hide hn
        rw [hn] at HO ⊢
        clear hn
        obtain ⟨tp, cp, yp, hp1, hp2, K12⟩ := K12
        have HP1 := hide hp1
        have HP2 := hide hp2
        have HK12 := hide K12
        clear K12 hp1 hp2
        go_upto_block 2 with fail
        go_cut [9, 10] (fun v9 v10 wx => ∃ (cd ch : Int) (ys : List Int), v9 = .int .i64 cd ∧ v10 = .int .i64 ch ∧ Hid (Ln wx g N ys) ∧ Hid (Below w0.heap.size w0 wx) ∧ Hid (intE.Own wx wr.heap.size (.slice a8 n c8) xs) ∧ Hid (-1 ≤ ch ∧ ch ≤ 1 ∧ (cd ≠ 0 → ys = xs) ∧ (cd = 0 → (ys.length : Int) = (n : Int) + ch)))
        case first =>
          by_cases k1 : kd = 1
          · subst k1
            have H10 := hide (K10.out W2 xs tt HL2.out)
            obtain ⟨cc, hcc⟩ : ∃ cc, pushC N xs tt = cc := ⟨_, rfl⟩
            have HF := hide (pushL_len N xs tt)
            rw [hcc] at H10 HF
            generalize pushL N xs tt = ys at *
            clear hcc
            go_wp2_with (go_at_call 10; refine H10.out.mono ?_; rintro e W3 ⟨rfl, hL, hG⟩; have HL3 := hide hL; have HB3 := hide (KB.out _ _ HB2.out hG); have HO3 := hide (own_lane HO.out hG Hgl.out); clear hL hG)
            go_meet
            exact ⟨cc, 1, ys, rfl, rfl, HL3, HB3, HO3, hide ⟨by omega, by omega, HF.out.1, fun h => by rw [HF.out.2 h, Hn.out]⟩⟩
          · have k1' : (kd == 1) = false := beq_eq_false_iff_ne.2 k1
            by_cases k2 : kd = 2
            · subst k2
              go_wp2_with (go_at_call 12; refine HK12.out.mono ?_; rintro e W3 ⟨rfl, hL, hG⟩; have HL3 := hide hL; have HB3 := hide (KB.out _ _ HB2.out hG); have HO3 := hide (own_lane HO.out hG Hgl.out); clear hL hG)
              go_meet
              exact ⟨cp, -1, yp, rfl, rfl, HL3, HB3, HO3, hide ⟨by omega, by omega, HP1.out, fun h => by rw [HP2.out h, Hn.out]⟩⟩
            · have k2' : (kd == 2) = false := beq_eq_false_iff_ne.2 k2
              by_cases k3 : kd = 3
              · subst k3
                have H14 := hide (K14.out W2 xs tt HL2.out)
                obtain ⟨cc, hcc⟩ : ∃ cc, takeC xs tt = cc := ⟨_, rfl⟩
                have HF := hide (takeL_len xs tt)
                rw [hcc] at H14 HF
                generalize takeL xs tt = ys at *
                clear hcc
                go_wp2_with (go_at_call 14; refine H14.out.mono ?_; rintro e W3 ⟨rfl, hL, hG⟩; have HL3 := hide hL; have HB3 := hide (KB.out _ _ HB2.out hG); have HO3 := hide (own_lane HO.out hG Hgl.out); clear hL hG)
                go_meet
                exact ⟨cc, -1, ys, rfl, rfl, HL3, HB3, HO3, hide ⟨by omega, by omega, HF.out.1, fun h => by rw [HF.out.2 h, Hn.out]; omega⟩⟩
              · have k3' : (kd == 3) = false := beq_eq_false_iff_ne.2 k3
                go_wp2_with fail
                go_meet
                exact ⟨0, 0, xs, rfl, rfl, HL2, HB2, HO, hide ⟨by omega, by omega, fun _ => rfl, fun _ => by rw [Hn.out]; omega⟩⟩
        case rest =>
          obtain ⟨cd, ch, ys, rfl, rfl, HL3, HB3, HO3, HF⟩ := hcut
          obtain ⟨m', hm'⟩ : ∃ m', ys.length = m' := ⟨_, rfl⟩
          have Hm' := hide hm'
          have hle := HL3.out.le
          rw [hm'] at hle
          have H19 := hide (K19.out wc ys HL3.out)
          have H20 : Hid (∀ W, Ln W g N ys → _) := hide (fun W h => K20.out W ys h)
          rw [hm'] at H19
          simp only [hm'] at H20
          obtain ⟨r, hr⟩ : ∃ r, N - m' = r := ⟨_, rfl⟩
          rw [hr] at H20
          have s0 : (r : Int) + (m' : Int) = (N : Int) := by omega
          have s1 : ((N : Int) != (N : Int)) = false := bne_self_eq_false _
          have s2 : (m' : Int) ≤ 8 := by omega
          have s3 : (r : Int) ≤ 8 := by omega
          have s4 : (n : Int) ≤ 8 := by have := hn2.out; have := Hn.out; omega
          have s5 := HF.out.1
          have s6 := HF.out.2.1
          have HI : Hid (cd ≠ 0 → ∀ W (a11 : Option Addr) (c11 : Nat), intE.Rd W (.slice a11 m' c11) ys → intE.Rd W (.slice a8 n c8) xs → Calls Try.prog 18 #[.slice a11 m' c11, .slice a8 n c8] W fun e w' => e = .returned (.bool true) ∧ ∃ q, w' = W.drewN q) := hide (fun hc W a11 c11 h1 h2 => (ints_any a11 a8 c11 c8 m' n ys xs W Hm'.out Hn.out h1 h2 (by have := hn2.out; omega)).mono (by
            rintro e w' ⟨rfl, hq⟩
            exact ⟨by rw [decide_eq_true (HF.out.2.2.1 hc)], hq⟩))
          have Hwr : Hid (wr.heap.size ≤ wc.heap.size ∨ True) := hide (.inr trivial)
          by_cases hc : cd = 0
          · subst hc
            have s7 := HF.out.2.2.2 rfl
            have s8 : (n : Int) + ch = (m' : Int) := by rw [← s7, Hm'.out]
            have s9 : ((m' : Int) != (m' : Int)) = false := bne_self_eq_false _
            clear hle hr hm' HI s7
            go_wp2_with (first
              | (go_at_call 19; refine H19.out.mono ?_; rintro e W4 ⟨a11, c11, rfl, ho, hL, hb⟩; have HO4 := hide ho; have HL4 := hide hL; have HB4 := hide (HB3.out.trans (hb.mono HB3.out.size)); clear ho hL hb)
              | (go_at_call 20; refine (H20.out _ HL4.out).mono ?_; rintro e W5 ⟨rfl, q, rfl⟩))
            go_roundw
            case rel => exact ⟨i + 1, ys, by go_num, by omega, by omega, hide (HL4.out.drewN _), hide (below_drew HB4.out _)⟩
            case measure => simp [intOf]; omega
          · have t0 : (cd != 0) = true := bne_iff_ne.2 hc
            have t1 : (cd == 0) = false := beq_eq_false_iff_ne.2 hc
            have HI1 := hide (HI.out hc)
            clear hle hr hm' HI hc
            go_wp2_with (first
              | (go_at_call 19; refine H19.out.mono ?_; rintro e W4 ⟨a11, c11, rfl, ho, hL, hb⟩; have HO4 := hide ho; have HL4 := hide hL; have HB4 := hide (HB3.out.trans (hb.mono HB3.out.size)); have HO5 := hide (HO3.out.keep hb); clear ho hL hb)
              | (go_at_call 18; refine (HI1.out _ _ _ HO4.out.rd HO5.out.rd).mono ?_; rintro e W5 ⟨rfl, q, rfl⟩)
              | (go_at_call 20; refine (H20.out _ (HL4.out.drewN _)).mono ?_; rintro e W6 ⟨rfl, q', rfl⟩))
            go_roundw
            case rel => exact ⟨i + 1, ys, by go_num, by omega, by omega, hide (HL4.out.drewN _), hide (below_drew HB4.out _)⟩
            case measure => simp [intOf]; omega
      · have q0 : (i : Int) < (m : Int) := by omega
        have q1 : ¬ (i : Int) < 200 := by omega
        clear hlt hlt2
        go_wp2_with fail
        go_ret
        exact ⟨rfl, HB1.out⟩
    · have q0 : ¬ (i : Int) < (m : Int) := by omega
      clear hlt
      go_wp2_with fail
      go_ret
      exact ⟨rfl, HB1.out⟩
end Go.Proofs.Ytlmfmkjbdgbbjaa
