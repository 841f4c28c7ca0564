/- LaneAhead, the walk. -/
import Derived.Test.YtlmfmkjbdgbbjaaLlw
namespace Go.Proofs.Ytlmfmkjbdgbbjaa
open Go.RowKit
set_option linter.unusedVariables false

theorem pushL_nodup {d : Nat} {xs : List Int} (t : Int) (h : xs.Nodup) : (pushL d xs t).Nodup := by
  by_cases hc : pushC d xs t = 0
  · unfold pushL
    rw [if_pos hc]
    have hm : t ∉ xs := fun hm => by
      unfold pushC at hc
      rw [if_pos hm] at hc
      split at hc <;> cases hc
    rw [List.nodup_append]
    exact ⟨h, by simp, fun a ha b hb e => by simp at hb; subst hb; subst e; exact hm ha⟩
  · unfold pushL; rw [if_neg hc]; exact h
theorem nodup_at {xs : List Int} (h : xs.Nodup) {i j : Nat} {x : Int} (hi : xs[i]? = some x) (hj : xs[j]? = some x) : i = j := by
  have h1 := idx_lt hi
  have h2 := idx_lt hj
  rw [List.getElem?_eq_getElem h1] at hi
  rw [List.getElem?_eq_getElem h2] at hj
  exact (List.getElem_inj h).1 ((Option.some.inj hi).trans (Option.some.inj hj).symm)
theorem loc_take {xs : List Int} (h : xs.Nodup) {k j : Nat} {x : Int} (hk : xs[k]? = some x) (hj : k < j) : loc (xs.take j) x = (k : Int) ∧ x ∈ xs.take j := by
  have h0 : (xs.take j)[k]? = some x := by rw [List.getElem?_take_of_lt hj]; exact hk
  refine ⟨loc_yes h0 fun i hi e => ?_, List.mem_of_getElem? h0⟩
  rw [List.getElem?_take_of_lt (by omega)] at e
  have := nodup_at h e hk
  omega
theorem not_take {xs : List Int} (h : xs.Nodup) {k : Nat} {x : Int} (hk : xs[k]? = some x) : x ∉ xs.take k := fun hm => by
  obtain ⟨i, hi⟩ := List.getElem?_of_mem hm
  have hl := idx_lt hi
  rw [List.length_take] at hl
  rw [List.getElem?_take_of_lt (by omega)] at hi
  have := nodup_at h hi hk
  omega
theorem ahd_at {xs : List Int} {k j n : Nat} (hn : xs.length = n) (hj : j + k + 1 < n) : (ahd xs k)[j]? = xs[n - 1 - j]? := by
  unfold ahd
  rw [List.getElem?_reverse (by rw [List.length_drop]; omega), List.length_drop, List.getElem?_drop]
  congr 1; omega

set_option maxRecDepth 100000 in
set_option maxHeartbeats 8000000 in
theorem ahead_walk (n0 : Int) (a : Option Addr) (m c : Nat) (zs : List Int) (n2 : Int) (w : World) (hm : zs.length = m) (hv : intE.Rd w (.slice a m c) zs) : Calls Try.prog 5 #[.int .i64 n0, .slice a m c, .int .i64 n2] w fun e w' => e = .returned (.bool true) ∧ Below w.heap.size w w' := by
  obtain ⟨w0, rfl⟩ : ∃ w0, w0 = w := ⟨_, rfl⟩
  have KA := hide awake_any
  obtain ⟨k, hk, hk20⟩ := few n0 8 (by omega)
  obtain ⟨N, hN⟩ : ∃ N : Nat, (k : Int) + 1 = (N : Int) := ⟨k + 1, by omega⟩
  have hN1 : 1 ≤ N := by omega
  have hN2 : N ≤ 8 := by omega
  have Hm := hide hm
  have HV := hide hv
  clear hm hv
  have KN : Hid (∀ W, Calls Try.prog 9 #[.int .i64 N] W fun e w' => e = .returned (.tuple #[.pointer (some ⟨W.heap.size, 0, none⟩), .int .i64 0]) ∧ Ln w' W.heap.size N [] ∧ Below W.heap.size W w') := hide (fun W => new_ok N W hN1 hN2)
  go_enter Try.func5, Try.ntmps5
  go_upto_block 0 with (first
    | (go_at_call 8; refine (KA.out _).mono ?_; rintro e W1 ⟨rfl, hb1⟩; have HB := hide hb1; clear hb1)
    | (go_at_call 9; refine (KN.out _).mono ?_; rintro e WN ⟨rfl, hL, hb⟩; have HL0 := hide hL; have HB0 : Hid (Below w0.heap.size w0 WN) := hide (HB.out.trans (hb.mono HB.out.size)); clear hL hb))
  obtain ⟨g, hg⟩ : ∃ g, W1.heap.size = g := ⟨_, rfl⟩
  have Hg : Hid (w0.heap.size ≤ g) := hide (by rw [← hg]; exact HB.out.size)
  rw [hg] at HL0 ⊢
  try rw [hN]
  generalize wrap64 ((IntKind.u64.wrap n0).tmod 8) = y1 at *
  generalize (IntKind.u64.wrap n0).tmod 8 = y2 at *
  generalize IntKind.u64.wrap n0 = y3 at *
  clear hk hk20 hN KA KN hg
  have KB : Hid (∀ W W', Below w0.heap.size w0 W → W.grownBy W' (some g) → Below w0.heap.size w0 W') := hide (fun W W' hb hg' => hb.grown hg' hb.size (fun k hk => by cases hk; exact Hg.out))
  have K10 : Hid (∀ (W : World) (xs : List Int) (t : Int), Ln W g N xs → _) := hide (fun W xs t h => push_any t W h)
  have h8 : (N : Int) ≤ 8 := by omega
  clear hN1 hN2
  go_cut [] (fun wx => ∃ (xs : List Int), Hid (Ln wx g N xs) ∧ Hid (Below w0.heap.size w0 wx) ∧ Hid xs.Nodup)
  case first =>
    go_wp2_with fail
    go_loopw [9] (fun v9 wr => ∃ (i : Nat) (xs : List Int), v9 = .int .i64 i ∧ i ≤ m ∧ i ≤ 20 ∧ Hid (Ln wr g N xs) ∧ Hid (Below w0.heap.size w0 wr) ∧ Hid xs.Nodup) (fun v9 _ => 20 - (intOf v9).toNat)
    case atStart => exact ⟨0, [], rfl, Nat.zero_le _, by omega, HL0, HB0, hide (by simp)⟩
    case round =>
      obtain ⟨i, xs, rfl, him, hi2, HL, HB1, HD⟩ := hrel
      by_cases hlt : i < m
      · by_cases hlt2 : i < 20
        · have q0 : (i : Int) < (m : Int) := by omega
          have q1 : (i : Int) < 20 := by omega
          have q2 : (0 : Int) ≤ (i : Int) := by omega
          obtain ⟨z, hz⟩ : ∃ z, zs[i]? = some z := ⟨_, List.getElem?_eq_getElem (by rw [Hm.out]; exact hlt)⟩
          obtain ⟨b, off, rfl, z0⟩ := int_at HV.out i z hz
          have z1 : wr.cell? ⟨b, off + i, none⟩ = some (.int .i64 z) := by rw [HB1.out.cell (p := ⟨b, off + i, none⟩) (cell_lt z0)]; exact z0
          obtain ⟨t, ht, ht1, ht2⟩ := some30 z
          have H10 := hide (K10.out wr xs t HL.out)
          have HD1 := hide (pushL_nodup (d := N) (t : Int) HD.out)
          generalize pushC N xs (t : Int) = cc at *
          generalize pushL N xs (t : Int) = ys at *
          clear z0 hz hlt hlt2
          go_wp2_with (go_at_call 10; refine H10.out.mono ?_; rintro e W3 ⟨rfl, hL, hG⟩; have HL3 := hide hL; have HB3 := hide (KB.out _ _ HB1.out hG); clear hL hG)
          go_roundw
          case rel => exact ⟨i + 1, ys, by go_num, by omega, by omega, HL3, HB3, HD1⟩
          case measure => simp [intOf]; omega
        · have q0 : (i : Int) < (m : Int) := by omega
          have q1 : ¬ (i : Int) < 20 := by omega
          clear hlt hlt2
          go_wp2_with fail
          go_meet
          exact ⟨xs, HL, HB1, HD⟩
      · have q0 : ¬ (i : Int) < (m : Int) := by omega
        clear hlt
        go_wp2_with fail
        go_meet
        exact ⟨xs, HL, HB1, HD⟩
  case rest =>
    obtain ⟨xs, HL, HB1, HD⟩ := hcut
    have hle := HL.out.le
    obtain ⟨n, hn⟩ : ∃ n, xs.length = n := ⟨_, rfl⟩
    have Hn := hide hn
    rw [hn] at hle
    have s0 : (n : Int) ≤ 8 := by omega
    have Hgc := hide HL.out.lt
    have K19 : Hid (∀ (W : World) (xs : List Int), Ln W g N xs → Calls Try.prog 19 #[.pointer (some ⟨g, 0, none⟩)] W fun e w' => ∃ a c, e = .returned (.slice a xs.length c) ∧ intE.Own w' W.heap.size (.slice a xs.length c) xs ∧ Ln w' g N xs ∧ Below W.heap.size W w') := hide (fun W xs h => (totes_any W h).mono (by
      rintro e w' ⟨v, rfl, ho, hb⟩
      obtain ⟨a, c, rfl⟩ := ho.rd.form
      exact ⟨a, c, rfl, ho, h.keep hb, hb⟩))
    have H19 := hide (K19.out wc xs HL.out)
    rw [hn] at H19
    clear hn
    go_upto_region 11 with (go_at_call 19; refine H19.out.mono ?_; rintro e W2 ⟨a10, c10, rfl, ho, hL, hb⟩; have HO := hide ho; have HL2 := hide hL; have HB2 := hide (HB1.out.trans (hb.mono HB1.out.size)); clear ho hL hb)
    by_cases hn0 : n = 0
    · subst hn0
      have hx : xs = [] := List.eq_nil_of_length_eq_zero Hn.out
      subst hx
      have K16 := hide (ahead_no 1 W2 HL2.out (by simp))
      go_wp2_with (go_at_call 16; refine K16.out.mono ?_; rintro e W3 ⟨rfl, q, rfl⟩)
      go_ret
      exact ⟨by first | rfl | simp, below_drew HB2.out _⟩
    · obtain ⟨k0, hk0, hk0n⟩ := few n2 (n : Int) (by omega)
      have hk0' : k0 < n := by omega
      obtain ⟨x, hx⟩ : ∃ x, xs[k0]? = some x := ⟨_, List.getElem?_eq_getElem (by rw [Hn.out]; exact hk0')⟩
      obtain ⟨b, off, rfl, z0⟩ := int_at HO.out.rd k0 x hx
      have Hx := hide hx
      have l0 := loc_take HD.out hx (show k0 < n from hk0')
      rw [List.take_of_length_le (by rw [Hn.out]; exact Nat.le_refl _)] at l0
      have K16 := hide (ahead_yes W2 HL2.out l0.2 l0.1)
      have hna : (ahd xs k0).length = n - k0 - 1 := by unfold ahd; rw [List.length_reverse, List.length_drop, Hn.out]; omega
      obtain ⟨la, hla⟩ : ∃ la, n - k0 - 1 = la := ⟨_, rfl⟩
      rw [hla] at hna
      have Hna := hide hna
      have r0 : (n : Int) ≠ 0 := by omega
      have r1 : ¬ (n : Int) = 0 := r0
      have r2 : ((n : Int) == 0) = false := beq_eq_false_iff_ne.2 r0
      have r3 : (1 : Int) ≤ (n : Int) := by omega
      have r4 : (0 : Int) ≤ (k0 : Int) := by omega
      have r5 : (k0 : Int) < (n : Int) := hk0n
      have Hl0 := hide l0
      have Hla : Hid (la + k0 + 1 = n) := hide (by omega)
      clear hx l0 hk0n hna hn0 r0 hla
      go_upto_region 18 with (go_at_call 16; refine K16.out.mono ?_; rintro e W3 ⟨v14, rfl, ho, hb⟩; have HO3 := hide ho; have HL3 := hide (HL2.out.keep hb); have HB3 := hide (HB2.out.trans (hb.mono HB2.out.size)); have HO4 := hide (HO.out.keep hb); have Hs3 := hide hb.size; clear ho hb)
      obtain ⟨a14, c14, hf14⟩ := HO3.out.rd.form
      subst hf14
      rw [Hna.out] at HO3 ⊢
      have s1 : (la : Int) ≤ 8 := by have := Hla.out; omega
      have Hlt2 := hide HL2.out.lt
      try rw [hk0]
      generalize wrap64 ((IntKind.u64.wrap n2).tmod (n : Int)) = y7 at *
      generalize (IntKind.u64.wrap n2).tmod (n : Int) = y8 at *
      generalize IntKind.u64.wrap n2 = y9 at *
      clear hk0
      go_wp2_with fail
      go_loopw [88] (fun v88 wr => ∃ (j : Nat), v88 = .int .i64 j ∧ j ≤ la ∧ Hid (Ln wr g N (xs.take (n - j))) ∧ Hid (Below w0.heap.size w0 wr) ∧ Hid (intE.Own wr W2.heap.size (.slice a14 la c14) (ahd xs k0))) (fun v88 _ => la - (intOf v88).toNat)
      case atStart => exact ⟨0, rfl, Nat.zero_le _, hide (by rw [Nat.sub_zero, List.take_of_length_le (by rw [Hn.out]; exact Nat.le_refl _)]; exact HL3.out), HB3, HO3⟩
      case round =>
        obtain ⟨j, rfl, hjl, HL4, HB4, HO5⟩ := hrel
        by_cases hj : j < la
        · obtain ⟨p, hp⟩ : ∃ p, xs[n - 1 - j]? = some p := ⟨_, List.getElem?_eq_getElem (by rw [Hn.out]; omega)⟩
          have hp' : (ahd xs k0)[j]? = some p := by rw [ahd_at Hn.out (by have := Hla.out; omega)]; exact hp
          obtain ⟨b5, off5, rfl, z5⟩ := int_at HO5.out.rd j p hp'
          obtain ⟨m1, hm1⟩ : ∃ m1, n - j = m1 + 1 := ⟨n - j - 1, by have := Hla.out; omega⟩
          have hm2 : Hid (n - (j + 1) = m1) := hide (by omega)
          have hm3 : n - 1 - j = m1 := by omega
          rw [hm3] at hp
          rw [hm1] at HL4
          obtain ⟨e1, e2⟩ := take_last hp
          obtain ⟨l1, l2⟩ := loc_take HD.out Hx.out (show k0 < m1 + 1 by have := Hla.out; omega)
          have hlen : (xs.take (m1 + 1)).length = m1 + 1 := by rw [List.length_take, Hn.out]; omega
          have K14 := hide (take_any x wr HL4.out)
          have et : takeC (xs.take (m1 + 1)) x = 110 := (if_neg (fun h => h l2)).trans (if_pos (by rw [l1, hlen]; have := Hla.out; omega))
          have et2 : takeL (xs.take (m1 + 1)) x = xs.take (m1 + 1) := if_neg (by rw [et]; decide)
          rw [et, et2] at K14
          have K12 : Hid (∀ W, Ln W g N (xs.take (m1 + 1)) → Calls Try.prog 12 #[.pointer (some ⟨g, 0, none⟩)] W fun e w' => e = .returned (.tuple #[.int .i64 p, .int .i64 0]) ∧ Ln w' g N (xs.take m1) ∧ W.grownBy w' (some g)) := hide (fun W h => by rw [← e2]; exact pop_some W h e1)
          have q0 : (j : Int) < (la : Int) := by omega
          have q1 : (0 : Int) ≤ (j : Int) := by omega
          have q3 : (p != p) = false := bne_self_eq_false _
          clear hp hp' hj hm1 hm3 e1 e2 l1 l2 hlen et et2
          go_wp2_with (first
            | (go_at_call 14; refine K14.out.mono ?_; rintro e W5 ⟨rfl, hL, hG⟩; have HL5 := hide hL; have HB5 := hide (KB.out _ _ HB4.out hG); have HO6 := hide (own_lane HO5.out hG Hlt2.out); clear hL hG)
            | (go_at_call 12; refine (K12.out _ HL5.out).mono ?_; rintro e W6 ⟨rfl, hL, hG⟩; have HL6 := hide hL; have HB6 := hide (KB.out _ _ HB5.out hG); have HO7 := hide (own_lane HO6.out hG Hlt2.out); clear hL hG))
          go_roundw
          case rel => exact ⟨j + 1, by go_num, by omega, by rw [hm2.out]; exact HL6, HB6, HO7⟩
          case measure => simp [intOf]; omega
        · obtain rfl : j = la := by omega
          have hm1 : n - j = k0 + 1 := by have := Hla.out; omega
          rw [hm1] at HL4
          obtain ⟨l1, l2⟩ := loc_take HD.out Hx.out (show k0 < k0 + 1 by omega)
          have hlen : (xs.take (k0 + 1)).length = k0 + 1 := by rw [List.length_take, Hn.out]; omega
          obtain ⟨e1, e2⟩ := take_last Hx.out
          have K14 := hide (take_any x wr HL4.out)
          have et : takeC (xs.take (k0 + 1)) x = 0 := (if_neg (fun h => h l2)).trans (if_neg (by rw [l1, hlen]; omega))
          have et2 : takeL (xs.take (k0 + 1)) x = xs.take k0 := (if_pos et).trans e2
          rw [et, et2] at K14
          have K14b : Hid (∀ W, Ln W g N (xs.take k0) → Calls Try.prog 14 #[.pointer (some ⟨g, 0, none⟩), .int .i64 x] W fun e w' => e = .returned (.int .i64 160) ∧ Ln w' g N (xs.take k0) ∧ W.grownBy w' (some g)) := hide (fun W h => by
            have hno := not_take HD.out Hx.out
            have f1 : takeC (xs.take k0) x = 160 := if_pos hno
            have f2 : takeL (xs.take k0) x = xs.take k0 := if_neg (by rw [f1]; decide)
            have := take_any x W h
            rw [f1, f2] at this
            exact this)
          have K19b : Hid (∀ W, Ln W g N (xs.take k0) → Calls Try.prog 19 #[.pointer (some ⟨g, 0, none⟩)] W fun e w' => ∃ a c, e = .returned (.slice a k0 c) ∧ Below W.heap.size W w') := hide (fun W h => (K19.out W _ h).mono (by
            rintro e w' ⟨a, c, rfl, _, _, hb⟩
            exact ⟨a, c, by rw [List.length_take, Hn.out, Nat.min_eq_left (by omega)], hb⟩))
          have q0 : ¬ (j : Int) < (j : Int) := by omega
          have q1 : (n : Int) - (j : Int) = (k0 : Int) + 1 := by have := Hla.out; omega
          have q2 : (k0 : Int) + 1 - 1 = (k0 : Int) := by omega
          have q3 : ((k0 : Int) == (k0 : Int)) = true := beq_self_eq_true _
          clear hm1 l1 l2 hlen e1 e2 et et2 hj
          go_wp2_with (first
            | (go_at_call 14; refine (K14b.out _ HL5.out).mono ?_; rintro e W6 ⟨rfl, hL, hG⟩; have HL6 := hide hL; have HB6 := hide (KB.out _ _ HB5.out hG); clear hL hG)
            | (go_at_call 14; refine K14.out.mono ?_; rintro e W5 ⟨rfl, hL, hG⟩; have HL5 := hide hL; have HB5 := hide (KB.out _ _ HB4.out hG); clear hL hG)
            | (go_at_call 19; refine (K19b.out _ HL6.out).mono ?_; rintro e W7 ⟨a7, c7, rfl, hb⟩; have HB7 := hide (HB6.out.trans (hb.mono HB6.out.size)); clear hb))
          go_ret
          exact ⟨by first | rfl | simp, HB7.out⟩
end Go.Proofs.Ytlmfmkjbdgbbjaa
