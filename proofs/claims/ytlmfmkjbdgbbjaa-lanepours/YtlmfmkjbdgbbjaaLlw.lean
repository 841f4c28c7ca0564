/- LaneLast, the walk. -/
import Derived.Test.YtlmfmkjbdgbbjaaLrw
namespace Go.Proofs.Ytlmfmkjbdgbbjaa
open Go.RowKit
set_option linter.unusedVariables false

/-- a number from 1 to 30 -/
theorem some30 (x : Int) : ∃ t : Nat, wrap64 ((IntKind.u64.wrap x).tmod 30) + 1 = (t : Int) ∧ 1 ≤ t ∧ t ≤ 30 := by
  obtain ⟨k, hk, hk2⟩ := few x 30 (by omega)
  exact ⟨k + 1, by rw [hk]; omega, by omega, by omega⟩
theorem pushC_in {d : Nat} {xs : List Int} {t : Nat} (h1 : 1 ≤ t) (h2 : t ≤ 30) (hm : (t : Int) ∈ xs) : pushC d xs t = 2 := by
  unfold pushC; rw [if_neg (by omega), if_pos hm]
theorem pushC_ok {d : Nat} {xs : List Int} {t : Nat} (h1 : 1 ≤ t) (h2 : t ≤ 30) (hm : (t : Int) ∉ xs) (hl : xs.length < d) : pushC d xs t = 0 := by
  unfold pushC; rw [if_neg (by omega), if_neg hm, if_neg (by omega)]
theorem pushC_full {d : Nat} {xs : List Int} {t : Nat} (h1 : 1 ≤ t) (h2 : t ≤ 30) (hm : (t : Int) ∉ xs) (hl : ¬ xs.length < d) : pushC d xs t = 5 := by
  unfold pushC; rw [if_neg (by omega), if_neg hm, if_pos (by omega)]
theorem take_last {xs : List Int} {j : Nat} {t : Int} (h : xs[j]? = some t) : (xs.take (j + 1)).getLast? = some t ∧ (xs.take (j + 1)).dropLast = xs.take j := by
  have hl := idx_lt h
  have e : (xs.take (j + 1)).length = j + 1 := by rw [List.length_take]; omega
  refine ⟨?_, ?_⟩
  · rw [List.getLast?_eq_getElem?, e, Nat.add_sub_cancel, List.getElem?_take_of_lt (by omega), h]
  · rw [List.dropLast_eq_take, e, Nat.add_sub_cancel, List.take_take]; congr 1; omega
/-- a lane stays where a row that isn't its own grows -/
theorem Ln.row {w w' : World} {g d B : Nat} {xs ys : List Int} {v : Value} (h : Ln w g d xs) (ho : intE.Own w B v ys) (hg : w.grownBy w' v.ownBlock) (hB : g < B) : Ln w' g d xs :=
  h.stay (hg.block g h.lt (fun e => by have := ho.ge g e.symm; omega))

set_option maxRecDepth 100000 in
set_option maxHeartbeats 8000000 in
theorem last_walk (n0 : Int) (a : Option Addr) (m c : Nat) (zs : List Int) (w : World) (hm : zs.length = m) (hv : intE.Rd w (.slice a m c) zs) : Calls Try.prog 4 #[.int .i64 n0, .slice a m c] w fun e w' => e = .returned (.bool true) ∧ Below w.heap.size w w' := by
  obtain ⟨w0, rfl⟩ : ∃ w0, w0 = w := ⟨_, rfl⟩
  have KA := hide awake_any
  obtain ⟨k, hk, hk20⟩ := few n0 8 (by omega)
  obtain ⟨N, hN⟩ : ∃ N : Nat, (k : Int) + 1 = (N : Int) := ⟨k + 1, by omega⟩
  have hN1 : 1 ≤ N := by omega
  have hN2 : N ≤ 8 := by omega
  have Hm := hide hm
  have HV := hide hv
  clear hm hv
  go_enter Try.func4, Try.ntmps4
  go_upto_region 4 with (go_at_call 8; refine (KA.out _).mono ?_; rintro e W1 ⟨rfl, hb1⟩; have HB := hide hb1; clear hb1)
  try rw [hN]
  generalize wrap64 ((IntKind.u64.wrap n0).tmod 8) = y1 at *
  generalize (IntKind.u64.wrap n0).tmod 8 = y2 at *
  generalize IntKind.u64.wrap n0 = y3 at *
  clear hk hk20 hN KA
  obtain ⟨g, hg⟩ : ∃ g, W1.heap.size = g := ⟨_, rfl⟩
  have KN : Hid (Calls Try.prog 9 #[.int .i64 N] W1 fun e w' => e = .returned (.tuple #[.pointer (some ⟨g, 0, none⟩), .int .i64 0]) ∧ Ln w' g N [] ∧ Below g W1 w') := hide (by rw [← hg]; exact new_ok N W1 hN1 hN2)
  have Hg : Hid (w0.heap.size ≤ g) := hide (by rw [← hg]; exact HB.out.size)
  have KB : Hid (∀ W W', Below w0.heap.size w0 W → W.grownBy W' (some g) → Below w0.heap.size w0 W') := hide (fun W W' hb hg' => hb.grown hg' hb.size (fun k hk => by cases hk; exact Hg.out))
  have K10 : Hid (∀ (W : World) (xs : List Int) (t : Int), Ln W g N xs → _) := hide (fun W xs t h => push_any t W h)
  have K20 : Hid (∀ (W : World), Ln W g N [] → Calls Try.prog 20 #[.pointer (some ⟨g, 0, none⟩)] W fun e w' => e = .returned (.int .i64 (N : Int)) ∧ ∃ q, w' = W.drewN q) := hide (fun W h => room_any W h)
  have h8 : (N : Int) ≤ 8 := by omega
  clear hg hN1 hN2
  go_upto_block 0 with (go_at_call 9; refine KN.out.mono ?_; rintro e WN ⟨rfl, hL, hb⟩; have HL0 := hide hL; have HB0 : Hid (Below w0.heap.size w0 WN) := hide (HB.out.trans (hb.mono Hg.out)); clear hL hb)
  obtain ⟨B, hBn⟩ : ∃ B, WN.heap.size = B := ⟨_, rfl⟩
  have HgB : Hid (g < B) := hide (by rw [← hBn]; exact HL0.out.lt)
  have HBl : Hid (w0.heap.size ≤ B) := hide (by rw [← hBn]; exact HB0.out.size)
  go_cut [7] (fun v7 wx => ∃ (xs : List Int), Hid (Ln wx g N xs) ∧ Hid (Below w0.heap.size w0 wx) ∧ Hid (intE.Own wx B v7 xs))
  case first =>
    go_wp2_with fail
    go_loopw [7, 8] (fun v7 v8 wr => ∃ (i : Nat) (xs : List Int), v8 = .int .i64 i ∧ i ≤ m ∧ i ≤ 50 ∧ B ≤ wr.heap.size ∧ Hid (Ln wr g N xs) ∧ Hid (Below w0.heap.size w0 wr) ∧ Hid (intE.Own wr B v7 xs)) (fun _ v8 _ => 50 - (intOf v8).toNat)
    case atStart => exact ⟨0, [], rfl, Nat.zero_le _, by omega, by omega, HL0, HB0, hide (El.Own.nil _ _ _)⟩
    case round =>
      obtain ⟨i, xs, rfl, him, hi2, hBw, HL, HB1, HO⟩ := hrel
      by_cases hlt : i < m
      · by_cases hlt2 : i < 50
        · have q0 : (i : Int) < (m : Int) := by omega
          have q1 : (i : Int) < 50 := by omega
          have q2 : (0 : Int) ≤ (i : Int) := by omega
          obtain ⟨z, hz⟩ : ∃ z, zs[i]? = some z := ⟨_, List.getElem?_eq_getElem (by rw [Hm.out]; exact hlt)⟩
          obtain ⟨b, off, rfl, z0⟩ := int_at HV.out i z hz
          have z1 : wr.cell? ⟨b, off + i, none⟩ = some (.int .i64 z) := by rw [HB1.out.cell (p := ⟨b, off + i, none⟩) (cell_lt z0)]; exact z0
          obtain ⟨t, ht, ht1, ht2⟩ := some30 z
          obtain ⟨a7, c7, hf⟩ := HO.out.rd.form
          subst hf
          have hle := HL.out.le
          obtain ⟨n, hn⟩ : ∃ n, xs.length = n := ⟨_, rfl⟩
          have Hn := hide hn
          rw [hn] at HO hle ⊢
          have s0 : (n : Int) ≤ 8 := by omega
          clear z0 hz hlt hlt2
          go_upto_region 14 with fail
          try rw [ht]
          generalize wrap64 ((IntKind.u64.wrap z).tmod 30) = y4 at *
          generalize (IntKind.u64.wrap z).tmod 30 = y5 at *
          generalize IntKind.u64.wrap z = y6 at *
          clear ht
          obtain ⟨wA, rfl⟩ : ∃ W, W = wr := ⟨_, rfl⟩
          go_loopw [10, 55] (fun v10 v55 wr => wr = wA ∧ ∃ k : Nat, v55 = .int .i64 k ∧ k ≤ n ∧ v10 = .bool (decide ((t : Int) ∈ xs.take k))) (fun _ v55 _ => n - (intOf v55).toNat)
          case atStart => exact ⟨rfl, 0, rfl, Nat.zero_le _, by simp⟩
          case round =>
            obtain ⟨hwr, k, rfl, hkn, rfl⟩ := hrel
            have hwr' := hwr.symm
            clear hwr
            subst hwr'
            by_cases hk : k < n
            · obtain ⟨p, hp⟩ : ∃ p, xs[k]? = some p := ⟨_, List.getElem?_eq_getElem (by rw [Hn.out]; exact hk)⟩
              obtain ⟨b7, off7, rfl, z2⟩ := int_at HO.out.rd k p hp
              have r0 : (k : Int) < (n : Int) := by omega
              have r1 : (0 : Int) ≤ (k : Int) := by omega
              have HE : Hid (decide ((t : Int) ∈ xs.take (k + 1)) = (decide ((t : Int) ∈ xs.take k) || p == (t : Int))) := hide (by
                rw [List.take_add_one, hp, Bool.eq_iff_iff]
                simp
                constructor
                · rintro (h | h)
                  · exact .inl h
                  · exact .inr h.symm
                · rintro (h | h)
                  · exact .inl h
                  · exact .inr h.symm)
              generalize hd : decide ((t : Int) ∈ xs.take k) = dd at *
              clear hp hk hd
              cases dd with
              | true =>
                go_wp2_with fail
                go_roundw
                case rel => exact ⟨trivial, k + 1, by go_num, by omega, by rw [HE.out]; rfl⟩
                case measure => simp [intOf]; omega
              | false =>
                go_wp2_with fail
                go_roundw
                case rel => exact ⟨trivial, k + 1, by go_num, by omega, by rw [HE.out]; rfl⟩
                case measure => simp [intOf]; omega
            · obtain rfl : k = n := by omega
              have r0 : ¬ (k : Int) < (k : Int) := by omega
              have hdt : decide ((t : Int) ∈ xs.take k) = decide ((t : Int) ∈ xs) := by rw [List.take_of_length_le (by rw [Hn.out]; omega)]
              rw [hdt]
              have H10 := hide (K10.out wA xs t HL.out)
              clear hdt hk
              by_cases hmem : (t : Int) ∈ xs
              · rw [decide_eq_true hmem]
                rw [pushC_in ht1 ht2 hmem, show pushL N xs (t : Int) = xs from if_neg (by rw [pushC_in ht1 ht2 hmem]; decide)] at H10
                clear hmem
                go_wp2_with (go_at_call 10; refine H10.out.mono ?_; rintro e W3 ⟨rfl, hL, hG⟩; have HL3 := hide hL; have HB3 := hide (KB.out _ _ HB1.out hG); have HO3 := hide (own_lane HO.out hG HgB.out); have hs3 := hide hG.size; clear hL hG)
                go_roundw
                case rel => exact ⟨i + 1, xs, by go_num, by omega, by omega, by have := hs3.out; omega, HL3, HB3, HO3⟩
                case measure => simp [intOf]; omega
              · rw [decide_eq_false hmem]
                by_cases hfull : k < N
                · rw [pushC_ok ht1 ht2 hmem (by rw [Hn.out]; exact hfull), show pushL N xs (t : Int) = xs ++ [(t : Int)] from if_pos (pushC_ok ht1 ht2 hmem (by rw [Hn.out]; exact hfull))] at H10
                  have r2 : (k : Int) < (N : Int) := by omega
                  have HLn : Hid (xs.length + [(t : Int)].length ≤ 1000000) := hide (by rw [Hn.out]; simp; omega)
                  clear hmem hfull
                  go_upto_region 22 with (go_at_call 10; refine H10.out.mono ?_; rintro e W3 ⟨rfl, hL, hG⟩; have HL3 := hide hL; have HB3 := hide (KB.out _ _ HB1.out hG); have HO3 := hide (own_lane HO.out hG HgB.out); have hs3 := hide hG.size; clear hL hG)
                  have Hba : Hid (∀ (o : Obj), Below W3.heap.size W3 (W3.alloc o)) := hide (fun o => (Below.refl _ _).alloc (Nat.le_refl _) o)
                  have HBa : Hid (∀ (o : Obj), B ≤ (W3.alloc o).heap.size) := hide (fun o => by have := (Hba.out o).size; have := hs3.out; omega)
                  have HOa : Hid (∀ (o : Obj), intE.Own (W3.alloc o) B (.slice a7 k c7) xs) := hide (fun o => HO3.out.keep (Hba.out o))
                  have HNw : Hid (intE.Rd (W3.alloc (.cells #[.int .i64 (t : Int)] 3)) (.slice (some ⟨W3.heap.size, 0, none⟩) 1 1) [(t : Int)]) := hide (int_new _ _ _ rfl)
                  go_wp2_with (at_builtin; refine intE.wpB (HBa.out _) (by rfl) _ _ rfl _ _ rfl rfl xs [(t : Int)] (HOa.out _) HNw.out HLn.out ?_; intro v' w' ho hg hs; have HO4 := hide ho; have HL4 := hide ((HL3.out.keep (Hba.out _)).row (HOa.out _) hg HgB.out); have HB4 := hide ((HB3.out.trans ((Hba.out _).mono HB3.out.size)).grown hg (by have := HBa.out (.cells #[.int .i64 (t : Int)] 3); have := HBl.out; omega) (fun k hk => by have := (HOa.out (.cells #[.int .i64 (t : Int)] 3)).ge k hk; have := HBl.out; omega)); have hs4 := hide (Nat.le_trans (HBa.out _) hg.size); clear ho hg hs)
                  go_roundw
                  case rel => exact ⟨i + 1, xs ++ [(t : Int)], by go_num, by omega, by omega, hs4.out, HL4, HB4, HO4⟩
                  case measure => simp [intOf]; omega
                · rw [pushC_full ht1 ht2 hmem (by rw [Hn.out]; exact hfull), show pushL N xs (t : Int) = xs from if_neg (by rw [pushC_full ht1 ht2 hmem (by rw [Hn.out]; exact hfull)]; decide)] at H10
                  have r2 : ¬ (k : Int) < (N : Int) := by omega
                  clear hmem hfull
                  go_wp2_with (go_at_call 10; refine H10.out.mono ?_; rintro e W3 ⟨rfl, hL, hG⟩; have HL3 := hide hL; have HB3 := hide (KB.out _ _ HB1.out hG); have HO3 := hide (own_lane HO.out hG HgB.out); have hs3 := hide hG.size; clear hL hG)
                  go_roundw
                  case rel => exact ⟨i + 1, xs, by go_num, by omega, by omega, by have := hs3.out; omega, HL3, HB3, HO3⟩
                  case measure => simp [intOf]; omega
        · have q0 : (i : Int) < (m : Int) := by omega
          have q1 : ¬ (i : Int) < 50 := by omega
          clear hlt hlt2
          go_wp2_with fail
          go_meet
          exact ⟨xs, HL, HB1, HO⟩
      · have q0 : ¬ (i : Int) < (m : Int) := by omega
        clear hlt
        go_wp2_with fail
        go_meet
        exact ⟨xs, HL, HB1, HO⟩
  case rest =>
    obtain ⟨xs, HL, HB1, HO⟩ := hcut
    obtain ⟨a7, c7, hf⟩ := HO.out.rd.form
    subst hf
    have hle := HL.out.le
    obtain ⟨n, hn⟩ : ∃ n, xs.length = n := ⟨_, rfl⟩
    have Hn := hide hn
    rw [hn] at HO hle ⊢
    have s0 : (n : Int) ≤ 8 := by omega
    clear hBn hn
    go_wp2_with fail
    go_loopw [14] (fun v14 wr => ∃ (j : Nat) (y : Int), v14 = .int .i64 y ∧ y + 1 = (j : Int) ∧ j ≤ n ∧ Hid (Ln wr g N (xs.take j)) ∧ Hid (Below w0.heap.size w0 wr) ∧ Hid (intE.Own wr B (.slice a7 n c7) xs)) (fun v14 _ => (intOf v14 + 1).toNat)
    case atStart => exact ⟨n, _, rfl, by omega, Nat.le_refl _, hide (by rw [List.take_of_length_le (by rw [Hn.out]; exact Nat.le_refl _)]; exact HL.out), HB1, HO⟩
    case round =>
      obtain ⟨j, y, rfl, hy, hjn, HL1, HB2, HO2⟩ := hrel
      cases j with
      | zero =>
        obtain rfl : y = -1 := by omega
        have HL2 : Hid (Ln wr g N []) := hide (by simpa using HL1.out)
        have K12 := hide (pop_none wr HL2.out)
        have s1 : ((N : Int) == (N : Int)) = true := beq_self_eq_true _
        clear hy
        go_wp2_with (first | (go_at_call 12; refine K12.out.mono ?_; rintro e W3 ⟨rfl, hW⟩; have hW' := hW.symm; clear hW; subst hW') | (go_at_call 20; refine (K20.out _ HL2.out).mono ?_; rintro e W4 ⟨rfl, q, rfl⟩))
        go_ret
        exact ⟨by first | rfl | simp, below_drew HB2.out _⟩
      | succ j =>
        obtain rfl : y = (j : Int) := by omega
        obtain ⟨p, hp⟩ : ∃ p, xs[j]? = some p := ⟨_, List.getElem?_eq_getElem (by rw [Hn.out]; exact hjn)⟩
        obtain ⟨b7, off7, ha7, z2⟩ := int_at HO2.out.rd j p hp
        have hlt7 := HO2.out.rd
        obtain ⟨e1, e2⟩ := take_last hp
        have K12 := hide (pop_some wr HL1.out e1)
        rw [e2] at K12
        have HC : Hid (∀ W, intE.Own W B (.slice a7 n c7) xs → W.cell? ⟨b7, off7 + j, none⟩ = some (.int .i64 p)) := hide (fun W h => by
          obtain ⟨b8, off8, h8, z8⟩ := int_at h.rd j p hp
          rw [ha7] at h8
          cases h8
          exact z8)
        subst ha7
        have r0 : (j : Int) < (n : Int) := by omega
        have r1 : (0 : Int) ≤ (j : Int) := by omega
        have r2 : (j : Int) ≥ 0 := by omega
        have r3 : (p != p) = false := bne_self_eq_false _
        clear hp e1 e2 hy z2 hlt7
        go_upto_region 27 with (go_at_call 12; refine K12.out.mono ?_; rintro e W3 ⟨rfl, hL, hG⟩; have HL3 := hide hL; have HB3 := hide (KB.out _ _ HB2.out hG); have HO3 := hide (own_lane HO2.out hG HgB.out); clear hL hG)
        have z3 := HC.out W3 HO3.out
        go_wp2_with fail
        go_roundw
        case rel => exact ⟨j, _, rfl, by omega, by omega, HL3, HB3, HO3⟩
        case measure => simp [intOf]
end Go.Proofs.Ytlmfmkjbdgbbjaa
