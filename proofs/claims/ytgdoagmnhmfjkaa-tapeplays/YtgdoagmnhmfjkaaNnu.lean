/- A number is read: the program's number. -/
import Derived.Test.YtgdoagmnhmfjkaaNvm
import Derived.Test.YtgdoagmnhmfjkaaNap
namespace Go.Proofs.Ytgdoagmnhmfjkaa
open Go.ChangeShapes Go.WideShapes Go.ChangeAt Go.RowKit
set_option linter.unusedVariables false

set_option maxHeartbeats 4000000 in
theorem number_any {w : World} {v : Value} {l : List Int} (h : byE.Rd w v l) (hr : InB l) (hm : l.length ≤ 1000000) :
    Calls Try.prog 56 #[v] w fun e w' => ∃ x s, e = .returned (.tuple #[.int .i64 x, .int .i64 s]) ∧ NumP l x s ∧ w' = w := by
  obtain ⟨a, cap, rfl⟩ := h.form
  obtain ⟨N, hN⟩ : ∃ N, l.length = N := ⟨_, rfl⟩
  rw [hN] at hm h ⊢
  have HN := hide hN
  have H := hide h
  have Hr := hide hr
  clear hN h hr
  go_enter Try.func56, Try.ntmps56
  go_upto_region 2 with fail
  go_cut [8, 9] (fun m i wx => wx = w ∧ i = .int .i64 0 ∧ ∃ M : Nat, m = .int .i64 M ∧ M ≤ 5 ∧ M ≤ N ∧ Hid (M = N ∨ M = 5))
  case first =>
    by_cases q : 5 < N
    · have q' : (5 : Int) < N := by omega
      go_wp2_with fail
      go_meet
      exact ⟨by first | rfl | trivial, by first | rfl | trivial, 5, rfl, by omega, by omega, hide (.inr rfl)⟩
    · have q' : ¬ (5 : Int) < N := by omega
      go_wp2_with fail
      go_meet
      exact ⟨by first | rfl | trivial, by first | rfl | trivial, N, rfl, by omega, by omega, hide (.inl rfl)⟩
  case rest =>
  obtain ⟨rfl, rfl, M, rfl, hM5, hMN, HMe⟩ := hcut
  go_wp2_with fail
  go_loop [4, 9] (fun x i => Hid (∃ n : Nat, n ≤ M ∧ i = .int .i64 n ∧ x = .int .i64 (val (l.take n) : Int) ∧ ∀ y ∈ l.take n, 128 ≤ y)) (fun _ i => 5 - (intOf i).toNat)
  case atStart => exact hide ⟨0, Nat.zero_le _, rfl, rfl, by simp⟩
  case round =>
    obtain ⟨n, hn, rfl, rfl, hp⟩ := hrel.out
    have Hp := hide hp
    clear hrel hp
    by_cases hlt : n < M
    · obtain ⟨z, hz⟩ : ∃ z, l[n]? = some z := ⟨_, List.getElem?_eq_getElem (by rw [HN.out]; omega)⟩
      have hz2 := Hr.out.at hz
      obtain ⟨z0, z1⟩ := hz2
      obtain ⟨b, off, rfl, hcell⟩ := by_at H.out n z hz
      have hv := val_more hz (by rw [HN.out]; omega)
      have hX := val_lt (l.take n)
      have hlen : (l.take n).length = n := by rw [List.length_take, HN.out]; omega
      rw [hlen] at hX
      obtain ⟨X, hXe⟩ : ∃ X, val (l.take n) = X := ⟨_, rfl⟩
      rw [hXe] at hv hX ⊢
      have Hv := hide hv
      have Hz := hide hz
      have HX := hide hX
      have HXe := hide hXe
      clear hv hz hX hXe hlen HMe
      have h5 : n = 0 ∨ n = 1 ∨ n = 2 ∨ n = 3 ∨ n = 4 := by omega
      rcases h5 with rfl | rfl | rfl | rfl | rfl
      · have hlt' : (0 : Int) < M := by omega
        have hltN : (0 : Int) < N := by omega
        have eo : bits .or .i64 (X : Int) (z % 128 * 1) = (X : Int) + z % 128 * 1 := by
          obtain ⟨d, hd⟩ := Int.eq_ofNat_of_zero_le (Int.emod_nonneg z (show (128 : Int) ≠ 0 by omega))
          have hd2 := Int.emod_lt_of_pos z (show (0 : Int) < 128 by omega)
          rw [hd] at hd2 ⊢
          have hx := HX.out
          have := or_add X d 0 (by simpa using hx) (by simp; omega) (by omega)
          simpa using this
        rw [Nat.add_zero] at hcell
        rw [Int.mul_one] at eo
        have Hpn := hide (fun h => take_more Hp.out Hz.out h)
        have HV : Hid ((X : Int) + z % 128 = (val (l.take (0 + 1)) : Int)) := hide (by rw [Hv.out]; simp)
        by_cases h128 : 128 ≤ z
        · go_wp2_with fail
          go_round
          case rel => exact hide ⟨1, by omega, by go_num, by rw [← HV.out], Hpn.out h128⟩
          case measure => simp [intOf]
        · have HP := hide (numP_yes Hr.out (by omega) Hp.out Hz.out (by omega) (by simp) (by rw [HN.out]; omega))
          by_cases hz0 : z = 0
          · subst hz0
            have e2 : bits .or .i64 (X : Int) 0 = (X : Int) := by simpa using eo
            go_wp2_with fail
            go_ret2
            exact ⟨_, _, rfl, by have := HP.out; rw [← HV.out] at this; simpa [e2] using this, rfl⟩
          · have hzb : (z == 0) = false := by simpa using hz0
            go_wp2_with fail
            go_ret2
            exact ⟨_, _, rfl, by have := HP.out; rw [← HV.out] at this; simpa using this, rfl⟩
      · have hlt' : (1 : Int) < M := by omega
        have hltN : (1 : Int) < N := by omega
        have eo : bits .or .i64 (X : Int) (z % 128 * 128) = (X : Int) + z % 128 * 128 := by
          obtain ⟨d, hd⟩ := Int.eq_ofNat_of_zero_le (Int.emod_nonneg z (show (128 : Int) ≠ 0 by omega))
          have hd2 := Int.emod_lt_of_pos z (show (0 : Int) < 128 by omega)
          rw [hd] at hd2 ⊢
          have hx := HX.out
          have := or_add X d 7 (by simpa using hx) (by simp; omega) (by omega)
          simpa using this
        have Hpn := hide (fun h => take_more Hp.out Hz.out h)
        have HV : Hid ((X : Int) + z % 128 * 128 = (val (l.take (1 + 1)) : Int)) := hide (by rw [Hv.out]; simp)
        by_cases h128 : 128 ≤ z
        · go_wp2_with fail
          go_round
          case rel => exact hide ⟨2, by omega, by go_num, by rw [← HV.out], Hpn.out h128⟩
          case measure => simp [intOf]
        · by_cases hz0 : z = 0
          · have HP : Hid (NumP l 0 0) := hide (numP_zero (i := 1) (by omega) Hp.out (by rw [← hz0]; exact Hz.out))
            subst hz0
            go_wp2_with fail
            go_ret2
            exact ⟨_, _, rfl, HP.out, rfl⟩
          · have HP := hide (numP_yes Hr.out (by omega) Hp.out Hz.out (by omega) (fun _ => hz0) (by rw [HN.out]; omega))
            have hzb : (z == 0) = false := by simpa using hz0
            go_wp2_with fail
            go_ret2
            exact ⟨_, _, rfl, by have := HP.out; rw [← HV.out] at this; simpa using this, rfl⟩
      · have hlt' : (2 : Int) < M := by omega
        have hltN : (2 : Int) < N := by omega
        have eo : bits .or .i64 (X : Int) (z % 128 * 16384) = (X : Int) + z % 128 * 16384 := by
          obtain ⟨d, hd⟩ := Int.eq_ofNat_of_zero_le (Int.emod_nonneg z (show (128 : Int) ≠ 0 by omega))
          have hd2 := Int.emod_lt_of_pos z (show (0 : Int) < 128 by omega)
          rw [hd] at hd2 ⊢
          have hx := HX.out
          have := or_add X d 14 (by simpa using hx) (by simp; omega) (by omega)
          simpa using this
        have Hpn := hide (fun h => take_more Hp.out Hz.out h)
        have HV : Hid ((X : Int) + z % 128 * 16384 = (val (l.take (2 + 1)) : Int)) := hide (by rw [Hv.out]; simp)
        by_cases h128 : 128 ≤ z
        · go_wp2_with fail
          go_round
          case rel => exact hide ⟨3, by omega, by go_num, by rw [← HV.out], Hpn.out h128⟩
          case measure => simp [intOf]
        · by_cases hz0 : z = 0
          · have HP : Hid (NumP l 0 0) := hide (numP_zero (i := 2) (by omega) Hp.out (by rw [← hz0]; exact Hz.out))
            subst hz0
            go_wp2_with fail
            go_ret2
            exact ⟨_, _, rfl, HP.out, rfl⟩
          · have HP := hide (numP_yes Hr.out (by omega) Hp.out Hz.out (by omega) (fun _ => hz0) (by rw [HN.out]; omega))
            have hzb : (z == 0) = false := by simpa using hz0
            go_wp2_with fail
            go_ret2
            exact ⟨_, _, rfl, by have := HP.out; rw [← HV.out] at this; simpa using this, rfl⟩
      · have hlt' : (3 : Int) < M := by omega
        have hltN : (3 : Int) < N := by omega
        have eo : bits .or .i64 (X : Int) (z % 128 * 2097152) = (X : Int) + z % 128 * 2097152 := by
          obtain ⟨d, hd⟩ := Int.eq_ofNat_of_zero_le (Int.emod_nonneg z (show (128 : Int) ≠ 0 by omega))
          have hd2 := Int.emod_lt_of_pos z (show (0 : Int) < 128 by omega)
          rw [hd] at hd2 ⊢
          have hx := HX.out
          have := or_add X d 21 (by simpa using hx) (by simp; omega) (by omega)
          simpa using this
        have Hpn := hide (fun h => take_more Hp.out Hz.out h)
        have HV : Hid ((X : Int) + z % 128 * 2097152 = (val (l.take (3 + 1)) : Int)) := hide (by rw [Hv.out]; simp)
        by_cases h128 : 128 ≤ z
        · go_wp2_with fail
          go_round
          case rel => exact hide ⟨4, by omega, by go_num, by rw [← HV.out], Hpn.out h128⟩
          case measure => simp [intOf]
        · by_cases hz0 : z = 0
          · have HP : Hid (NumP l 0 0) := hide (numP_zero (i := 3) (by omega) Hp.out (by rw [← hz0]; exact Hz.out))
            subst hz0
            go_wp2_with fail
            go_ret2
            exact ⟨_, _, rfl, HP.out, rfl⟩
          · have HP := hide (numP_yes Hr.out (by omega) Hp.out Hz.out (by omega) (fun _ => hz0) (by rw [HN.out]; omega))
            have hzb : (z == 0) = false := by simpa using hz0
            go_wp2_with fail
            go_ret2
            exact ⟨_, _, rfl, by have := HP.out; rw [← HV.out] at this; simpa using this, rfl⟩
      · have hlt' : (4 : Int) < M := by omega
        have hltN : (4 : Int) < N := by omega
        have eo : bits .or .i64 (X : Int) (z % 128 * 268435456) = (X : Int) + z % 128 * 268435456 := by
          obtain ⟨d, hd⟩ := Int.eq_ofNat_of_zero_le (Int.emod_nonneg z (show (128 : Int) ≠ 0 by omega))
          have hd2 := Int.emod_lt_of_pos z (show (0 : Int) < 128 by omega)
          rw [hd] at hd2 ⊢
          have hx := HX.out
          have := or_add X d 28 (by simpa using hx) (by simp; omega) (by omega)
          simpa using this
        have Hpn := hide (fun h => take_more Hp.out Hz.out h)
        have HV : Hid ((X : Int) + z % 128 * 268435456 = (val (l.take (4 + 1)) : Int)) := hide (by rw [Hv.out]; simp)
        by_cases h128 : 128 ≤ z
        · go_wp2_with fail
          go_round
          case rel => exact hide ⟨5, by omega, by go_num, by rw [← HV.out], Hpn.out h128⟩
          case measure => simp [intOf]
        · by_cases hz0 : z = 0
          · have HP : Hid (NumP l 0 0) := hide (numP_zero (i := 4) (by omega) Hp.out (by rw [← hz0]; exact Hz.out))
            subst hz0
            go_wp2_with fail
            go_ret2
            exact ⟨_, _, rfl, HP.out, rfl⟩
          · have HP := hide (numP_yes Hr.out (by omega) Hp.out Hz.out (by omega) (fun _ => hz0) (by rw [HN.out]; omega))
            have hzb : (z == 0) = false := by simpa using hz0
            go_wp2_with fail
            go_ret2
            exact ⟨_, _, rfl, by have := HP.out; rw [← HV.out] at this; simpa using this, rfl⟩
    · have HP : Hid (NumP l 0 0) := hide (numP_none (i := n) (by rw [HN.out]; have := HMe.out; omega) Hp.out)
      have hlt' : ¬ (n : Int) < M := by omega
      go_wp2_with fail
      go_ret2
      exact ⟨_, _, rfl, HP.out, rfl⟩
end Go.Proofs.Ytgdoagmnhmfjkaa
