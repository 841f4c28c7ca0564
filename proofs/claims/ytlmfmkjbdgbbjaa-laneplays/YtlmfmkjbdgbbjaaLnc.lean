/- The document's Ints; awake: the document's examples. -/
import Derived.Test.YtlmfmkjbdgbbjaaLnb
namespace Go.Proofs.Ytlmfmkjbdgbbjaa
open Go.RowKit
set_option linter.unusedVariables false

set_option maxRecDepth 100000 in
set_option maxHeartbeats 2000000 in
theorem ints_any (a b : Option Addr) (c d n n' : Nat) (xs ys : List Int) (w : World) (hn : xs.length = n) (hn' : ys.length = n') (hv : intE.Rd w (.slice a n c) xs) (hu : intE.Rd w (.slice b n' d) ys) (hl : n ≤ 100000) :
    Calls Try.prog 18 #[.slice a n c, .slice b n' d] w fun e w' => e = .returned (.bool (decide (xs = ys))) ∧ ∃ q, w' = w.drewN q := by
  have no1 : Hid (n ≠ n' → decide (xs = ys) = false) := hide (fun h => decide_eq_false (fun e => h (by rw [← hn, ← hn', e])))
  have no2 : Hid (∀ (k : Nat) (p q : Int), xs[k]? = some p → ys[k]? = some q → p ≠ q → decide (xs = ys) = false) := hide (fun k p q h1 h2 h3 => decide_eq_false (fun e => h3 (by rw [e, h2] at h1; exact (Option.some.inj h1).symm)))
  have yes : Hid (n = n' → xs.take n = ys.take n → decide (xs = ys) = true) := hide (fun h1 h3 => decide_eq_true (by rwa [List.take_of_length_le (by omega), List.take_of_length_le (by omega)] at h3))
  generalize decide (xs = ys) = res at *
  by_cases hnn' : n ≠ n'
  · have e1 := no1.out hnn'
    subst e1
    have q1 : ((n : Int) != (n' : Int)) = true := bne_iff_ne.2 (by omega)
    clear no1 no2 yes hv hu hn hn' hnn'
    go_enter Try.func18, Try.ntmps18
    go_wp2_with fail
    go_ret
    exact ⟨rfl, 0, rfl⟩
  have hnn : n = n' := Decidable.not_not.1 hnn'
  clear hnn'
  subst hnn
  have q1 : ((n : Int) != (n : Int)) = false := bne_self_eq_false _
  have Hn := hide hn
  have Hn' := hide hn'
  have Hv := hide hv
  have Hu := hide hu
  have i0 : (n : Int) ≤ 100000 := by omega
  clear hn hn' hv hu hl no1
  go_enter Try.func18, Try.ntmps18
  go_wp2_with fail
  go_loopw [13] (fun v13 wr => ∃ k q : Nat, k ≤ n ∧ v13 = .int .i64 k ∧ wr = w.drewN q ∧ Hid (xs.take k = ys.take k)) (fun v13 _ => n - (intOf v13).toNat)
  case atStart => exact ⟨0, 0, by omega, rfl, rfl, hide (by simp)⟩
  case round =>
    obtain ⟨k, q, hk, rfl, rfl, HX⟩ := hrel
    by_cases hlt : k < n
    · obtain ⟨p, hp⟩ : ∃ p, xs[k]? = some p := ⟨_, List.getElem?_eq_getElem (by rw [Hn.out]; exact hlt)⟩
      obtain ⟨p', hp'⟩ : ∃ p, ys[k]? = some p := ⟨_, List.getElem?_eq_getElem (by rw [Hn'.out]; exact hlt)⟩
      obtain ⟨b1, off1, rfl, c0⟩ := int_at Hv.out k p hp
      obtain ⟨b2, off2, rfl, c3⟩ := int_at Hu.out k p' hp'
      have j0 : (0 : Int) ≤ (k : Int) := by omega
      have j1 : (k : Int) < (n : Int) := by omega
      have Hp := hide hp
      have Hp' := hide hp'
      clear hp hp'
      by_cases he : p = p'
      · have hbe : (p != p') = false := by rw [he]; exact bne_self_eq_false _
        have HX1 : Hid (xs.take (k + 1) = ys.take (k + 1)) := hide (by rw [List.take_add_one, List.take_add_one, HX.out, Hp.out, Hp'.out, he])
        clear he
        go_upto_region 6 with fail
        go_quiet (fail)
        go_wp2_with fail
        go_roundw
        case rel => exact ⟨k + 1, _, by omega, by go_num, rfl, HX1⟩
        case measure => simp [intOf]; omega
      · have hbe : (p != p') = true := bne_iff_ne.2 he
        have e1 := no2.out k p p' Hp.out Hp'.out he
        subst e1
        clear he
        go_upto_region 6 with fail
        go_quiet (fail)
        go_wp2_with fail
        go_ret
        exact ⟨rfl, _, rfl⟩
    · obtain rfl : k = n := by omega
      have j1 : ¬ (k : Int) < (k : Int) := by omega
      have e1 := yes.out (by first | rfl | trivial) HX.out
      subst e1
      go_wp2_with fail
      go_ret
      exact ⟨rfl, _, rfl⟩


set_option maxRecDepth 100000 in
set_option maxHeartbeats 4000000 in
theorem awake_any (w : World) : Calls Try.prog 8 #[] w fun e w' => e = .returned (.bool true) ∧ Below w.heap.size w w' := by
  obtain ⟨w0, rfl⟩ : ∃ w0, w0 = w := ⟨_, rfl⟩
  obtain ⟨g, hg⟩ : ∃ g, w0.heap.size = g := ⟨_, rfl⟩
  have KN : Hid (Calls Try.prog 9 #[.int .i64 2] w0 fun e w' => e = .returned (.tuple #[.pointer (some ⟨g, 0, none⟩), .int .i64 0]) ∧ Ln w' g 2 [] ∧ Below g w0 w') := hide (by rw [← hg]; exact new_ok 2 w0 (by omega) (by omega))
  have KB : Hid (∀ W W', Below g w0 W → W.grownBy W' (some g) → Below g w0 W') := hide (fun W W' hb hg' => hb.grown hg' (by have := hb.size; omega) (fun k hk => by cases hk; exact Nat.le_refl _))
  have KP1 : Hid (∀ W, Ln W g 2 [] → Calls Try.prog 10 #[.pointer (some ⟨g, 0, none⟩), .int .i64 1] W fun e w' => e = .returned (.int .i64 0) ∧ Ln w' g 2 [1] ∧ W.grownBy w' (some g)) := hide (fun W h => push_any 1 W h)
  have KP2 : Hid (∀ W, Ln W g 2 [1] → Calls Try.prog 10 #[.pointer (some ⟨g, 0, none⟩), .int .i64 2] W fun e w' => e = .returned (.int .i64 0) ∧ Ln w' g 2 [1, 2] ∧ W.grownBy w' (some g)) := hide (fun W h => push_any 2 W h)
  have KP3 : Hid (∀ W, Ln W g 2 [1, 2] → Calls Try.prog 10 #[.pointer (some ⟨g, 0, none⟩), .int .i64 3] W fun e w' => e = .returned (.int .i64 5) ∧ Ln w' g 2 [1, 2] ∧ W.grownBy w' (some g)) := hide (fun W h => push_any 3 W h)
  have KT1 : Hid (∀ W, Ln W g 2 [1, 2] → Calls Try.prog 14 #[.pointer (some ⟨g, 0, none⟩), .int .i64 1] W fun e w' => e = .returned (.int .i64 110) ∧ Ln w' g 2 [1, 2] ∧ W.grownBy w' (some g)) := hide (fun W h => take_any 1 W h)
  have KQ : Hid (∀ W, Ln W g 2 [1, 2] → Calls Try.prog 12 #[.pointer (some ⟨g, 0, none⟩)] W fun e w' => e = .returned (.tuple #[.int .i64 2, .int .i64 0]) ∧ Ln w' g 2 [1] ∧ W.grownBy w' (some g)) := hide (fun W h => pop_some W h rfl)
  have KT2 : Hid (∀ W, Ln W g 2 [1] → Calls Try.prog 14 #[.pointer (some ⟨g, 0, none⟩), .int .i64 1] W fun e w' => e = .returned (.int .i64 0) ∧ Ln w' g 2 [] ∧ W.grownBy w' (some g)) := hide (fun W h => take_any 1 W h)
  have KR : Hid (∀ W, Ln W g 2 [] → Calls Try.prog 20 #[.pointer (some ⟨g, 0, none⟩)] W fun e w' => e = .returned (.int .i64 2) ∧ ∃ q, w' = W.drewN q) := hide (fun W h => room_any W h)
  rw [hg]
  clear hg
  go_enter Try.func8, Try.ntmps8
  go_wp2_with (first
    | (go_at_call 9; refine KN.out.mono ?_; rintro e WN ⟨rfl, hL, hb⟩; have HL0 := hide hL; have HB0 := hide hb; clear hL hb)
    | (go_at_call_of 10 (Value.int .i64 1); refine (KP1.out _ HL0.out).mono ?_; rintro e WA ⟨rfl, hL, hG⟩; have HL1 := hide hL; have HB1 := hide (KB.out _ _ HB0.out hG); clear hL hG)
    | (go_at_call_of 10 (Value.int .i64 2); refine (KP2.out _ HL1.out).mono ?_; rintro e WB ⟨rfl, hL, hG⟩; have HL2 := hide hL; have HB2 := hide (KB.out _ _ HB1.out hG); clear hL hG)
    | (go_at_call_of 10 (Value.int .i64 3); refine (KP3.out _ HL2.out).mono ?_; rintro e WC ⟨rfl, hL, hG⟩; have HL3 := hide hL; have HB3 := hide (KB.out _ _ HB2.out hG); clear hL hG)
    | (go_at_call 12; refine (KQ.out _ HL4.out).mono ?_; rintro e WE ⟨rfl, hL, hG⟩; have HL5 := hide hL; have HB5 := hide (KB.out _ _ HB4.out hG); clear hL hG)
    | (go_at_call 14; refine (KT2.out _ HL5.out).mono ?_; rintro e WF ⟨rfl, hL, hG⟩; have HL6 := hide hL; have HB6 := hide (KB.out _ _ HB5.out hG); clear hL hG)
    | (go_at_call 14; refine (KT1.out _ HL3.out).mono ?_; rintro e WD ⟨rfl, hL, hG⟩; have HL4 := hide hL; have HB4 := hide (KB.out _ _ HB3.out hG); clear hL hG)
    | (go_at_call 20; refine (KR.out _ HL6.out).mono ?_; rintro e WG ⟨rfl, q, rfl⟩))
  go_ret
  exact ⟨rfl, ⟨HB6.out.os, HB6.out.tape, HB6.out.output, HB6.out.size, HB6.out.block⟩⟩
end Go.Proofs.Ytlmfmkjbdgbbjaa
