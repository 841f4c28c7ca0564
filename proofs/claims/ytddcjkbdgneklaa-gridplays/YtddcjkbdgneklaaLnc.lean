/- The document's Ints; awake: the document's examples. -/
import Derived.Test.YtddcjkbdgneklaaLnb
namespace Go.Proofs.Ytddcjkbdgneklaa
open Go.RowKit
set_option linter.unusedVariables false

set_option maxRecDepth 100000 in
set_option maxHeartbeats 2000000 in
theorem ints_any (a b : Option Addr) (c d n n' : Nat) (xs ys : List Int) (w : World) (hn : xs.length = n) (hn' : ys.length = n') (hv : intE.Rd w (.slice a n c) xs) (hu : intE.Rd w (.slice b n' d) ys) (hl : n ≤ 100000) :
    Calls Try.prog 12 #[.slice a n c, .slice b n' d] w fun e w' => e = .returned (.bool (decide (xs = ys))) ∧ ∃ q, w' = w.drewN q := by
  have no1 : Hid (n ≠ n' → decide (xs = ys) = false) := hide (fun h => decide_eq_false (fun e => h (by rw [← hn, ← hn', e])))
  have no2 : Hid (∀ (k : Nat) (p q : Int), xs[k]? = some p → ys[k]? = some q → p ≠ q → decide (xs = ys) = false) := hide (fun k p q h1 h2 h3 => decide_eq_false (fun e => h3 (by rw [e, h2] at h1; exact (Option.some.inj h1).symm)))
  have yes : Hid (n = n' → xs.take n = ys.take n → decide (xs = ys) = true) := hide (fun h1 h3 => decide_eq_true (by rwa [List.take_of_length_le (by omega), List.take_of_length_le (by omega)] at h3))
  generalize decide (xs = ys) = res at *
  by_cases hnn' : n ≠ n'
  · have e1 := no1.out hnn'
    subst e1
    have q1 : ((n : Int) != (n' : Int)) = true := bne_iff_ne.2 (by omega)
    clear no1 no2 yes hv hu hn hn' hnn'
    go_enter Try.func12, Try.ntmps12
    go_wp2_with fail
    go_ret
    exact ⟨rfl, 0, rfl⟩
  have hnn : n = n' := Decidable.not_not.1 hnn'
  clear hnn'
  subst hnn
  have q1 : ((n : Int) != (n : Int)) = false := bne_self_eq_false _
  have Hn := hide hn
  have Hn' := hide hn'
  have Hv := hide hv
  have Hu := hide hu
  have i0 : (n : Int) ≤ 100000 := by omega
  clear hn hn' hv hu hl no1
  go_enter Try.func12, Try.ntmps12
  go_wp2_with fail
  go_loopw [13] (fun v13 wr => ∃ k q : Nat, k ≤ n ∧ v13 = .int .i64 k ∧ wr = w.drewN q ∧ Hid (xs.take k = ys.take k)) (fun v13 _ => n - (intOf v13).toNat)
  case atStart => exact ⟨0, 0, by omega, rfl, rfl, hide (by simp)⟩
  case round =>
    obtain ⟨k, q, hk, rfl, rfl, HX⟩ := hrel
    by_cases hlt : k < n
    · obtain ⟨p, hp⟩ : ∃ p, xs[k]? = some p := ⟨_, List.getElem?_eq_getElem (by rw [Hn.out]; exact hlt)⟩
      obtain ⟨p', hp'⟩ : ∃ p, ys[k]? = some p := ⟨_, List.getElem?_eq_getElem (by rw [Hn'.out]; exact hlt)⟩
      obtain ⟨b1, off1, rfl, c0⟩ := int_at Hv.out k p hp
      obtain ⟨b2, off2, rfl, c3⟩ := int_at Hu.out k p' hp'
      have j0 : (0 : Int) ≤ (k : Int) := by omega
      have j1 : (k : Int) < (n : Int) := by omega
      have Hp := hide hp
      have Hp' := hide hp'
      clear hp hp'
      by_cases he : p = p'
      · have hbe : (p != p') = false := by rw [he]; exact bne_self_eq_false _
        have HX1 : Hid (xs.take (k + 1) = ys.take (k + 1)) := hide (by rw [List.take_add_one, List.take_add_one, HX.out, Hp.out, Hp'.out, he])
        clear he
        go_upto_region 6 with fail
        go_quiet (fail)
        go_wp2_with fail
        go_roundw
        case rel => exact ⟨k + 1, _, by omega, by go_num, rfl, HX1⟩
        case measure => simp [intOf]; omega
      · have hbe : (p != p') = true := bne_iff_ne.2 he
        have e1 := no2.out k p p' Hp.out Hp'.out he
        subst e1
        clear he
        go_upto_region 6 with fail
        go_quiet (fail)
        go_wp2_with fail
        go_ret
        exact ⟨rfl, _, rfl⟩
    · obtain rfl : k = n := by omega
      have j1 : ¬ (k : Int) < (k : Int) := by omega
      have e1 := yes.out (by first | rfl | trivial) HX.out
      subst e1
      go_wp2_with fail
      go_ret
      exact ⟨rfl, _, rfl⟩


end Go.Proofs.Ytddcjkbdgneklaa
