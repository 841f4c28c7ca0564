/- Each call of a gate among other things; the document's Ints; awake: the document's examples. -/
import Derived.Test.YtdnkgfljkdbckaaGte
namespace Go.Proofs.Ytdnkgfljkdbckaa
open Go.RowKit
set_option linter.unusedVariables false

section
variable {w0 w : World} {g c : Nat} {vw : Value} {S S' : Gt} {l : List It}
theorem acceptS {e : Int} (x : Int) (h : Its w0 (.gate w0.heap.size g c vw S :: l) w) (h1 : S.acC x = e) (h2 : S.ac x = S') : Calls Try.prog 11 #[.pointer (some ⟨g, 0, none⟩), .int .i64 x] w fun r w' => r = .returned (.int .i64 e) ∧ ∃ vw', Its w0 (.gate w0.heap.size g c vw' S' :: l) w' := by
  refine (accept_any h.one x).mono ?_
  rintro r w' ⟨rfl, hg⟩
  rw [h1]
  rw [h2] at hg
  exact ⟨rfl, hg.its h⟩
theorem cancelS {e : Int} (x : Int) (h : Its w0 (.gate w0.heap.size g c vw S :: l) w) (h1 : S.fc x = e) (h2 : S.ca x = S') : Calls Try.prog 13 #[.pointer (some ⟨g, 0, none⟩), .int .i64 x] w fun r w' => r = .returned (.int .i64 e) ∧ ∃ vw', Its w0 (.gate w0.heap.size g c vw' S' :: l) w' := by
  refine (cancel_any h.one x).mono ?_
  rintro r w' ⟨rfl, hg⟩
  rw [h1]
  rw [h2] at hg
  exact ⟨rfl, hg.its h⟩
theorem arriveS {e : Int} (x : Int) (h : Its w0 (.gate w0.heap.size g c vw S :: l) w) (h1 : S.arC x = e) (h2 : S.ar x = S') : Calls Try.prog 15 #[.pointer (some ⟨g, 0, none⟩), .int .i64 x] w fun r w' => r = .returned (.int .i64 e) ∧ ∃ vw', Its w0 (.gate w0.heap.size g c vw' S' :: l) w' := by
  refine (arrive_any h.one x).mono ?_
  rintro r w' ⟨rfl, hg⟩
  rw [h1]
  rw [h2] at hg
  exact ⟨rfl, hg.its h⟩
theorem leaveS {v e : Int} (h : Its w0 (.gate w0.heap.size g c vw S :: l) w) (h1 : S.leV = v ∧ S.leC = e) (h2 : S.le = S') : Calls Try.prog 17 #[.pointer (some ⟨g, 0, none⟩)] w fun r w' => r = .returned (.tuple #[.int .i64 v, .int .i64 e]) ∧ ∃ vw', Its w0 (.gate w0.heap.size g c vw' S' :: l) w' := by
  refine (leave_any h.one).mono ?_
  rintro r w' ⟨rfl, hg⟩
  rw [h1.1, h1.2]
  rw [h2] at hg
  exact ⟨rfl, hg.its h⟩
theorem creditsS {e : Int} (h : Its w0 (.gate w0.heap.size g c vw S :: l) w) (h1 : (S.cr : Int) - (S.ins.length : Int) = e) (h2 : S = S') : Calls Try.prog 21 #[.pointer (some ⟨g, 0, none⟩)] w fun r w' => r = .returned (.int .i64 e) ∧ ∃ vw', Its w0 (.gate w0.heap.size g c vw' S' :: l) w' := by
  refine (credits_any h.one).mono ?_
  rintro r w' ⟨rfl, q, rfl⟩
  rw [h1]
  subst h2
  exact ⟨rfl, _, h.drew q⟩
theorem waitingS {n : Nat} (h : Its w0 (.gate w0.heap.size g c vw S :: l) w) (h1 : S.wt.length = n) : Calls Try.prog 19 #[.pointer (some ⟨g, 0, none⟩)] w fun r w' => ∃ a' c', r = .returned (.slice a' n c') ∧ Its w0 (.ints w0.heap.size (.slice a' n c') S.wt :: .gate w0.heap.size g c vw S :: l) w' := by
  refine (waiting_any h.one).mono ?_
  rintro r w' ⟨a', c', rfl, ho, hb⟩
  rw [h1] at ho ⊢
  exact ⟨_, _, rfl, h.fresh ho hb⟩
theorem insideS {n : Nat} (h : Its w0 (.gate w0.heap.size g c vw S :: l) w) (h1 : S.ins.length = n) : Calls Try.prog 20 #[.pointer (some ⟨g, 0, none⟩)] w fun r w' => ∃ a' c', r = .returned (.slice a' n c') ∧ Its w0 (.ints w0.heap.size (.slice a' n c') S.ins :: .gate w0.heap.size g c vw S :: l) w' := by
  refine (inside_any h.one).mono ?_
  rintro r w' ⟨a', c', rfl, ho, hg, hf⟩
  rw [h1] at ho ⊢
  exact ⟨_, _, rfl, h.chgNew (x' := .gate w0.heap.size g c vw S) hg (fun k hk => hk) (frm_gf hf) (y := .ints w0.heap.size _ S.ins) (ho.mono h.size) (fun k hk => ho.ge k hk)⟩
end

set_option maxRecDepth 100000 in
set_option maxHeartbeats 2000000 in
theorem ints_any (a b : Option Addr) (c d n n' : Nat) (xs ys : List Int) (w : World) (hn : xs.length = n) (hn' : ys.length = n') (hv : intE.Rd w (.slice a n c) xs) (hu : intE.Rd w (.slice b n' d) ys) (hl : n ≤ 100000) :
    Calls Try.prog 22 #[.slice a n c, .slice b n' d] w fun e w' => e = .returned (.bool (decide (xs = ys))) ∧ ∃ q, w' = w.drewN q := by
  have no1 : Hid (n ≠ n' → decide (xs = ys) = false) := hide (fun h => decide_eq_false (fun e => h (by rw [← hn, ← hn', e])))
  have no2 : Hid (∀ (k : Nat) (p q : Int), xs[k]? = some p → ys[k]? = some q → p ≠ q → decide (xs = ys) = false) := hide (fun k p q h1 h2 h3 => decide_eq_false (fun e => h3 (by rw [e, h2] at h1; exact (Option.some.inj h1).symm)))
  have yes : Hid (n = n' → xs.take n = ys.take n → decide (xs = ys) = true) := hide (fun h1 h3 => decide_eq_true (by rwa [List.take_of_length_le (by omega), List.take_of_length_le (by omega)] at h3))
  generalize decide (xs = ys) = res at *
  by_cases hnn' : n ≠ n'
  · have e1 := no1.out hnn'
    subst e1
    have q1 : ((n : Int) != (n' : Int)) = true := bne_iff_ne.2 (by omega)
    clear no1 no2 yes hv hu hn hn' hnn'
    go_enter Try.func22, Try.ntmps22
    go_wp2_with fail
    go_ret
    exact ⟨rfl, 0, rfl⟩
  have hnn : n = n' := Decidable.not_not.1 hnn'
  clear hnn'
  subst hnn
  have q1 : ((n : Int) != (n : Int)) = false := bne_self_eq_false _
  have Hn := hide hn
  have Hn' := hide hn'
  have Hv := hide hv
  have Hu := hide hu
  have i0 : (n : Int) ≤ 100000 := by omega
  clear hn hn' hv hu hl no1
  go_enter Try.func22, Try.ntmps22
  go_wp2_with fail
  go_loopw [13] (fun v13 wr => ∃ k q : Nat, k ≤ n ∧ v13 = .int .i64 k ∧ wr = w.drewN q ∧ Hid (xs.take k = ys.take k)) (fun v13 _ => n - (intOf v13).toNat)
  case atStart => exact ⟨0, 0, by omega, rfl, rfl, hide (by simp)⟩
  case round =>
    obtain ⟨k, q, hk, rfl, rfl, HX⟩ := hrel
    by_cases hlt : k < n
    · obtain ⟨p, hp⟩ : ∃ p, xs[k]? = some p := ⟨_, List.getElem?_eq_getElem (by rw [Hn.out]; exact hlt)⟩
      obtain ⟨p', hp'⟩ : ∃ p, ys[k]? = some p := ⟨_, List.getElem?_eq_getElem (by rw [Hn'.out]; exact hlt)⟩
      obtain ⟨b1, off1, rfl, c0⟩ := int_at Hv.out k p hp
      obtain ⟨b2, off2, rfl, c3⟩ := int_at Hu.out k p' hp'
      have j0 : (0 : Int) ≤ (k : Int) := by omega
      have j1 : (k : Int) < (n : Int) := by omega
      have Hp := hide hp
      have Hp' := hide hp'
      clear hp hp'
      by_cases he : p = p'
      · have hbe : (p != p') = false := by rw [he]; exact bne_self_eq_false _
        have HX1 : Hid (xs.take (k + 1) = ys.take (k + 1)) := hide (by rw [List.take_add_one, List.take_add_one, HX.out, Hp.out, Hp'.out, he])
        clear he
        go_upto_region 6 with fail
        go_quiet (fail)
        go_wp2_with fail
        go_roundw
        case rel => exact ⟨k + 1, _, by omega, by go_num, rfl, HX1⟩
        case measure => simp [intOf]; omega
      · have hbe : (p != p') = true := bne_iff_ne.2 he
        have e1 := no2.out k p p' Hp.out Hp'.out he
        subst e1
        clear he
        go_upto_region 6 with fail
        go_quiet (fail)
        go_wp2_with fail
        go_ret
        exact ⟨rfl, _, rfl⟩
    · obtain rfl : k = n := by omega
      have j1 : ¬ (k : Int) < (k : Int) := by omega
      have e1 := yes.out (by first | rfl | trivial) HX.out
      subst e1
      go_wp2_with fail
      go_ret
      exact ⟨rfl, _, rfl⟩

set_option maxRecDepth 100000 in
set_option maxHeartbeats 4000000 in
theorem awake_any (w : World) : Calls Try.prog 9 #[] w fun e w' => e = .returned (.bool true) ∧ Below w.heap.size w w' := by
  obtain ⟨w0, rfl⟩ : ∃ w0, w0 = w := ⟨_, rfl⟩
  have KN := hide (new_ok 1 w0 w0 [] (by omega) (by omega) (Its.nil w0))
  go_enter Try.func9, Try.ntmps9
  go_upto_region 2 with (go_at_call 10; refine KN.out.mono ?_; rintro e W0 ⟨g, c, rfl, hg⟩; have HG0 := hide hg; clear hg)
  have K1 : Hid (∀ W vw, Its w0 (.gate w0.heap.size g c vw (Gt.new 1) :: []) W → Calls Try.prog 11 #[.pointer (some ⟨g, 0, none⟩), .int .i64 5] W fun e w' => e = .returned (.int .i64 0) ∧ ∃ vw', Its w0 (.gate w0.heap.size g c vw' (⟨1, [5], []⟩) :: []) w') := hide (fun W vw h => acceptS (l := []) 5 h (rfl) (rfl))
  have K2 : Hid (∀ W vw, Its w0 (.gate w0.heap.size g c vw (⟨1, [5], []⟩) :: []) W → Calls Try.prog 11 #[.pointer (some ⟨g, 0, none⟩), .int .i64 3] W fun e w' => e = .returned (.int .i64 0) ∧ ∃ vw', Its w0 (.gate w0.heap.size g c vw' (⟨1, [5, 3], []⟩) :: []) w') := hide (fun W vw h => acceptS (l := []) 3 h (rfl) (rfl))
  have K3 : Hid (∀ W vw, Its w0 (.gate w0.heap.size g c vw (⟨1, [5, 3], []⟩) :: []) W → Calls Try.prog 15 #[.pointer (some ⟨g, 0, none⟩), .int .i64 3] W fun e w' => e = .returned (.int .i64 110) ∧ ∃ vw', Its w0 (.gate w0.heap.size g c vw' (⟨1, [5, 3], []⟩) :: []) w') := hide (fun W vw h => arriveS (l := []) 3 h (rfl) (rfl))
  have K4 : Hid (∀ W vw, Its w0 (.gate w0.heap.size g c vw (⟨1, [5, 3], []⟩) :: []) W → Calls Try.prog 15 #[.pointer (some ⟨g, 0, none⟩), .int .i64 5] W fun e w' => e = .returned (.int .i64 0) ∧ ∃ vw', Its w0 (.gate w0.heap.size g c vw' (⟨1, [3], [5]⟩) :: []) w') := hide (fun W vw h => arriveS (l := []) 5 h (rfl) (rfl))
  have K5 : Hid (∀ W vw, Its w0 (.gate w0.heap.size g c vw (⟨1, [3], [5]⟩) :: []) W → Calls Try.prog 15 #[.pointer (some ⟨g, 0, none⟩), .int .i64 3] W fun e w' => e = .returned (.int .i64 5) ∧ ∃ vw', Its w0 (.gate w0.heap.size g c vw' (⟨1, [3], [5]⟩) :: []) w') := hide (fun W vw h => arriveS (l := []) 3 h (rfl) (rfl))
  have K6 : Hid (∀ W vw, Its w0 (.gate w0.heap.size g c vw (⟨1, [3], [5]⟩) :: []) W → Calls Try.prog 17 #[.pointer (some ⟨g, 0, none⟩)] W fun e w' => e = .returned (.tuple #[.int .i64 5, .int .i64 0]) ∧ ∃ vw', Its w0 (.gate w0.heap.size g c vw' (⟨1, [3], []⟩) :: []) w') := hide (fun W vw h => leaveS (l := [])  h (⟨rfl, rfl⟩) (rfl))
  have K7 : Hid (∀ W vw, Its w0 (.gate w0.heap.size g c vw (⟨1, [3], []⟩) :: []) W → Calls Try.prog 15 #[.pointer (some ⟨g, 0, none⟩), .int .i64 3] W fun e w' => e = .returned (.int .i64 0) ∧ ∃ vw', Its w0 (.gate w0.heap.size g c vw' (⟨1, [], [3]⟩) :: []) w') := hide (fun W vw h => arriveS (l := []) 3 h (rfl) (rfl))
  have K8 : Hid (∀ W vw, Its w0 (.gate w0.heap.size g c vw (⟨1, [], [3]⟩) :: []) W → Calls Try.prog 21 #[.pointer (some ⟨g, 0, none⟩)] W fun e w' => e = .returned (.int .i64 0) ∧ ∃ vw', Its w0 (.gate w0.heap.size g c vw' (⟨1, [], [3]⟩) :: []) w') := hide (fun W vw h => creditsS (l := [])  h (rfl) (rfl))
  go_wp2_with (first
    | (go_at_call 21; refine (K8.out _ _ HG7.out).mono ?_; rintro e W8 ⟨rfl, vw8, hg⟩; have HG8 := hide hg; clear hg)
    | (go_at_call 15; refine (K7.out _ _ HG6.out).mono ?_; rintro e W7 ⟨rfl, vw7, hg⟩; have HG7 := hide hg; clear hg)
    | (go_at_call 17; refine (K6.out _ _ HG5.out).mono ?_; rintro e W6 ⟨rfl, vw6, hg⟩; have HG6 := hide hg; clear hg)
    | (go_at_call 15; refine (K5.out _ _ HG4.out).mono ?_; rintro e W5 ⟨rfl, vw5, hg⟩; have HG5 := hide hg; clear hg)
    | (go_at_call 15; refine (K4.out _ _ HG3.out).mono ?_; rintro e W4 ⟨rfl, vw4, hg⟩; have HG4 := hide hg; clear hg)
    | (go_at_call 15; refine (K3.out _ _ HG2.out).mono ?_; rintro e W3 ⟨rfl, vw3, hg⟩; have HG3 := hide hg; clear hg)
    | (go_at_call 11; refine (K2.out _ _ HG1.out).mono ?_; rintro e W2 ⟨rfl, vw2, hg⟩; have HG2 := hide hg; clear hg)
    | (go_at_call 11; refine (K1.out _ _ HG0.out).mono ?_; rintro e W1 ⟨rfl, vw1, hg⟩; have HG1 := hide hg; clear hg))
  go_ret
  exact ⟨rfl, HG8.out.bel⟩
end Go.Proofs.Ytdnkgfljkdbckaa
