/- GateTwice, the walk. -/
import Derived.Test.YtdnkgfljkdbckaaGtf
import Derived.Test.YtdnkgfljkdbckaaLag
import Derived.Deep.CutBlock
namespace Go.Proofs.Ytdnkgfljkdbckaa
open Go.RowKit
set_option linter.unusedVariables false

theorem t1 (N : Nat) (d x : Int) (hN : 1 ≤ N) (hd : d ≠ x) : Gt.acC ⟨N, [], []⟩ d = 0 := by simp [Gt.acC] <;> omega
theorem t1s (N : Nat) (d x : Int) (hN : 1 ≤ N) (hd : d ≠ x) : Gt.ac ⟨N, [], []⟩ d = ⟨N, [d], []⟩ := by simp [Gt.acC, Gt.ac] <;> omega
theorem t2 (N : Nat) (d x : Int) (hN : 1 ≤ N) (hd : d ≠ x) : Gt.acC ⟨N, [d], []⟩ x = 0 := by simp [Gt.acC, hd.symm] <;> omega
theorem t2s (N : Nat) (d x : Int) (hN : 1 ≤ N) (hd : d ≠ x) : Gt.ac ⟨N, [d], []⟩ x = ⟨N, [d, x], []⟩ := by simp [Gt.acC, Gt.ac, hd.symm] <;> omega
theorem t3 (N : Nat) (d x : Int) (hN : 1 ≤ N) (hd : d ≠ x) : Gt.acC ⟨N, [d, x], []⟩ x = 2 := by simp [Gt.acC, hd.symm] <;> omega
theorem t3s (N : Nat) (d x : Int) (hN : 1 ≤ N) (hd : d ≠ x) : Gt.ac ⟨N, [d, x], []⟩ x = ⟨N, [d, x], []⟩ := by simp [Gt.acC, Gt.ac, hd.symm] <;> omega
theorem t4 (N : Nat) (d x : Int) (hN : 1 ≤ N) (hd : d ≠ x) : Gt.arC ⟨N, [d, x], []⟩ x = 110 := by unfold Gt.arC; rw [if_pos (by simp), if_neg (by rw [List.idxOf_cons, beq_eq_false_iff_ne.2 hd]; simp)]
theorem t4s (N : Nat) (d x : Int) (hN : 1 ≤ N) (hd : d ≠ x) : Gt.ar ⟨N, [d, x], []⟩ x = ⟨N, [d, x], []⟩ := Gt.ar_no (by rw [t4 N d x hN hd]; decide)
theorem t5 (N : Nat) (d x : Int) (hN : 1 ≤ N) (hd : d ≠ x) : Gt.fc ⟨N, [d, x], []⟩ d = 0 := by simp [Gt.fc, hd] <;> omega
theorem t5s (N : Nat) (d x : Int) (hN : 1 ≤ N) (hd : d ≠ x) : Gt.ca ⟨N, [d, x], []⟩ d = ⟨N, [x], []⟩ := by simp [Gt.ca] <;> omega
theorem t6 (N : Nat) (d x : Int) (hN : 1 ≤ N) (hd : d ≠ x) : Gt.fc ⟨N, [x], []⟩ d = 4 := by simp [Gt.fc, hd] <;> omega
theorem t6s (N : Nat) (d x : Int) (hN : 1 ≤ N) (hd : d ≠ x) : Gt.ca ⟨N, [x], []⟩ d = ⟨N, [x], []⟩ := by simp [Gt.ca, hd.symm] <;> omega
theorem t7 (N : Nat) (d x : Int) (hN : 1 ≤ N) (hd : d ≠ x) : Gt.arC ⟨N, [d, x], []⟩ d = 0 := by simp [Gt.arC, hd] <;> omega
theorem t7s (N : Nat) (d x : Int) (hN : 1 ≤ N) (hd : d ≠ x) : Gt.ar ⟨N, [d, x], []⟩ d = ⟨N, [x], [d]⟩ := by simp [Gt.arC, Gt.ar, hd] <;> omega
theorem t8 (N : Nat) (d x : Int) (hN : 1 ≤ N) (hd : d ≠ x) : Gt.arC ⟨N, [x], []⟩ x = 0 := by simp [Gt.arC] <;> omega
theorem t8s (N : Nat) (d x : Int) (hN : 1 ≤ N) (hd : d ≠ x) : Gt.ar ⟨N, [x], []⟩ x = ⟨N, [], [x]⟩ := by simp [Gt.arC, Gt.ar] <;> omega

set_option maxRecDepth 100000 in
set_option maxHeartbeats 8000000 in
theorem twice_walk (n0 x n2 : Int) (w : World) (hx0 : -9223372036854775808 ≤ x ∧ x ≤ 9223372036854775807) : Calls Try.prog 8 #[.int .i64 n0, .int .i64 x, .int .i64 n2] w fun e w' => e = .returned (.bool true) ∧ Below w.heap.size w w' := by
  obtain ⟨w0, rfl⟩ : ∃ w0, w0 = w := ⟨_, rfl⟩
  have KA := hide awake_any
  obtain ⟨k, hk, hk20⟩ := few n0 16 (by omega)
  obtain ⟨N, hN⟩ : ∃ N : Nat, (k : Int) + 1 = (N : Int) := ⟨k + 1, by omega⟩
  have hN1 : 1 ≤ N := by omega
  have hN2 : N ≤ 16 := by omega
  obtain ⟨m, hm, hm20⟩ := few n2 20 (by omega)
  have HN1 := hide hN1
  have KN : Hid (∀ W, Its w0 [] W → Calls Try.prog 10 #[.int .i64 N] W fun e w' => ∃ g c, e = .returned (.tuple #[.pointer (some ⟨g, 0, none⟩), .int .i64 0]) ∧ Its w0 [.gate w0.heap.size g c (.slice none 0 0) ⟨N, [], []⟩] w') := hide (fun W h => new_ok N w0 W [] hN1 hN2 h)
  obtain ⟨d, hd⟩ : ∃ d, x - 1 = d := ⟨_, rfl⟩
  have hdx : Hid (d ≠ x) := hide (by omega)
  by_cases hx : x = -9223372036854775808
  · have hxb : (x == -9223372036854775808) = true := beq_iff_eq.2 hx
    clear hx hd hm hm20
    go_enter Try.func8, Try.ntmps8
    go_upto_region 3 with (go_at_call 9; refine (KA.out _).mono ?_; rintro e W1 ⟨rfl, hb1⟩; have HB := hide hb1; clear hb1)
    have HI : Hid (Its w0 [] W1) := hide ⟨HB.out, by simp, by simp, .nil⟩
    go_wp2_with (go_at_call 10; refine (KN.out _ HI.out).mono ?_; rintro e W2 ⟨g, c, rfl, hg⟩; have HG0 := hide hg; clear hg)
    go_ret
    exact ⟨rfl, HG0.out.bel⟩
  have hxb : (x == -9223372036854775808) = false := beq_eq_false_iff_ne.2 hx
  have hw1 : wrap64 (x - 1) = d := by rw [← hd]; unfold wrap64; omega
  have Hm20 := hide hm20
  clear hd
  go_enter Try.func8, Try.ntmps8
  go_upto_region 3 with (go_at_call 9; refine (KA.out _).mono ?_; rintro e W1 ⟨rfl, hb1⟩; have HB := hide hb1; clear hb1)
  have HI : Hid (Its w0 [] W1) := hide ⟨HB.out, by simp, by simp, .nil⟩
  go_upto_region 6 with (go_at_call 10; refine (KN.out _ HI.out).mono ?_; rintro e W2 ⟨g, c, rfl, hg⟩; have HG0 := hide hg; clear hg)
  generalize wrap64 ((IntKind.u64.wrap n0).tmod 16) = y1 at *
  generalize (IntKind.u64.wrap n0).tmod 16 = y2 at *
  generalize IntKind.u64.wrap n0 = y3 at *
  clear hk hk20 hN KA KN HI HB hN1 hN2 hx
  have Ke1 : Hid (∀ W vw, Its w0 (.gate w0.heap.size g c vw (⟨N, [], []⟩) :: []) W → Calls Try.prog 11 #[.pointer (some ⟨g, 0, none⟩), .int .i64 d] W fun e w' => e = .returned (.int .i64 0) ∧ ∃ vw', Its w0 (.gate w0.heap.size g c vw' (⟨N, [d], []⟩) :: []) w') := hide (fun W vw h => acceptS (l := []) d h (t1 N d x HN1.out hdx.out) (t1s N d x HN1.out hdx.out))
  have Ke2 : Hid (∀ W vw, Its w0 (.gate w0.heap.size g c vw (⟨N, [d], []⟩) :: []) W → Calls Try.prog 11 #[.pointer (some ⟨g, 0, none⟩), .int .i64 x] W fun e w' => e = .returned (.int .i64 0) ∧ ∃ vw', Its w0 (.gate w0.heap.size g c vw' (⟨N, [d, x], []⟩) :: []) w') := hide (fun W vw h => acceptS (l := []) x h (t2 N d x HN1.out hdx.out) (t2s N d x HN1.out hdx.out))
  have Ke3 : Hid (∀ W vw, Its w0 (.gate w0.heap.size g c vw (⟨N, [d, x], []⟩) :: []) W → Calls Try.prog 11 #[.pointer (some ⟨g, 0, none⟩), .int .i64 x] W fun e w' => e = .returned (.int .i64 2) ∧ ∃ vw', Its w0 (.gate w0.heap.size g c vw' (⟨N, [d, x], []⟩) :: []) w') := hide (fun W vw h => acceptS (l := []) x h (t3 N d x HN1.out hdx.out) (t3s N d x HN1.out hdx.out))
  have Ke4 : Hid (∀ W vw, Its w0 (.gate w0.heap.size g c vw (⟨N, [d, x], []⟩) :: []) W → Calls Try.prog 15 #[.pointer (some ⟨g, 0, none⟩), .int .i64 x] W fun e w' => e = .returned (.int .i64 110) ∧ ∃ vw', Its w0 (.gate w0.heap.size g c vw' (⟨N, [d, x], []⟩) :: []) w') := hide (fun W vw h => arriveS (l := []) x h (t4 N d x HN1.out hdx.out) (t4s N d x HN1.out hdx.out))
  have Ke5 : Hid (∀ W vw, Its w0 (.gate w0.heap.size g c vw (⟨N, [d, x], []⟩) :: []) W → Calls Try.prog 13 #[.pointer (some ⟨g, 0, none⟩), .int .i64 d] W fun e w' => e = .returned (.int .i64 0) ∧ ∃ vw', Its w0 (.gate w0.heap.size g c vw' (⟨N, [x], []⟩) :: []) w') := hide (fun W vw h => cancelS (l := []) d h (t5 N d x HN1.out hdx.out) (t5s N d x HN1.out hdx.out))
  have Ke6 : Hid (∀ W vw, Its w0 (.gate w0.heap.size g c vw (⟨N, [x], []⟩) :: []) W → Calls Try.prog 13 #[.pointer (some ⟨g, 0, none⟩), .int .i64 d] W fun e w' => e = .returned (.int .i64 4) ∧ ∃ vw', Its w0 (.gate w0.heap.size g c vw' (⟨N, [x], []⟩) :: []) w') := hide (fun W vw h => cancelS (l := []) d h (t6 N d x HN1.out hdx.out) (t6s N d x HN1.out hdx.out))
  have Ke7 : Hid (∀ W vw, Its w0 (.gate w0.heap.size g c vw (⟨N, [x], []⟩) :: []) W → Calls Try.prog 15 #[.pointer (some ⟨g, 0, none⟩), .int .i64 x] W fun e w' => e = .returned (.int .i64 0) ∧ ∃ vw', Its w0 (.gate w0.heap.size g c vw' (⟨N, [], [x]⟩) :: []) w') := hide (fun W vw h => arriveS (l := []) x h (t8 N d x HN1.out hdx.out) (t8s N d x HN1.out hdx.out))
  have Ke8 : Hid (∀ W vw, Its w0 (.gate w0.heap.size g c vw (⟨N, [], [x]⟩) :: []) W → Calls Try.prog 17 #[.pointer (some ⟨g, 0, none⟩)] W fun e w' => e = .returned (.tuple #[.int .i64 x, .int .i64 0]) ∧ ∃ vw', Its w0 (.gate w0.heap.size g c vw' (⟨N, [], []⟩) :: []) w') := hide (fun W vw h => leaveS (l := [])  h (⟨rfl, rfl⟩) (rfl))
  have Ke9 : Hid (∀ W vw, Its w0 (.gate w0.heap.size g c vw (⟨N, [], []⟩) :: []) W → Calls Try.prog 15 #[.pointer (some ⟨g, 0, none⟩), .int .i64 x] W fun e w' => e = .returned (.int .i64 4) ∧ ∃ vw', Its w0 (.gate w0.heap.size g c vw' (⟨N, [], []⟩) :: []) w') := hide (fun W vw h => arriveS (l := []) x h (rfl) (rfl))
  have Ko1 : Hid (∀ W vw, Its w0 (.gate w0.heap.size g c vw (⟨N, [], []⟩) :: []) W → Calls Try.prog 11 #[.pointer (some ⟨g, 0, none⟩), .int .i64 d] W fun e w' => e = .returned (.int .i64 0) ∧ ∃ vw', Its w0 (.gate w0.heap.size g c vw' (⟨N, [d], []⟩) :: []) w') := hide (fun W vw h => acceptS (l := []) d h (t1 N d x HN1.out hdx.out) (t1s N d x HN1.out hdx.out))
  have Ko2 : Hid (∀ W vw, Its w0 (.gate w0.heap.size g c vw (⟨N, [d], []⟩) :: []) W → Calls Try.prog 11 #[.pointer (some ⟨g, 0, none⟩), .int .i64 x] W fun e w' => e = .returned (.int .i64 0) ∧ ∃ vw', Its w0 (.gate w0.heap.size g c vw' (⟨N, [d, x], []⟩) :: []) w') := hide (fun W vw h => acceptS (l := []) x h (t2 N d x HN1.out hdx.out) (t2s N d x HN1.out hdx.out))
  have Ko3 : Hid (∀ W vw, Its w0 (.gate w0.heap.size g c vw (⟨N, [d, x], []⟩) :: []) W → Calls Try.prog 11 #[.pointer (some ⟨g, 0, none⟩), .int .i64 x] W fun e w' => e = .returned (.int .i64 2) ∧ ∃ vw', Its w0 (.gate w0.heap.size g c vw' (⟨N, [d, x], []⟩) :: []) w') := hide (fun W vw h => acceptS (l := []) x h (t3 N d x HN1.out hdx.out) (t3s N d x HN1.out hdx.out))
  have Ko4 : Hid (∀ W vw, Its w0 (.gate w0.heap.size g c vw (⟨N, [d, x], []⟩) :: []) W → Calls Try.prog 15 #[.pointer (some ⟨g, 0, none⟩), .int .i64 x] W fun e w' => e = .returned (.int .i64 110) ∧ ∃ vw', Its w0 (.gate w0.heap.size g c vw' (⟨N, [d, x], []⟩) :: []) w') := hide (fun W vw h => arriveS (l := []) x h (t4 N d x HN1.out hdx.out) (t4s N d x HN1.out hdx.out))
  have Ko5 : Hid (∀ W vw, Its w0 (.gate w0.heap.size g c vw (⟨N, [d, x], []⟩) :: []) W → Calls Try.prog 15 #[.pointer (some ⟨g, 0, none⟩), .int .i64 d] W fun e w' => e = .returned (.int .i64 0) ∧ ∃ vw', Its w0 (.gate w0.heap.size g c vw' (⟨N, [x], [d]⟩) :: []) w') := hide (fun W vw h => arriveS (l := []) d h (t7 N d x HN1.out hdx.out) (t7s N d x HN1.out hdx.out))
  have Ko6 : Hid (∀ W vw, Its w0 (.gate w0.heap.size g c vw (⟨N, [x], [d]⟩) :: []) W → Calls Try.prog 17 #[.pointer (some ⟨g, 0, none⟩)] W fun e w' => e = .returned (.tuple #[.int .i64 d, .int .i64 0]) ∧ ∃ vw', Its w0 (.gate w0.heap.size g c vw' (⟨N, [x], []⟩) :: []) w') := hide (fun W vw h => leaveS (l := [])  h (⟨rfl, rfl⟩) (rfl))
  have Ko7 : Hid (∀ W vw, Its w0 (.gate w0.heap.size g c vw (⟨N, [x], []⟩) :: []) W → Calls Try.prog 15 #[.pointer (some ⟨g, 0, none⟩), .int .i64 x] W fun e w' => e = .returned (.int .i64 0) ∧ ∃ vw', Its w0 (.gate w0.heap.size g c vw' (⟨N, [], [x]⟩) :: []) w') := hide (fun W vw h => arriveS (l := []) x h (t8 N d x HN1.out hdx.out) (t8s N d x HN1.out hdx.out))
  have Ko8 : Hid (∀ W vw, Its w0 (.gate w0.heap.size g c vw (⟨N, [], [x]⟩) :: []) W → Calls Try.prog 17 #[.pointer (some ⟨g, 0, none⟩)] W fun e w' => e = .returned (.tuple #[.int .i64 x, .int .i64 0]) ∧ ∃ vw', Its w0 (.gate w0.heap.size g c vw' (⟨N, [], []⟩) :: []) w') := hide (fun W vw h => leaveS (l := [])  h (⟨rfl, rfl⟩) (rfl))
  have Ko9 : Hid (∀ W vw, Its w0 (.gate w0.heap.size g c vw (⟨N, [], []⟩) :: []) W → Calls Try.prog 15 #[.pointer (some ⟨g, 0, none⟩), .int .i64 x] W fun e w' => e = .returned (.int .i64 4) ∧ ∃ vw', Its w0 (.gate w0.heap.size g c vw' (⟨N, [], []⟩) :: []) w') := hide (fun W vw h => arriveS (l := []) x h (rfl) (rfl))
  have K19 : Hid (∀ W vw, Its w0 [.gate w0.heap.size g c vw ⟨N, [], []⟩] W → _) := hide (fun W vw h => waitingS (n := 0) h rfl)
  have K20 : Hid (∀ W vw l, Its w0 (.gate w0.heap.size g c vw ⟨N, [], []⟩ :: l) W → _) := hide (fun W vw l h => insideS (n := 0) h rfl)
  go_wp2_with fail
  go_loopw [9] (fun v9 wr => ∃ (i : Nat) (vw : Value), v9 = .int .i64 i ∧ i ≤ m ∧ Hid (Its w0 [.gate w0.heap.size g c vw ⟨N, [], []⟩] wr)) (fun v9 _ => m - (intOf v9).toNat)
  case atStart => exact ⟨0, _, rfl, Nat.zero_le _, HG0⟩
  case round =>
    obtain ⟨i, vw, rfl, him, HG⟩ := hrel
    by_cases hlt : i < m
    · have j0 : (i : Int) < (m : Int) := by omega
      have j1 : (i : Int) < 20 := by have := Hm20.out; omega
      have j2 : (0 : Int) ≤ (i : Int) := by omega
      rcases Nat.mod_two_eq_zero_or_one i with hi | hi
      · have p0 : (i : Int).tmod 2 = 0 := by rw [Int.tmod_eq_emod_of_nonneg j2]; omega
        clear hi
        go_wp2_with (first
          | (go_at_call 15; refine (Ke9.out _ _ HGe8.out).mono ?_; rintro e We9 ⟨rfl, vwe9, hg⟩; have HGe9 := hide hg; clear hg)
          | (go_at_call 17; refine (Ke8.out _ _ HGe7.out).mono ?_; rintro e We8 ⟨rfl, vwe8, hg⟩; have HGe8 := hide hg; clear hg)
          | (go_at_call 15; refine (Ke7.out _ _ HGe6.out).mono ?_; rintro e We7 ⟨rfl, vwe7, hg⟩; have HGe7 := hide hg; clear hg)
          | (go_at_call 13; refine (Ke6.out _ _ HGe5.out).mono ?_; rintro e We6 ⟨rfl, vwe6, hg⟩; have HGe6 := hide hg; clear hg)
          | (go_at_call 13; refine (Ke5.out _ _ HGe4.out).mono ?_; rintro e We5 ⟨rfl, vwe5, hg⟩; have HGe5 := hide hg; clear hg)
          | (go_at_call 15; refine (Ke4.out _ _ HGe3.out).mono ?_; rintro e We4 ⟨rfl, vwe4, hg⟩; have HGe4 := hide hg; clear hg)
          | (go_at_call 11; refine (Ke3.out _ _ HGe2.out).mono ?_; rintro e We3 ⟨rfl, vwe3, hg⟩; have HGe3 := hide hg; clear hg)
          | (go_at_call 11; refine (Ke2.out _ _ HGe1.out).mono ?_; rintro e We2 ⟨rfl, vwe2, hg⟩; have HGe2 := hide hg; clear hg)
          | (go_at_call 11; refine (Ke1.out _ _ HG.out).mono ?_; rintro e We1 ⟨rfl, vwe1, hg⟩; have HGe1 := hide hg; clear hg))
        go_roundw
        case rel => exact ⟨i + 1, _, by go_num, by omega, HGe9⟩
        case measure => simp [intOf]; omega
      · have p0 : (i : Int).tmod 2 = 1 := by rw [Int.tmod_eq_emod_of_nonneg j2]; omega
        clear hi
        go_wp2_with (first
          | (go_at_call 15; refine (Ko9.out _ _ HGo8.out).mono ?_; rintro e Wo9 ⟨rfl, vwo9, hg⟩; have HGo9 := hide hg; clear hg)
          | (go_at_call 17; refine (Ko8.out _ _ HGo7.out).mono ?_; rintro e Wo8 ⟨rfl, vwo8, hg⟩; have HGo8 := hide hg; clear hg)
          | (go_at_call 15; refine (Ko7.out _ _ HGo6.out).mono ?_; rintro e Wo7 ⟨rfl, vwo7, hg⟩; have HGo7 := hide hg; clear hg)
          | (go_at_call 17; refine (Ko6.out _ _ HGo5.out).mono ?_; rintro e Wo6 ⟨rfl, vwo6, hg⟩; have HGo6 := hide hg; clear hg)
          | (go_at_call 15; refine (Ko5.out _ _ HGo4.out).mono ?_; rintro e Wo5 ⟨rfl, vwo5, hg⟩; have HGo5 := hide hg; clear hg)
          | (go_at_call 15; refine (Ko4.out _ _ HGo3.out).mono ?_; rintro e Wo4 ⟨rfl, vwo4, hg⟩; have HGo4 := hide hg; clear hg)
          | (go_at_call 11; refine (Ko3.out _ _ HGo2.out).mono ?_; rintro e Wo3 ⟨rfl, vwo3, hg⟩; have HGo3 := hide hg; clear hg)
          | (go_at_call 11; refine (Ko2.out _ _ HGo1.out).mono ?_; rintro e Wo2 ⟨rfl, vwo2, hg⟩; have HGo2 := hide hg; clear hg)
          | (go_at_call 11; refine (Ko1.out _ _ HG.out).mono ?_; rintro e Wo1 ⟨rfl, vwo1, hg⟩; have HGo1 := hide hg; clear hg))
        go_roundw
        case rel => exact ⟨i + 1, _, by go_num, by omega, HGo9⟩
        case measure => simp [intOf]; omega
    · have j0 : ¬ (i : Int) < (m : Int) := by omega
      go_wp2_with (first
        | (go_at_call 19; refine (K19.out _ _ HG.out).mono ?_; rintro e W3 ⟨a3, c3, rfl, hg⟩; have HW := hide hg.swap; clear hg)
        | (go_at_call 20; refine (K20.out _ _ _ HW.out).mono ?_; rintro e W4 ⟨a4, c4, rfl, hg⟩; have HX := hide hg; clear hg))
      go_ret
      exact ⟨rfl, HX.out.bel⟩
end Go.Proofs.Ytdnkgfljkdbckaa
