/- GateLimits, the walk. -/
import Derived.Test.YtdnkgfljkdbckaaGlm
namespace Go.Proofs.Ytdnkgfljkdbckaa
open Go.RowKit
set_option linter.unusedVariables false

set_option maxRecDepth 100000 in
set_option maxHeartbeats 8000000 in
theorem limits_walk (n0 n1 : Int) (w : World) : Calls Try.prog 6 #[.int .i64 n0, .int .i64 n1] w fun e w' => e = .returned (.bool true) ∧ Below w.heap.size w w' := by
  obtain ⟨w0, rfl⟩ : ∃ w0, w0 = w := ⟨_, rfl⟩
  have KA := hide awake_any
  obtain ⟨k, hk, hk20⟩ := few n0 16 (by omega)
  obtain ⟨N, hN⟩ : ∃ N : Nat, (k : Int) + 1 = (N : Int) := ⟨k + 1, by omega⟩
  have hN1 : 1 ≤ N := by omega
  have hN2 : N ≤ 16 := by omega
  have HN2 := hide hN2
  have KN : Hid (∀ W, Its w0 [] W → Calls Try.prog 10 #[.int .i64 N] W fun e w' => ∃ g c, e = .returned (.tuple #[.pointer (some ⟨g, 0, none⟩), .int .i64 0]) ∧ Its w0 [.gate w0.heap.size g c (.slice none 0 0) (s1 N 0)] w') := hide (fun W h => new_ok N w0 W [] hN1 hN2 h)
  have K17 : Hid (∀ W, Calls Try.prog 10 #[.int .i64 17] W fun e w' => e = .returned (.tuple #[.pointer none, .int .i64 1]) ∧ w' = W) := hide (fun W => new_no 17 W (by omega))
  have i16 : (N : Int) ≤ 16 := by omega
  have i1 : (1 : Int) ≤ (N : Int) := by omega
  go_enter Try.func6, Try.ntmps6
  go_upto_region 4 with (go_at_call 9; refine (KA.out _).mono ?_; rintro e W1 ⟨rfl, hb1⟩; have HB := hide hb1; clear hb1)
  try rw [hN]
  have HI : Hid (Its w0 [] W1) := hide ⟨HB.out, by simp, by simp, .nil⟩
  generalize wrap64 ((IntKind.u64.wrap n0).tmod 16) = y1 at *
  generalize (IntKind.u64.wrap n0).tmod 16 = y2 at *
  generalize IntKind.u64.wrap n0 = y3 at *
  clear hk hk20 hN KA HB hN1 hN2
  go_wp2_with (first
    | (go_at_call_of 10 (Value.int .i64 17); refine (K17.out _).mono ?_; rintro e W3 ⟨rfl, rfl⟩)
    | (go_at_call 10; refine (KN.out _ HI.out).mono ?_; rintro e W2 ⟨g, c, rfl, hg⟩; have HG0 := hide hg; clear hg))
  have KA1 : Hid (∀ W vw (i : Nat), i < 64 → Its w0 [.gate w0.heap.size g c vw (s1 N i)] W → _) := hide (fun W vw i hi h => acceptS (i : Int) h (l1 hi) (l1s hi))
  clear KN K17 HI
  go_loopw [9] (fun v9 wr => ∃ (i : Nat) (vw : Value), v9 = .int .i64 i ∧ i ≤ 64 ∧ Hid (Its w0 [.gate w0.heap.size g c vw (s1 N i)] wr)) (fun v9 _ => 64 - (intOf v9).toNat)
  case atStart => exact ⟨0, _, rfl, by omega, HG0⟩
  case round =>
    obtain ⟨i, vw, rfl, hi, HG⟩ := hrel
    by_cases hlt : i < 64
    · have j0 : (i : Int) < 64 := by omega
      have H11 := hide (KA1.out wr vw i hlt HG.out)
      go_wp2_with (go_at_call 11; refine H11.out.mono ?_; rintro e W3 ⟨rfl, vw3, hg⟩; have HG3 := hide hg; clear hg)
      go_roundw
      case rel => exact ⟨i + 1, _, by go_num, by omega, HG3⟩
      case measure => simp [intOf]; omega
    · have h64 : i = 64 := by omega
      have HG1 : Hid (Its w0 [.gate w0.heap.size g c vw (s2 N 0)] wr) := hide (by have := HG.out; rw [h64] at this; exact this)
      obtain ⟨i9, rfl⟩ : ∃ i9, i9 = i := ⟨_, rfl⟩
      have j9 : ¬ (i9 : Int) < 64 := by omega
      clear HG hlt hi KA1 h64
      go_wp2_with fail
      obtain ⟨wA, rfl⟩ : ∃ W, W = wr := ⟨_, rfl⟩
      go_loopw [10] (fun v10 wr => ∃ (i : Nat) (vw : Value), v10 = .int .i64 i ∧ i ≤ N ∧ Hid (Its w0 [.gate w0.heap.size g c vw (s2 N i)] wr)) (fun v10 _ => N - (intOf v10).toNat)
      case atStart => exact ⟨0, _, rfl, Nat.zero_le _, HG1⟩
      case round =>
        obtain ⟨i, vw4, rfl, hi, HG⟩ := hrel
        by_cases hlt : i < N
        · have j0 : (i : Int) < (N : Int) := by omega
          have j1 : (0 : Int) ≤ (i : Int) := by omega
          have h16 := HN2.out
          have Kr1 : Hid (∀ W vw, Its w0 (.gate w0.heap.size g c vw (s2 N i) :: []) W → Calls Try.prog 11 #[.pointer (some ⟨g, 0, none⟩), .int .i64 64] W fun e w' => e = .returned (.int .i64 5) ∧ ∃ vw', Its w0 (.gate w0.heap.size g c vw' (s2 N i) :: []) w') := hide (fun W vw h => acceptS (l := []) 64 h (l2 (by omega)) (Gt.ac_no (by rw [l2 (by omega)]; decide)))
          have Kr2 : Hid (∀ W vw, Its w0 (.gate w0.heap.size g c vw (s2 N i) :: []) W → Calls Try.prog 11 #[.pointer (some ⟨g, 0, none⟩), .int .i64 (i : Int)] W fun e w' => e = .returned (.int .i64 2) ∧ ∃ vw', Its w0 (.gate w0.heap.size g c vw' (s2 N i) :: []) w') := hide (fun W vw h => acceptS (l := []) (i : Int) h (l3 (by omega)) (Gt.ac_no (by rw [l3 (by omega)]; decide)))
          have Kr3 : Hid (∀ W vw, Its w0 (.gate w0.heap.size g c vw (s2 N i) :: []) W → Calls Try.prog 15 #[.pointer (some ⟨g, 0, none⟩), .int .i64 (i : Int)] W fun e w' => e = .returned (.int .i64 0) ∧ ∃ vw', Its w0 (.gate w0.heap.size g c vw' (s2 N (i + 1)) :: []) w') := hide (fun W vw h => arriveS (l := []) (i : Int) h (l4 hlt HN2.out) (l4s hlt HN2.out))
          have Kr4 : Hid (∀ W vw, Its w0 (.gate w0.heap.size g c vw (s2 N (i + 1)) :: []) W → Calls Try.prog 13 #[.pointer (some ⟨g, 0, none⟩), .int .i64 (i : Int)] W fun e w' => e = .returned (.int .i64 140) ∧ ∃ vw', Its w0 (.gate w0.heap.size g c vw' (s2 N (i + 1)) :: []) w') := hide (fun W vw h => cancelS (l := []) (i : Int) h (l5) (l5s))
          clear h16
          go_wp2_with (first
            | (go_at_call 13; refine (Kr4.out _ _ HGr3.out).mono ?_; rintro e Wr4 ⟨rfl, vwr4, hg⟩; have HGr4 := hide hg; clear hg)
            | (go_at_call 15; refine (Kr3.out _ _ HGr2.out).mono ?_; rintro e Wr3 ⟨rfl, vwr3, hg⟩; have HGr3 := hide hg; clear hg)
            | (go_at_call 11; refine (Kr2.out _ _ HGr1.out).mono ?_; rintro e Wr2 ⟨rfl, vwr2, hg⟩; have HGr2 := hide hg; clear hg)
            | (go_at_call 11; refine (Kr1.out _ _ HG.out).mono ?_; rintro e Wr1 ⟨rfl, vwr1, hg⟩; have HGr1 := hide hg; clear hg))
          go_roundw
          case rel => exact ⟨i + 1, _, by go_num, by omega, HGr4⟩
          case measure => simp [intOf]; omega
        · obtain rfl : i = N := by omega
          have j0 : ¬ (i : Int) < (i : Int) := by omega
          obtain ⟨N, rfl⟩ : ∃ N, N = i := ⟨_, rfl⟩
          obtain ⟨M, hM⟩ : ∃ M : Nat, 64 - (N : Int) = (M : Int) := ⟨64 - N, by omega⟩
          obtain ⟨k2, hk2, hk3⟩ := few n1 (M : Int) (by omega)
          obtain ⟨at1, hat⟩ : ∃ at1 : Nat, (N : Int) + (k2 : Int) = (at1 : Int) := ⟨N + k2, by omega⟩
          have ha : Hid (N ≤ at1 ∧ at1 < 64) := hide (by omega)
          have hu : IntKind.u64.wrap (M : Int) = (M : Int) := by simp [IntKind.wrap, IntKind.bits, IntKind.signed]; omega
          have hM0 : ¬ (M : Int) = 0 := by omega
          have hM1 : ¬ M = 0 := by omega
          have a0 : (at1 : Int) < 64 := by omega
          have a1 : (0 : Int) ≤ (at1 : Int) := by omega
          have HGz := HG
          have Kz1 : Hid (∀ W vw, Its w0 (.gate w0.heap.size g c vw (s2 N N) :: []) W → Calls Try.prog 15 #[.pointer (some ⟨g, 0, none⟩), .int .i64 (N : Int)] W fun e w' => e = .returned (.int .i64 5) ∧ ∃ vw', Its w0 (.gate w0.heap.size g c vw' (s2 N N) :: []) w') := hide (fun W vw h => arriveS (l := []) (N : Int) h (l6 HN2.out) (l6s HN2.out))
          have Kz2 : Hid (∀ W vw, Its w0 (.gate w0.heap.size g c vw (s2 N N) :: []) W → Calls Try.prog 21 #[.pointer (some ⟨g, 0, none⟩)] W fun e w' => e = .returned (.int .i64 0) ∧ ∃ vw', Its w0 (.gate w0.heap.size g c vw' (s2 N N) :: []) w') := hide (fun W vw h => creditsS (l := [])  h (l6c) (rfl))
          have Kz3 : Hid (∀ W vw, Its w0 (.gate w0.heap.size g c vw (s2 N N) :: []) W → Calls Try.prog 13 #[.pointer (some ⟨g, 0, none⟩), .int .i64 (at1 : Int)] W fun e w' => e = .returned (.int .i64 0) ∧ ∃ vw', Its w0 (.gate w0.heap.size g c vw' (s3 N at1) :: []) w') := hide (fun W vw h => cancelS (l := []) (at1 : Int) h (l7 ha.out.1 ha.out.2) (l7s))
          have Kz4 : Hid (∀ W vw, Its w0 (.gate w0.heap.size g c vw (s3 N at1) :: []) W → Calls Try.prog 13 #[.pointer (some ⟨g, 0, none⟩), .int .i64 (at1 : Int)] W fun e w' => e = .returned (.int .i64 4) ∧ ∃ vw', Its w0 (.gate w0.heap.size g c vw' (s3 N at1) :: []) w') := hide (fun W vw h => cancelS (l := []) (at1 : Int) h (l8 ha.out.1) (l8s))
          have Kz5 : Hid (∀ W vw, Its w0 (.gate w0.heap.size g c vw (s3 N at1) :: []) W → Calls Try.prog 11 #[.pointer (some ⟨g, 0, none⟩), .int .i64 64] W fun e w' => e = .returned (.int .i64 0) ∧ ∃ vw', Its w0 (.gate w0.heap.size g c vw' (s4 N at1) :: []) w') := hide (fun W vw h => acceptS (l := []) 64 h (l9 ha.out.1 ha.out.2) (l9s ha.out.1 ha.out.2))
          have Kz6 : Hid (∀ W vw, Its w0 (.gate w0.heap.size g c vw (s4 N at1) :: []) W → Calls Try.prog 11 #[.pointer (some ⟨g, 0, none⟩), .int .i64 (at1 : Int)] W fun e w' => e = .returned (.int .i64 5) ∧ ∃ vw', Its w0 (.gate w0.heap.size g c vw' (s4 N at1) :: []) w') := hide (fun W vw h => acceptS (l := []) (at1 : Int) h (l10 ha.out.1 ha.out.2) (l10s ha.out.1 ha.out.2))
          clear HG hlt hi
          go_upto_region 19 with fail
          generalize IntKind.u64.wrap n1 = y4 at *
          clear hk2 hM hat hu
          go_wp2_with (first
            | (go_at_call 11; refine (Kz6.out _ _ HGz5.out).mono ?_; rintro e Wz6 ⟨rfl, vwz6, hg⟩; have HGz6 := hide hg; clear hg)
            | (go_at_call 11; refine (Kz5.out _ _ HGz4.out).mono ?_; rintro e Wz5 ⟨rfl, vwz5, hg⟩; have HGz5 := hide hg; clear hg)
            | (go_at_call 13; refine (Kz4.out _ _ HGz3.out).mono ?_; rintro e Wz4 ⟨rfl, vwz4, hg⟩; have HGz4 := hide hg; clear hg)
            | (go_at_call 13; refine (Kz3.out _ _ HGz2.out).mono ?_; rintro e Wz3 ⟨rfl, vwz3, hg⟩; have HGz3 := hide hg; clear hg)
            | (go_at_call 21; refine (Kz2.out _ _ HGz1.out).mono ?_; rintro e Wz2 ⟨rfl, vwz2, hg⟩; have HGz2 := hide hg; clear hg)
            | (go_at_call 15; refine (Kz1.out _ _ HGz.out).mono ?_; rintro e Wz1 ⟨rfl, vwz1, hg⟩; have HGz1 := hide hg; clear hg))
          go_ret
          exact ⟨rfl, HGz6.out.bel⟩
end Go.Proofs.Ytdnkgfljkdbckaa
