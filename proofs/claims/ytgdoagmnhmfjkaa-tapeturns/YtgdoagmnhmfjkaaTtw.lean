/- The walk of TapeTurns. -/
import Derived.Test.YtgdoagmnhmfjkaaTtm
import Derived.Test.YtgdoagmnhmfjkaaNag
namespace Go.Proofs.Ytgdoagmnhmfjkaa.tapeTurns
open Go.ChangeShapes Go.WideShapes Go.ChangeAt Go.RowKit
set_option linter.unusedVariables false

set_option maxRecDepth 100000 in
set_option maxHeartbeats 4000000 in
theorem walk (a0 : Option Addr) (n0 c0 : Nat) (os : List Nt) (a1 : Option Addr) (n1 c1 : Nat) (ns : List Nt) (x : Int) (w0 : World) (hl0 : os.length = n0) (hd0 : ntE.Rd w0 (.slice a0 n0 c0) os) (hc0 : n0 ≤ c0) (hl1 : ns.length = n1) (hd1 : ntE.Rd w0 (.slice a1 n1 c1) ns) (hc1 : n1 ≤ c1) (hx : -9223372036854775808 ≤ x ∧ x ≤ 9223372036854775807) :
    Calls Try.prog 5 #[.slice a0 n0 c0, .slice a1 n1 c1, .int .i64 x] w0 fun e w' => e = .returned (.bool true) ∧ Below w0.heap.size w0 w' := by
  have K9 := hide (newS (Its.nil w0))
  have KA : Hid (∀ W l, Its w0 l W → Calls Try.prog 11 #[] W fun e w' => e = .returned (.bool true) ∧ Its w0 l w') := hide (fun W l hW => awakeS hW)
  obtain ⟨N, hN1, hN2, hN3⟩ := mod_is x 700 (by decide) (by decide)
  rw [show ((700 : Nat) : Int) = 700 from rfl] at hN1 hN2
  have R0 : Hid (∀ W k, Below w0.heap.size w0 W → k ≤ n0 → ntE.Rd W (.slice a0 k c0) (os.take k) ∧ (os.take k).length = k) := hide (fun W k hW hk => nt_take (hd0.keep hW) hl0 k hk)
  have R1 : Hid (∀ W k, Below w0.heap.size w0 W → k ≤ n1 → ntE.Rd W (.slice a1 k c1) (ns.take k) ∧ (ns.take k).length = k) := hide (fun W k hW hk => nt_take (hd1.keep hW) hl1 k hk)
  clear hl0 hd0 hl1 hd1
  go_enter Try.func5, Try.ntmps5
  go_upto_region 4 with (first
    | (go_at_call 11; refine (KA.out _ _ h1).mono ?_; rintro e w2 ⟨rfl, h2⟩)
    | (go_at_call 9; refine K9.out.mono ?_; rintro e w1 ⟨g, H1, rfl, h1⟩))
  have HI := hide h2
  clear h1 h2 K9
  go_cut [0, 1] (fun v0 v1 wx => ∃ k0 k1 : Nat, v0 = .slice a0 k0 c0 ∧ v1 = .slice a1 k1 c1 ∧ Hid (k0 ≤ n0 ∧ k0 ≤ 40 ∧ k1 ≤ n1 ∧ k1 ≤ 40 ∧ Its w0 [.tape w0.heap.size g H1 Tp.nw] wx))
  case first =>
    by_cases q0 : 40 < n0
    · have q0' : (40 : Int) < (n0 : Int) := by omega
      have p0 : (40 : Int) ≤ (c0 : Int) := by omega
      by_cases q1 : 40 < n1
      · have q1' : (40 : Int) < (n1 : Int) := by omega
        have p1 : (40 : Int) ≤ (c1 : Int) := by omega
        go_region
        go_wp2_with fail
        go_meet
        exact ⟨40, 40, rfl, rfl, hide ⟨by omega, by omega, by omega, by omega, HI.out.drew 1⟩⟩
      · have q1' : ¬ ((40 : Int) < (n1 : Int)) := by omega
        have p1 : (n1 : Int) ≤ (c1 : Int) := by omega
        go_region
        go_wp2_with fail
        go_meet
        exact ⟨40, n1, rfl, rfl, hide ⟨by omega, by omega, by omega, by omega, HI.out.drew 1⟩⟩
    · have q0' : ¬ ((40 : Int) < (n0 : Int)) := by omega
      have p0 : (n0 : Int) ≤ (c0 : Int) := by omega
      by_cases q1 : 40 < n1
      · have q1' : (40 : Int) < (n1 : Int) := by omega
        have p1 : (40 : Int) ≤ (c1 : Int) := by omega
        go_region
        go_wp2_with fail
        go_meet
        exact ⟨n0, 40, rfl, rfl, hide ⟨by omega, by omega, by omega, by omega, HI.out.drew 1⟩⟩
      · have q1' : ¬ ((40 : Int) < (n1 : Int)) := by omega
        have p1 : (n1 : Int) ≤ (c1 : Int) := by omega
        go_region
        go_wp2_with fail
        go_meet
        exact ⟨n0, n1, rfl, rfl, hide ⟨by omega, by omega, by omega, by omega, HI.out.drew 1⟩⟩
  case rest =>
    obtain ⟨k0, k1, rfl, rfl, hh⟩ := hcut
    obtain ⟨b0, b1, b2, b3, hI⟩ := hh.out
    have HI := hide hI
    clear hh hI
    obtain ⟨OS, hOS⟩ : ∃ OS, os.take k0 = OS := ⟨_, rfl⟩
    obtain ⟨NX, hNX⟩ : ∃ NX, ns.take k1 = NX := ⟨_, rfl⟩
    have R2 : Hid (∀ W, Below w0.heap.size w0 W → ntE.Rd W (.slice a0 k0 c0) OS) := hide (fun W hW => by rw [← hOS]; exact (R0.out W k0 hW b0).1)
    have R3 : Hid (∀ W, Below w0.heap.size w0 W → ntE.Rd W (.slice a1 k1 c1) NX) := hide (fun W hW => by rw [← hNX]; exact (R1.out W k1 hW b2).1)
    have L2 : OS.length = k0 := by rw [← hOS]; exact (R0.out w0 k0 (Below.refl _ _) b0).2
    have L3 : NX.length = k1 := by rw [← hNX]; exact (R1.out w0 k1 (Below.refl _ _) b2).2
    have KN : Hid (∀ W g H T l, Its w0 (.tape w0.heap.size g H T :: l) W → Calls Try.prog 16 #[.pointer (some ⟨g, 0, none⟩), .slice a1 k1 c1] W fun e w' => e = .returned (.int .i64 (T.cmp NX).1) ∧ ∃ H', Its w0 (.tape w0.heap.size g H' (T.cmp NX).2 :: l) w') := hide (fun W g H T l hW => compactS hW (R3.out W hW.bel) L3 (by omega))
    have KO : Hid (∀ W g H T l, Its w0 (.tape w0.heap.size g H T :: l) W → Calls Try.prog 16 #[.pointer (some ⟨g, 0, none⟩), .slice a0 k0 c0] W fun e w' => e = .returned (.int .i64 (T.cmp OS).1) ∧ ∃ H', Its w0 (.tape w0.heap.size g H' (T.cmp OS).2 :: l) w') := hide (fun W g H T l hW => compactS hW (R2.out W hW.bel) L2 (by omega))
    have HL2 : Hid (OS.length ≤ 40) := hide (by omega)
    have HL3 : Hid (NX.length ≤ 40) := hide (by omega)
    clear hOS hNX R0 R1 L2 L3 b0 b1 b2 b3 hc0 hc1 hx
    have K1 := hide (fun W H => KN.out W g H Tp.nw [])
    have z1 := cmp_zero (T := Tp.nw) (ns := NX)
    generalize Tp.nw.cmp NX = P1 at *
    obtain ⟨C1, T1⟩ := P1
    simp only at z1 K1
    by_cases hC1 : C1 = 0
    · subst hC1
      obtain ⟨_, y1, y2, _, _⟩ := z1 rfl
      have Y1 := hide y1
      have Y2 := hide y2
      have K2 := hide (fun W H => KO.out W g H T1 [])
      have z2 := cmp_zero (T := T1) (ns := OS)
      clear y1 y2 z1
      generalize T1.cmp OS = P2 at *
      obtain ⟨C2, T2⟩ := P2
      simp only at z2 K2
      by_cases hC2 : C2 = 0
      · subst hC2
        obtain ⟨_, x1, _, x3, x4⟩ := z2 rfl
        have X1 := hide x1
        have X3 := hide x3
        have ea := arm_ok x4 (k := N) (by omega)
        have K3 : Hid (∀ W H, Its w0 [.tape w0.heap.size g H T2] W → Calls Try.prog 12 #[.pointer (some ⟨g, 0, none⟩), .int .i64 (N : Int)] W fun e w' => e = .returned (.int .i64 0) ∧ Its w0 [.tape w0.heap.size g H ⟨T2.A, T2.cn, true, N, T2.dd⟩] w') := hide (fun W H hW => by
          have := armS hW (N : Int)
          rw [ea] at this
          exact this)
        obtain ⟨T3, hT3⟩ : ∃ T3 : Tp, (⟨T2.A, T2.cn, true, N, T2.dd⟩ : Tp) = T3 := ⟨_, rfl⟩
        have X5 : Hid (T3.now = OS.flatMap Nt.bts ∧ T3.dd = false) := hide (by rw [← hT3]; exact ⟨x3, x4⟩)
        rw [hT3] at K3
        have K4 := hide (fun W H => KN.out W g H T3 [])
        have z4 := cmp_cases X5.out.2 Y1.out Y2.out
        clear z2 x1 x3 x4 ea hT3
        generalize T3.cmp NX = P4 at *
        obtain ⟨C4, T4⟩ := P4
        simp only at z4 K4
        have K5 : Hid (∀ W H, Its w0 [.tape w0.heap.size g H T4] W → Calls Try.prog 20 #[.pointer (some ⟨g, 0, none⟩)] W fun e w' => CraV w0 e T4 [.tape w0.heap.size g H T4] w') := hide (fun W H hW => crashS hW)
        rcases z4 with ⟨rfl, q1, q2⟩ | ⟨rfl, q1, q2⟩
        · have K6 : Hid (∀ W g H l, Its w0 (.tape w0.heap.size g H T4.crash :: l) W → Calls Try.prog 24 #[.pointer (some ⟨g, 0, none⟩)] W fun e w' => ReaV w0 e NX (.tape w0.heap.size g H T4.crash :: l) w') := hide (fun W g H l hW => readS hW (r := []) (by rw [crash_now, q1]; exact rds_flat Y1.out))
          have K7 : Hid (∀ W v l, Its w0 (.row ntE w0.heap.size v NX :: l) W → Calls Try.prog 23 #[v, .slice a1 k1 c1] W fun e w' => e = .returned (.bool true) ∧ ∃ n, w' = W.drewN n) := hide (fun W v l hW => same_eq (El.Own.rd hW.one) (R3.out W hW.bel) (by have := HL3.out; omega))
          clear q1 q2
          go_upto_region 9 with (first
            | (go_at_call 12; refine (K3.out _ _ h4).mono ?_; rintro e w5 ⟨rfl, h5⟩)
            | (go_at_call 16; refine (K2.out _ _ h3).mono ?_; rintro e w4 ⟨rfl, H4, h4⟩)
            | (go_at_call 16; refine (K1.out _ _ HI.out).mono ?_; rintro e w3 ⟨rfl, H3, h3⟩))
          clear h3 h4
          go_wp2_with (first
            | (go_at_call 23; refine (K7.out _ _ _ h8).mono ?_; rintro e w9 ⟨rfl, nq, rfl⟩)
            | (go_at_call 24; refine (K6.out _ _ _ _ h7).mono ?_; rintro e w8 ⟨v, rfl, h8⟩)
            | (go_at_call 20; refine (K5.out _ _ h6).mono ?_; rintro e w7 ⟨g2, H7, rfl, h7⟩)
            | (go_at_call 16; refine (K4.out _ _ h5).mono ?_; rintro e w6 ⟨rfl, H6, h6⟩))
          go_ret
          exact ⟨rfl, (h8.drew nq).bel⟩
        · have K6 : Hid (∀ W g H l, Its w0 (.tape w0.heap.size g H T4.crash :: l) W → Calls Try.prog 24 #[.pointer (some ⟨g, 0, none⟩)] W fun e w' => ReaV w0 e OS (.tape w0.heap.size g H T4.crash :: l) w') := hide (fun W g H l hW => readS hW (r := []) (by rw [crash_now, q1, X5.out.1]; exact rds_flat X1.out))
          have K7 : Hid (∀ W v l, Its w0 (.row ntE w0.heap.size v OS :: l) W → Calls Try.prog 23 #[v, .slice a0 k0 c0] W fun e w' => e = .returned (.bool true) ∧ Its w0 l w') := hide (fun W v l hW => (same_eq (El.Own.rd hW.one) (R2.out W hW.bel) (by have := HL2.out; omega)).mono (by rintro e w' ⟨rfl, n, rfl⟩; exact ⟨rfl, (hW.drew n).tail⟩))
          have K8 : Hid (∀ W H l, Its w0 (.tape w0.heap.size g H T4 :: l) W → Calls Try.prog 14 #[.pointer (some ⟨g, 0, none⟩), .slice none 0 0] W fun e w' => e = .returned (.int .i64 190) ∧ ∃ H', Its w0 (.tape w0.heap.size g H' T4 :: l) w') := hide (fun W H l hW => by
            obtain ⟨got, r, hr⟩ := rds_ex T4.now
            have := appendS hW (a := none) (N := 0) (c := 0) (ns := []) (.inl ⟨rfl, rfl⟩) rfl (by omega) hr
            rw [app_dead q2] at this
            exact this)
          have K10 : Hid (∀ W H l, Its w0 (.tape w0.heap.size g H T4 :: l) W → Calls Try.prog 12 #[.pointer (some ⟨g, 0, none⟩), .int .i64 1] W fun e w' => e = .returned (.int .i64 190) ∧ Its w0 (.tape w0.heap.size g H T4 :: l) w') := hide (fun W H l hW => by
            have := armS hW 1
            rw [arm_dead q2] at this
            exact this)
          clear q1 q2
          go_upto_region 9 with (first
            | (go_at_call 12; refine (K3.out _ _ h4).mono ?_; rintro e w5 ⟨rfl, h5⟩)
            | (go_at_call 16; refine (K2.out _ _ h3).mono ?_; rintro e w4 ⟨rfl, H4, h4⟩)
            | (go_at_call 16; refine (K1.out _ _ HI.out).mono ?_; rintro e w3 ⟨rfl, H3, h3⟩))
          clear h3 h4
          go_wp2_with (first
            | (go_at_call 12; refine (K10.out _ _ _ h10).mono ?_; rintro e w11 ⟨rfl, h11⟩)
            | (go_at_call 14; refine (K8.out _ _ _ h9.swap).mono ?_; rintro e w10 ⟨rfl, H10, h10⟩)
            | (go_at_call 23; refine (K7.out _ _ _ h8).mono ?_; rintro e w9 ⟨rfl, h9⟩)
            | (go_at_call 24; refine (K6.out _ _ _ _ h7).mono ?_; rintro e w8 ⟨v, rfl, h8⟩)
            | (go_at_call 20; refine (K5.out _ _ h6).mono ?_; rintro e w7 ⟨g2, H7, rfl, h7⟩)
            | (go_at_call 16; refine (K4.out _ _ h5).mono ?_; rintro e w6 ⟨rfl, H6, h6⟩))
          go_ret
          exact ⟨rfl, h11.bel⟩
      · have hbe : (C2 == 0) = false := beq_eq_false_iff_ne.2 hC2
        have hbn : (C2 != 0) = true := bne_iff_ne.2 hC2
        clear z2
        go_wp2_with (first
          | (go_at_call 16; refine (K2.out _ _ h3).mono ?_; rintro e w4 ⟨rfl, H4, h4⟩)
          | (go_at_call 16; refine (K1.out _ _ HI.out).mono ?_; rintro e w3 ⟨rfl, H3, h3⟩))
        go_ret
        exact ⟨rfl, h4.bel⟩
    · have hbe : (C1 == 0) = false := beq_eq_false_iff_ne.2 hC1
      have hbn : (C1 != 0) = true := bne_iff_ne.2 hC1
      clear z1
      go_wp2_with (go_at_call 16; refine (K1.out _ _ HI.out).mono ?_; rintro e w3 ⟨rfl, H3, h3⟩)
      go_ret
      exact ⟨rfl, h3.bel⟩
end Go.Proofs.Ytgdoagmnhmfjkaa.tapeTurns
