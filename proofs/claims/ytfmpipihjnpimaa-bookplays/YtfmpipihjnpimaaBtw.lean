/- BookTotes, the walk. -/
import Derived.Test.YtfmpipihjnpimaaBtm
import Derived.Test.YtfmpipihjnpimaaBkh
namespace Go.Proofs.Ytfmpipihjnpimaa
open Go.RowKit
set_option linter.unusedVariables false

theorem i64_small {x : Int} (h0 : -1000 ≤ x) (h1 : x ≤ 1000) : I64 x := by unfold I64; omega

set_option maxRecDepth 100000 in
set_option maxHeartbeats 8000000 in
theorem totes_walk (n0 n1 : Int) (w : World) : Calls Try.prog 6 #[.int .i64 n0, .int .i64 n1] w fun e w' => e = .returned (.bool true) ∧ Below w.heap.size w w' := by
  obtain ⟨w0, rfl⟩ : ∃ w0, w0 = w := ⟨_, rfl⟩
  have KA := hide awake_any
  have KN := hide (new_any w0 w0 [] (Its.nil w0))
  obtain ⟨k, hk, hk40⟩ := few n1 40 (by omega)
  obtain ⟨k2, hk2, hk30⟩ := few n0 30 (by omega)
  obtain ⟨N, hN⟩ : ∃ N : Nat, (k2 : Int) + 1 = (N : Int) := ⟨k2 + 1, by omega⟩
  have hN1 : 1 ≤ N := by omega
  have hN2 : N ≤ 30 := by omega
  obtain ⟨s, hs⟩ : ∃ s : Int, (k : Int) = s := ⟨_, rfl⟩
  have HS : Hid (0 ≤ s ∧ s ≤ 39) := hide (by omega)
  have HN2 := hide hN2
  have HN1 := hide hN1
  have i30 : (N : Int) ≤ 30 := by omega
  have i1 : (1 : Int) ≤ (N : Int) := by omega
  rw [hs] at hk
  go_enter Try.func6, Try.ntmps6
  go_upto_region 4 with (first
    | (go_at_call 8; refine KN.out.mono ?_; rintro e W0 ⟨g, H0, rfl, hg⟩; have HG0 := hide hg; clear hg)
    | (go_at_call 9; refine (KA.out _).mono ?_; rintro e W1 ⟨rfl, hb1⟩; have HG1 := hide (HG0.out.keep hb1); clear hb1))
  go_upto_region 6 with fail
  rw [hk]
  generalize wrap64 ((IntKind.u64.wrap n0).tmod 30) = y1 at *
  generalize (IntKind.u64.wrap n0).tmod 30 = y2 at *
  generalize IntKind.u64.wrap n0 = y3 at *
  generalize (IntKind.u64.wrap n1).tmod 40 = y4 at *
  generalize IntKind.u64.wrap n1 = y5 at *
  clear hk hk40 hN KA KN HG0 hN1 hN2 hk2 hk30 hs
  go_wp2_with fail
  have KA1 : Hid (∀ W H (S : Bk) (t : Nat), t < N → J1 s S t → Its w0 [.book w0.heap.size g H S] W → Calls Try.prog 10 #[.pointer (some ⟨g, 0, none⟩), .agg #[.int .i64 ((t : Int) + 1), .int .i64 s, .int .i64 ((t : Int) + 1)]] W fun q w' => q = .returned (.tuple #[.bool true, .int .i64 0]) ∧ ∃ H' S', J1 s S' (t + 1) ∧ Its w0 [.book w0.heap.size g H' S'] w') := hide (fun W H S t ht hJ h => by
    have hs := HS.out
    have hn := HN2.out
    refine (addS ⟨(t : Int) + 1, s, (t : Int) + 1⟩ h (i64_small (by simp only; omega) (by simp only; omega)) (by rw [hJ.len]; omega) ⟨hJ.yes (by omega) hs.1 hs.2, Bk.adC_yes (hJ.yes (by omega) hs.1 hs.2)⟩ rfl).mono ?_
    rintro q w' ⟨rfl, H', h'⟩
    exact ⟨rfl, H', _, hJ.add (by omega) hs.1 hs.2, h'⟩)
  have KA2 : Hid (∀ W H (S : Bk) (t : Nat), t < N → J1 s S (t + 1) → Its w0 [.book w0.heap.size g H S] W → Calls Try.prog 10 #[.pointer (some ⟨g, 0, none⟩), .agg #[.int .i64 (100 + ((t : Int) + 1)), .int .i64 s, .int .i64 ((t : Int) + 1)]] W fun q w' => q = .returned (.tuple #[.bool false, .int .i64 160]) ∧ ∃ H', Its w0 [.book w0.heap.size g H' S] w') := hide (fun W H S t ht hJ h => by
    have hs := HS.out
    have hn := HN2.out
    have hc := hJ.no (t := t) (by omega) hs.1 hs.2
    have hy := Bk.adY_no (S := S) (r := ⟨100 + ((t : Int) + 1), s, (t : Int) + 1⟩) (by rw [hc]; decide)
    exact addS ⟨100 + ((t : Int) + 1), s, (t : Int) + 1⟩ h (i64_small (by simp only; omega) (by simp only; omega)) (by rw [hJ.len]; omega) ⟨hy, hc⟩ (Bk.ad_no hy))
  go_loopw [6] (fun v6 wr => ∃ (t : Nat) (S : Bk) (H : Hb), v6 = .int .i64 ((t : Int) + 1) ∧ t ≤ N ∧ Hid (J1 s S t) ∧ Hid (Its w0 [.book w0.heap.size g H S] wr)) (fun v6 _ => N + 1 - (intOf v6).toNat)
  case atStart => exact ⟨0, _, _, rfl, by omega, hide (J1.new s), HG1⟩
  case round =>
    obtain ⟨t, S, H, rfl, ht, HJ, HG⟩ := hrel
    by_cases hlt : t < N
    · have j0 : (t : Int) + 1 ≤ (N : Int) := by omega
      have j1 : (0 : Int) ≤ (t : Int) + 1 := by omega
      have K1 := hide (KA1.out wr H S t hlt HJ.out HG.out)
      go_wp2_with (first
        | (go_at_call 10; refine (KA2.out _ _ _ t hlt HJ2.out HG2.out).mono ?_; rintro e W3 ⟨rfl, H3, hg⟩; have HG3 := hide hg; clear hg)
        | (go_at_call 10; refine K1.out.mono ?_; rintro e W2 ⟨rfl, H2, S2, hj2, hg⟩; have HG2 := hide hg; have HJ2 := hide hj2; clear hg hj2))
      go_roundw
      case rel => exact ⟨t + 1, S2, H3, by go_num, by omega, HJ2, HG3⟩
      case measure => simp [intOf]; omega
    · have htN : t = N := by omega
      have HJ0 : Hid (J2 s N S 0) := hide (by have := HJ.out; rw [htN] at this; exact this.two)
      have j9 : ¬ (t : Int) + 1 ≤ (N : Int) := by omega
      clear HJ hlt ht htN KA1 KA2
      go_wp2_with fail
      obtain ⟨wA, rfl⟩ : ∃ W, W = wr := ⟨_, rfl⟩
      have KC : Hid (∀ W H (S : Bk) (t : Nat), t < N → J2 s N S t → (t + 1) % 2 = 0 → Its w0 [.book w0.heap.size g H S] W → Calls Try.prog 12 #[.pointer (some ⟨g, 0, none⟩), .int .i64 ((t : Int) + 1)] W fun q w' => q = .returned (.tuple #[.bool true, .int .i64 0]) ∧ ∃ H' S', J3 s N S' t ∧ Its w0 [.book w0.heap.size g H' S'] w') := hide (fun W H S t ht hJ he h => by
        have hn := HN2.out
        refine (cancelS h (i64_small (by omega) (by omega)) (hJ.ca ht) (Bk.ca_yes (hJ.ca ht).1)).mono ?_
        rintro q w' ⟨rfl, H', h'⟩
        exact ⟨rfl, H', _, hJ.set (bk_lie h.one).1 ht hn 3 (by decide) _ (by rw [hJ.dn]; omega), h'⟩)
      have KS : Hid (∀ W H (S : Bk) (t : Nat), t < N → J2 s N S t → (t + 1) % 2 = 1 → Its w0 [.book w0.heap.size g H S] W → Calls Try.prog 14 #[.pointer (some ⟨g, 0, none⟩), .int .i64 ((t : Int) + 1)] W fun q w' => q = .returned (.int .i64 0) ∧ ∃ H' S', J3 s N S' t ∧ Its w0 [.book w0.heap.size g H' S'] w') := hide (fun W H S t ht hJ he h => by
        have hn := HN2.out
        refine (serveS h (i64_small (by omega) (by omega)) (by rw [hJ.dn]; omega) (hJ.se ht) (Bk.se_yes (hJ.se ht))).mono ?_
        rintro q w' ⟨rfl, H', h'⟩
        exact ⟨rfl, H', _, hJ.set (bk_lie h.one).1 ht hn 2 (by decide) _ (by rw [List.length_append, hJ.dn]; simp only [List.length_cons, List.length_nil]; omega), h'⟩)
      have KB : Hid (∀ W H (S : Bk) (t : Nat), t < N → J3 s N S t → Its w0 [.book w0.heap.size g H S] W → Calls Try.prog 10 #[.pointer (some ⟨g, 0, none⟩), .agg #[.int .i64 (100 + ((t : Int) + 1)), .int .i64 s, .int .i64 ((t : Int) + 1)]] W fun q w' => q = .returned (.tuple #[.bool true, .int .i64 0]) ∧ ∃ H' S', J2 s N S' (t + 1) ∧ Its w0 [.book w0.heap.size g H' S'] w') := hide (fun W H S t ht hJ h => by
        have hs := HS.out
        have hn := HN2.out
        have hy := hJ.yes ht hn hs.1 hs.2
        refine (addS ⟨100 + ((t : Int) + 1), s, (t : Int) + 1⟩ h (i64_small (by simp only; omega) (by simp only; omega)) (by rw [hJ.len]; omega) ⟨hy, Bk.adC_yes hy⟩ rfl).mono ?_
        rintro q w' ⟨rfl, H', h'⟩
        exact ⟨rfl, H', _, hJ.add ht hn hs.1 hs.2, h'⟩)
      go_loopw [11] (fun v11 wr => ∃ (t : Nat) (S : Bk) (H : Hb), v11 = .int .i64 ((t : Int) + 1) ∧ t ≤ N ∧ Hid (J2 s N S t) ∧ Hid (Its w0 [.book w0.heap.size g H S] wr)) (fun v11 _ => N + 1 - (intOf v11).toNat)
      case atStart => exact ⟨0, _, _, rfl, by omega, HJ0, HG⟩
      case round =>
        obtain ⟨t, S, H, rfl, ht, HJ, HG⟩ := hrel
        by_cases hlt : t < N
        · have j0 : (t : Int) + 1 ≤ (N : Int) := by omega
          have j1 : (0 : Int) ≤ (t : Int) + 1 := by omega
          have KBt := hide (fun W H S hj h => KB.out W H S t hlt hj h)
          rcases Nat.mod_two_eq_zero_or_one (t + 1) with he | he
          · have K1 := hide (KC.out wr H S t hlt HJ.out he HG.out)
            have j2 : ((t : Int) + 1).tmod 2 = 0 := by rw [Int.tmod_eq_emod_of_nonneg (by omega)]; omega
            clear he
            go_wp2_with (first
              | (go_at_call 10; refine (KBt.out _ _ _ HJ2.out HG2.out).mono ?_; rintro e W3 ⟨rfl, H3, S3, hj3, hg⟩; have HG3 := hide hg; have HJ3 := hide hj3; clear hg hj3)
              | (go_at_call 12; refine K1.out.mono ?_; rintro e W2 ⟨rfl, H2, S2, hj2, hg⟩; have HG2 := hide hg; have HJ2 := hide hj2; clear hg hj2))
            go_roundw
            case rel => exact ⟨t + 1, S3, H3, by go_num, by omega, HJ3, HG3⟩
            case measure => simp [intOf]; omega
          · have K1 := hide (KS.out wr H S t hlt HJ.out he HG.out)
            have j2 : ((t : Int) + 1).tmod 2 = 1 := by rw [Int.tmod_eq_emod_of_nonneg (by omega)]; omega
            clear he
            go_wp2_with (first
              | (go_at_call 10; refine (KBt.out _ _ _ HJ2.out HG2.out).mono ?_; rintro e W3 ⟨rfl, H3, S3, hj3, hg⟩; have HG3 := hide hg; have HJ3 := hide hj3; clear hg hj3)
              | (go_at_call 14; refine K1.out.mono ?_; rintro e W2 ⟨rfl, H2, S2, hj2, hg⟩; have HG2 := hide hg; have HJ2 := hide hj2; clear hg hj2))
            go_roundw
            case rel => exact ⟨t + 1, S3, H3, by go_num, by omega, HJ3, HG3⟩
            case measure => simp [intOf]; omega
        · have htN : t = N := by omega
          have HJ0 : Hid (J2 s N S N) := hide (by have := HJ.out; rw [htN] at this; exact this)
          have j9 : ¬ (t : Int) + 1 ≤ (N : Int) := by omega
          obtain ⟨hD1, hD2⟩ := HJ0.out.done (bk_lie HG.out.one).1
          have hl1 : (ops S.all).length = N := by rw [hD1]; simp [hi]
          have KO := hide (openS HG.out hl1)
          have K20 : Hid (∀ W, Its w0 [.book w0.heap.size g H S] W → Calls Try.prog 20 #[.pointer (some ⟨g, 0, none⟩), .int .i64 s] W fun q w' => ∃ a' c', q = .returned (.slice a' ((N + 1) / 2) c') ∧ Its w0 (.ints w0.heap.size (.slice a' ((N + 1) / 2) c') (S.sv s) :: .book w0.heap.size g H S :: []) w') := hide (fun W h => servedS h (i64_small (by have := HS.out; omega) (by have := HS.out; omega)) (by rw [HJ0.out.dn]; have := HN2.out; omega) hD2)
          have h0 : (ops S.all)[0]? = some ⟨101, s, 1⟩ := by
            rw [hD1]
            obtain ⟨m, hm⟩ : ∃ m, N = m + 1 := ⟨N - 1, by have := HN1.out; omega⟩
            rw [hm]
            simp [hi]
          have H0' := hide h0
          have j3 : (((N + 1) / 2 : Nat) : Int) = ((N : Int) + 1) / 2 := by omega
          have j4 : (0 : Int) < (N : Int) := by omega
          clear hD1 hD2 hl1 h0 HJ HJ0 hlt ht htN KC KS KB HS HN1 HN2
          generalize (N + 1) / 2 = M at *
          go_upto_region 27 with (go_at_call 19; refine KO.out.mono ?_; rintro e W5 ⟨a5, c5, rfl, hg⟩; have HG5 := hide hg; clear hg)
          obtain ⟨b5, off5, rfl, z0, z1, z2⟩ := rq_at (El.Own.rd HG5.out.one) 0 _ H0'.out
          simp only [Nat.zero_mul, Nat.add_zero] at z0 z1 z2
          go_wp2_with (go_at_call 20; refine (K20.out _ HG5.out.tail).mono ?_; rintro e W6 ⟨a6, c6, rfl, hg⟩; have HG6 := hide hg; clear hg)
          go_ret
          exact ⟨rfl, HG6.out.bel⟩
end Go.Proofs.Ytfmpipihjnpimaa
