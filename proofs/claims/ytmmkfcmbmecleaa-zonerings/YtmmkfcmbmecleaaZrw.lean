/- The walk of ZoneRings. -/
import Derived.Test.YtmmkfcmbmecleaaZaw
import Derived.Test.YtmmkfcmbmecleaaZrm
import Derived.Test.YtmmkfcmbmecleaaBtw
namespace Go.Proofs.Ytmmkfcmbmecleaa.zoneRings
open Go.ChangeShapes Go.WideShapes Go.ChangeAt Go.RowKit
set_option linter.unusedVariables false

theorem stuck_free {a : Option Addr} {c n : Nat} {hs : List Hl} {W : World} (hn : hs.length = n) (hv : Hds hvE W (.slice a n c) hs) (hl : n ≤ 100000) (hb : ∀ p ∈ hs, p.has.length ≤ 30) (h : hs.length ≤ 40 ∧ hs.all okH = true) (hf : Free hs) :
    Calls Try.prog 24 #[.slice a n c] W fun e w' => e = .returned (.tuple #[.slice none 0 0, .int .i64 0]) ∧ Below W.heap.size W w' :=
  (stuck_any a c n hs W hn hv hl hb).mono (by
    rintro e w' ⟨⟨u, x, rfl, hp⟩, hb'⟩
    unfold SP at hp
    rw [if_pos h] at hp
    obtain ⟨rfl, hp⟩ := hp
    rcases hp with ⟨rfl, _⟩ | ⟨_, _, _, _, _, _, hr⟩
    · exact ⟨rfl, hb'⟩
    · exact absurd hf hr.stuck)
theorem stuck_ring {a : Option Addr} {c n : Nat} {hs : List Hl} {W : World} (hn : hs.length = n) (hv : Hds hvE W (.slice a n c) hs) (hl : n ≤ 100000) (hb : ∀ p ∈ hs, p.has.length ≤ 30) (h : hs.length ≤ 40 ∧ hs.all okH = true) (hf : ¬ Free hs) :
    Calls Try.prog 24 #[.slice a n c] W fun e w' => (∃ b m d, e = .returned (.tuple #[.slice b m d, .int .i64 0]) ∧ ∃ l : List Nat, l.length = m ∧ intE.Rd w' (.slice b m d) (ints l) ∧ IsRing hs l) ∧ Below W.heap.size W w' :=
  (stuck_any a c n hs W hn hv hl hb).mono (by
    rintro e w' ⟨⟨u, x, rfl, hp⟩, hb'⟩
    unfold SP at hp
    rw [if_pos h] at hp
    obtain ⟨rfl, hp⟩ := hp
    rcases hp with ⟨_, h'⟩ | ⟨y, m, k, l, rfl, ho, hr⟩
    · exact absurd h' hf
    · obtain ⟨b, d, e⟩ := own_form ho
      refine ⟨⟨b, l.length, d, by rw [e], l, rfl, ?_, hr⟩, hb'⟩
      rw [← e]; exact ho.rd)

theorem tmod_nat (x : Int) (n : Nat) (hx : 0 ≤ x) (hn : 0 < n) : ∃ k : Nat, x.tmod (n : Int) = (k : Int) ∧ k < n := by
  rw [Int.tmod_eq_emod_of_nonneg hx]
  have h1 := Int.emod_nonneg x (by omega : (n : Int) ≠ 0)
  have h2 := Int.emod_lt_of_pos x (by omega : (0 : Int) < n)
  exact ⟨(x % (n : Int)).toNat, by omega, by omega⟩
theorem u64_nn (x : Int) : 0 ≤ IntKind.u64.wrap x := by unfold IntKind.wrap; simp [IntKind.bits, IntKind.signed]; omega
theorem wrap64_nat (k : Nat) (h : k ≤ 1000) : wrap64 (k : Int) = (k : Int) := by unfold wrap64; omega
theorem u64_nat (k : Nat) (h : k ≤ 1000) : IntKind.u64.wrap (k : Int) = (k : Int) := by unfold IntKind.wrap; simp [IntKind.bits, IntKind.signed]; omega

set_option maxRecDepth 100000 in
set_option maxHeartbeats 8000000 in
theorem walk0 (n0 n1 n2 : Int) (w : World) :
    Calls Try.prog 8 #[.int .i64 n0, .int .i64 n1, .int .i64 n2] w fun e w' => e = .returned (.bool true) ∧ Below w.heap.size w w' := by
  obtain ⟨w0, rfl⟩ : ∃ w0, w0 = w := ⟨_, rfl⟩
  have KA := hide awake_any
  go_enter Try.func8, Try.ntmps8
  go_upto_region 4 with (go_at_call 9; refine (KA.out _).mono ?_; rintro e W1 ⟨rfl, hb1⟩; have HB := hide hb1; clear hb1)
  obtain ⟨N, hN, N0, N8⟩ : ∃ N : Nat, wrap64 (wrap64 ((IntKind.u64.wrap n0).tmod 8) + 1) = (N : Int) ∧ 0 < N ∧ N ≤ 8 := by
    obtain ⟨k, hk, hk8⟩ := tmod_nat (IntKind.u64.wrap n0) 8 (u64_nn n0) (by omega)
    have hk' : (IntKind.u64.wrap n0).tmod 8 = (k : Int) := hk
    refine ⟨k + 1, ?_, by omega, by omega⟩
    rw [hk', wrap64_nat k (by omega)]
    exact wrap64_nat (k + 1) (by omega)
  obtain ⟨M, hM, M9⟩ : ∃ M : Nat, wrap64 ((IntKind.u64.wrap n1).tmod 10) = (M : Int) ∧ M < 10 := by
    obtain ⟨k, hk, hk8⟩ := tmod_nat (IntKind.u64.wrap n1) 10 (u64_nn n1) (by omega)
    have hk' : (IntKind.u64.wrap n1).tmod 10 = (k : Int) := hk
    exact ⟨k, by rw [hk', wrap64_nat k (by omega)], by omega⟩
  rw [hN, hM]
  generalize wrap64 ((IntKind.u64.wrap n0).tmod 8) = g1
  generalize (IntKind.u64.wrap n0).tmod 8 = g2
  generalize IntKind.u64.wrap n0 = g3
  generalize (IntKind.u64.wrap n1).tmod 10 = g4
  generalize IntKind.u64.wrap n1 = g5
  clear hN hM
  have i0 : (N : Int) ≤ 8 := by omega
  have i1 : (M : Int) < 10 := by omega
  have i2 : (0 : Int) < (N : Int) := by omega
  have i3 : ¬ ((N : Int) = 0) := by omega
  have i4 : ¬ (N = 0) := by omega
  have i5 : ((N : Int) == 0) = false := beq_eq_false_iff_ne.2 i3
  have HRb0 := hide (Rb.nil w0 W1 HB.out)
  go_upto_region 6 with fail
  go_loopw [7, 8] (fun v7 v8 wr => ∃ (k : Nat) (vs : List Hv), v8 = .int .i64 k ∧ k ≤ N ∧ Hid (Rb w0 wr v7 vs (rgH N k))) (fun _ v8 _ => N - (intOf v8).toNat)
  case atStart => exact ⟨0, [], rfl, Nat.zero_le _, HRb0⟩
  case round =>
    clear HRb0
    obtain ⟨k, vs, rfl, hk, HR⟩ := hrel
    by_cases hlt : k < N
    · have k0 : (0 : Int) ≤ (k : Int) := by omega
      have k1 : (k : Int) < (N : Int) := by omega
      have hz : (k + 1) % N < N := Nat.mod_lt _ N0
      have hrem : Int.tmod ((k : Int) + 1) (N : Int) = (((k + 1) % N : Nat) : Int) := by rw [Int.tmod_eq_emod_of_nonneg (by omega)]; simp
      have HRs : Hid (rgH N (k + 1) = rgH N k ++ [⟨[(k : Int)], (((k + 1) % N : Nat) : Int)⟩]) := hide (rgH_succ N k)
      obtain ⟨z, hze⟩ : ∃ z, (k + 1) % N = z := ⟨_, rfl⟩
      rw [hze] at hz hrem HRs
      have hwz : IntKind.i64.wrap (z : Int) = (z : Int) := i64_small _ (by omega) (by omega)
      have HA : Hid (Rb w0 ((wr.alloc (.cells #[.int .i64 (k : Int)] 3)).alloc (.cells #[.slice (some ⟨wr.heap.size, 0, none⟩) 1 1, .int .i64 (z : Int)] 62)) u7 vs (rgH N k)) := hide ((HR.out.keep ((Below.refl _ _).alloc (Nat.le_refl _) _)).keep ((Below.refl _ _).alloc (Nat.le_refl _) _))
      have HO : Hid (intE.Own ((wr.alloc (.cells #[.int .i64 (k : Int)] 3)).alloc (.cells #[.slice (some ⟨wr.heap.size, 0, none⟩) 1 1, .int .i64 (z : Int)] 62)) w0.heap.size (.slice (some ⟨wr.heap.size, 0, none⟩) 1 1) [(k : Int)]) := hide ((El.Own.new intE wr w0.heap.size HR.out.bel.size _ [(k : Int)] rfl (by simp) _ _ _ rfl rfl rfl).keep ((Below.refl _ _).alloc (Nat.le_refl _) _))
      have HN : Hid (hvE.Rd ((wr.alloc (.cells #[.int .i64 (k : Int)] 3)).alloc (.cells #[.slice (some ⟨wr.heap.size, 0, none⟩) 1 1, .int .i64 (z : Int)] 62)) (.slice (some ⟨wr.heap.size + 1, 0, none⟩) 1 1) [⟨some ⟨wr.heap.size, 0, none⟩, 1, 1, (z : Int)⟩]) := hide ((El.Own.new hvE (wr.alloc (.cells #[.int .i64 (k : Int)] 3)) 0 (Nat.zero_le _) _ [⟨some ⟨wr.heap.size, 0, none⟩, 1, 1, (z : Int)⟩] rfl (by simp) _ _ _ (sz wr _).symm rfl rfl).rd)
      have Hl : Hid (vs.length + [(⟨some ⟨wr.heap.size, 0, none⟩, 1, 1, (z : Int)⟩ : Hv)].length ≤ 1000000) := hide (by rw [HR.out.len, rgH_len]; simp; omega)
      clear hze
      go_wp2_with (at_builtin; refine hvE.wp (w0 := w0) HA.out.bel (by rfl) _ _ rfl _ _ rfl rfl vs [⟨some ⟨wr.heap.size, 0, none⟩, 1, 1, (z : Int)⟩] HA.out.own HN.out Hl.out ?_; intro v1 w2 ho2 hg2 hs2 hb2; have HF := hide (HA.out.app (p := ⟨[(k : Int)], (z : Int)⟩) ho2 hg2 rfl HO.out); clear ho2 hg2 hs2 hb2)
      go_roundw
      case rel => exact ⟨k + 1, _, by go_num, by omega, hide (by rw [HRs.out]; exact HF.out)⟩
      case measure => simp [intOf]; omega
    · obtain rfl : k = N := by omega
      have k1 : ¬ (k : Int) < (k : Int) := by omega
      have HRb1 : Hid (Rb w0 wr u7 vs (rgH k k ++ mrH k 0)) := hide (by have := HR.out; simpa [mrH] using this)
      go_upto_region 10 with fail
      go_loopw [7, 9] (fun v7 v9 wr => ∃ (i : Nat) (vs : List Hv), v9 = .int .i64 i ∧ i ≤ M ∧ Hid (Rb w0 wr v7 vs (rgH k k ++ mrH k i))) (fun _ v9 _ => M - (intOf v9).toNat)
      case atStart => exact ⟨0, vs, rfl, Nat.zero_le _, HRb1⟩
      case round =>
        clear HR HRb1 k1
        obtain ⟨i, vs, rfl, hi, HR⟩ := hrel
        by_cases hlt : i < M
        · have j0 : (0 : Int) ≤ (i : Int) := by omega
          have j1 : (i : Int) < (M : Int) := by omega
          have hz : i % k < k := Nat.mod_lt _ N0
          have hrem : Int.tmod (i : Int) (k : Int) = ((i % k : Nat) : Int) := by rw [Int.tmod_eq_emod_of_nonneg (by omega)]; simp
          have HRs : Hid (rgH k k ++ mrH k (i + 1) = (rgH k k ++ mrH k i) ++ [⟨[], ((i % k : Nat) : Int)⟩]) := hide (by rw [mrH_succ, List.append_assoc])
          obtain ⟨z, hze⟩ : ∃ z, i % k = z := ⟨_, rfl⟩
          rw [hze] at hz hrem HRs
          have hwz : IntKind.i64.wrap (z : Int) = (z : Int) := i64_small _ (by omega) (by omega)
          have HA : Hid (Rb w0 (wr.alloc (.cells #[.slice none 0 0, .int .i64 (z : Int)] 62)) u7 vs (rgH k k ++ mrH k i)) := hide (HR.out.keep ((Below.refl _ _).alloc (Nat.le_refl _) _))
          have HN : Hid (hvE.Rd (wr.alloc (.cells #[.slice none 0 0, .int .i64 (z : Int)] 62)) (.slice (some ⟨wr.heap.size, 0, none⟩) 1 1) [⟨none, 0, 0, (z : Int)⟩]) := hide ((El.Own.new hvE wr 0 (Nat.zero_le _) _ [⟨none, 0, 0, (z : Int)⟩] rfl (by simp) _ _ _ rfl rfl rfl).rd)
          have Hl : Hid (vs.length + [(⟨none, 0, 0, (z : Int)⟩ : Hv)].length ≤ 1000000) := hide (by rw [HR.out.len, List.length_append, rgH_len, mrH_len]; simp; omega)
          clear hze
          go_wp2_with (at_builtin; refine hvE.wp (w0 := w0) HA.out.bel (by rfl) _ _ rfl _ _ rfl rfl vs [⟨none, 0, 0, (z : Int)⟩] HA.out.own HN.out Hl.out ?_; intro v1 w2 ho2 hg2 hs2 hb2; have HF := hide (HA.out.app (p := ⟨[], (z : Int)⟩) ho2 hg2 rfl (El.Own.nil _ _ _)); clear ho2 hg2 hs2 hb2)
          go_roundw
          case rel => exact ⟨i + 1, _, by go_num, by omega, hide (by rw [HRs.out]; exact HF.out)⟩
          case measure => simp [intOf]; omega
        · obtain rfl : i = M := by omega
          have j1 : ¬ (i : Int) < (i : Int) := by omega
          have HR2 : Hid (Rb w0 wr u7 vs (hsR k i)) := HR
          obtain ⟨g, cap, hu7, _, _⟩ := HR2.out.own.some (by intro e; have := congrArg List.length e; rw [HR2.out.len, hsR_len] at this; simp at this; omega)
          rw [HR2.out.len, hsR_len] at hu7
          subst hu7
          have K1 := hide (stuck_ring (hsR_len k i) HR2.out.hds (by omega) (okR N0 N8).2 ⟨by rw [hsR_len]; omega, (okR N0 N8).1⟩ (ringR k i N0).stuck)
          clear HR
          go_upto_region 14 with (go_at_call 24; refine (K1.out).mono ?_; rintro e W6 ⟨⟨b, m, d, rfl, l, h1, h2, h3⟩, hb6⟩; have H1 := hide h1; have H2 := hide h2; have H3 := hide h3; have HR3 := hide (HR2.out.keep hb6); clear hb6 h1 h2 h3)
          obtain ⟨hl, hat⟩ := ringR_at N0 H3.out
          have hm : m = k := by rw [← H1.out]; exact hl
          subst hm
          have Hat := hide hat
          have Hl := hide hl
          clear hl hat
          go_upto_region 17 with fail
          go_loopw [66] (fun v66 wr => ∃ j : Nat, v66 = .int .i64 j ∧ j ≤ m ∧ Hid (∃ q, wr = W6.drewN q)) (fun v66 _ => m - (intOf v66).toNat)
          case atStart => exact ⟨0, rfl, Nat.zero_le _, hide ⟨0, rfl⟩⟩
          case round =>
            obtain ⟨j, rfl, hj, HW⟩ := hrel
            by_cases hjl : j < m
            · obtain ⟨x, hx⟩ : ∃ x, l[j]? = some x := ⟨_, List.getElem?_eq_getElem (by rw [Hl.out]; exact hjl)⟩
              obtain ⟨hxm, hnx⟩ := Hat.out j x hx
              rw [Hl.out] at hnx
              have Hru : Hid (intE.Rd wr (.slice b m d) (ints l)) := hide (by obtain ⟨q, rfl⟩ := HW.out; exact rd_heap H2.out rfl)
              obtain ⟨b', off, hbb, c0⟩ := int_at Hru.out j (x : Int) (ints_at l j x hx)
              obtain ⟨b2, off2, hab, c1⟩ := int_at Hru.out _ _ (ints_at l _ _ hnx)
              rw [hbb] at hab
              simp only [Option.some.injEq, Addr.mk.injEq] at hab
              obtain ⟨rfl, rfl, _⟩ := hab
              subst hbb
              have hz : (j + 1) % m < m := Nat.mod_lt _ N0
              have hy : (x + 1) % m < m := Nat.mod_lt _ N0
              have hrem : Int.tmod ((j : Int) + 1) (m : Int) = (((j + 1) % m : Nat) : Int) := by rw [Int.tmod_eq_emod_of_nonneg (by omega)]; simp
              have hrem2 : Int.tmod ((x : Int) + 1) (m : Int) = (((x + 1) % m : Nat) : Int) := by rw [Int.tmod_eq_emod_of_nonneg (by omega)]; simp
              obtain ⟨z, hze⟩ : ∃ z, (j + 1) % m = z := ⟨_, rfl⟩
              obtain ⟨y, hye⟩ : ∃ y, (x + 1) % m = y := ⟨_, rfl⟩
              rw [hze] at hz hrem c1
              rw [hye] at hy hrem2 c1
              have HW2 : Hid (∀ m', ∃ q, wr.drewN m' = W6.drewN q) := hide (fun m' => by
                obtain ⟨q, rfl⟩ := HW.out
                exact ⟨q + m', by simp⟩)
              have hwz : IntKind.i64.wrap (z : Int) = (z : Int) := i64_small _ (by omega) (by omega)
              have hwy : IntKind.i64.wrap (y : Int) = (y : Int) := i64_small _ (by omega) (by omega)
              have hwj : IntKind.i64.wrap ((j : Int) + 1) = (j : Int) + 1 := i64_small _ (by omega) (by omega)
              have hwx : IntKind.i64.wrap ((x : Int) + 1) = (x : Int) + 1 := i64_small _ (by omega) (by omega)
              have q0 : (0 : Int) ≤ (j : Int) := by omega
              have q1 : (j : Int) < (m : Int) := by omega
              have z0 : (0 : Int) ≤ (z : Int) := by omega
              have z1 : (z : Int) < (m : Int) := by omega
              have hd1 : decide ((x : Int) < 0) = false := decide_eq_false (by omega)
              have hd2 : decide ((x : Int) ≥ (m : Int)) = false := decide_eq_false (by omega)
              have hd3 : ((y : Int) != (y : Int)) = false := by simp
              clear hx hnx hze hye HW
              go_upto_region 19 with fail
              go_quiet (fail)
              go_wp2_with fail
              go_roundw
              case rel => exact ⟨j + 1, by go_num, by omega, hide (HW2.out _)⟩
              case measure => simp [intOf]; omega
            · obtain rfl : j = m := by omega
              have q1 : ¬ (j : Int) < (j : Int) := by omega
              have HR4 : Hid (Rb w0 wr (.slice (some ⟨g, 0, none⟩) (j + i) cap) vs (hsR j i)) := hide (by
                obtain ⟨q, rfl⟩ := HW.out
                exact HR3.out.keep (below_heap (Below.refl _ _) rfl rfl rfl rfl))
              obtain ⟨k, hk, hkn⟩ := tmod_nat (IntKind.u64.wrap n2) j (u64_nn n2) N0
              have hu := u64_nat j (by omega)
              have hw := wrap64_nat k (by omega)
              have hwk : IntKind.i64.wrap (k : Int) = (k : Int) := i64_small _ (by omega) (by omega)
              obtain ⟨⟨d0, d1⟩, vs', hR5⟩ := HR4.out.want (hsR_lo hkn) (-1)
              have HR5 := hide hR5
              simp only at d0
              have K2 := hide (stuck_free (by rw [List.length_set]; exact hsR_len j i) HR5.out.hds (by omega) (okR_set N0 N8 hkn).2 ⟨by rw [List.length_set, hsR_len]; omega, (okR_set N0 N8 hkn).1⟩ (freeR N0 hkn))
              have k0 : (0 : Int) ≤ (k : Int) := by omega
              have k1 : (k : Int) < (j : Int) + (i : Int) := by omega
              have i0' : (0 : Int) ≤ (i : Int) := by omega
              clear hR5 HR2 HR3 K1 HW
              go_upto_region 23 with fail
              go_wp2_with (go_at_call 24; refine (K2.out).mono ?_; rintro e W7 ⟨rfl, hb7⟩; have HB7 := hide (HR5.out.bel.trans (hb7.mono HR5.out.bel.size)); clear hb7)
              go_ret
              exact ⟨rfl, HB7.out⟩
end Go.Proofs.Ytmmkfcmbmecleaa.zoneRings
