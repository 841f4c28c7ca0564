/- The document's Ring, of what is a ring; holders that came in. -/
import Derived.Test.YtmmkfcmbmecleaaZsu
import Derived.Test.YtmmkfcmbmecleaaArgs
namespace Go.Proofs.Ytmmkfcmbmecleaa
open Go.ChangeShapes Go.WideShapes Go.ChangeAt Go.RowKit
set_option linter.unusedVariables false

theorem rem_small (x m : Nat) (hm : 0 < m) : Int.tmod (x : Int) (m : Int) = ((x % m : Nat) : Int) := by
  rw [Int.tmod_eq_emod_of_nonneg (by omega)]; rfl

set_option maxRecDepth 100000 in
set_option maxHeartbeats 8000000 in
theorem rring_any (a b : Option Addr) (c d n m : Nat) (hs : List Hl) (l : List Nat) (w : World) (hn : hs.length = n) (hm : l.length = m) (hv : Hds rvE w (.slice a n c) hs) (hu : intE.Rd w (.slice b m d) (ints l)) (hl : n ≤ 1000) (hb : ∀ p ∈ hs, p.has.length ≤ 30) (hr : IsRing hs l) (hl2 : m ≤ 1000) :
    Calls Try.prog 28 #[.slice a n c, .slice b m d] w fun e w' => e = .returned (.bool true) ∧ Below w.heap.size w w' := by
  obtain ⟨w0, rfl⟩ : ∃ w0, w0 = w := ⟨_, rfl⟩
  have K38 : Hid (∀ (x y : Nat) (q q2 : Nat), Wt hs x y → Calls Try.prog 38 #[.slice a n c, .int .i64 (x : Int), .int .i64 (y : Int)] ((w0.drewN q).drewN q2) fun e w' => e = .returned (.bool true) ∧ ∃ q', w' = ((w0.drewN q).drewN q2).drewN q') := hide (fun x y q q2 hw => by
    have hx := hw.lt
    refine (waits_any a c n hs x y ((w0.drewN q).drewN q2) hn (hv.keep (below_heap (Below.refl _ _) rfl rfl rfl rfl)) (by omega) (by omega) hb).mono ?_
    rintro e w' ⟨rfl, q', rfl⟩
    exact ⟨by rw [waitB_iff.2 hw], q', rfl⟩)
  have hpos := hr.pos
  rw [hm] at hpos
  have Hr := hide hr
  have Hm := hide hm
  have Hn := hide hn
  have Hu := hide hu
  have i0 : (n : Int) ≤ 1000 := by omega
  have i1 : (m : Int) ≤ 1000 := by omega
  have i2 : (m : Int) > 0 := by omega
  clear hn hv hl hb hr hm hu
  go_enter Try.func28, Try.ntmps28
  go_wp2_with fail
  go_loopw [10] (fun v10 wr => ∃ i q : Nat, v10 = .int .i64 i ∧ i ≤ m ∧ wr = w0.drewN q) (fun v10 _ => m - (intOf v10).toNat)
  case atStart => exact ⟨0, 0, rfl, Nat.zero_le _, rfl⟩
  case round =>
    obtain ⟨i, q, rfl, hi, rfl⟩ := hrel
    by_cases hlt : i < m
    · obtain ⟨x, hx⟩ : ∃ x, l[i]? = some x := ⟨_, List.getElem?_eq_getElem (by rw [Hm.out]; exact hlt)⟩
      obtain ⟨b', off, rfl, c0⟩ := int_at Hu.out i (x : Int) (ints_at l i x hx)
      have hxn := Hr.out.lt x (List.mem_of_getElem? hx)
      rw [Hn.out] at hxn
      have g0 : (0 : Int) ≤ (i : Int) := by omega
      have g1 : (i : Int) < (m : Int) := by omega
      have x0 : ¬ ((x : Int) < 0) := by omega
      have x1 : ¬ ((x : Int) ≥ (n : Int)) := by omega
      have Hx := hide hx
      clear hx hxn
      go_upto_region 7 with fail
      go_loopw [6] (fun v6 wr => ∃ k q : Nat, v6 = .int .i64 k ∧ k ≤ i ∧ wr = w0.drewN q) (fun v6 _ => i - (intOf v6).toNat)
      case atStart => exact ⟨0, q, rfl, Nat.zero_le _, rfl⟩
      case round =>
        obtain ⟨k, q', rfl, hk, rfl⟩ := hrel
        by_cases hkl : k < i
        · obtain ⟨y, hy⟩ : ∃ y, l[k]? = some y := ⟨_, List.getElem?_eq_getElem (by rw [Hm.out]; omega)⟩
          obtain ⟨b2, off2, hab, c1⟩ := int_at Hu.out k (y : Int) (ints_at l k y hy)
          simp only [Option.some.injEq, Addr.mk.injEq] at hab
          obtain ⟨rfl, rfl, _⟩ := hab
          have hne : ¬ ((y : Int) = (x : Int)) := fun e => by
            have e' : y = x := by omega
            subst e'
            have hnd := Hr.out.nd
            have h1 := List.getElem?_eq_some_iff.1 Hx.out
            have h2 := List.getElem?_eq_some_iff.1 hy
            exact List.pairwise_iff_getElem.1 hnd k i h2.1 h1.1 hkl (by rw [h1.2, h2.2])
          have hbe : ((y : Int) == (x : Int)) = false := beq_eq_false_iff_ne.2 hne
          have k0 : (0 : Int) ≤ (k : Int) := by omega
          have k1 : (k : Int) < (i : Int) := by omega
          have k2 : (k : Int) < (m : Int) := by omega
          clear hy
          go_upto_region 9 with fail
          go_quiet (fail)
          go_wp2_with fail
          go_roundw
          case rel => exact ⟨k + 1, _, by go_num, by omega, rfl⟩
          case measure => simp [intOf]; omega
        · obtain rfl : k = i := by omega
          have k1 : ¬ (k : Int) < (k : Int) := by omega
          go_wp2_with fail
          go_roundw
          case rel => exact ⟨k + 1, q', by go_num, by omega, rfl⟩
          case measure => simp [intOf]; omega
    · obtain rfl : i = m := by omega
      have g1 : ¬ (i : Int) < (i : Int) := by omega
      go_upto_region 13 with fail
      go_loopw [44] (fun v44 wr => ∃ j : Nat, v44 = .int .i64 j ∧ j ≤ i ∧ Hid (∃ q, wr = w0.drewN q)) (fun v44 _ => i - (intOf v44).toNat)
      case atStart => exact ⟨0, rfl, Nat.zero_le _, hide ⟨q, rfl⟩⟩
      case round =>
        clear g1
        obtain ⟨j, rfl, hj, HW⟩ := hrel
        by_cases hlt : j < i
        · obtain ⟨x, hx⟩ : ∃ x, l[j]? = some x := ⟨_, List.getElem?_eq_getElem (by rw [Hm.out]; exact hlt)⟩
          have Hru : Hid (intE.Rd wr (.slice b i d) (ints l)) := hide (by obtain ⟨q, rfl⟩ := HW.out; exact rd_heap Hu.out rfl)
          have Hru2 := Hru
          obtain ⟨b', off, rfl, c0⟩ := int_at Hru.out j (x : Int) (ints_at l j x hx)
          obtain ⟨y, hy⟩ := Hr.out.next j
          have hw := Hr.out.wt j x y hx hy
          rw [Hm.out] at hy
          obtain ⟨b2, off2, hab, c1⟩ := int_at Hru2.out _ (y : Int) (ints_at l _ y hy)
          simp only [Option.some.injEq, Addr.mk.injEq] at hab
          obtain ⟨rfl, rfl, _⟩ := hab
          have Kw : Hid (∀ n', Calls Try.prog 38 #[.slice a n c, .int .i64 (x : Int), .int .i64 (y : Int)] (wr.drewN n') fun e w' => e = .returned (.bool true) ∧ ∃ m, w' = (wr.drewN n').drewN m) := hide (fun n' => by
            obtain ⟨q, rfl⟩ := HW.out
            exact K38.out x y q n' hw)
          have HW2 : Hid (∀ m, ∃ q, wr.drewN m = w0.drewN q) := hide (fun m => by
            obtain ⟨q, rfl⟩ := HW.out
            exact ⟨q + m, by simp⟩)
          have hz : (j + 1) % i < i := Nat.mod_lt _ (by omega)
          have hrem := rem_small (j + 1) i (by omega)
          obtain ⟨z, hze⟩ : ∃ z, (j + 1) % i = z := ⟨_, rfl⟩
          rw [hze] at hz c1 hrem
          have hrem' : Int.tmod ((j : Int) + 1) (i : Int) = (z : Int) := by rw [← hrem]; simp
          have j0 : (0 : Int) ≤ (j : Int) := by omega
          have j1 : (j : Int) < (i : Int) := by omega
          have z0 : (0 : Int) ≤ (z : Int) := by omega
          have z1 : (z : Int) < (i : Int) := by omega
          have i3 : ¬ ((i : Int) = 0) := by omega
          have i4 : ¬ (i = 0) := by omega
          have i5 : ((i : Int) == 0) = false := beq_eq_false_iff_ne.2 i3
          have hwj : IntKind.i64.wrap ((j : Int) + 1) = (j : Int) + 1 := i64_small _ (by omega) (by omega)
          have hwz : IntKind.i64.wrap (z : Int) = (z : Int) := i64_small _ (by omega) (by omega)
          clear hx hy hw hrem hze HW
          go_upto_region 15 with fail
          go_quiet ((go_at_call 38; exact Calls.quiet_of (Kw.out _)))
          go_wp2_with fail
          go_roundw
          case rel => exact ⟨j + 1, by go_num, by omega, hide (HW2.out _)⟩
          case measure => simp [intOf]; omega
        · obtain rfl : j = i := by omega
          have g1 : ¬ (j : Int) < (j : Int) := by omega
          have HBf : Hid (Below w0.heap.size w0 wr) := hide (by obtain ⟨q, rfl⟩ := HW.out; exact below_heap (Below.refl _ _) rfl rfl rfl rfl)
          go_wp2_with fail
          go_ret
          exact ⟨rfl, HBf.out⟩
end Go.Proofs.Ytmmkfcmbmecleaa
