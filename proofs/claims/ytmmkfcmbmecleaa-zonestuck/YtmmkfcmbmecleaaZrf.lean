/- few, ref; the document's Look and Waits. -/
import Derived.Test.YtmmkfcmbmecleaaZrg
import Derived.BigQuiet
namespace Go.Proofs.Ytmmkfcmbmecleaa
open Go.RowKit
set_option linter.unusedVariables false

def fewB (hs : List Hl) : Bool := decide (hs.length ≤ 61 ∧ ∀ p ∈ hs, p.has.length ≤ 30)

set_option maxRecDepth 100000 in
set_option maxHeartbeats 2000000 in
theorem few_any (a : Option Addr) (c n : Nat) (hs : List Hl) (w : World) (hn : hs.length = n) (hv : Hds hvE w (.slice a n c) hs) :
    Calls Try.prog 23 #[.slice a n c] w fun e w' => e = .returned (.bool (fewB hs)) ∧ w' = w := by
  have Hn := hide hn
  have Hv := hide hv
  have no1 : Hid (∀ (k : Nat) (p : Hl), hs[k]? = some p → 30 < p.has.length → fewB hs = false) := hide (fun k p h e => decide_eq_false (fun ⟨_, h'⟩ => by have := h' p (List.mem_of_getElem? h); omega))
  have no2 : Hid (∀ (k : Nat), k < n → 60 < k → fewB hs = false) := hide (fun k h e => decide_eq_false (fun ⟨h', _⟩ => by omega))
  have yes : Hid (n ≤ 61 → (∀ k : Nat, k < n → ∀ p, hs[k]? = some p → p.has.length ≤ 30) → fewB hs = true) := hide (fun h1 h => decide_eq_true ⟨by omega, fun p hp => by
    obtain ⟨k, hk⟩ := List.getElem?_of_mem hp
    exact h k (by have := idx_lt hk; omega) p hk⟩)
  generalize fewB hs = res at *
  clear hn hv
  go_enter Try.func23, Try.ntmps23
  go_wp2_with fail
  go_loopw [6] (fun v6 wr => ∃ k : Nat, wr = w ∧ v6 = .int .i64 k ∧ k ≤ n ∧ k ≤ 61 ∧ Hid (∀ i : Nat, i < k → ∀ p, hs[i]? = some p → p.has.length ≤ 30)) (fun v6 _ => n - (intOf v6).toNat)
  case atStart => exact ⟨0, rfl, rfl, Nat.zero_le _, Nat.zero_le _, hide (fun i hi => by omega)⟩
  case round =>
    obtain ⟨k, rfl, rfl, hk, hk61, HX⟩ := hrel
    by_cases hlt : k < n
    · obtain ⟨p, hp⟩ : ∃ p, hs[k]? = some p := ⟨_, List.getElem?_eq_getElem (by rw [Hn.out]; exact hlt)⟩
      obtain ⟨b, off, a', c', rfl, c0, c1, _⟩ := hv_at Hv.out k p hp
      have j0 : (0 : Int) ≤ (k : Int) := by omega
      have j1 : (k : Int) < (n : Int) := by omega
      have Hp := hide hp
      obtain ⟨m, hm⟩ : ∃ m, p.has.length = m := ⟨_, rfl⟩
      rw [hm] at c0
      have Hm := hide hm
      clear hp c1 hm
      by_cases g1 : m > 30
      · have e1 := no1.out k p Hp.out (by rw [Hm.out]; omega)
        subst e1
        have g1' : (m : Int) > 30 := by omega
        go_wp2_with fail
        go_ret
        exact ⟨rfl, rfl⟩
      · have g1' : ¬ ((m : Int) > 30) := by omega
        by_cases g2 : k > 60
        · have e1 := no2.out k hlt g2
          subst e1
          have g2' : (k : Int) > 60 := by omega
          go_wp2_with fail
          go_ret
          exact ⟨rfl, rfl⟩
        · have g2' : ¬ ((k : Int) > 60) := by omega
          have HX1 : Hid (∀ i : Nat, i < k + 1 → ∀ p, hs[i]? = some p → p.has.length ≤ 30) := hide (fun i hi q h => by
            rcases Nat.lt_or_ge i k with g | g
            · exact HX.out i g q h
            · obtain rfl : i = k := by omega
              rw [Hp.out] at h; cases h; rw [Hm.out]; omega)
          go_wp2_with fail
          go_roundw
          case rel => exact ⟨k + 1, trivial, by go_num, by omega, by omega, HX1⟩
          case measure => simp [intOf]; omega
    · obtain rfl : k = n := by omega
      have j1 : ¬ (k : Int) < (k : Int) := by omega
      have e1 := yes.out hk61 HX.out
      subst e1
      go_wp2_with fail
      go_ret
      exact ⟨rfl, rfl⟩

/-- whether one waits for another -/
def waitB (hs : List Hl) (i k : Nat) : Bool := match hs[i]?, hs[k]? with
  | some p, some q => decide (0 ≤ p.want ∧ p.want ∈ q.has)
  | _, _ => false
theorem waitB_iff {hs : List Hl} {i k : Nat} : waitB hs i k = true ↔ Wt hs i k := by
  unfold waitB Wt
  cases h1 : hs[i]? with
  | none => simp
  | some p =>
    cases h2 : hs[k]? with
    | none => simp
    | some q => simp

set_option maxRecDepth 100000 in
set_option maxHeartbeats 2000000 in
theorem waits_any (a : Option Addr) (c n : Nat) (hs : List Hl) (x y : Nat) (w : World) (hn : hs.length = n) (hv : Hds rvE w (.slice a n c) hs) (hx : x < n) (hy : y < n) (hb : ∀ p ∈ hs, p.has.length ≤ 30) :
    Calls Try.prog 38 #[.slice a n c, .int .i64 (x : Int), .int .i64 (y : Int)] w fun e w' => e = .returned (.bool (waitB hs x y)) ∧ ∃ q, w' = w.drewN q := by
  obtain ⟨p, hp⟩ : ∃ p, hs[x]? = some p := ⟨_, List.getElem?_eq_getElem (by omega)⟩
  obtain ⟨q, hq⟩ : ∃ q, hs[y]? = some q := ⟨_, List.getElem?_eq_getElem (by omega)⟩
  obtain ⟨b, off, a1, c1, rfl, _, d1, _⟩ := rv_at hv x p hp
  obtain ⟨b', off', a2, c2, hab, e0, _, hrd⟩ := rv_at hv y q hq
  simp only [Option.some.injEq, Addr.mk.injEq] at hab
  obtain ⟨rfl, rfl, _⟩ := hab
  have hm30 := hb q (List.mem_of_getElem? hq)
  obtain ⟨m, hm⟩ : ∃ m, q.has.length = m := ⟨_, rfl⟩
  obtain ⟨u, hu⟩ : ∃ u, p.want = u := ⟨_, rfl⟩
  rw [hm] at e0 hrd hm30
  rw [hu] at d1
  have Hres : Hid (waitB hs x y = decide (0 ≤ u ∧ u ∈ q.has)) := hide (by unfold waitB; rw [hp, hq, ← hu])
  have yes : Hid (∀ k : Nat, 0 ≤ u → q.has[k]? = some u → decide (0 ≤ u ∧ u ∈ q.has) = true) := hide (fun k h0 h => decide_eq_true ⟨h0, List.mem_of_getElem? h⟩)
  have no0 : Hid (¬ 0 ≤ u → decide (0 ≤ u ∧ u ∈ q.has) = false) := hide (fun h => decide_eq_false (fun h' => h h'.1))
  have no : Hid ((∀ k : Nat, k < m → q.has[k]? ≠ some u) → decide (0 ≤ u ∧ u ∈ q.has) = false) := hide (fun h => decide_eq_false (fun h' => by
    obtain ⟨k, hk⟩ := List.getElem?_of_mem h'.2
    exact h k (by have := idx_lt hk; omega) hk))
  rw [Hres.out]
  generalize decide (0 ≤ u ∧ u ∈ q.has) = res at *
  have Hm := hide hm
  have Hrd := hide hrd
  have x0 : (0 : Int) ≤ (x : Int) := by omega
  have x1 : (x : Int) < (n : Int) := by omega
  have y0 : (0 : Int) ≤ (y : Int) := by omega
  have y1 : (y : Int) < (n : Int) := by omega
  have m30 : (m : Int) ≤ 30 := by omega
  clear hn hv hx hy hb hp hq hm hu hm30 hrd Hres
  obtain ⟨w0, rfl⟩ : ∃ w0, w0 = w := ⟨_, rfl⟩
  go_enter Try.func38, Try.ntmps38
  go_wp2_with fail
  go_loopw [14] (fun v14 wr => ∃ k r : Nat, v14 = .int .i64 k ∧ k ≤ m ∧ wr = w0.drewN r ∧ Hid (∀ i : Nat, i < k → 0 ≤ u → q.has[i]? ≠ some u)) (fun v14 _ => m - (intOf v14).toNat)
  case atStart => exact ⟨0, 0, rfl, Nat.zero_le _, rfl, hide (fun i hi => by omega)⟩
  case round =>
    obtain ⟨k, r, rfl, hk, rfl, HX⟩ := hrel
    by_cases hlt : k < m
    · obtain ⟨z, hz⟩ : ∃ z, q.has[k]? = some z := ⟨_, List.getElem?_eq_getElem (by rw [Hm.out]; exact hlt)⟩
      obtain ⟨b2, off2, rfl, f0⟩ := int_at Hrd.out k z hz
      have j0 : (0 : Int) ≤ (k : Int) := by omega
      have j1 : (k : Int) < (m : Int) := by omega
      have Hz := hide hz
      clear hz
      by_cases hu0 : 0 ≤ u
      · have hd0 : decide (u ≥ 0) = true := decide_eq_true hu0
        by_cases he : z = u
        · subst he
          have e1 := yes.out k hu0 Hz.out
          subst e1
          have he2 : (z == z) = true := by simp
          go_upto_region 4 with fail
          go_quiet (fail)
          go_wp2_with fail
          go_ret
          exact ⟨rfl, _, rfl⟩
        · have hbe : (z == u) = false := beq_eq_false_iff_ne.2 he
          have HX1 : Hid (∀ i : Nat, i < k + 1 → 0 ≤ u → q.has[i]? ≠ some u) := hide (fun i hi h0 h => by
            rcases Nat.lt_or_ge i k with g | g
            · exact HX.out i g h0 h
            · obtain rfl : i = k := by omega
              rw [Hz.out] at h; exact he (Option.some.inj h))
          go_upto_region 4 with fail
          go_quiet (fail)
          go_wp2_with fail
          go_roundw
          case rel => exact ⟨k + 1, _, by go_num, by omega, rfl, HX1⟩
          case measure => simp [intOf]; omega
      · have hd0 : decide (u ≥ 0) = false := decide_eq_false hu0
        have HX1 : Hid (∀ i : Nat, i < k + 1 → 0 ≤ u → q.has[i]? ≠ some u) := hide (fun i hi h0 h => hu0 h0)
        go_upto_region 4 with fail
        go_quiet (fail)
        go_wp2_with fail
        go_roundw
        case rel => exact ⟨k + 1, _, by go_num, by omega, rfl, HX1⟩
        case measure => simp [intOf]; omega
    · obtain rfl : k = m := by omega
      have j1 : ¬ (k : Int) < (k : Int) := by omega
      have e1 : res = false := by
        by_cases hu0 : 0 ≤ u
        · exact no.out (fun i hi => HX.out i hi hu0)
        · exact no0.out (by omega)
      subst e1
      go_wp2_with fail
      go_ret
      exact ⟨rfl, _, rfl⟩

def lookC (hs : List Hl) : Int := if hs.length ≤ 40 ∧ hs.all okH = true then 0 else 1

set_option maxRecDepth 100000 in
set_option maxHeartbeats 4000000 in
theorem look_any (a : Option Addr) (c n : Nat) (hs : List Hl) (w : World) (hn : hs.length = n) (hv : Hds rvE w (.slice a n c) hs) (hb : ∀ p ∈ hs, p.has.length ≤ 30) :
    Calls Try.prog 26 #[.slice a n c] w fun e w' => e = .returned (.int .i64 (lookC hs)) ∧ w' = w := by
  have Hn := hide hn
  have Hv := hide hv
  have Hb := hide hb
  have no1 : Hid (40 < n → lookC hs = 1) := hide (fun h => by unfold lookC; rw [if_neg (fun h' => by omega)])
  have no2 : Hid (∀ (k : Nat) (p : Hl), hs[k]? = some p → okH p = false → lookC hs = 1) := hide (fun k p h e => by
    unfold lookC
    rw [if_neg (fun h' => by have := List.all_eq_true.1 h'.2 p (List.mem_of_getElem? h); rw [e] at this; cases this)])
  have yes : Hid (n ≤ 40 → (∀ k : Nat, k < n → ∀ p, hs[k]? = some p → okH p = true) → lookC hs = 0) := hide (fun h1 h => by
    unfold lookC
    rw [if_pos ⟨by omega, List.all_eq_true.2 fun p hp => by
      obtain ⟨k, hk⟩ := List.getElem?_of_mem hp
      exact h k (by have := idx_lt hk; omega) p hk⟩])
  generalize lookC hs = res at *
  clear hn hv hb
  by_cases h40 : n ≤ 40
  · have i0 : ¬ ((n : Int) > 40) := by omega
    have i1 : (n : Int) ≤ 40 := by omega
    go_enter Try.func26, Try.ntmps26
    go_wp2_with fail
    go_loopw [10] (fun v10 wr => ∃ k : Nat, wr = w ∧ v10 = .int .i64 k ∧ k ≤ n ∧ Hid (∀ i : Nat, i < k → ∀ p, hs[i]? = some p → okH p = true)) (fun v10 _ => n - (intOf v10).toNat)
    case atStart => exact ⟨0, rfl, rfl, Nat.zero_le _, hide (fun i hi => by omega)⟩
    case round =>
      obtain ⟨k, rfl, rfl, hk, HX⟩ := hrel
      by_cases hlt : k < n
      · obtain ⟨p, hp⟩ : ∃ p, hs[k]? = some p := ⟨_, List.getElem?_eq_getElem (by rw [Hn.out]; exact hlt)⟩
        obtain ⟨b, off, a', c', rfl, c0, c1, hrd⟩ := rv_at Hv.out k p hp
        have j0 : (0 : Int) ≤ (k : Int) := by omega
        have j1 : (k : Int) < (n : Int) := by omega
        have hm30 := Hb.out p (List.mem_of_getElem? hp)
        obtain ⟨m, hm⟩ : ∃ m, p.has.length = m := ⟨_, rfl⟩
        obtain ⟨u, hu⟩ : ∃ u, p.want = u := ⟨_, rfl⟩
        rw [hm] at c0 hrd hm30
        rw [hu] at c1
        have Hp := hide hp
        have Hm := hide hm
        have Hu := hide hu
        have Hrd := hide hrd
        have m30 : (m : Int) ≤ 30 := by omega
        clear hp hm hu hrd hm30
        have bad : Hid (¬ (-1 ≤ u ∧ u < 8) → res = 1) := hide (fun h => no2.out k p Hp.out (by unfold okH; rw [Hu.out, decide_eq_false h, Bool.and_false]))
        have bad2 : Hid (∀ (j : Nat) (z : Int), p.has[j]? = some z → ¬ (0 ≤ z ∧ z < 8) → res = 1) := hide (fun j z hz h => no2.out k p Hp.out (by
          unfold okH
          rw [show p.has.all okZ = false from List.all_eq_false.2 ⟨z, List.mem_of_getElem? hz, by unfold okZ; rw [decide_eq_false h]; decide⟩, Bool.false_and]))
        by_cases g1 : u < -1
        · have e1 := bad.out (by omega)
          subst e1
          go_wp2_with fail
          go_ret
          exact ⟨rfl, rfl⟩
        · by_cases g2 : u > 7
          · have e1 := bad.out (by omega)
            subst e1
            go_wp2_with fail
            go_ret
            exact ⟨rfl, rfl⟩
          · obtain ⟨wA, hwA⟩ : ∃ W, W = wr := ⟨_, rfl⟩
            subst hwA
            go_wp2_with fail
            go_loopw [33] (fun v33 wr => ∃ j : Nat, wr = wA ∧ v33 = .int .i64 j ∧ j ≤ m ∧ Hid (∀ i : Nat, i < j → ∀ z, p.has[i]? = some z → okZ z = true)) (fun v33 _ => m - (intOf v33).toNat)
            case atStart => exact ⟨0, rfl, rfl, Nat.zero_le _, hide (fun i hi => by omega)⟩
            case round =>
              obtain ⟨j, hw, rfl, hj, HJ⟩ := hrel
              have hw' := hw.symm
              clear hw
              subst hw'
              by_cases hjl : j < m
              · obtain ⟨z, hz⟩ : ∃ z, p.has[j]? = some z := ⟨_, List.getElem?_eq_getElem (by rw [Hm.out]; exact hjl)⟩
                obtain ⟨b2, off2, rfl, f0⟩ := int_at Hrd.out j z hz
                have q0 : (0 : Int) ≤ (j : Int) := by omega
                have q1 : (j : Int) < (m : Int) := by omega
                have Hz := hide hz
                clear hz
                by_cases g3 : z < 0
                · have e1 := bad2.out j z Hz.out (by omega)
                  subst e1
                  go_wp2_with fail
                  go_ret
                  exact ⟨rfl, rfl⟩
                · by_cases g4 : z > 7
                  · have e1 := bad2.out j z Hz.out (by omega)
                    subst e1
                    go_wp2_with fail
                    go_ret
                    exact ⟨rfl, rfl⟩
                  · have HJ1 : Hid (∀ i : Nat, i < j + 1 → ∀ z, p.has[i]? = some z → okZ z = true) := hide (fun i hi z' h => by
                      rcases Nat.lt_or_ge i j with g | g
                      · exact HJ.out i g z' h
                      · obtain rfl : i = j := by omega
                        rw [Hz.out] at h; cases h; exact decide_eq_true (by omega))
                    go_wp2_with fail
                    go_roundw
                    case rel => exact ⟨j + 1, trivial, by go_num, by omega, HJ1⟩
                    case measure => simp [intOf]; omega
              · obtain rfl : j = m := by omega
                have q1 : ¬ (j : Int) < (j : Int) := by omega
                have HX1 : Hid (∀ i : Nat, i < k + 1 → ∀ p, hs[i]? = some p → okH p = true) := hide (fun i hi q h => by
                  rcases Nat.lt_or_ge i k with g | g
                  · exact HX.out i g q h
                  · obtain rfl : i = k := by omega
                    rw [Hp.out] at h; cases h
                    unfold okH
                    rw [Bool.and_eq_true]
                    refine ⟨List.all_eq_true.2 fun z hz => ?_, decide_eq_true (by rw [Hu.out]; omega)⟩
                    obtain ⟨i', hi'⟩ := List.getElem?_of_mem hz
                    exact HJ.out i' (by have := idx_lt hi'; rw [Hm.out] at this; exact this) z hi')
                go_wp2_with fail
                go_roundw
                case rel => exact ⟨k + 1, trivial, by go_num, by omega, HX1⟩
                case measure => simp [intOf]; omega
      · obtain rfl : k = n := by omega
        have j1 : ¬ (k : Int) < (k : Int) := by omega
        have e1 := yes.out h40 HX.out
        subst e1
        go_wp2_with fail
        go_ret
        exact ⟨rfl, rfl⟩
  · have i0 : (n : Int) > 40 := by omega
    have e1 := no1.out (by omega)
    subst e1
    go_enter Try.func26, Try.ntmps26
    go_wp2_with fail
    go_ret
    exact ⟨rfl, rfl⟩
end Go.Proofs.Ytmmkfcmbmecleaa
