/- slices.Index of numbers; Where, At, Works, Moves; a device that is read; done, refused; Dist, Behind. -/
import Derived.Test.YthcdfclhenmleaaPra
import Derived.Deep.QuietTactic
import Derived.BigQuiet
namespace Go.Proofs.Ythcdfclhenmleaa
open Go.RowKit
set_option linter.unusedVariables false

set_option maxRecDepth 100000 in
set_option maxHeartbeats 2000000 in
theorem idx_any (a : Option Addr) (c n : Nat) (ms : List Int) (d : Int) (w : World) (hn : ms.length = n) (hv : intE.Rd w (.slice a n c) ms) (hl : n ≤ 100000) :
    Calls Try.prog 39 #[.slice a n c, .int .i64 d] w fun e w' => e = .returned (.int .i64 (loc ms d)) ∧ w' = w := by
  have Hn := hide hn
  have Hv := hide hv
  have i0 : (n : Int) ≤ 100000 := by omega
  have yes : Hid (∀ k : Nat, ms[k]? = some d → (∀ i : Nat, i < k → ms[i]? ≠ some d) → loc ms d = k) := hide (fun k h h' => loc_yes h h')
  have no : Hid ((∀ k : Nat, k < n → ms[k]? ≠ some d) → loc ms d = -1) := hide (fun h => loc_no' (by rw [hn]; exact h))
  generalize loc ms d = res at *
  clear hn hv hl
  go_enter Try.func39, Try.ntmps39
  go_wp2_with fail
  go_loopw [8] (fun v8 wr => ∃ k : Nat, wr = w ∧ v8 = .int .i64 k ∧ k ≤ n ∧ Hid (∀ i : Nat, i < k → ms[i]? ≠ some d)) (fun v8 _ => n - (intOf v8).toNat)
  case atStart => exact ⟨0, rfl, rfl, Nat.zero_le _, hide (fun i hi => by omega)⟩
  case round =>
    obtain ⟨k, rfl, rfl, hk, HX⟩ := hrel
    by_cases hlt : k < n
    · obtain ⟨p, hp⟩ : ∃ p, ms[k]? = some p := ⟨_, List.getElem?_eq_getElem (by rw [Hn.out]; exact hlt)⟩
      obtain ⟨b, off, rfl, c0⟩ := int_at Hv.out k p hp
      have j0 : (0 : Int) ≤ (k : Int) := by omega
      have j1 : (k : Int) < (n : Int) := by omega
      have Hp := hide hp
      clear hp
      by_cases he : d = p
      · subst he
        have e1 := yes.out k Hp.out HX.out
        subst e1
        go_wp2_with fail
        go_ret
        exact ⟨rfl, rfl⟩
      · have hbe : (d == p) = false := beq_eq_false_iff_ne.2 he
        have HX1 : Hid (∀ i : Nat, i < k + 1 → ms[i]? ≠ some d) := hide (fun i hi h => by
          rcases Nat.lt_or_ge i k with g | g
          · exact HX.out i g h
          · obtain rfl : i = k := by omega
            rw [Hp.out] at h; exact he (Option.some.inj h).symm)
        go_wp2_with fail
        go_roundw
        case rel => exact ⟨k + 1, trivial, by go_num, by omega, HX1⟩
        case measure => simp [intOf]; omega
    · obtain rfl : k = n := by omega
      have j1 : ¬ (k : Int) < (k : Int) := by omega
      have e1 := no.out HX.out
      subst e1
      go_wp2_with fail
      go_ret
      exact ⟨rfl, rfl⟩


section
variable {w : World} {B g n m : Nat} {H : Nat × Nat} {es : List (Int × Int)} {S : Pl}
set_option maxRecDepth 100000 in
set_option maxHeartbeats 1000000 in
theorem where_m (h : (It.pla B g H n m es S).P w) (t : Int) : Calls Try.prog 24 #[.pointer (some ⟨g, 0, none⟩), .int .i64 t] w fun e w' => e = .returned (.int .i64 (S.whr t)) ∧ w' = w := by
  obtain ⟨c0, c1, c2, cf⟩ := pl_cells h
  obtain ⟨l0, l1, l2, l3⟩ := pl_len h
  have K1 := hide (isTote_any t w)
  have K2 := hide (idx_any (some ⟨H.1, 0, none⟩) n n S.ts t w l0 (pl_ts h).rd (by omega))
  have e0 : S.whr t = if isT t = true then loc S.ts t else -1 := rfl
  rw [e0]
  clear e0 l0 l1 h c2
  cases hT : isT t with
  | true =>
    rw [hT] at K1
    rw [if_pos rfl]
    generalize loc S.ts t = y at *
    clear hT
    go_enter Try.func24, Try.ntmps24
    go_wp2_with (first
      | (go_at_call 29; refine K1.out.mono ?_; rintro e w1 ⟨rfl, rfl⟩)
      | (go_at_call 39; refine K2.out.mono ?_; rintro e w1 ⟨rfl, rfl⟩))
    go_ret
    exact ⟨rfl, rfl⟩
  | false =>
    rw [hT] at K1
    rw [if_neg (by simp)]
    clear hT
    go_enter Try.func24, Try.ntmps24
    go_wp2_with (go_at_call 29; refine K1.out.mono ?_; rintro e w1 ⟨rfl, rfl⟩)
    go_ret
    exact ⟨rfl, rfl⟩
set_option maxRecDepth 100000 in
set_option maxHeartbeats 1000000 in
theorem at_m (h : (It.pla B g H n m es S).P w) (x : Int) : Calls Try.prog 25 #[.pointer (some ⟨g, 0, none⟩), .int .i64 x] w fun e w' => e = .returned (.int .i64 (S.att x)) ∧ w' = w := by
  obtain ⟨c0, c1, c2, cf⟩ := pl_cells h
  obtain ⟨l0, l1, l2, l3⟩ := pl_len h
  have K1 := hide (isNode_m h x)
  cases hN : S.isN x with
  | true =>
    rw [hN] at K1
    have hx := Pl.isN_iff.1 hN
    rw [l0] at hx
    obtain ⟨k, rfl⟩ : ∃ k : Nat, x = (k : Int) := ⟨x.toNat, by omega⟩
    obtain ⟨y, y1, y2, y3⟩ := pl_t h (k := k) (by omega)
    rw [Pl.att_nat y1]
    have k1 : (0 : Int) ≤ (k : Int) := by omega
    have k2 : (k : Int) < (n : Int) := by omega
    clear hN h l0 l1 hx c2 y1
    go_enter Try.func25, Try.ntmps25
    go_wp2_with (go_at_call 30; refine K1.out.mono ?_; rintro e w1 ⟨rfl, rfl⟩)
    go_ret
    exact ⟨rfl, rfl⟩
  | false =>
    rw [hN] at K1
    rw [Pl.att_out hN]
    clear hN h l0 l1 c2
    go_enter Try.func25, Try.ntmps25
    go_wp2_with (go_at_call 30; refine K1.out.mono ?_; rintro e w1 ⟨rfl, rfl⟩)
    go_ret
    exact ⟨rfl, rfl⟩
set_option maxRecDepth 100000 in
set_option maxHeartbeats 1000000 in
theorem works_m (h : (It.pla B g H n m es S).P w) (d : Int) : Calls Try.prog 26 #[.pointer (some ⟨g, 0, none⟩), .int .i64 d] w fun e w' => e = .returned (.bool (S.wrk d)) ∧ w' = w := by
  have K1 := hide (isDev_m h d)
  have e0 : S.wrk d = (S.isD d && !(S.dev d).bk) := rfl
  rw [e0]
  cases hD : S.isD d with
  | false =>
    rw [hD] at K1
    rw [Bool.false_and]
    clear hD e0 h
    go_enter Try.func26, Try.ntmps26
    go_wp2_with (go_at_call 40; refine K1.out.mono ?_; rintro e w1 ⟨rfl, rfl⟩)
    go_ret
    exact ⟨rfl, rfl⟩
  | true =>
    obtain ⟨k, hd, hk, hk', hp⟩ := dev_k h hD
    rw [hD] at K1
    rw [Bool.true_and]
    have K2 := hide (device_m h k hk)
    obtain ⟨d0, d1, d2, d3, d4⟩ := pl_d h hp
    subst hd
    generalize S.dev ((k : Int) + 1) = D at *
    obtain ⟨fr, en, sq, tt, bk⟩ := D
    dsimp only at *
    clear hD e0 h hp hk'
    go_enter Try.func26, Try.ntmps26
    go_wp2_with (first
      | (go_at_call 40; refine K1.out.mono ?_; rintro e w1 ⟨rfl, rfl⟩)
      | (go_at_call 34; refine K2.out.mono ?_; rintro e w1 ⟨rfl, rfl⟩))
    go_ret
    exact ⟨rfl, rfl⟩
set_option maxRecDepth 100000 in
theorem moves_m (h : (It.pla B g H n m es S).P w) : Calls Try.prog 23 #[.pointer (some ⟨g, 0, none⟩)] w fun e w' => e = .returned (.int .i64 S.mv) ∧ w' = w := by
  obtain ⟨c0, c1, c2, cf⟩ := pl_cells h
  clear h
  go_enter Try.func23, Try.ntmps23
  go_wp2_with fail
  go_ret
  exact ⟨rfl, rfl⟩
end

section
variable {w : World} {b k : Nat} {D : Dv}
set_option maxRecDepth 100000 in
theorem any_d (c : w.cell? ⟨b, k * 5 + 3, none⟩ = some (.int .i64 D.tt)) : Calls Try.prog 47 #[.pointer (some ⟨b, k * 5, none⟩)] w fun e w' => e = .returned (.bool (decide (D.tt ≠ 0))) ∧ w' = w := by
  obtain ⟨fr, en, sq, tt, bk⟩ := D
  dsimp only at *
  by_cases z : tt = 0
  · subst z
    rw [decide_eq_false (by simp)]
    go_enter Try.func47, Try.ntmps47
    go_wp2_with fail
    go_ret
    exact ⟨rfl, rfl⟩
  · have z' : (tt == 0) = false := beq_eq_false_iff_ne.2 z
    have z2 : (tt != 0) = true := by simp [z]
    rw [decide_eq_true z]
    go_enter Try.func47, Try.ntmps47
    go_wp2_with fail
    go_ret
    exact ⟨rfl, rfl⟩
set_option maxRecDepth 100000 in
set_option maxHeartbeats 1000000 in
theorem just_d (c2 : w.cell? ⟨b, k * 5 + 2, none⟩ = some (.int .u16 D.sq)) (c : w.cell? ⟨b, k * 5 + 3, none⟩ = some (.int .i64 D.tt)) (t : Tl) : Calls Try.prog 45 #[.pointer (some ⟨b, k * 5, none⟩), .int .u16 t.s, .int .i64 t.a] w fun e w' => e = .returned (.bool (Pl.jst D t)) ∧ w' = w := by
  have K := hide (any_d c)
  have e0 : Pl.jst D t = (decide (D.tt ≠ 0) && (decide (D.sq = t.s) && decide (D.tt = t.a))) := rfl
  rw [e0]
  clear e0
  obtain ⟨fr, en, sq, tt, bk⟩ := D
  obtain ⟨tk, td, s, a, tb⟩ := t
  dsimp only at *
  by_cases z : tt = 0
  · have e1 : decide (tt ≠ 0) = false := decide_eq_false (by simpa using z)
    rw [e1] at K ⊢
    rw [Bool.false_and]
    clear z e1
    go_enter Try.func45, Try.ntmps45
    go_wp2_with (go_at_call 47; refine K.out.mono ?_; rintro e w1 ⟨rfl, rfl⟩)
    go_ret
    exact ⟨rfl, rfl⟩
  · have e1 : decide (tt ≠ 0) = true := decide_eq_true z
    rw [e1] at K ⊢
    rw [Bool.true_and]
    clear z e1
    by_cases y : sq = s
    · by_cases x : tt = a
      · rw [decide_eq_true y, decide_eq_true x]
        subst y
        subst x
        go_enter Try.func45, Try.ntmps45
        go_wp2_with (go_at_call 47; refine K.out.mono ?_; rintro e w1 ⟨rfl, rfl⟩)
        go_ret
        exact ⟨rfl, rfl⟩
      · rw [decide_eq_true y, decide_eq_false x]
        have x' : (tt == a) = false := beq_eq_false_iff_ne.2 x
        subst y
        go_enter Try.func45, Try.ntmps45
        go_wp2_with (go_at_call 47; refine K.out.mono ?_; rintro e w1 ⟨rfl, rfl⟩)
        go_ret
        exact ⟨rfl, rfl⟩
    · rw [decide_eq_false y, Bool.false_and]
      have y' : (sq == s) = false := beq_eq_false_iff_ne.2 y
      go_enter Try.func45, Try.ntmps45
      go_wp2_with (go_at_call 47; refine K.out.mono ?_; rintro e w1 ⟨rfl, rfl⟩)
      go_ret
      exact ⟨rfl, rfl⟩
end
set_option maxRecDepth 100000 in
theorem dist_any (a b : Int) (w : World) : Calls Try.prog 53 #[.int .u16 a, .int .u16 b] w fun e w' => e = .returned (.int .i64 (dst a b)) ∧ w' = w := by
  have hw := wrap_up a b
  have hd := wrap_dst a b
  have hi := dst_in a b
  go_enter Try.func53, Try.ntmps53
  go_wp2_with fail
  go_ret
  exact ⟨rfl, rfl⟩
set_option maxRecDepth 100000 in
theorem behind_any (a b : Int) (w : World) : Calls Try.prog 48 #[.int .u16 a, .int .u16 b] w fun e w' => e = .returned (.bool (decide (0 < dst a b))) ∧ w' = w := by
  go_enter Try.func48, Try.ntmps48
  go_wp2_with (go_at_call 53; refine (dist_any _ _ _).mono ?_; rintro e w' ⟨rfl, rfl⟩)
  go_ret
  exact ⟨rfl, rfl⟩
end Go.Proofs.Ythcdfclhenmleaa
