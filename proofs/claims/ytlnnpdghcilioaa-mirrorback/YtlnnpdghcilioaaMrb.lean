/- slices.Index of numbers; IndexFunc and ContainsFunc of devices with both closures; Where, At, Taken, isOnItsWay, Told, Last. -/
import Derived.Test.YtlnnpdghcilioaaMra
namespace Go.Proofs.Ytlnnpdghcilioaa
open Go.RowKit
set_option linter.unusedVariables false

set_option maxRecDepth 100000 in
set_option maxHeartbeats 2000000 in
theorem idx_any (a : Option Addr) (c n : Nat) (ms : List Int) (d : Int) (w : World) (hn : ms.length = n) (hv : intE.Rd w (.slice a n c) ms) (hl : n ≤ 100000) :
    Calls Try.prog 43 #[.slice a n c, .int .i64 d] w fun e w' => e = .returned (.int .i64 (loc ms d)) ∧ w' = w := by
  have Hn := hide hn
  have Hv := hide hv
  have i0 : (n : Int) ≤ 100000 := by omega
  have yes : Hid (∀ k : Nat, ms[k]? = some d → (∀ i : Nat, i < k → ms[i]? ≠ some d) → loc ms d = k) := hide (fun k h h' => loc_yes h h')
  have no : Hid ((∀ k : Nat, k < n → ms[k]? ≠ some d) → loc ms d = -1) := hide (fun h => loc_no' (by rw [hn]; exact h))
  generalize loc ms d = res at *
  clear hn hv hl
  go_enter Try.func43, Try.ntmps43
  go_wp2_with fail
  go_loopw [8] (fun v8 wr => ∃ k : Nat, wr = w ∧ v8 = .int .i64 k ∧ k ≤ n ∧ Hid (∀ i : Nat, i < k → ms[i]? ≠ some d)) (fun v8 _ => n - (intOf v8).toNat)
  case atStart => exact ⟨0, rfl, rfl, Nat.zero_le _, hide (fun i hi => by omega)⟩
  case round =>
    obtain ⟨k, rfl, rfl, hk, HX⟩ := hrel
    by_cases hlt : k < n
    · obtain ⟨p, hp⟩ : ∃ p, ms[k]? = some p := ⟨_, List.getElem?_eq_getElem (by rw [Hn.out]; exact hlt)⟩
      obtain ⟨b, off, rfl, c0⟩ := int_at Hv.out k p hp
      have j0 : (0 : Int) ≤ (k : Int) := by omega
      have j1 : (k : Int) < (n : Int) := by omega
      have Hp := hide hp
      clear hp
      by_cases he : d = p
      · subst he
        have e1 := yes.out k Hp.out HX.out
        subst e1
        go_wp2_with fail
        go_ret
        exact ⟨rfl, rfl⟩
      · have hbe : (d == p) = false := beq_eq_false_iff_ne.2 he
        have HX1 : Hid (∀ i : Nat, i < k + 1 → ms[i]? ≠ some d) := hide (fun i hi h => by
          rcases Nat.lt_or_ge i k with g | g
          · exact HX.out i g h
          · obtain rfl : i = k := by omega
            rw [Hp.out] at h; exact he (Option.some.inj h).symm)
        go_wp2_with fail
        go_roundw
        case rel => exact ⟨k + 1, trivial, by go_num, by omega, HX1⟩
        case measure => simp [intOf]; omega
    · obtain rfl : k = n := by omega
      have j1 : ¬ (k : Int) < (k : Int) := by omega
      have e1 := no.out HX.out
      subst e1
      go_wp2_with fail
      go_ret
      exact ⟨rfl, rfl⟩


/-- the place of the first such device; -1: none -/
def ixI (p : Dv → Bool) (q : List Dv) : Int := if q.findIdx p < q.length then (q.findIdx p : Int) else -1
theorem ix_at {p : Dv → Bool} {q : List Dv} {i : Nat} {c : Dv} (hi : q[i]? = some c) (hp : p c = true) (hno : ∀ j d, j < i → q[j]? = some d → p d = false) : ixI p q = (i : Int) := by
  obtain ⟨hlt, he⟩ := List.getElem?_eq_some_iff.1 hi
  have : q.findIdx p = i := by
    rw [List.findIdx_eq hlt]
    exact ⟨by rw [he]; exact hp, fun j hj => by have := hno j q[j] hj (List.getElem?_eq_getElem (by omega)); simpa using this⟩
  unfold ixI
  rw [this, if_pos hlt]
theorem ix_none {p : Dv → Bool} {q : List Dv} (hno : ∀ (j : Nat) (d : Dv), j < q.length → q[j]? = some d → p d = false) : ixI p q = -1 := by
  unfold ixI
  rw [if_neg]
  have : q.findIdx p = q.length := by
    rw [List.findIdx_eq_length]
    intro c hc
    obtain ⟨j, hj, rfl⟩ := List.mem_iff_getElem.1 hc
    have := hno j _ hj (List.getElem?_eq_getElem hj)
    simpa using this
  omega
theorem ix_cases (p : Dv → Bool) (q : List Dv) : (∃ (i : Nat) (c : Dv), q[i]? = some c ∧ p c = true ∧ (∀ j d, j < i → q[j]? = some d → p d = false) ∧ ixI p q = (i : Int)) ∨ ((∀ c ∈ q, p c = false) ∧ ixI p q = -1) := by
  by_cases h : q.findIdx p < q.length
  · refine .inl ⟨q.findIdx p, q[q.findIdx p], List.getElem?_eq_getElem h, List.findIdx_getElem (w := h), fun j d hj hd => ?_, by unfold ixI; rw [if_pos h]⟩
    have := List.not_of_lt_findIdx hj
    rw [List.getElem?_eq_getElem (by omega)] at hd
    cases hd
    simpa using this
  · refine .inr ⟨fun c hc => ?_, by unfold ixI; rw [if_neg h]⟩
    cases e : p c with
    | false => rfl
    | true => exact absurd (List.findIdx_lt_length_of_exists ⟨c, hc, e⟩) h
theorem ix_any (p : Dv → Bool) (q : List Dv) : decide (0 ≤ ixI p q) = q.any p := by
  rcases ix_cases p q with ⟨i, c, hi, hp, _, e⟩ | ⟨h, e⟩
  · rw [e, decide_eq_true (by omega), List.any_eq_true.2 ⟨c, List.mem_of_getElem? hi, hp⟩]
  · rw [e, decide_eq_false (by omega)]
    symm
    rw [List.any_eq_false]
    intro c hc
    rw [h c hc]; simp


set_option maxHeartbeats 1000000 in
theorem cloC_any (D : Dv) (x : Int) (k : Nat) (w : World) (hk : k < w.heap.size) (hcell : w.cell? ⟨k, 0, none⟩ = some (.int .i64 x)) :
    Calls Try.prog 48 #[.agg #[.int .i64 D.fr, .int .i64 D.en, .int .i64 D.tt, .int .i64 D.sq, .bool D.ev, .bool D.dn], .pointer (some ⟨k, 0, none⟩)] w fun e w' => e = .returned (.bool (comes x D)) ∧ Below w.heap.size w w' := by
  have hne : k ≠ w.heap.size := by omega
  have hB : Hid (∀ o, Below w.heap.size w (w.alloc o)) := hide (fun o => (Below.refl _ _).alloc (Nat.le_refl _) o)
  obtain ⟨fr, en, tt, sq, ev, dn⟩ := D
  by_cases h0 : tt = 0
  · have e0 : comes x ⟨fr, en, tt, sq, ev, dn⟩ = false := by simp [comes, h0]
    rw [e0]
    subst h0
    go_enter Try.func48, Try.ntmps48
    go_wp2
    go_ret
    exact ⟨by simp_all, hB.out _⟩
  · by_cases h : en = x
    · have e0 : comes x ⟨fr, en, tt, sq, ev, dn⟩ = true := by simp [comes, h0, h]
      rw [e0]
      subst h
      go_enter Try.func48, Try.ntmps48
      go_wp2
      go_ret
      exact ⟨by simp_all, hB.out _⟩
    · have e0 : comes x ⟨fr, en, tt, sq, ev, dn⟩ = false := by simp [comes, h]
      rw [e0]
      go_enter Try.func48, Try.ntmps48
      go_wp2
      go_ret
      exact ⟨by simp_all, hB.out _⟩

set_option maxRecDepth 100000 in
set_option maxHeartbeats 2000000 in
theorem indexcomes {w : World} {bd n c : Nat} {ds : List Dv} (hv : dvE.Rd w (.slice (some ⟨bd, 0, none⟩) n c) ds) (hn : ds.length = n) (hm : n ≤ 1000) (x : Int) (k0 : Nat) (hk0 : k0 < w.heap.size) (hcell : w.cell? ⟨k0, 0, none⟩ = some (.int .i64 x)) :
    Calls Try.prog 58 #[.slice (some ⟨bd, 0, none⟩) n c, .func (.func 48) #[] #[.pointer (some ⟨k0, 0, none⟩)]] w fun e w' => e = .returned (.int .i64 (ixI (comes x) ds)) ∧ Below w.heap.size w w' := by
  have Hv := hide hv
  have Hn := hide hn
  have Hc := hide hcell
  have i0 : (n : Int) ≤ 1000 := by omega
  have yes : Hid (∀ (k : Nat) (p : Dv), ds[k]? = some p → comes x p = true → (∀ j d, j < k → ds[j]? = some d → comes x d = false) → ixI (comes x) ds = (k : Int)) := hide (fun k p h1 h2 h3 => ix_at h1 h2 h3)
  have no : Hid ((∀ (j : Nat) (d : Dv), j < n → ds[j]? = some d → comes x d = false) → ixI (comes x) ds = -1) := hide (fun h => ix_none (by rw [hn]; exact h))
  generalize ixI (comes x) ds = res at *
  clear hv hn hcell
  obtain ⟨w0, rfl⟩ : ∃ w0, w0 = w := ⟨_, rfl⟩
  go_enter Try.func58, Try.ntmps58
  go_wp2_with fail
  go_loopw [8] (fun v8 wr => ∃ k : Nat, k ≤ n ∧ v8 = .int .i64 k ∧ Hid (Below w0.heap.size w0 wr) ∧ Hid (∀ j d, j < k → ds[j]? = some d → comes x d = false)) (fun v8 _ => n - (intOf v8).toNat)
  case atStart => exact ⟨0, by omega, rfl, hide (Below.refl _ _), hide (fun j q h => by omega)⟩
  case round =>
    obtain ⟨k, hk, rfl, HB, Hno⟩ := hrel
    by_cases hlt : k < n
    · obtain ⟨p, hp⟩ : ∃ p, ds[k]? = some p := ⟨_, List.getElem?_eq_getElem (by rw [Hn.out]; exact hlt)⟩
      obtain ⟨d0, d1, d2, d3, d4, d5⟩ := dv_at (Hv.out.keep HB.out) k p hp
      have hqw : k0 < wr.heap.size := Nat.lt_of_lt_of_le hk0 HB.out.size
      have hcw : wr.cell? ⟨k0, 0, none⟩ = some (.int .i64 x) := by rw [HB.out.cell hk0]; exact Hc.out
      have K := hide (cloC_any p x k0 wr hqw hcw)
      have j0 : (0 : Int) ≤ (k : Int) := by omega
      have j1 : (k : Int) < (n : Int) := by omega
      have Hp := hide hp
      clear hp hcw hqw
      cases he : comes x p with
      | true =>
        rw [he] at K
        have e1 := yes.out k p Hp.out he Hno.out
        subst e1
        clear he
        go_wp2_with (go_at_call 48; refine K.out.mono ?_; rintro e w2 ⟨rfl, B2⟩; have HB2 := hide (HB.out.trans (B2.mono HB.out.size)); clear B2)
        go_ret
        exact ⟨rfl, HB2.out⟩
      | false =>
        rw [he] at K
        have HX1 : Hid (∀ j d, j < k + 1 → ds[j]? = some d → comes x d = false) := hide (fun j d hj hd => by
          rcases Nat.lt_or_ge j k with g | g
          · exact Hno.out j d g hd
          · obtain rfl : j = k := by omega
            rw [Hp.out] at hd
            cases hd
            exact he)
        clear he
        go_wp2_with (go_at_call 48; refine K.out.mono ?_; rintro e w2 ⟨rfl, B2⟩; have HB2 := hide (HB.out.trans (B2.mono HB.out.size)); clear B2)
        go_roundw
        case rel => exact ⟨k + 1, by omega, by go_num, HB2, HX1⟩
        case measure => simp [intOf]; omega
    · obtain rfl : k = n := by omega
      have j1 : ¬ (k : Int) < (k : Int) := by omega
      have e1 := no.out Hno.out
      subst e1
      go_wp2_with fail
      go_ret
      exact ⟨rfl, HB.out⟩
set_option maxRecDepth 100000 in
theorem hascomes {w : World} {bd n c : Nat} {ds : List Dv} (hv : dvE.Rd w (.slice (some ⟨bd, 0, none⟩) n c) ds) (hn : ds.length = n) (hm : n ≤ 1000) (x : Int) (k0 : Nat) (hk0 : k0 < w.heap.size) (hcell : w.cell? ⟨k0, 0, none⟩ = some (.int .i64 x)) :
    Calls Try.prog 47 #[.slice (some ⟨bd, 0, none⟩) n c, .func (.func 48) #[] #[.pointer (some ⟨k0, 0, none⟩)]] w fun e w' => e = .returned (.bool (ds.any (comes x))) ∧ Below w.heap.size w w' := by
  have K := hide (indexcomes hv hn hm x k0 hk0 hcell)
  have hd := ix_any (comes x) ds
  generalize ixI (comes x) ds = res at *
  generalize ds.any (comes x) = yes at *
  clear hv hn hcell
  go_enter Try.func47, Try.ntmps47
  go_wp2_with (go_at_call 58; refine K.out.mono ?_; rintro e w2 ⟨rfl, B2⟩; have HB2 := hide B2; clear B2)
  go_ret
  exact ⟨rfl, HB2.out⟩

set_option maxHeartbeats 1000000 in
theorem cloT_any (D : Dv) (x : Int) (k : Nat) (w : World) (hk : k < w.heap.size) (hcell : w.cell? ⟨k, 0, none⟩ = some (.int .i64 x)) :
    Calls Try.prog 59 #[.agg #[.int .i64 D.fr, .int .i64 D.en, .int .i64 D.tt, .int .i64 D.sq, .bool D.ev, .bool D.dn], .pointer (some ⟨k, 0, none⟩)] w fun e w' => e = .returned (.bool (takes x D)) ∧ Below w.heap.size w w' := by
  have hne : k ≠ w.heap.size := by omega
  have hB : Hid (∀ o, Below w.heap.size w (w.alloc o)) := hide (fun o => (Below.refl _ _).alloc (Nat.le_refl _) o)
  obtain ⟨fr, en, tt, sq, ev, dn⟩ := D
  by_cases h : tt = x
  · have e0 : takes x ⟨fr, en, tt, sq, ev, dn⟩ = true := by simp [takes, h]
    rw [e0]
    subst h
    go_enter Try.func59, Try.ntmps59
    go_wp2
    go_ret
    exact ⟨by simp_all, hB.out _⟩
  · have e0 : takes x ⟨fr, en, tt, sq, ev, dn⟩ = false := by simp [takes, h]
    rw [e0]
    go_enter Try.func59, Try.ntmps59
    go_wp2
    go_ret
    exact ⟨by simp_all, hB.out _⟩

set_option maxRecDepth 100000 in
set_option maxHeartbeats 2000000 in
theorem indextakes {w : World} {bd n c : Nat} {ds : List Dv} (hv : dvE.Rd w (.slice (some ⟨bd, 0, none⟩) n c) ds) (hn : ds.length = n) (hm : n ≤ 1000) (x : Int) (k0 : Nat) (hk0 : k0 < w.heap.size) (hcell : w.cell? ⟨k0, 0, none⟩ = some (.int .i64 x)) :
    Calls Try.prog 58 #[.slice (some ⟨bd, 0, none⟩) n c, .func (.func 59) #[] #[.pointer (some ⟨k0, 0, none⟩)]] w fun e w' => e = .returned (.int .i64 (ixI (takes x) ds)) ∧ Below w.heap.size w w' := by
  have Hv := hide hv
  have Hn := hide hn
  have Hc := hide hcell
  have i0 : (n : Int) ≤ 1000 := by omega
  have yes : Hid (∀ (k : Nat) (p : Dv), ds[k]? = some p → takes x p = true → (∀ j d, j < k → ds[j]? = some d → takes x d = false) → ixI (takes x) ds = (k : Int)) := hide (fun k p h1 h2 h3 => ix_at h1 h2 h3)
  have no : Hid ((∀ (j : Nat) (d : Dv), j < n → ds[j]? = some d → takes x d = false) → ixI (takes x) ds = -1) := hide (fun h => ix_none (by rw [hn]; exact h))
  generalize ixI (takes x) ds = res at *
  clear hv hn hcell
  obtain ⟨w0, rfl⟩ : ∃ w0, w0 = w := ⟨_, rfl⟩
  go_enter Try.func58, Try.ntmps58
  go_wp2_with fail
  go_loopw [8] (fun v8 wr => ∃ k : Nat, k ≤ n ∧ v8 = .int .i64 k ∧ Hid (Below w0.heap.size w0 wr) ∧ Hid (∀ j d, j < k → ds[j]? = some d → takes x d = false)) (fun v8 _ => n - (intOf v8).toNat)
  case atStart => exact ⟨0, by omega, rfl, hide (Below.refl _ _), hide (fun j q h => by omega)⟩
  case round =>
    obtain ⟨k, hk, rfl, HB, Hno⟩ := hrel
    by_cases hlt : k < n
    · obtain ⟨p, hp⟩ : ∃ p, ds[k]? = some p := ⟨_, List.getElem?_eq_getElem (by rw [Hn.out]; exact hlt)⟩
      obtain ⟨d0, d1, d2, d3, d4, d5⟩ := dv_at (Hv.out.keep HB.out) k p hp
      have hqw : k0 < wr.heap.size := Nat.lt_of_lt_of_le hk0 HB.out.size
      have hcw : wr.cell? ⟨k0, 0, none⟩ = some (.int .i64 x) := by rw [HB.out.cell hk0]; exact Hc.out
      have K := hide (cloT_any p x k0 wr hqw hcw)
      have j0 : (0 : Int) ≤ (k : Int) := by omega
      have j1 : (k : Int) < (n : Int) := by omega
      have Hp := hide hp
      clear hp hcw hqw
      cases he : takes x p with
      | true =>
        rw [he] at K
        have e1 := yes.out k p Hp.out he Hno.out
        subst e1
        clear he
        go_wp2_with (go_at_call 59; refine K.out.mono ?_; rintro e w2 ⟨rfl, B2⟩; have HB2 := hide (HB.out.trans (B2.mono HB.out.size)); clear B2)
        go_ret
        exact ⟨rfl, HB2.out⟩
      | false =>
        rw [he] at K
        have HX1 : Hid (∀ j d, j < k + 1 → ds[j]? = some d → takes x d = false) := hide (fun j d hj hd => by
          rcases Nat.lt_or_ge j k with g | g
          · exact Hno.out j d g hd
          · obtain rfl : j = k := by omega
            rw [Hp.out] at hd
            cases hd
            exact he)
        clear he
        go_wp2_with (go_at_call 59; refine K.out.mono ?_; rintro e w2 ⟨rfl, B2⟩; have HB2 := hide (HB.out.trans (B2.mono HB.out.size)); clear B2)
        go_roundw
        case rel => exact ⟨k + 1, by omega, by go_num, HB2, HX1⟩
        case measure => simp [intOf]; omega
    · obtain rfl : k = n := by omega
      have j1 : ¬ (k : Int) < (k : Int) := by omega
      have e1 := no.out Hno.out
      subst e1
      go_wp2_with fail
      go_ret
      exact ⟨rfl, HB.out⟩
set_option maxRecDepth 100000 in
theorem hastakes {w : World} {bd n c : Nat} {ds : List Dv} (hv : dvE.Rd w (.slice (some ⟨bd, 0, none⟩) n c) ds) (hn : ds.length = n) (hm : n ≤ 1000) (x : Int) (k0 : Nat) (hk0 : k0 < w.heap.size) (hcell : w.cell? ⟨k0, 0, none⟩ = some (.int .i64 x)) :
    Calls Try.prog 47 #[.slice (some ⟨bd, 0, none⟩) n c, .func (.func 59) #[] #[.pointer (some ⟨k0, 0, none⟩)]] w fun e w' => e = .returned (.bool (ds.any (takes x))) ∧ Below w.heap.size w w' := by
  have K := hide (indextakes hv hn hm x k0 hk0 hcell)
  have hd := ix_any (takes x) ds
  generalize ixI (takes x) ds = res at *
  generalize ds.any (takes x) = yes at *
  clear hv hn hcell
  go_enter Try.func47, Try.ntmps47
  go_wp2_with (go_at_call 58; refine K.out.mono ?_; rintro e w2 ⟨rfl, B2⟩; have HB2 := hide B2; clear B2)
  go_ret
  exact ⟨rfl, HB2.out⟩


section
variable {w : World} {B g n m : Nat} {H : Nat × Nat} {es : List (Int × Int)} {S : Mr}
set_option maxRecDepth 100000 in
theorem where_m (h : (It.mir B g H n m es S).P w) (t : Int) : Calls Try.prog 19 #[.pointer (some ⟨g, 0, none⟩), .int .i64 t] w fun e w' => e = .returned (.int .i64 (S.whr t)) ∧ w' = w := by
  obtain ⟨c0, c1⟩ := mr_cells h
  obtain ⟨l0, l1, l2, l3⟩ := mr_len h
  have K1 := hide (isTote_any t w)
  have K2 := hide (idx_any _ n n S.ts t w l0 (mr_ts h).rd (by omega))
  have e0 : S.whr t = if isT t = true then loc S.ts t else -1 := rfl
  rw [e0]
  generalize loc S.ts t = res at *
  clear e0 l0 l1 h
  cases hT : isT t with
  | true =>
    rw [hT] at K1
    rw [if_pos rfl]
    clear hT
    go_enter Try.func19, Try.ntmps19
    go_wp2_with (first
      | (go_at_call 42; refine K1.out.mono ?_; rintro e w1 ⟨rfl, rfl⟩)
      | (go_at_call 43; refine K2.out.mono ?_; rintro e w1 ⟨rfl, rfl⟩))
    go_ret
    exact ⟨rfl, rfl⟩
  | false =>
    rw [hT] at K1
    rw [if_neg (by simp)]
    clear hT
    go_enter Try.func19, Try.ntmps19
    go_wp2_with (go_at_call 42; refine K1.out.mono ?_; rintro e w1 ⟨rfl, rfl⟩)
    go_ret
    exact ⟨rfl, rfl⟩
set_option maxRecDepth 100000 in
theorem at_m (h : (It.mir B g H n m es S).P w) (x : Int) : Calls Try.prog 20 #[.pointer (some ⟨g, 0, none⟩), .int .i64 x] w fun e w' => e = .returned (.int .i64 (S.att x)) ∧ w' = w := by
  obtain ⟨c0, c1⟩ := mr_cells h
  obtain ⟨l0, l1, l2, l3⟩ := mr_len h
  have K1 := hide (isNode_m h x)
  cases hN : S.isN x with
  | true =>
    rw [hN] at K1
    have hx := Mr.isN_iff.1 hN
    rw [l0] at hx
    obtain ⟨k, rfl⟩ : ∃ k : Nat, x = (k : Int) := ⟨x.toNat, by omega⟩
    obtain ⟨p, hp, c2, _⟩ := mr_t h (k := k) (by omega)
    rw [Mr.att_nat hp]
    have k1 : (0 : Int) ≤ (k : Int) := by omega
    have k2 : (k : Int) < (n : Int) := by omega
    clear hN h l0 l1 hp hx
    go_enter Try.func20, Try.ntmps20
    go_wp2_with (go_at_call 44; refine K1.out.mono ?_; rintro e w1 ⟨rfl, rfl⟩)
    go_ret
    exact ⟨rfl, rfl⟩
  | false =>
    rw [hN] at K1
    rw [Mr.att_out hN]
    clear hN h l0 l1
    go_enter Try.func20, Try.ntmps20
    go_wp2_with (go_at_call 44; refine K1.out.mono ?_; rintro e w1 ⟨rfl, rfl⟩)
    go_ret
    exact ⟨rfl, rfl⟩
set_option maxRecDepth 100000 in
set_option maxHeartbeats 1000000 in
theorem taken_m (h : (It.mir B g H n m es S).P w) (x : Int) : Calls Try.prog 22 #[.pointer (some ⟨g, 0, none⟩), .int .i64 x] w fun e w' => e = .returned (.bool (S.tak x)) ∧ Below w.heap.size w w' := by
  have hf : ∀ W k, (Instr.makeFunc (.func 48) #[] #[.pointer (some ⟨k, 0, none⟩)]).run Try.prog W = .ok (.func (.func 48) #[] #[.pointer (some ⟨k, 0, none⟩)]) W := fun _ _ => rfl
  obtain ⟨w1, hw1⟩ : ∃ w1, w.alloc (.cells #[.int .i64 x] 3) = w1 := ⟨_, rfl⟩
  have b1 : Below w.heap.size w w1 := by rw [← hw1]; exact below_new _ _
  have h1 : (It.mir B g H n m es S).P w1 := (It.mir B g H n m es S).st h fun k hk => b1.block k ((It.mir B g H n m es S).lt h k hk)
  have hx : w1.cell? ⟨w.heap.size, 0, none⟩ = some (.int .i64 x) := by rw [← hw1]; exact (cells_at (heap_new _ _) 0).1
  have hs : w.heap.size < w1.heap.size := by rw [← hw1]; show _ < (w.heap.push _).size; simp
  obtain ⟨c0, c1⟩ := mr_cells h1
  obtain ⟨l0, l1, l2, l3⟩ := mr_len h1
  have K1 := hide (at_m h1 x)
  have K2 := hide (hascomes (mr_ds h1).rd l1 (by omega) x w.heap.size hs hx)
  have e0 : S.tak x = (decide (S.att x ≠ 0) || S.ds.any (comes x)) := rfl
  rw [e0]
  have HB := hide b1
  have HA : Hid (∀ W, Below w1.heap.size w1 W → Below w.heap.size w W) := hide (fun W b => b1.trans (b.mono b1.size))
  generalize S.att x = y at *
  generalize S.ds.any (comes x) = z at *
  subst hw1
  clear e0 l0 l1 h h1 b1 hs
  by_cases hy : y = 0
  · subst hy
    rw [show (decide ((0 : Int) ≠ 0) || z) = z by simp]
    go_enter Try.func22, Try.ntmps22
    go_wp2_with (first
      | (go_at_call 20; refine K1.out.mono ?_; rintro e w1 ⟨rfl, rfl⟩)
      | (go_at_call 47; refine K2.out.mono ?_; rintro e w2 ⟨rfl, B2⟩; have HB2 := hide (HA.out _ B2); clear B2))
    go_ret
    exact ⟨rfl, HB2.out⟩
  · rw [show (decide (y ≠ 0) || z) = true by simp [hy]]
    have hy' : (y == 0) = false := beq_eq_false_iff_ne.2 hy
    go_enter Try.func22, Try.ntmps22
    go_wp2_with (go_at_call 20; refine K1.out.mono ?_; rintro e w1 ⟨rfl, rfl⟩)
    go_ret
    exact ⟨rfl, HB.out⟩
set_option maxRecDepth 100000 in
set_option maxHeartbeats 1000000 in
theorem way_m (h : (It.mir B g H n m es S).P w) (x : Int) : Calls Try.prog 50 #[.pointer (some ⟨g, 0, none⟩), .int .i64 x] w fun e w' => e = .returned (.bool (S.way x)) ∧ Below w.heap.size w w' := by
  have hf : ∀ W k, (Instr.makeFunc (.func 59) #[] #[.pointer (some ⟨k, 0, none⟩)]).run Try.prog W = .ok (.func (.func 59) #[] #[.pointer (some ⟨k, 0, none⟩)]) W := fun _ _ => rfl
  obtain ⟨w1, hw1⟩ : ∃ w1, w.alloc (.cells #[.int .i64 x] 3) = w1 := ⟨_, rfl⟩
  have b1 : Below w.heap.size w w1 := by rw [← hw1]; exact below_new _ _
  have h1 : (It.mir B g H n m es S).P w1 := (It.mir B g H n m es S).st h fun k hk => b1.block k ((It.mir B g H n m es S).lt h k hk)
  have hx : w1.cell? ⟨w.heap.size, 0, none⟩ = some (.int .i64 x) := by rw [← hw1]; exact (cells_at (heap_new _ _) 0).1
  have hs : w.heap.size < w1.heap.size := by rw [← hw1]; show _ < (w.heap.push _).size; simp
  obtain ⟨c0, c1⟩ := mr_cells h1
  obtain ⟨l0, l1, l2, l3⟩ := mr_len h1
  have K2 := hide (hastakes (mr_ds h1).rd l1 (by omega) x w.heap.size hs hx)
  have e0 : S.way x = S.ds.any (takes x) := rfl
  rw [e0]
  have HA : Hid (∀ W, Below w1.heap.size w1 W → Below w.heap.size w W) := hide (fun W b => b1.trans (b.mono b1.size))
  generalize S.ds.any (takes x) = z at *
  subst hw1
  clear e0 l0 l1 h h1 b1 hs
  go_enter Try.func50, Try.ntmps50
  go_wp2_with (go_at_call 47; refine K2.out.mono ?_; rintro e w2 ⟨rfl, B2⟩; have HB2 := hide (HA.out _ B2); clear B2)
  go_ret
  exact ⟨rfl, HB2.out⟩
set_option maxRecDepth 100000 in
set_option maxHeartbeats 1000000 in
theorem told_m (h : (It.mir B g H n m es S).P w) (d : Int) : Calls Try.prog 21 #[.pointer (some ⟨g, 0, none⟩), .int .i64 d] w fun e w' => e = .returned (.tuple #[.int .i64 (S.told d).1, .int .i64 (S.told d).2.1, .bool (S.told d).2.2]) ∧ ∃ q, w' = w.drewN q := by
  obtain ⟨c0, c1⟩ := mr_cells h
  obtain ⟨l0, l1, l2, l3⟩ := mr_len h
  have K1 := hide (isDev_m h d)
  cases hD : S.isD d with
  | false =>
    rw [hD] at K1
    have e0 : S.told d = (0, 0, false) := by unfold Mr.told; rw [if_neg (by rw [hD]; simp)]
    rw [e0]
    clear e0 hD h l0 l1
    go_enter Try.func21, Try.ntmps21
    go_wp2_with (go_at_call 45; refine K1.out.mono ?_; rintro e w1 ⟨rfl, rfl⟩)
    go_ret3
    exact ⟨rfl, 0, rfl⟩
  | true =>
    rw [hD] at K1
    have hx := Mr.isD_iff.1 hD
    rw [l1] at hx
    obtain ⟨k, rfl⟩ : ∃ k : Nat, d = (k : Int) + 1 := ⟨(d - 1).toNat, by omega⟩
    have hp : S.ds[k]? = some (S.dev ((k : Int) + 1)) := by
      have := (Mr.dev_at hD).1
      rwa [show ((k : Int) + 1 - 1).toNat = k by omega] at this
    have K2 := hide (device_m h k (by omega))
    obtain ⟨d0, d1, d2, d3, d4, d5⟩ := mr_d h hp
    have e0 : ∀ D, S.dev ((k : Int) + 1) = D → S.told ((k : Int) + 1) = if D.tt ≠ 0 then (D.tt, D.sq, true) else (0, 0, false) := fun D e => by
      unfold Mr.told; rw [e]; by_cases z : D.tt = 0 <;> simp [z, hD]
    rw [e0 _ rfl]
    generalize S.dev ((k : Int) + 1) = D at *
    obtain ⟨fr, en, tt, sq, ev, dn⟩ := D
    dsimp only at *
    clear e0 hD h l0 l1 hp hx
    by_cases z : tt = 0
    · subst z
      rw [if_neg (by simp)]
      go_enter Try.func21, Try.ntmps21
      go_wp2_with (first
        | (go_at_call 45; refine K1.out.mono ?_; rintro e w1 ⟨rfl, rfl⟩)
        | (go_at_call 46; refine K2.out.mono ?_; rintro e w1 ⟨rfl, rfl⟩))
      go_ret3
      exact ⟨rfl, 0, rfl⟩
    · rw [if_pos z]
      have z' : (tt == 0) = false := beq_eq_false_iff_ne.2 z
      go_enter Try.func21, Try.ntmps21
      go_wp2_with (first
        | (go_at_call 45; refine K1.out.mono ?_; rintro e w1 ⟨rfl, rfl⟩)
        | (go_at_call 46; refine K2.out.mono ?_; rintro e w1 ⟨rfl, rfl⟩))
      go_quiet (fail)
      go_wp2_with fail
      go_ret3
      exact ⟨rfl, _, rfl⟩
set_option maxRecDepth 100000 in
set_option maxHeartbeats 1000000 in
theorem last_m (h : (It.mir B g H n m es S).P w) (d : Int) : Calls Try.prog 28 #[.pointer (some ⟨g, 0, none⟩), .int .i64 d] w fun e w' => e = .returned (.tuple #[.int .i64 (S.last d).1, .bool (S.last d).2]) ∧ ∃ q, w' = w.drewN q := by
  obtain ⟨c0, c1⟩ := mr_cells h
  obtain ⟨l0, l1, l2, l3⟩ := mr_len h
  have K1 := hide (isDev_m h d)
  cases hD : S.isD d with
  | false =>
    rw [hD] at K1
    have e0 : S.last d = (0, false) := by unfold Mr.last; rw [if_neg (by rw [hD]; simp)]
    rw [e0]
    clear e0 hD h l0 l1
    go_enter Try.func28, Try.ntmps28
    go_wp2_with (go_at_call 45; refine K1.out.mono ?_; rintro e w1 ⟨rfl, rfl⟩)
    go_ret2
    exact ⟨rfl, 0, rfl⟩
  | true =>
    rw [hD] at K1
    have hx := Mr.isD_iff.1 hD
    rw [l1] at hx
    obtain ⟨k, rfl⟩ : ∃ k : Nat, d = (k : Int) + 1 := ⟨(d - 1).toNat, by omega⟩
    have hp : S.ds[k]? = some (S.dev ((k : Int) + 1)) := by
      have := (Mr.dev_at hD).1
      rwa [show ((k : Int) + 1 - 1).toNat = k by omega] at this
    have K2 := hide (device_m h k (by omega))
    obtain ⟨d0, d1, d2, d3, d4, d5⟩ := mr_d h hp
    have e0 : S.last ((k : Int) + 1) = ((S.dev ((k : Int) + 1)).sq, (S.dev ((k : Int) + 1)).ev) := by unfold Mr.last; rw [if_pos hD]
    rw [e0]
    generalize S.dev ((k : Int) + 1) = D at *
    obtain ⟨fr, en, tt, sq, ev, dn⟩ := D
    dsimp only at *
    clear e0 hD h l0 l1 hp hx
    go_enter Try.func28, Try.ntmps28
    go_wp2_with (first
      | (go_at_call 45; refine K1.out.mono ?_; rintro e w1 ⟨rfl, rfl⟩)
      | (go_at_call 46; refine K2.out.mono ?_; rintro e w1 ⟨rfl, rfl⟩))
    go_quiet (fail)
    go_wp2_with fail
    go_ret2
    exact ⟨rfl, _, rfl⟩
end
end Go.Proofs.Ytlnnpdghcilioaa
