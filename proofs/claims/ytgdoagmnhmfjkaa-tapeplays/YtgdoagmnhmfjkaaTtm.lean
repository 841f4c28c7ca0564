/- What cut, put, turn and Compact leave; numbers that came in, made small. -/
import Derived.Test.YtgdoagmnhmfjkaaTaw
namespace Go.Proofs.Ytgdoagmnhmfjkaa
open Go.RowKit
set_option linter.unusedVariables false

theorem cut_fact (T : Tp) (s : Bool) (n : Nat) : (T.cut s n).2.cn = T.cn ∧ (∀ q, q ≠ s → (T.cut s n).2.A q = T.A q) ∧ (((T.cut s n).1 = 0 ∧ ((T.A s).length = n ∧ (T.cut s n).2.A s = T.A s ∨ (T.cut s n).2.A s = (T.A s).take n) ∧ (T.cut s n).2.dd = T.dd) ∨ ((T.cut s n).1 = 190 ∧ (T.cut s n).2.A = T.A ∧ (T.cut s n).2.dd = true)) := by
  unfold Tp.cut
  split
  · rename_i h
    exact ⟨rfl, fun _ _ => rfl, .inl ⟨rfl, .inl ⟨h, rfl⟩, rfl⟩⟩
  · split
    · exact ⟨rfl, fun q hq => setA_off _ hq _, .inl ⟨rfl, .inr (setA_at _ _ _), rfl⟩⟩
    · exact ⟨rfl, fun _ _ => rfl, .inr ⟨rfl, rfl, rfl⟩⟩
theorem put_fact (T : Tp) (s : Bool) (bs : List Int) : (T.put s bs).2.cn = T.cn ∧ (∀ q, q ≠ s → (T.put s bs).2.A q = T.A q) ∧ (((T.put s bs).1 = 0 ∧ (T.put s bs).2.A s = T.A s ++ bs ∧ (T.put s bs).2.dd = T.dd) ∨ ((T.put s bs).1 = 190 ∧ (T.put s bs).2.A s = T.A s ++ bs.take T.bd ∧ T.bd < bs.length ∧ T.ar = true ∧ (T.put s bs).2.dd = true)) := by
  unfold Tp.put
  split
  · exact ⟨rfl, fun q hq => setA_off _ hq _, .inl ⟨rfl, setA_at _ _ _, rfl⟩⟩
  · rename_i h
    refine ⟨rfl, fun q hq => setA_off _ hq _, .inr ⟨rfl, setA_at _ _ _, ?_, ?_, rfl⟩⟩
    · unfold Tp.can at h
      simp at h
      omega
    · unfold Tp.can at h
      simp at h
      exact h.1
theorem turn_fact (T : Tp) (s : Bool) : (T.turn s).2.A = T.A ∧ (((T.turn s).1 = 0 ∧ (T.turn s).2.cn = s ∧ (T.turn s).2.dd = T.dd) ∨ ((T.turn s).1 = 190 ∧ (T.turn s).2.cn = T.cn ∧ (T.turn s).2.dd = true)) := by
  unfold Tp.turn
  split
  · exact ⟨rfl, .inl ⟨rfl, rfl, rfl⟩⟩
  · exact ⟨rfl, .inr ⟨rfl, rfl, rfl⟩⟩
/-- what Compact leaves -/
theorem cmp_cases {T : Tp} {ns : List Nt} (h : T.dd = false) (h1 : ns.all Nt.ok = true) (h3 : ¬ 65536 < tot ns) : ((T.cmp ns).1 = 0 ∧ (T.cmp ns).2.now = ns.flatMap Nt.bts ∧ (T.cmp ns).2.dd = false) ∨ ((T.cmp ns).1 = 190 ∧ (T.cmp ns).2.now = T.now ∧ (T.cmp ns).2.dd = true) := by
  rw [cmp_go h h1 h3]
  have hne : T.cn ≠ !T.cn := by cases T.cn <;> decide
  obtain ⟨a1, a2, a3⟩ := cut_fact T (!T.cn) 0
  unfold Tp.cmp2
  generalize T.cut (!T.cn) 0 = P at *
  obtain ⟨c, T1⟩ := P
  simp only at a1 a2 a3 ⊢
  rcases a3 with ⟨rfl, b1, b2⟩ | ⟨rfl, b1, b2⟩
  · rw [if_pos rfl]
    have b3 : T1.A (!T.cn) = [] := by
      rcases b1 with ⟨q1, q2⟩ | q
      · rw [q2]; exact List.eq_nil_of_length_eq_zero q1
      · rw [q]; simp
    obtain ⟨d1, d2, d3⟩ := put_fact T1 (!T.cn) (ns.flatMap Nt.bts)
    unfold Tp.cmp3
    generalize T1.put (!T.cn) (ns.flatMap Nt.bts) = P at *
    obtain ⟨c, T2⟩ := P
    simp only at d1 d2 d3 ⊢
    rcases d3 with ⟨rfl, f1, f2⟩ | ⟨rfl, f1, f2, f3, f4⟩
    · rw [if_pos rfl]
      obtain ⟨k1, k2⟩ := turn_fact T2 (!T.cn)
      generalize T2.turn (!T.cn) = P at *
      obtain ⟨c, T3⟩ := P
      simp only at k1 k2 ⊢
      rcases k2 with ⟨rfl, m1, m2⟩ | ⟨rfl, m1, m2⟩
      · refine .inl ⟨rfl, ?_, by rw [m2, f2, b2]; exact h⟩
        show T3.A T3.cn = _
        rw [m1, k1, f1, b3, List.nil_append]
      · refine .inr ⟨rfl, ?_, m2⟩
        show T3.A T3.cn = T.A T.cn
        rw [m1, k1, d1, a1, d2 _ hne, a2 _ hne]
    · rw [if_neg (show ¬ ((190 : Int) = 0) by decide)]
      refine .inr ⟨rfl, ?_, f4⟩
      show T2.A T2.cn = T.A T.cn
      rw [d1, a1, d2 _ hne, a2 _ hne]
  · rw [if_neg (show ¬ ((190 : Int) = 0) by decide)]
    refine .inr ⟨rfl, ?_, b2⟩
    show T1.A T1.cn = T.A T.cn
    rw [a1, b1]
theorem cmp_zero {T : Tp} {ns : List Nt} (h : (T.cmp ns).1 = 0) : T.dd = false ∧ ns.all Nt.ok = true ∧ ¬ 65536 < tot ns ∧ (T.cmp ns).2.now = ns.flatMap Nt.bts ∧ (T.cmp ns).2.dd = false := by
  have key : T.dd = false ∧ ns.all Nt.ok = true ∧ ¬ 65536 < tot ns := by
    unfold Tp.cmp at h
    cases hd : T.dd
    · rw [if_neg (by rw [hd]; decide)] at h
      cases ha : ns.all Nt.ok
      · rw [if_pos ha] at h; cases h
      · rw [if_neg (by rw [ha]; decide)] at h
        by_cases ht : 65536 < tot ns
        · rw [if_pos ht] at h; cases h
        · exact ⟨rfl, rfl, ht⟩
    · rw [if_pos hd] at h; cases h
  refine ⟨key.1, key.2.1, key.2.2, ?_⟩
  rcases cmp_cases key.1 key.2.1 key.2.2 with q | q
  · exact q.2
  · rw [q.1] at h; cases h
theorem rds_flat {ns : List Nt} (h : ns.all Nt.ok = true) : Rds (ns.flatMap Nt.bts) ns [] := rds_all (List.all_eq_true.1 h)
theorem crash_now (T : Tp) : T.crash.now = T.now := rfl
/-- a number made small -/
theorem mod_is (x : Int) (L : Nat) (hL : 0 < L) (h2 : L ≤ 100000) : ∃ k : Nat, wrap64 ((IntKind.u64.wrap x).tmod (L : Int)) = (k : Int) ∧ (IntKind.u64.wrap x).tmod (L : Int) = (k : Int) ∧ k < L := by
  have h0 : 0 ≤ IntKind.u64.wrap x := by simp [IntKind.wrap, IntKind.bits, IntKind.signed]; omega
  rw [Int.tmod_eq_emod_of_nonneg h0]
  generalize IntKind.u64.wrap x = b at h0
  have h1 := Int.emod_nonneg b (show (L : Int) ≠ 0 by omega)
  have h2 := Int.emod_lt_of_pos b (show 0 < (L : Int) by omega)
  obtain ⟨k, hk⟩ := Int.eq_ofNat_of_zero_le h1
  refine ⟨k, ?_, hk, by omega⟩
  rw [hk]
  unfold wrap64
  omega
theorem arm_ok {T : Tp} (h : T.dd = false) {k : Nat} (hk : k ≤ 1099511627776) : T.arm (k : Int) = (0, ⟨T.A, T.cn, true, k, T.dd⟩) := by
  unfold Tp.arm
  rw [if_neg (by rw [h]; decide), if_neg (by omega)]
  rfl
theorem arm_dead {T : Tp} (h : T.dd = true) (n : Int) : T.arm n = (190, T) := by unfold Tp.arm; rw [if_pos h]
/-- the first ones of notes that came in -/
theorem nt_take {w : World} {a : Option Addr} {n c : Nat} {ns : List Nt} (h : ntE.Rd w (.slice a n c) ns) (hl : ns.length = n) (k : Nat) (hk : k ≤ n) : ntE.Rd w (.slice a k c) (ns.take k) ∧ (ns.take k).length = k := ⟨h.take k (by omega), by rw [List.length_take]; omega⟩
end Go.Proofs.Ytgdoagmnhmfjkaa
