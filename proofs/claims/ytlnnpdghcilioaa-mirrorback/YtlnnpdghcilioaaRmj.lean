/- Ints; what Tells asks of both mirrors. -/
import Derived.Test.YtlnnpdghcilioaaRmi
namespace Go.Proofs.Ytlnnpdghcilioaa
open Go.RowKit
set_option linter.unusedVariables false
set_option maxRecDepth 100000 in
set_option maxHeartbeats 2000000 in
theorem ints_any (a b : Option Addr) (c d n n' : Nat) (xs ys : List Int) (w : World) (hn : xs.length = n) (hn' : ys.length = n') (hv : intE.Rd w (.slice a n c) xs) (hu : intE.Rd w (.slice b n' d) ys) (hl : n ≤ 100000) :
    Calls Try.prog 41 #[.slice a n c, .slice b n' d] w fun e w' => e = .returned (.bool (decide (xs = ys))) ∧ ∃ q, w' = w.drewN q := by
  have no1 : Hid (n ≠ n' → decide (xs = ys) = false) := hide (fun h => decide_eq_false (fun e => h (by rw [← hn, ← hn', e])))
  have no2 : Hid (∀ (k : Nat) (p q : Int), xs[k]? = some p → ys[k]? = some q → p ≠ q → decide (xs = ys) = false) := hide (fun k p q h1 h2 h3 => decide_eq_false (fun e => h3 (by rw [e, h2] at h1; exact (Option.some.inj h1).symm)))
  have yes : Hid (n = n' → xs.take n = ys.take n → decide (xs = ys) = true) := hide (fun h1 h3 => decide_eq_true (by rwa [List.take_of_length_le (by omega), List.take_of_length_le (by omega)] at h3))
  generalize decide (xs = ys) = res at *
  by_cases hnn' : n ≠ n'
  · have e1 := no1.out hnn'
    subst e1
    have q1 : ((n : Int) != (n' : Int)) = true := bne_iff_ne.2 (by omega)
    clear no1 no2 yes hv hu hn hn' hnn'
    go_enter Try.func41, Try.ntmps41
    go_wp2_with fail
    go_ret
    exact ⟨rfl, 0, rfl⟩
  have hnn : n = n' := Decidable.not_not.1 hnn'
  clear hnn'
  subst hnn
  have q1 : ((n : Int) != (n : Int)) = false := bne_self_eq_false _
  have Hn := hide hn
  have Hn' := hide hn'
  have Hv := hide hv
  have Hu := hide hu
  have i0 : (n : Int) ≤ 100000 := by omega
  clear hn hn' hv hu hl no1
  go_enter Try.func41, Try.ntmps41
  go_wp2_with fail
  go_loopw [13] (fun v13 wr => ∃ k q : Nat, k ≤ n ∧ v13 = .int .i64 k ∧ wr = w.drewN q ∧ Hid (xs.take k = ys.take k)) (fun v13 _ => n - (intOf v13).toNat)
  case atStart => exact ⟨0, 0, by omega, rfl, rfl, hide (by simp)⟩
  case round =>
    obtain ⟨k, q, hk, rfl, rfl, HX⟩ := hrel
    by_cases hlt : k < n
    · obtain ⟨p, hp⟩ : ∃ p, xs[k]? = some p := ⟨_, List.getElem?_eq_getElem (by rw [Hn.out]; exact hlt)⟩
      obtain ⟨p', hp'⟩ : ∃ p, ys[k]? = some p := ⟨_, List.getElem?_eq_getElem (by rw [Hn'.out]; exact hlt)⟩
      obtain ⟨b1, off1, rfl, c0⟩ := int_at Hv.out k p hp
      obtain ⟨b2, off2, rfl, c3⟩ := int_at Hu.out k p' hp'
      have j0 : (0 : Int) ≤ (k : Int) := by omega
      have j1 : (k : Int) < (n : Int) := by omega
      have Hp := hide hp
      have Hp' := hide hp'
      clear hp hp'
      by_cases he : p = p'
      · have hbe : (p != p') = false := by rw [he]; exact bne_self_eq_false _
        have HX1 : Hid (xs.take (k + 1) = ys.take (k + 1)) := hide (by rw [List.take_add_one, List.take_add_one, HX.out, Hp.out, Hp'.out, he])
        clear he
        go_upto_region 6 with fail
        go_quiet (fail)
        go_wp2_with fail
        go_roundw
        case rel => exact ⟨k + 1, _, by omega, by go_num, rfl, HX1⟩
        case measure => simp [intOf]; omega
      · have hbe : (p != p') = true := bne_iff_ne.2 he
        have e1 := no2.out k p p' Hp.out Hp'.out he
        subst e1
        clear he
        go_upto_region 6 with fail
        go_quiet (fail)
        go_wp2_with fail
        go_ret
        exact ⟨rfl, _, rfl⟩
    · obtain rfl : k = n := by omega
      have j1 : ¬ (k : Int) < (k : Int) := by omega
      have e1 := yes.out (by first | rfl | trivial) HX.out
      subst e1
      go_wp2_with fail
      go_ret
      exact ⟨rfl, _, rfl⟩
/-- what is no node isn't taken -/
theorem tak_out {S : Mr} {n : Nat} {es : List (Int × Int)} (H : S.Ok n es) {x : Int} (h : S.isN x = false) : S.tak x = false := by
  unfold Mr.tak
  rw [Mr.att_out h, List.any_eq_false.2 (fun D hD => ?_)]
  · rfl
  · have := (H.ins hD).2.1
    intro q
    simp only [comes, Bool.and_eq_true, decide_eq_true_eq] at q
    rw [q.2, h] at this
    cases this
/-- what a device was told, by both -/
theorem Rel.told {S : Mr} {R : Rm} {n : Nat} {es : List (Int × Int)} (H : Rel S R n es) (d : Int) :
    (∃ (i : Nat) (x : Td), R.td[i]? = some x ∧ R.fnd d = (i : Int) ∧ S.told d = (x.tote, x.seq, true)) ∨ (R.fnd d = -1 ∧ S.told d = (0, 0, false)) := by
  rcases H.fnd d with ⟨i, x, f1, f2, f3, f4, f5, f6, f7⟩ | ⟨f1, f2⟩
  · exact .inl ⟨i, x, f1, f3, by unfold Mr.told; rw [if_pos ⟨f4, by rw [f5]; exact f6⟩, f5, f7]⟩
  · exact .inr ⟨f1, by unfold Mr.told; rw [if_neg (fun q => q.2 (f2 q.1))]⟩
/-- the devices that the document's mirror names are some -/
theorem Rel.devs {S : Mr} {R : Rm} {n : Nat} {es : List (Int × Int)} (H : Rel S R n es) : ∀ y ∈ R.td, 1 ≤ y.dev ∧ y.dev ≤ (es.length : Int) := fun y hy => by
  have := Mr.isD_iff.1 ((H.td y).1 hy).1
  rw [H.ok.len] at this
  exact this
/-- a new mirror, by both -/
theorem Rel.nw {n : Nat} {es : List (Int × Int)} (h1 : 1 ≤ n) (hok : (Mr.nw n es).Ok n es) : Rel (Mr.nw n es) R0 n es := by
  have hz : ∀ D ∈ (Mr.nw n es).ds, D.tt = 0 ∧ D.sq = 0 ∧ D.ev = false ∧ D.dn = false := fun D hD => by
    obtain ⟨e, _, rfl⟩ := List.mem_map.1 hD
    exact ⟨rfl, rfl, rfl, rfl⟩
  have hat : ∀ x, (Mr.nw n es).att x = 0 := fun x => by
    unfold Mr.att
    split
    · show ((List.replicate n (0 : Int))[x.toNat]?).getD 0 = 0
      rw [List.getElem?_replicate]
      split <;> rfl
    · rfl
  refine ⟨hok, h1, fun t x => ?_, fun x => ?_, List.nodup_nil, ?_, fun d => ?_⟩
  · rw [hat]
    exact ⟨fun h => (by cases h), fun h => absurd h.2.symm h.1⟩
  · constructor
    · intro h; cases h
    · rintro ⟨a1, a2, a3, _⟩
      have := (hz _ (Mr.dev_at a1).2).1
      rw [a3] at this
      exact absurd this a2
  · show [] = (Mr.nw n es).down
    rw [down_filter]
    symm
    rw [List.filter_eq_nil_iff]
    intro x hx
    rw [(hz _ (Mr.dev_at (isD_range hx)).2).2.2.2]
    simp
  · show (0, false) = (Mr.nw n es).last d
    unfold Mr.last
    by_cases h : (Mr.nw n es).isD d = true
    · rw [if_pos h]
      have := hz _ (Mr.dev_at h).2
      rw [this.2.1, this.2.2.1]
    · rw [if_neg h]
end Go.Proofs.Ytlnnpdghcilioaa
