/- One piece, tick by tick. -/
import Derived.Test.YteihajppgooadaaSok
namespace Go.Proofs.Yteihajppgooadaa
open Go.RowKit
set_option linter.unusedVariables false

theorem mod_in (a : Int) (m : Nat) (hm : 1 ≤ m) (hm' : m ≤ 1000) : ∃ N : Nat, wrap64 ((IntKind.u64.wrap a).tmod (m : Int)) = (N : Int) ∧ N < m := by
  have h0 : 0 ≤ IntKind.u64.wrap a := by simp [IntKind.wrap, IntKind.bits, IntKind.signed]; omega
  have e : (IntKind.u64.wrap a).tmod (m : Int) = IntKind.u64.wrap a % (m : Int) := Int.tmod_eq_emod_of_nonneg h0
  rw [e]
  generalize IntKind.u64.wrap a = b at h0
  have h1 : 0 ≤ b % (m : Int) := Int.emod_nonneg _ (by omega)
  have h2 : b % (m : Int) < (m : Int) := Int.emod_lt_of_pos _ (by omega)
  refine ⟨(b % (m : Int)).toNat, ?_, by omega⟩
  unfold wrap64
  omega

/-- a piece behind q * P + r ticks -/
def TmS (P q r : Nat) (p : Pc) : Prop := (r = 0 ∧ p.sent = q ∧ (q = 0 ∨ p.ago + 1 = P)) ∨ (0 < r ∧ p.sent = q + 1 ∧ p.ago + 1 = r)
theorem tms_due {P q r : Nat} {p : Pc} (h : TmS P q r p) (hr : r < P) : due P p = decide (r = 0) := by
  unfold due
  rcases h with ⟨h1, h2, h3⟩ | ⟨h1, h2, h3⟩
  · rw [decide_eq_true h1, decide_eq_true]
    rcases h3 with h3 | h3
    · left; omega
    · right; exact h3
  · rw [decide_eq_false (by omega : ¬ r = 0), decide_eq_false]
    omega
theorem tms_next {P q r : Nat} {p : Pc} (h : TmS P q r p) (hr : r < P) : (r + 1 < P ∧ TmS P q (r + 1) (tk P p)) ∨ (r + 1 = P ∧ TmS P (q + 1) 0 (tk P p)) := by
  have hd := tms_due h hr
  unfold tk
  rw [hd]
  rcases h with ⟨h1, h2, h3⟩ | ⟨h1, h2, h3⟩
  · subst h1
    rw [if_pos (show decide ((0 : Nat) = 0) = true from rfl)]
    by_cases hP : 0 + 1 < P
    · exact .inl ⟨hP, .inr ⟨by omega, by simp only; omega, by simp only; omega⟩⟩
    · exact .inr ⟨by omega, .inl ⟨rfl, by simp only; omega, .inr (by simp only; omega)⟩⟩
  · rw [if_neg (by simp; omega)]
    by_cases hP : r + 1 < P
    · exact .inl ⟨hP, .inr ⟨by omega, by simp only; omega, by simp only; omega⟩⟩
    · exact .inr ⟨by omega, .inl ⟨rfl, by simp only; omega, .inr (by simp only; omega)⟩⟩
theorem tms_ends {S : Sd} {P T q r : Nat} {p : Pc} (hS : S.pause = P) (hT : S.times = T) (hp : S.ps = [p]) (h : TmS P q r p) (hr : r < P) (hq : q < T) : S.dies = false := by
  unfold Sd.dies
  rw [hp]
  simp only [List.any_cons, List.any_nil, Bool.or_false]
  unfold ends
  rw [hS, hT, tms_due h hr]
  rcases h with ⟨h1, h2, h3⟩ | ⟨h1, h2, h3⟩
  · have : ¬ p.sent = (T : Int) := by omega
    simp [this]
  · have : ¬ r = 0 := by omega
    simp [this]
theorem tms_dies {S : Sd} {P T : Nat} {p : Pc} (hS : S.pause = P) (hT : S.times = T) (hp : S.ps = [p]) (h : TmS P T 0 p) (hr : 0 < P) : S.dies = true := by
  unfold Sd.dies
  rw [hp]
  simp only [List.any_cons, List.any_nil, Bool.or_false]
  unfold ends
  rw [hS, hT, tms_due h hr]
  rcases h with ⟨h1, h2, h3⟩ | ⟨h1, _⟩
  · simp [h2]
  · omega
theorem tms_outs {S : Sd} {P q r : Nat} {p : Pc} (hS : S.pause = P) (hp : S.ps = [p]) (h : TmS P q r p) (hr : r < P) : S.outs.length = if r = 0 then 1 else 0 := by
  unfold Sd.outs
  rw [hp, hS, List.filter_cons, tms_due h hr]
  by_cases h0 : r = 0
  · simp [h0]
  · simp [h0]
theorem mul_in {P T q r i : Nat} (hi : i = q * P + r) (hr : r < P) (hlt : i < P * T) : q < T := by
  rcases Nat.lt_or_ge q T with h | h
  · exact h
  · have : T * P ≤ q * P := Nat.mul_le_mul_right _ h
    rw [Nat.mul_comm T P] at this
    omega
theorem mul_end {P T q r i : Nat} (hi : i = q * P + r) (hr : r < P) (he : i = P * T) : q = T ∧ r = 0 := by
  rcases Nat.lt_trichotomy q T with h | h | h
  · have : (q + 1) * P ≤ T * P := Nat.mul_le_mul_right _ h
    rw [Nat.succ_mul, Nat.mul_comm T P] at this
    omega
  · subst h
    rw [Nat.mul_comm P q] at he
    omega
  · have : (T + 1) * P ≤ q * P := Nat.mul_le_mul_right _ h
    rw [Nat.succ_mul, Nat.mul_comm T P] at this
    omega
theorem mod_of {P q r i : Nat} (hi : i = q * P + r) (hr : r < P) : Int.tmod (i : Int) (P : Int) = (r : Int) := by
  rw [Int.tmod_eq_emod_of_nonneg (by omega), hi]
  have : (q * P + r) % P = r := by rw [Nat.mul_comm, Nat.mul_add_mod]; exact Nat.mod_eq_of_lt hr
  omega
end Go.Proofs.Yteihajppgooadaa
