/- The order of x: the powers of x are all other than 1 below 32767; a turned bit, and what it changes in a sum. No Go here. -/
import Derived.Test.YtfldllmehelngaaMath
namespace Go.Proofs.Ytfldllmehelngaa

theorem sh_eq_zero {x : BitVec 16} (h : sh x = 0#16) : x = 0#16 := by
  unfold sh at h
  cases hm : x.msb
  · rw [hm] at h
    simp only [Bool.false_eq_true, if_false] at h
    have h2 := congrArg BitVec.toNat h
    rw [BitVec.msb_eq_decide] at hm
    simp [Nat.shiftLeft_eq] at h2 hm
    apply BitVec.eq_of_toNat_eq
    simp
    omega
  · rw [hm] at h
    simp only [if_true] at h
    have h2 := congrArg (fun y => y.getLsbD 0) h
    simp at h2

theorem sh_inj {x y : BitVec 16} (h : sh x = sh y) : x = y := by
  apply xor_eq_zero
  apply sh_eq_zero
  rw [sh_xor, h]; simp

theorem pw_inj {n : Nat} {x y : BitVec 16} (h : pw n x = pw n y) : x = y := by
  induction n generalizing x y with
  | zero => exact h
  | succ n ih => exact sh_inj (ih h)

theorem pw_mk {m n k : Nat} {a b c : BitVec 16} (hm : pw m 1#16 = a) (hn : pw n 1#16 = b) (hk : m + n = k) (hc : pr a b = c) : pw k 1#16 = c := by
  subst hk; rw [pw_add, ← pr_pw, hm, hn, hc]

theorem e1 : pw 1 1#16 = 0x0002#16 := by decide +kernel
theorem e2 : pw 2 1#16 = 0x0004#16 := pw_mk e1 e1 rfl (by decide +kernel)
theorem e4 : pw 4 1#16 = 0x0010#16 := pw_mk e2 e2 rfl (by decide +kernel)
theorem e8 : pw 8 1#16 = 0x0100#16 := pw_mk e4 e4 rfl (by decide +kernel)
theorem e16 : pw 16 1#16 = 0x1021#16 := pw_mk e8 e8 rfl (by decide +kernel)
theorem e32 : pw 32 1#16 = 0x3730#16 := pw_mk e16 e16 rfl (by decide +kernel)
theorem e64 : pw 64 1#16 = 0xB861#16 := pw_mk e32 e32 rfl (by decide +kernel)
theorem e128 : pw 128 1#16 = 0xAEFC#16 := pw_mk e64 e64 rfl (by decide +kernel)
theorem e256 : pw 256 1#16 = 0x8E29#16 := pw_mk e128 e128 rfl (by decide +kernel)
theorem e512 : pw 512 1#16 = 0x13FC#16 := pw_mk e256 e256 rfl (by decide +kernel)
theorem e1024 : pw 1024 1#16 = 0x36C4#16 := pw_mk e512 e512 rfl (by decide +kernel)
theorem e2048 : pw 2048 1#16 = 0xFD50#16 := pw_mk e1024 e1024 rfl (by decide +kernel)
theorem e4096 : pw 4096 1#16 = 0xAA9E#16 := pw_mk e2048 e2048 rfl (by decide +kernel)
theorem e8192 : pw 8192 1#16 = 0x881C#16 := pw_mk e4096 e4096 rfl (by decide +kernel)
theorem e16384 : pw 16384 1#16 = 0x4458#16 := pw_mk e8192 e8192 rfl (by decide +kernel)
theorem e3 : pw 3 1#16 = 0x0008#16 := pw_mk e1 e2 rfl (by decide +kernel)
theorem e7 : pw 7 1#16 = 0x0080#16 := pw_mk e3 e4 rfl (by decide +kernel)
theorem e15 : pw 15 1#16 = 0x8000#16 := pw_mk e7 e8 rfl (by decide +kernel)
theorem e31 : pw 31 1#16 = 0x1B98#16 := pw_mk e15 e16 rfl (by decide +kernel)
theorem e63 : pw 63 1#16 = 0xD420#16 := pw_mk e31 e32 rfl (by decide +kernel)
theorem e127 : pw 127 1#16 = 0x577E#16 := pw_mk e63 e64 rfl (by decide +kernel)
theorem e255 : pw 255 1#16 = 0xCF04#16 := pw_mk e127 e128 rfl (by decide +kernel)
theorem e511 : pw 511 1#16 = 0x09FE#16 := pw_mk e255 e256 rfl (by decide +kernel)
theorem e1023 : pw 1023 1#16 = 0x1B62#16 := pw_mk e511 e512 rfl (by decide +kernel)
theorem e2047 : pw 2047 1#16 = 0x7EA8#16 := pw_mk e1023 e1024 rfl (by decide +kernel)
theorem e4095 : pw 4095 1#16 = 0x554F#16 := pw_mk e2047 e2048 rfl (by decide +kernel)
theorem e8191 : pw 8191 1#16 = 0x440E#16 := pw_mk e4095 e4096 rfl (by decide +kernel)
theorem e16383 : pw 16383 1#16 = 0x222C#16 := pw_mk e8191 e8192 rfl (by decide +kernel)
theorem e32767 : pw 32767 1#16 = 0x0001#16 := pw_mk e16383 e16384 rfl (by decide +kernel)
theorem e9 : pw 9 1#16 = 0x0200#16 := pw_mk e1 e8 rfl (by decide +kernel)
theorem e73 : pw 73 1#16 = 0x8FA6#16 := pw_mk e9 e64 rfl (by decide +kernel)
theorem e585 : pw 585 1#16 = 0x4500#16 := pw_mk e73 e512 rfl (by decide +kernel)
theorem e4681 : pw 4681 1#16 = 0x2C42#16 := pw_mk e585 e4096 rfl (by decide +kernel)
theorem e33 : pw 33 1#16 = 0x6E60#16 := pw_mk e1 e32 rfl (by decide +kernel)
theorem e1057 : pw 1057 1#16 = 0xF2AF#16 := pw_mk e33 e1024 rfl (by decide +kernel)
theorem e25 : pw 25 1#16 = 0x6662#16 := pw_mk e9 e16 rfl (by decide +kernel)
theorem e89 : pw 89 1#16 = 0xDE8A#16 := pw_mk e25 e64 rfl (by decide +kernel)
theorem e217 : pw 217 1#16 = 0x48E3#16 := pw_mk e89 e128 rfl (by decide +kernel)

theorem pw_mul {k : Nat} (h : pw k 1#16 = 1#16) (q : Nat) : pw (k * q) 1#16 = 1#16 := by
  induction q with
  | zero => rfl
  | succ q ih => rw [Nat.mul_succ, pw_add, ih, h]

theorem pw_mod {k n : Nat} (h : pw k 1#16 = 1#16) (hn : pw n 1#16 = 1#16) : pw (n % k) 1#16 = 1#16 := by
  have e := Nat.div_add_mod n k
  rw [← e, pw_add, pw_mul h] at hn
  exact hn

theorem pw_divisor : ∀ (n k : Nat), k ≤ n → 0 < k → pw k 1#16 = 1#16 → ∃ d, 0 < d ∧ d ≤ k ∧ 32767 % d = 0 ∧ pw d 1#16 = 1#16 := by
  intro n
  induction n with
  | zero => intro k h0 h1; omega
  | succ n ih =>
    intro k hk h0 h
    by_cases hr : 32767 % k = 0
    · exact ⟨k, h0, Nat.le_refl _, hr, h⟩
    · have hlt := Nat.mod_lt 32767 h0
      obtain ⟨d, a, b, c, e⟩ := ih (32767 % k) (by omega) (by omega) (pw_mod h e32767)
      exact ⟨d, a, by omega, c, e⟩

theorem small_div : ∀ d, d < 182 → 32767 % d = 0 → d = 0 ∨ d = 1 ∨ d = 7 ∨ d = 31 ∨ d = 151 := by decide +kernel

theorem pw_order {k : Nat} (h0 : 0 < k) (h1 : k < 32767) : pw k 1#16 ≠ 1#16 := by
  intro h
  obtain ⟨d, hd, hk, hm, he⟩ := pw_divisor k k (Nat.le_refl _) h0 h
  have key : 4681 % d = 0 ∨ 1057 % d = 0 ∨ 217 % d = 0 := by
    have hq := Nat.div_add_mod 32767 d
    rw [hm, Nat.add_zero] at hq
    generalize hg : 32767 / d = q at hq
    by_cases hs : d < 182
    · rcases small_div d hs hm with rfl | rfl | rfl | rfl | rfl
      · omega
      · exact .inl rfl
      · exact .inr (.inl rfl)
      · exact .inl rfl
      · exact .inl rfl
    · have hq2 : q < 182 := by
        rcases Nat.lt_or_ge q 182 with h | h
        · exact h
        · have := Nat.mul_le_mul (Nat.le_of_not_lt hs) h
          omega
      have hqm : 32767 % q = 0 := by rw [← hq]; exact Nat.mul_mod_left d q
      rcases small_div q hq2 hqm with rfl | rfl | rfl | rfl | rfl
      · omega
      · omega
      · left; rw [show d = 4681 by omega]
      · right; left; rw [show d = 1057 by omega]
      · right; right; rw [show d = 217 by omega]
  rcases key with hz | hz | hz
  · have := pw_mul he (4681 / d)
    rw [Nat.mul_div_cancel' (Nat.dvd_of_mod_eq_zero hz), e4681] at this
    exact absurd this (by decide)
  · have := pw_mul he (1057 / d)
    rw [Nat.mul_div_cancel' (Nat.dvd_of_mod_eq_zero hz), e1057] at this
    exact absurd this (by decide)
  · have := pw_mul he (217 / d)
    rw [Nat.mul_div_cancel' (Nat.dvd_of_mod_eq_zero hz), e217] at this
    exact absurd this (by decide)


/-- the change that a turned bit makes, by its distance from the end -/
def chg (m : Nat) : BitVec 16 := pw m 0x1021#16

theorem chg_pw (m : Nat) : chg m = pw (16 + m) 1#16 := by rw [pw_add, e16]; rfl

theorem chg_inj {a b : Nat} (ha : a < 32767) (hb : b < 32767) (h : chg a = chg b) : a = b := by
  rcases Nat.lt_trichotomy a b with hlt | he | hlt
  · exfalso
    rw [chg_pw, chg_pw, show 16 + b = (b - a) + (16 + a) by omega, pw_add (b - a)] at h
    exact pw_order (by omega) (by omega) (pw_inj h).symm
  · exact he
  · exfalso
    rw [chg_pw, chg_pw, show 16 + a = (a - b) + (16 + b) by omega, pw_add (a - b)] at h
    exact pw_order (by omega) (by omega) (pw_inj h)

end Go.Proofs.Ytfldllmehelngaa
