/- Twelve bytes bear a true sum just where their whole sum is nought; so one, two or three turned bits are told. -/
import Derived.Test.YtglleofhcokeiaaTMath
import Derived.Test.YtglleofhcokeiaaPar
namespace Go.Proofs.Ytglleofhcokeiaa
open Go.ChangeShapes Go.WideShapes Go.ChangeAt Go.RowKit

def lo (b : Int) : BitVec 16 := BitVec.ofInt 16 b
theorem lo_hi_nat : ∀ b : Nat, b < 256 → pw 8 (BitVec.ofNat 16 b) = hi (b : Int) := by decide +kernel
theorem lo_hi (b : Int) (h : 0 ≤ b ∧ b ≤ 255) : pw 8 (lo b) = hi b := by
  obtain ⟨n, rfl⟩ := Int.eq_ofNat_of_zero_le h.1
  exact lo_hi_nat n (by omega)

theorem uv_hilo (a b : Int) (ha : 0 ≤ a ∧ a ≤ 255) (hb : 0 ≤ b ∧ b ≤ 255) : uv (hi a ^^^ lo b) = a * 256 + b := by
  obtain ⟨n, rfl⟩ := Int.eq_ofNat_of_zero_le ha.1
  obtain ⟨m, rfl⟩ := Int.eq_ofNat_of_zero_le hb.1
  have hn : n < 256 := by omega
  have hm : m < 2 ^ 8 := by omega
  have e : hi (n : Int) ^^^ lo (m : Int) = BitVec.ofNat 16 (2 ^ 8 * n + m) := by
    have e1 : hi (n : Int) = BitVec.ofNat 16 (2 ^ 8 * n) := by
      unfold hi
      rw [show ((n : Int) * 256) = ((2 ^ 8 * n : Nat) : Int) by omega]; rfl
    have e2 : lo (m : Int) = BitVec.ofNat 16 m := rfl
    rw [e1, e2]
    apply BitVec.eq_of_getLsbD_eq
    intro i hi
    rw [BitVec.getLsbD_xor, BitVec.getLsbD_ofNat, BitVec.getLsbD_ofNat, BitVec.getLsbD_ofNat]
    have t1 : (2 ^ 8 * n + m).testBit i = if i < 8 then m.testBit i else n.testBit (i - 8) := Nat.testBit_two_pow_mul_add n hm i
    have t2 : (2 ^ 8 * n).testBit i = if i < 8 then false else n.testBit (i - 8) := by
      have := Nat.testBit_two_pow_mul_add n (b := 0) (i := 8) (by decide) i
      simpa using this
    have t3 : ¬ i < 8 → m.testBit i = false := fun h => Nat.testBit_lt_two_pow (Nat.lt_of_lt_of_le hm (Nat.pow_le_pow_right (by omega) (by omega)))
    rw [t1, t2]
    by_cases h : i < 8
    · simp [h]
    · simp [h, t3 h]
  rw [e]
  unfold uv
  rw [BitVec.toNat_ofNat, Nat.mod_eq_of_lt (by omega)]
  omega

theorem two_zero (c : BitVec 16) (a b : Int) (ha : 0 ≤ a ∧ a ≤ 255) (hb : 0 ≤ b ∧ b ≤ 255) : sm c [a, b] = 0#16 ↔ uv c = a * 256 + b := by
  have e : sm c [a, b] = pw 8 (pw 8 (c ^^^ hi a ^^^ lo b)) := by
    show pw 8 (pw 8 (c ^^^ hi a) ^^^ hi b) = _
    rw [pw_xor 8 (c ^^^ hi a) (lo b), lo_hi b hb]
  have z : pw 8 0#16 = 0#16 := by decide +kernel
  rw [e, ← uv_hilo a b ha hb]
  constructor
  · intro h
    have h1 : pw 8 (pw 8 (c ^^^ hi a ^^^ lo b)) = pw 8 (pw 8 0#16) := by rw [h, z, z]
    have h2 := pw_inj (pw_inj h1)
    congr 1
    have h3 : c ^^^ (hi a ^^^ lo b) = 0#16 := by rw [← BitVec.xor_assoc]; exact h2
    exact BitVec.xor_eq_zero_iff.1 h3
  · intro h
    rw [uv_inj h]
    rw [BitVec.xor_assoc, BitVec.xor_self, z, z]

theorem sum12 {l : List Int} (hl : l.length = 12) (hr : InB l) : uv (sm 0xFFFF#16 (l.take 10)) = wd l 10 ↔ sm 0xFFFF#16 l = 0#16 := by
  have h10 := getD_in hr 10
  have h11 := getD_in hr 11
  have e : l = l.take 10 ++ [l[10]?.getD 0, l[11]?.getD 0] := by
    obtain ⟨z0, z1, z2, z3, z4, z5, z6, z7, z8, z9, z10, z11, rfl⟩ := list12 l hl
    rfl
  have e2 : sm 0xFFFF#16 l = sm (sm 0xFFFF#16 (l.take 10)) [l[10]?.getD 0, l[11]?.getD 0] := by
    rw [← sm_append, ← e]
  rw [e2, two_zero _ _ _ h10 h11]
  rfl

theorem enc_zero (t : Tl) (h : t.In) : sm 0xFFFF#16 (enc t) = 0#16 := by
  rw [← sum12 (enc_len t) (enc_in t h), wd_enc]
  rfl

theorem dcode_bad {l : List Int} (hl : l.length = 12) (hr : InB l) (h : sm 0xFFFF#16 l ≠ 0#16) : dcode l = (if l[0]?.getD 0 = 165 then 22 else 21) ∧ dtele l = tz := by
  have e : dcode l = (if l[0]?.getD 0 = 165 then 22 else 21) := by
    unfold dcode
    rw [if_pos hl, if_neg (fun q => h ((sum12 hl hr).1 q))]
  refine ⟨e, ?_⟩
  unfold dtele
  rw [e]
  split <;> rfl

theorem tb_tb (z : Int) (j : Nat) (h : 0 ≤ z ∧ z ≤ 255) : tb (tb z j) j = z := by
  unfold tb
  rw [xor8 z, xor8]
  generalize BitVec.ofInt 8 (128 / 2 ^ j) = y
  have e : ∀ x : BitVec 8, BitVec.ofInt 8 (x.toNat : Int) = x := fun x => by apply BitVec.eq_of_toNat_eq; simp
  rw [e]
  rw [BitVec.xor_assoc, BitVec.xor_self, BitVec.xor_zero]
  simp [BitVec.toNat_ofInt]
  omega
theorem turn_turn {l : List Int} (hr : InB l) (i : Nat) (hi : i < 8 * l.length) : turn (turn l i) i = l := by
  unfold turn
  have h8 : i / 8 < l.length := by omega
  rw [List.set_set]
  simp only [List.getElem?_set_self h8, Option.getD_some]
  rw [tb_tb _ _ (getD_in hr _)]
  rw [List.getElem?_eq_getElem h8, Option.getD_some, List.set_getElem_self]

end Go.Proofs.Ytglleofhcokeiaa
