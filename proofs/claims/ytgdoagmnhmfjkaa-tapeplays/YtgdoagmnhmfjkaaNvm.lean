/- What digits by 128 make. No Go here. -/
import Derived.Test.YtgdoagmnhmfjkaaNmt
namespace Go.Proofs.Ytgdoagmnhmfjkaa
set_option linter.unusedVariables false

def val : List Int → Nat
  | [] => 0
  | z :: t => (z % 128).toNat + 128 * val t
theorem val_snoc (p : List Int) (d : Int) : val (p ++ [d]) = val p + (d % 128).toNat * 128 ^ p.length := by
  induction p with
  | nil => simp [val]
  | cons z p ih =>
    rw [List.cons_append, val, ih, val, List.length_cons, Nat.pow_succ, Nat.mul_add]
    have : 128 * ((d % 128).toNat * 128 ^ p.length) = (d % 128).toNat * (128 ^ p.length * 128) := by rw [Nat.mul_left_comm, Nat.mul_comm 128]
    omega
theorem val_lt (p : List Int) : val p < 128 ^ p.length := by
  induction p with
  | nil => simp [val]
  | cons z p ih =>
    rw [val, List.length_cons, Nat.pow_succ]
    omega
theorem num_shape (n : Nat) : ∃ p d, num n = p ++ [d] ∧ (∀ z ∈ p, 128 ≤ z) ∧ 0 ≤ d ∧ d < 128 ∧ (p ≠ [] → d ≠ 0) ∧ (n = 0 → p = []) ∧ (n ≠ 0 → d ≠ 0) := by
  induction n using Nat.strongRecOn with
  | _ n ih =>
    rcases Nat.lt_or_ge n 128 with h | h
    · exact ⟨[], n, by rw [num_low h]; rfl, by simp, by omega, by omega, by simp, by simp, by omega⟩
    · obtain ⟨p, d, e, h1, h2, h3, h4, h5, h6⟩ := ih (n / 128) (by omega)
      refine ⟨((n % 128 + 128 : Nat) : Int) :: p, d, by rw [num_high h, e]; rfl, ?_, h2, h3, fun _ => h6 (by omega), fun q => by omega, fun _ => h6 (by omega)⟩
      intro z hz
      rcases List.mem_cons.1 hz with rfl | hz
      · omega
      · exact h1 z hz
theorem val_pos (p : List Int) (d : Int) (h0 : 0 ≤ d) (h1 : d < 128) (hd : d ≠ 0) : 1 ≤ val (p ++ [d]) := by
  rw [val_snoc]
  have : 1 ≤ (d % 128).toNat := by omega
  have h2 : 0 < 128 ^ p.length := Nat.pow_pos (by omega)
  have := Nat.mul_le_mul this h2
  omega
theorem num_val (p : List Int) (d : Int) (hp : ∀ z ∈ p, 128 ≤ z ∧ z ≤ 255) (h0 : 0 ≤ d) (h1 : d < 128) (hd : p ≠ [] → d ≠ 0) : num (val (p ++ [d])) = p ++ [d] := by
  induction p with
  | nil =>
    have e : val ([] ++ [d]) = d.toNat := by simp [val]; omega
    rw [e, num_low (by omega)]
    simp; omega
  | cons z p ih =>
    have hz := hp z (by simp)
    have hne := hd (by simp)
    have h2 := val_pos p d h0 h1 hne
    have ih' := ih (fun y hy => hp y (by simp [hy])) (fun _ => hne)
    have e : val (z :: p ++ [d]) = (z % 128).toNat + 128 * val (p ++ [d]) := rfl
    rw [e, num_high (by omega)]
    have e1 : ((z % 128).toNat + 128 * val (p ++ [d])) / 128 = val (p ++ [d]) := by omega
    have e2 : (((((z % 128).toNat + 128 * val (p ++ [d])) % 128 + 128 : Nat)) : Int) = z := by omega
    rw [e1, e2, ih']
    rfl

/-- what number answers -/
def NumP (l : List Int) (v s : Int) : Prop :=
  (∃ n : Nat, n < 34359738368 ∧ v = n ∧ s = (num n).length ∧ ∃ r, l = num n ++ r) ∨ (v = 0 ∧ s = 0 ∧ ∀ n, n < 34359738368 → ∀ r, l ≠ num n ++ r)
theorem take_snoc {l : List Int} {i : Nat} {z : Int} (hz : l[i]? = some z) : l.take (i + 1) = l.take i ++ [z] := by rw [List.take_add_one, hz]; rfl
/-- the number ends here -/
theorem numP_yes {l : List Int} {i : Nat} {z : Int} (hr : InB l) (hi : i < 5) (hp : ∀ y ∈ l.take i, 128 ≤ y) (hz : l[i]? = some z) (h1 : z < 128) (hd : 0 < i → z ≠ 0) (hil : i < l.length) : NumP l (val (l.take (i + 1)) : Nat) ((i + 1 : Nat) : Int) := by
  have h0 := hr.at hz
  have hl : (l.take i).length = i := by rw [List.length_take]; omega
  have e := num_val (l.take i) z (fun y hy => ⟨hp y hy, (hr y (List.mem_of_mem_take hy)).2⟩) h0.1 h1 (fun q => hd (by
    rcases Nat.eq_zero_or_pos i with q' | q'
    · rw [q'] at q; simp at q
    · exact q'))
  rw [← take_snoc hz] at e
  refine .inl ⟨_, ?_, rfl, ?_, l.drop (i + 1), ?_⟩
  · have := val_lt (l.take (i + 1))
    rw [List.length_take] at this
    have h2 : 128 ^ min (i + 1) l.length ≤ 128 ^ 5 := Nat.pow_le_pow_right (by omega) (by omega)
    have h3 : 128 ^ 5 = 34359738368 := by decide
    omega
  · rw [e, List.length_take]; omega
  · rw [e, List.take_append_drop]
theorem num_first {l r : List Int} {n : Nat} (e : l = num n ++ r) : ∃ j d, l[j]? = some d ∧ j + 1 = (num n).length ∧ d < 128 ∧ (∀ i y, i < j → l[i]? = some y → 128 ≤ y) ∧ (0 < j → d ≠ 0) := by
  obtain ⟨p, d, h, h1, h2, h3, h4, _⟩ := num_shape n
  refine ⟨p.length, d, by rw [e, h]; simp, by rw [h]; simp, h3, fun i y hi hy => ?_, fun q => h4 (by intro e; rw [e] at q; simp at q)⟩
  rw [e, h, List.append_assoc, List.getElem?_append_left hi] at hy
  exact h1 y (List.mem_of_getElem? hy)
/-- a last digit 0 that isn't wanted -/
theorem numP_zero {l : List Int} {i : Nat} (hi : 0 < i) (hp : ∀ y ∈ l.take i, 128 ≤ y) (hz : l[i]? = some 0) : NumP l 0 0 := by
  refine .inr ⟨rfl, rfl, fun n hn r e => ?_⟩
  obtain ⟨j, d, h1, h2, h3, h4, h5⟩ := num_first e
  have hj : i = j := by
    rcases Nat.lt_trichotomy i j with q | q | q
    · have := h4 i 0 q hz; omega
    · exact q
    · have := hp d (List.mem_of_getElem? (i := j) (by rw [List.getElem?_take_of_lt q]; exact h1)); omega
  subst hj
  rw [hz] at h1
  simp at h1
  exact h5 hi h1.symm
/-- no last digit -/
theorem numP_none {l : List Int} {i : Nat} (hi : i = l.length ∨ i = 5) (hp : ∀ y ∈ l.take i, 128 ≤ y) : NumP l 0 0 := by
  refine .inr ⟨rfl, rfl, fun n hn r e => ?_⟩
  obtain ⟨j, d, h1, h2, h3, h4, h5⟩ := num_first e
  have h6 := num_five hn
  have hj : j < l.length := by
    rcases Nat.lt_or_ge j l.length with q | q
    · exact q
    · rw [List.getElem?_eq_none q] at h1; cases h1
  have := hp d (List.mem_of_getElem? (i := j) (by rw [List.getElem?_take_of_lt (by omega)]; exact h1))
  omega
theorem take_more {l : List Int} {i : Nat} {z : Int} (hp : ∀ y ∈ l.take i, 128 ≤ y) (hz : l[i]? = some z) (h : 128 ≤ z) : ∀ y ∈ l.take (i + 1), 128 ≤ y := by
  rw [take_snoc hz]
  intro y hy
  rcases List.mem_append.1 hy with q | q
  · exact hp y q
  · simp at q; omega
theorem val_more {l : List Int} {i : Nat} {z : Int} (hz : l[i]? = some z) (hi : i < l.length) : (val (l.take (i + 1)) : Int) = val (l.take i) + z % 128 * (128 ^ i : Nat) := by
  rw [take_snoc hz, val_snoc, List.length_take, Nat.min_eq_left (by omega)]
  rw [Int.natCast_add, Int.natCast_mul, Int.toNat_of_nonneg (Int.emod_nonneg _ (by omega))]
theorem wrap_i64 (z : Int) (h0 : 0 ≤ z) (h1 : z < 9223372036854775808) : IntKind.i64.wrap z = z := by
  unfold IntKind.wrap; simp [IntKind.bits, IntKind.signed]; omega
theorem or_add (x y k : Nat) (hx : x < 2 ^ k) (hy : y * 2 ^ k < 2 ^ 63) (hk : k ≤ 60) : bits .or .i64 (x : Int) ((y : Int) * ((2 ^ k : Nat) : Int)) = (x : Int) + (y : Int) * ((2 ^ k : Nat) : Int) := by
  have hk2 : 2 ^ k ≤ 2 ^ 60 := Nat.pow_le_pow_right (by omega) hk
  have e0 : (y : Int) * ((2 ^ k : Nat) : Int) = ((y * 2 ^ k : Nat) : Int) := by rw [Int.natCast_mul]
  rw [e0]
  have h1 : bits .or .i64 (x : Int) ((y * 2 ^ k : Nat) : Int) = IntKind.i64.wrap (((x ||| y * 2 ^ k : Nat)) : Int) := by
    show IntKind.i64.wrap ((BitVec.ofInt 64 (x : Int) ||| BitVec.ofInt 64 ((y * 2 ^ k : Nat) : Int)).toNat : Int) = _
    rw [BitVec.ofInt_natCast, BitVec.ofInt_natCast, BitVec.toNat_or, BitVec.toNat_ofNat, BitVec.toNat_ofNat, Nat.mod_eq_of_lt (by omega), Nat.mod_eq_of_lt (by omega)]
  have h2 : x ||| y * 2 ^ k = x + y * 2 ^ k := by
    have := Nat.two_pow_add_eq_or_of_lt hx y
    rw [Nat.or_comm, Nat.mul_comm y, ← this, Nat.add_comm]
  have h3 : x + y * 2 ^ k < 2 ^ 63 := by
    have : x ||| y * 2 ^ k < 2 ^ 63 := Nat.or_lt_two_pow (by omega) hy
    omega
  rw [h1, h2, wrap_i64 _ (by omega) (by omega), Int.natCast_add]
end Go.Proofs.Ytgdoagmnhmfjkaa
