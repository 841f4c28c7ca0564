/- Parity: a step keeps it, a turned bit turns it; the ones of a byte. -/
import Derived.Test.YtglleofhcokeiaaFind
namespace Go.Proofs.Ytglleofhcokeiaa
open Go.ChangeShapes Go.WideShapes Go.ChangeAt Go.RowKit

def parf : Nat → BitVec 16 → Bool
  | 0, _ => false
  | n + 1, x => x.getLsbD n ^^ parf n x
def par (x : BitVec 16) : Bool := parf 16 x

theorem parf_xor (n : Nat) (x y : BitVec 16) : parf n (x ^^^ y) = (parf n x ^^ parf n y) := by
  induction n with
  | zero => rfl
  | succ n ih =>
    simp only [parf]
    rw [ih, BitVec.getLsbD_xor]
    cases x.getLsbD n <;> cases y.getLsbD n <;> cases parf n x <;> cases parf n y <;> rfl
theorem par_xor (x y : BitVec 16) : par (x ^^^ y) = (par x ^^ par y) := parf_xor 16 x y

def one? (b : Bool) : BitVec 16 := if b then 1#16 else 0#16
theorem one?_xor (a b : Bool) : one? (a ^^ b) = one? a ^^^ one? b := by cases a <;> cases b <;> rfl
theorem one?_inj {a b : Bool} (h : one? a = one? b) : a = b := by revert h; cases a <;> cases b <;> decide

theorem par_sh (x : BitVec 16) : par (sh x) = par x := by
  apply one?_inj
  refine lin_ext (fun x => one? (par (sh x))) (fun x => one? (par x)) (fun a b => ?_) (fun a b => ?_) (fun i hi => ?_) x
  · rw [sh_xor, par_xor, one?_xor]
  · rw [par_xor, one?_xor]
  · revert i; decide +kernel

theorem par_pw (n : Nat) (x : BitVec 16) : par (pw n x) = par x := by
  induction n generalizing x with
  | zero => rfl
  | succ n ih => simp only [pw]; rw [ih, par_sh]

theorem par_chg (m : Nat) : par (chg m) = true := by unfold chg; rw [par_pw]; decide +kernel

def par8 (z : Int) : Bool := par (hi z)
theorem par8_xor (z y : Int) : par8 (bits .xor .u8 z y) = (par8 z ^^ par8 y) := by unfold par8; rw [hi_xor, par_xor]

def sumPar : List Int → Bool
  | [] => false
  | z :: l => par8 z ^^ sumPar l
theorem sumPar_append (a b : List Int) : sumPar (a ++ b) = (sumPar a ^^ sumPar b) := by
  induction a with
  | nil => simp [sumPar]
  | cons z a ih => simp only [List.cons_append, sumPar]; rw [ih, Bool.xor_assoc]

theorem par_sm (c : BitVec 16) (l : List Int) : par (sm c l) = (par c ^^ sumPar l) := by
  induction l generalizing c with
  | nil => simp [sm, sumPar]
  | cons z l ih =>
    simp only [sm, sumPar]
    rw [ih, stp, par_pw, par_xor, Bool.xor_assoc]
    rfl

theorem sumPar_snoc (l : List Int) (k : Nat) (h : k < l.length) : sumPar (l.take (k + 1)) = (sumPar (l.take k) ^^ par8 (l[k]?.getD 0)) := by
  rw [List.take_succ_eq_append_getElem h, sumPar_append]
  simp [sumPar, h]


/-- one one less -/
theorem ones_step : ∀ t : Nat, t < 256 → t ≠ 0 → par8 (bits .and .u8 (t : Int) ((t : Int) - 1)) = !(par8 (t : Int)) ∧ 0 ≤ bits .and .u8 (t : Int) ((t : Int) - 1) ∧ bits .and .u8 (t : Int) ((t : Int) - 1) < (t : Int) := by
  decide +kernel

theorem par8_zero : par8 0 = false := by decide +kernel


/-- sums of other parity are other sums -/
theorem ne_of_par {a b : BitVec 16} (h : par a ≠ par b) : a ≠ b := fun e => h (by rw [e])

theorem turn1_ne (l : List Int) (i : Nat) (hi : i < 8 * l.length) : sm 0xFFFF#16 (turn l i) ≠ sm 0xFFFF#16 l := by
  apply ne_of_par
  rw [sm_turn _ _ _ hi, par_xor, par_chg]
  cases par (sm 0xFFFF#16 l) <;> decide

theorem turn3_ne (l : List Int) (i j k : Nat) (hi : i < 8 * l.length) (hj : j < 8 * l.length) (hk : k < 8 * l.length) : sm 0xFFFF#16 (turn (turn (turn l i) j) k) ≠ sm 0xFFFF#16 l := by
  apply ne_of_par
  rw [sm_turn _ _ _ (by rw [turn_length, turn_length]; exact hk), sm_turn _ _ _ (by rw [turn_length]; exact hj), sm_turn _ _ _ hi, par_xor, par_xor, par_xor, par_chg, par_chg, par_chg]
  cases par (sm 0xFFFF#16 l) <;> decide

theorem turn2_iff (l : List Int) (hm : l.length ≤ 4000) (i j : Nat) (hi : i < 8 * l.length) (hj : j < 8 * l.length) : sm 0xFFFF#16 (turn (turn l i) j) = sm 0xFFFF#16 l ↔ i = j := by
  rw [sm_turn _ _ _ (by rw [turn_length]; exact hj), sm_turn _ _ _ hi, turn_length, BitVec.xor_assoc]
  constructor
  · intro h
    have h2 : sm 0xFFFF#16 l ^^^ (chg (8 * l.length - 1 - i) ^^^ chg (8 * l.length - 1 - j)) = sm 0xFFFF#16 l ^^^ 0#16 := by rw [h]; simp
    have := chg_inj (by omega) (by omega) (xor_eq_zero (xor_cancel h2))
    omega
  · rintro rfl
    simp


/-- the bit that was turned is found -/
theorem found {l : List Int} {k : Nat} (hk : k < 8 * l.length) : Fnd (turn l k) (sm 0xFFFF#16 l) k 0 := by
  refine .inr (.inl ⟨turn1_ne l k hk, k, by rw [turn_length]; exact hk, rfl, rfl, ?_⟩)
  rw [sm_turn _ _ _ (by rw [turn_length]; exact hk), sm_turn _ _ _ hk, turn_length, BitVec.xor_assoc]
  simp

end Go.Proofs.Ytglleofhcokeiaa
