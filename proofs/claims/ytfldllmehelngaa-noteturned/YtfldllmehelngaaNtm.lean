/- Turned bits: what they change in a sum; a note's bytes have the sum 0; with one, two or three bits turned behind the first byte they are none's. No Go here. -/
import Derived.Test.YtfldllmehelngaaNmt
import Derived.Test.YtfldllmehelngaaOrder
namespace Go.Proofs.Ytfldllmehelngaa
set_option linter.unusedVariables false

/-- a byte with its bit j turned, the highest one first -/
def tb (z : Int) (j : Nat) : Int := bits .xor .u8 z (128 / 2 ^ j)

/-- a list of bytes with its bit i turned -/
def turn (l : List Int) (i : Nat) : List Int := l.set (i / 8) (tb (l[i / 8]?.getD 0) (i % 8))

theorem turn_length (l : List Int) (i : Nat) : (turn l i).length = l.length := by simp [turn]

theorem wrap_nat8 (x : BitVec 8) : IntKind.u8.wrap (x.toNat : Int) = (x.toNat : Int) := by
  unfold IntKind.wrap; simp [IntKind.bits, IntKind.signed]; omega
theorem xor8 (z m : Int) : bits .xor .u8 z m = ((BitVec.ofInt 8 z ^^^ BitVec.ofInt 8 m).toNat : Int) := wrap_nat8 _

theorem tb_bd (z : Int) (j : Nat) : 0 ≤ tb z j ∧ tb z j ≤ 255 := by
  unfold tb; rw [xor8]
  have := (BitVec.ofInt 8 z ^^^ BitVec.ofInt 8 (128 / 2 ^ j)).isLt
  omega

def up (x : BitVec 8) : BitVec 16 := (x.setWidth 16) <<< 8
theorem up_xor (x y : BitVec 8) : up (x ^^^ y) = up x ^^^ up y := by
  unfold up
  apply BitVec.eq_of_getLsbD_eq; intro i hi
  simp only [BitVec.getLsbD_shiftLeft, BitVec.getLsbD_xor, BitVec.getLsbD_setWidth]
  cases decide (i < 16) <;> cases decide (i < 8) <;> cases decide (i - 8 < 16) <;> simp
theorem hi_up (z : Int) : hi z = up (BitVec.ofInt 8 z) := by
  unfold hi up
  apply BitVec.eq_of_toNat_eq
  simp [Nat.shiftLeft_eq, BitVec.toNat_ofInt]
  omega
theorem hi_xor (z m : Int) : hi (bits .xor .u8 z m) = hi z ^^^ hi m := by
  rw [hi_up, hi_up z, hi_up m, ← up_xor, xor8]
  congr 1
  generalize BitVec.ofInt 8 z ^^^ BitVec.ofInt 8 m = x
  apply BitVec.eq_of_toNat_eq
  simp
theorem hi_bit : ∀ j, j < 8 → hi (128 / 2 ^ j) = pw (15 - j) 1#16 := by decide +kernel

theorem stp_tb (c : BitVec 16) (z : Int) (j : Nat) (hj : j < 8) : stp c (tb z j) = stp c z ^^^ chg (7 - j) := by
  unfold stp tb
  rw [hi_xor, ← BitVec.xor_assoc, pw_xor, hi_bit j hj, ← pw_add, chg_pw]
  rw [show 15 - j + 8 = 16 + (7 - j) by omega]

theorem sm_turn (c : BitVec 16) (l : List Int) (i : Nat) (hi : i < 8 * l.length) : sm c (turn l i) = sm c l ^^^ chg (8 * l.length - 1 - i) := by
  induction l generalizing c i with
  | nil => simp at hi
  | cons z l ih =>
    rw [List.length_cons] at hi
    by_cases h8 : i < 8
    · have e0 : i / 8 = 0 := by omega
      have e1 : i % 8 = i := by omega
      unfold turn
      rw [e0, e1]
      simp only [List.getElem?_cons_zero, Option.getD_some, List.set_cons_zero, sm]
      rw [stp_tb c z i h8, sm_xor, chg, chg, ← pw_add, List.length_cons]
      rw [show 7 - i + 8 * l.length = 8 * (l.length + 1) - 1 - i by omega]
    · have e0 : i / 8 = (i - 8) / 8 + 1 := by omega
      have e1 : i % 8 = (i - 8) % 8 := by omega
      have := ih (stp c z) (i - 8) (by omega)
      unfold turn at this ⊢
      rw [e0, e1]
      simp only [List.getElem?_cons_succ, List.set_cons_succ, sm]
      rw [this, List.length_cons]
      rw [show 8 * l.length - 1 - (i - 8) = 8 * (l.length + 1) - 1 - i by omega]

theorem turn_in {l : List Int} (h : InB l) (i : Nat) : InB (turn l i) := by
  intro z hz
  unfold turn at hz
  rcases List.mem_or_eq_of_mem_set hz with h' | rfl
  · exact h z h'
  · exact tb_bd _ _


theorem xor_cancel {a b c : BitVec 16} (h : a ^^^ b = a ^^^ c) : b = c := by
  have := congrArg (fun x => a ^^^ x) h
  simpa [← BitVec.xor_assoc] using this


def parf : Nat → BitVec 16 → Bool
  | 0, _ => false
  | n + 1, x => x.getLsbD n ^^ parf n x
def par (x : BitVec 16) : Bool := parf 16 x

theorem parf_xor (n : Nat) (x y : BitVec 16) : parf n (x ^^^ y) = (parf n x ^^ parf n y) := by
  induction n with
  | zero => rfl
  | succ n ih =>
    simp only [parf]
    rw [ih, BitVec.getLsbD_xor]
    cases x.getLsbD n <;> cases y.getLsbD n <;> cases parf n x <;> cases parf n y <;> rfl
theorem par_xor (x y : BitVec 16) : par (x ^^^ y) = (par x ^^ par y) := parf_xor 16 x y

def one? (b : Bool) : BitVec 16 := if b then 1#16 else 0#16
theorem one?_xor (a b : Bool) : one? (a ^^ b) = one? a ^^^ one? b := by cases a <;> cases b <;> rfl
theorem one?_inj {a b : Bool} (h : one? a = one? b) : a = b := by revert h; cases a <;> cases b <;> decide

theorem par_sh (x : BitVec 16) : par (sh x) = par x := by
  apply one?_inj
  refine lin_ext (fun x => one? (par (sh x))) (fun x => one? (par x)) (fun a b => ?_) (fun a b => ?_) (fun i hi => ?_) x
  · rw [sh_xor, par_xor, one?_xor]
  · rw [par_xor, one?_xor]
  · revert i; decide +kernel

theorem par_pw (n : Nat) (x : BitVec 16) : par (pw n x) = par x := by
  induction n generalizing x with
  | zero => rfl
  | succ n ih => simp only [pw]; rw [ih, par_sh]

theorem par_chg (m : Nat) : par (chg m) = true := by unfold chg; rw [par_pw]; decide +kernel

def par8 (z : Int) : Bool := par (hi z)
theorem par8_xor (z y : Int) : par8 (bits .xor .u8 z y) = (par8 z ^^ par8 y) := by unfold par8; rw [hi_xor, par_xor]

def sumPar : List Int → Bool
  | [] => false
  | z :: l => par8 z ^^ sumPar l
theorem sumPar_append (a b : List Int) : sumPar (a ++ b) = (sumPar a ^^ sumPar b) := by
  induction a with
  | nil => simp [sumPar]
  | cons z a ih => simp only [List.cons_append, sumPar]; rw [ih, Bool.xor_assoc]

theorem par_sm (c : BitVec 16) (l : List Int) : par (sm c l) = (par c ^^ sumPar l) := by
  induction l generalizing c with
  | nil => simp [sm, sumPar]
  | cons z l ih =>
    simp only [sm, sumPar]
    rw [ih, stp, par_pw, par_xor, Bool.xor_assoc]
    rfl

theorem sumPar_snoc (l : List Int) (k : Nat) (h : k < l.length) : sumPar (l.take (k + 1)) = (sumPar (l.take k) ^^ par8 (l[k]?.getD 0)) := by
  rw [List.take_succ_eq_append_getElem h, sumPar_append]
  simp [sumPar, h]

/-- one one less -/
theorem ones_step : ∀ t : Nat, t < 256 → t ≠ 0 → par8 (bits .and .u8 (t : Int) ((t : Int) - 1)) = !(par8 (t : Int)) ∧ 0 ≤ bits .and .u8 (t : Int) ((t : Int) - 1) ∧ bits .and .u8 (t : Int) ((t : Int) - 1) < (t : Int) := by
  decide +kernel

theorem par8_zero : par8 0 = false := by decide +kernel

/-- sums of other parity are other sums -/
theorem ne_of_par {a b : BitVec 16} (h : par a ≠ par b) : a ≠ b := fun e => h (by rw [e])

theorem turn1_ne (l : List Int) (i : Nat) (hi : i < 8 * l.length) : sm 0xFFFF#16 (turn l i) ≠ sm 0xFFFF#16 l := by
  apply ne_of_par
  rw [sm_turn _ _ _ hi, par_xor, par_chg]
  cases par (sm 0xFFFF#16 l) <;> decide

theorem turn3_ne (l : List Int) (i j k : Nat) (hi : i < 8 * l.length) (hj : j < 8 * l.length) (hk : k < 8 * l.length) : sm 0xFFFF#16 (turn (turn (turn l i) j) k) ≠ sm 0xFFFF#16 l := by
  apply ne_of_par
  rw [sm_turn _ _ _ (by rw [turn_length, turn_length]; exact hk), sm_turn _ _ _ (by rw [turn_length]; exact hj), sm_turn _ _ _ hi, par_xor, par_xor, par_xor, par_chg, par_chg, par_chg]
  cases par (sm 0xFFFF#16 l) <;> decide

theorem turn2_iff (l : List Int) (hm : l.length ≤ 4000) (i j : Nat) (hi : i < 8 * l.length) (hj : j < 8 * l.length) : sm 0xFFFF#16 (turn (turn l i) j) = sm 0xFFFF#16 l ↔ i = j := by
  rw [sm_turn _ _ _ (by rw [turn_length]; exact hj), sm_turn _ _ _ hi, turn_length, BitVec.xor_assoc]
  constructor
  · intro h
    have h2 : sm 0xFFFF#16 l ^^^ (chg (8 * l.length - 1 - i) ^^^ chg (8 * l.length - 1 - j)) = sm 0xFFFF#16 l ^^^ 0#16 := by rw [h]; simp
    have := chg_inj (by omega) (by omega) (xor_eq_zero (xor_cancel h2))
    omega
  · rintro rfl
    simp


theorem getD_in {l : List Int} (h : InB l) (i : Nat) : 0 ≤ l[i]?.getD 0 ∧ l[i]?.getD 0 ≤ 255 := by
  rcases Nat.lt_or_ge i l.length with h' | h'
  · rw [List.getElem?_eq_getElem h']; exact h _ (List.getElem_mem h')
  · rw [List.getElem?_eq_none h']; simp


def lo (b : Int) : BitVec 16 := BitVec.ofInt 16 b
theorem lo_hi_nat : ∀ b : Nat, b < 256 → pw 8 (BitVec.ofNat 16 b) = hi (b : Int) := by decide +kernel
theorem lo_hi (b : Int) (h : 0 ≤ b ∧ b ≤ 255) : pw 8 (lo b) = hi b := by
  obtain ⟨n, rfl⟩ := Int.eq_ofNat_of_zero_le h.1
  exact lo_hi_nat n (by omega)

theorem uv_hilo (a b : Int) (ha : 0 ≤ a ∧ a ≤ 255) (hb : 0 ≤ b ∧ b ≤ 255) : uv (hi a ^^^ lo b) = a * 256 + b := by
  obtain ⟨n, rfl⟩ := Int.eq_ofNat_of_zero_le ha.1
  obtain ⟨m, rfl⟩ := Int.eq_ofNat_of_zero_le hb.1
  have hn : n < 256 := by omega
  have hm : m < 2 ^ 8 := by omega
  have e : hi (n : Int) ^^^ lo (m : Int) = BitVec.ofNat 16 (2 ^ 8 * n + m) := by
    have e1 : hi (n : Int) = BitVec.ofNat 16 (2 ^ 8 * n) := by
      unfold hi
      rw [show ((n : Int) * 256) = ((2 ^ 8 * n : Nat) : Int) by omega]; rfl
    have e2 : lo (m : Int) = BitVec.ofNat 16 m := rfl
    rw [e1, e2]
    apply BitVec.eq_of_getLsbD_eq
    intro i hi
    rw [BitVec.getLsbD_xor, BitVec.getLsbD_ofNat, BitVec.getLsbD_ofNat, BitVec.getLsbD_ofNat]
    have t1 : (2 ^ 8 * n + m).testBit i = if i < 8 then m.testBit i else n.testBit (i - 8) := Nat.testBit_two_pow_mul_add n hm i
    have t2 : (2 ^ 8 * n).testBit i = if i < 8 then false else n.testBit (i - 8) := by
      have := Nat.testBit_two_pow_mul_add n (b := 0) (i := 8) (by decide) i
      simpa using this
    have t3 : ¬ i < 8 → m.testBit i = false := fun h => Nat.testBit_lt_two_pow (Nat.lt_of_lt_of_le hm (Nat.pow_le_pow_right (by omega) (by omega)))
    rw [t1, t2]
    by_cases h : i < 8
    · simp [h]
    · simp [h, t3 h]
  rw [e]
  unfold uv
  rw [BitVec.toNat_ofNat, Nat.mod_eq_of_lt (by omega)]
  omega

theorem two_zero (c : BitVec 16) (a b : Int) (ha : 0 ≤ a ∧ a ≤ 255) (hb : 0 ≤ b ∧ b ≤ 255) : sm c [a, b] = 0#16 ↔ uv c = a * 256 + b := by
  have e : sm c [a, b] = pw 8 (pw 8 (c ^^^ hi a ^^^ lo b)) := by
    show pw 8 (pw 8 (c ^^^ hi a) ^^^ hi b) = _
    rw [pw_xor 8 (c ^^^ hi a) (lo b), lo_hi b hb]
  have z : pw 8 0#16 = 0#16 := by decide +kernel
  rw [e, ← uv_hilo a b ha hb]
  constructor
  · intro h
    have h1 : pw 8 (pw 8 (c ^^^ hi a ^^^ lo b)) = pw 8 (pw 8 0#16) := by rw [h, z, z]
    have h2 := pw_inj (pw_inj h1)
    congr 1
    have h3 : c ^^^ (hi a ^^^ lo b) = 0#16 := by rw [← BitVec.xor_assoc]; exact h2
    exact BitVec.xor_eq_zero_iff.1 h3
  · intro h
    rw [uv_inj h]
    rw [BitVec.xor_assoc, BitVec.xor_self, z, z]


theorem tb_tb (z : Int) (j : Nat) (h : 0 ≤ z ∧ z ≤ 255) : tb (tb z j) j = z := by
  unfold tb
  rw [xor8 z, xor8]
  generalize BitVec.ofInt 8 (128 / 2 ^ j) = y
  have e : ∀ x : BitVec 8, BitVec.ofInt 8 (x.toNat : Int) = x := fun x => by apply BitVec.eq_of_toNat_eq; simp
  rw [e]
  rw [BitVec.xor_assoc, BitVec.xor_self, BitVec.xor_zero]
  simp [BitVec.toNat_ofInt]
  omega
theorem turn_turn {l : List Int} (hr : InB l) (i : Nat) (hi : i < 8 * l.length) : turn (turn l i) i = l := by
  unfold turn
  have h8 : i / 8 < l.length := by omega
  rw [List.set_set]
  simp only [List.getElem?_set_self h8, Option.getD_some]
  rw [tb_tb _ _ (getD_in hr _)]
  rw [List.getElem?_eq_getElem h8, Option.getD_some, List.set_getElem_self]


theorem bts_zero {n : Nt} (h : n.ok = true) : sm 0xFFFF#16 n.bts = 0#16 := by
  have h0 := uv_lo (sm 0xFFFF#16 n.head)
  have h1 := uv_hi (sm 0xFFFF#16 n.head)
  unfold Nt.bts w2
  rw [sm_append, two_zero _ _ _ (by omega) (by omega)]
  omega
/-- bytes of the same length and with the same first byte, whose sum isn't 0, begin with no note's -/
theorem no_fst {n : Nt} (h : n.ok = true) {c : List Int} (hl : c.length = n.bts.length) (h0 : c[0]? = n.bts[0]?) (hs : sm 0xFFFF#16 c ≠ 0#16) : ∀ m, ¬ Fst c m := by
  rintro m ⟨hm, r, rfl⟩
  apply hs
  have e0 : (m.bts ++ r)[0]? = some (m.body.length : Int) := rfl
  rw [e0, bts_first] at h0
  simp only [Option.some.injEq] at h0
  rw [List.length_append, bts_len, bts_len] at hl
  have hr : r = [] := List.eq_nil_of_length_eq_zero (by omega)
  rw [hr, List.append_nil]
  exact bts_zero hm
theorem turn_first {l : List Int} {i : Nat} (h : 8 ≤ i) : (turn l i)[0]? = l[0]? := by
  unfold turn
  rw [List.getElem?_set, if_neg (by omega)]
/-- what came of a note's bytes: they themselves, or none's -/
def Trn (l c : List Int) : Prop := c = l ∨ (c ≠ l ∧ ∀ m, ¬ Fst c m)
theorem trn_of {n : Nt} (h : n.ok = true) {c : List Int} (hl : c.length = n.bts.length) (h0 : c[0]? = n.bts[0]?) (hs : sm 0xFFFF#16 c ≠ sm 0xFFFF#16 n.bts) : Trn n.bts c :=
  .inr ⟨fun e => hs (by rw [e]), no_fst h hl h0 (by rw [← bts_zero h]; exact hs)⟩
theorem trn1 {n : Nt} (h : n.ok = true) {i : Nat} (hi : 8 ≤ i ∧ i < 8 * n.bts.length) : Trn n.bts (turn n.bts i) :=
  trn_of h (turn_length _ _) (turn_first hi.1) (turn1_ne _ _ hi.2)
theorem trn2 {n : Nt} (h : n.ok = true) {i j : Nat} (hi : 8 ≤ i ∧ i < 8 * n.bts.length) (hj : 8 ≤ j ∧ j < 8 * n.bts.length) : Trn n.bts (turn (turn n.bts i) j) := by
  by_cases e : i = j
  · subst e
    exact .inl (turn_turn (bts_in h) i hi.2)
  · have hb := bts_len5 h
    exact trn_of h (by rw [turn_length, turn_length]) (by rw [turn_first hj.1, turn_first hi.1]) (fun q => e ((turn2_iff _ (by omega) i j hi.2 hj.2).1 q))
theorem trn3 {n : Nt} (h : n.ok = true) {i j k : Nat} (hi : 8 ≤ i ∧ i < 8 * n.bts.length) (hj : 8 ≤ j ∧ j < 8 * n.bts.length) (hk : 8 ≤ k ∧ k < 8 * n.bts.length) : Trn n.bts (turn (turn (turn n.bts i) j) k) :=
  trn_of h (by rw [turn_length, turn_length, turn_length]) (by rw [turn_first hk.1, turn_first hj.1, turn_first hi.1]) (turn3_ne _ _ _ _ hi.2 hj.2 hk.2)
end Go.Proofs.Ytfldllmehelngaa
