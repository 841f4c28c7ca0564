/- Plain mathematics of the sums: a step by one bit is linear; powers of it; products; the order of x. No Go here. -/
namespace Go.Proofs.Ytgdoagmnhmfjkaa

def sh (x : BitVec 16) : BitVec 16 := if x.msb then (x <<< 1) ^^^ 0x1021#16 else x <<< 1

theorem shl_xor (x y : BitVec 16) : (x ^^^ y) <<< 1 = (x <<< 1) ^^^ (y <<< 1) := by
  apply BitVec.eq_of_getLsbD_eq; intro i hi
  simp only [BitVec.getLsbD_shiftLeft, BitVec.getLsbD_xor]
  cases decide (i < 16) <;> cases decide (i < 1) <;> simp

theorem xor_mid (a b c d : BitVec 16) : (a ^^^ b) ^^^ (c ^^^ d) = (a ^^^ c) ^^^ (b ^^^ d) := by
  apply BitVec.eq_of_getLsbD_eq; intro i hi
  simp only [BitVec.getLsbD_xor]
  cases a.getLsbD i <;> cases b.getLsbD i <;> cases c.getLsbD i <;> cases d.getLsbD i <;> rfl

theorem xor_eq_zero {a b : BitVec 16} (h : a ^^^ b = 0#16) : a = b := by
  have : a ^^^ b ^^^ b = 0#16 ^^^ b := by rw [h]
  simpa [BitVec.xor_assoc] using this

theorem sh_xor (x y : BitVec 16) : sh (x ^^^ y) = sh x ^^^ sh y := by
  unfold sh
  rw [BitVec.msb_xor, shl_xor]
  cases x.msb <;> cases y.msb <;> simp
  · rw [BitVec.xor_assoc]
  · rw [BitVec.xor_assoc, BitVec.xor_assoc, BitVec.xor_comm (y <<< 1)]
  · rw [xor_mid]; simp

theorem sh_zero : sh 0#16 = 0#16 := by decide

def pw : Nat → BitVec 16 → BitVec 16
  | 0, x => x
  | n + 1, x => pw n (sh x)

theorem pw_add (m n : Nat) (x : BitVec 16) : pw (m + n) x = pw n (pw m x) := by
  induction m generalizing x with
  | zero => simp [pw]
  | succ m ih => rw [Nat.add_right_comm]; simp only [pw]; exact ih _

theorem pw_succ (n : Nat) (x : BitVec 16) : pw (n + 1) x = sh (pw n x) := by
  rw [pw_add]; rfl

theorem pw_xor (n : Nat) (x y : BitVec 16) : pw n (x ^^^ y) = pw n x ^^^ pw n y := by
  induction n generalizing x y with
  | zero => rfl
  | succ n ih => simp only [pw]; rw [sh_xor, ih]

theorem pw_zero (n : Nat) : pw n 0#16 = 0#16 := by
  induction n with
  | zero => rfl
  | succ n ih => simp only [pw]; rw [sh_zero, ih]

def hi (z : Int) : BitVec 16 := BitVec.ofInt 16 (z * 256)
def stp (c : BitVec 16) (z : Int) : BitVec 16 := pw 8 (c ^^^ hi z)
def sm (c : BitVec 16) : List Int → BitVec 16
  | [] => c
  | z :: l => sm (stp c z) l

theorem sm_append (c : BitVec 16) (l m : List Int) : sm c (l ++ m) = sm (sm c l) m := by
  induction l generalizing c with
  | nil => rfl
  | cons z l ih => exact ih _

theorem stp_xor (c d : BitVec 16) (z : Int) : stp (c ^^^ d) z = stp c z ^^^ pw 8 d := by
  unfold stp
  rw [← pw_xor]
  congr 1
  rw [BitVec.xor_assoc, BitVec.xor_assoc, BitVec.xor_comm d]

theorem sm_xor (l : List Int) (c d : BitVec 16) : sm (c ^^^ d) l = sm c l ^^^ pw (8 * l.length) d := by
  induction l generalizing c d with
  | nil => rfl
  | cons z l ih =>
    simp only [sm]
    rw [stp_xor, ih, ← pw_add, List.length_cons, show 8 + 8 * l.length = 8 * (l.length + 1) from by omega]

/-! products -/
def prf : Nat → BitVec 16 → BitVec 16 → BitVec 16
  | 0, _, _ => 0#16
  | n + 1, a, b => (if b.getLsbD 0 then a else 0#16) ^^^ prf n (sh a) (b >>> 1)

theorem shr_xor (x y : BitVec 16) : (x ^^^ y) >>> 1 = (x >>> 1) ^^^ (y >>> 1) := by
  apply BitVec.eq_of_getLsbD_eq; intro i hi
  simp [BitVec.getLsbD_ushiftRight]

theorem prf_right (n : Nat) (a b c : BitVec 16) : prf n a (b ^^^ c) = prf n a b ^^^ prf n a c := by
  induction n generalizing a b c with
  | zero => simp [prf]
  | succ n ih =>
    simp only [prf]
    rw [shr_xor, ih, BitVec.getLsbD_xor, xor_mid]
    congr 1
    cases b.getLsbD 0 <;> cases c.getLsbD 0 <;> simp

theorem prf_left (n : Nat) (a b c : BitVec 16) : prf n (a ^^^ b) c = prf n a c ^^^ prf n b c := by
  induction n generalizing a b c with
  | zero => simp [prf]
  | succ n ih =>
    simp only [prf]
    rw [sh_xor, ih, xor_mid]
    congr 1
    cases c.getLsbD 0 <;> simp

theorem prf_none (n : Nat) (a : BitVec 16) : prf n a 0#16 = 0#16 := by
  have h := prf_right n a 0#16 0#16
  simpa using h

theorem lin_ext (f g : BitVec 16 → BitVec 16) (hf : ∀ x y, f (x ^^^ y) = f x ^^^ f y) (hg : ∀ x y, g (x ^^^ y) = g x ^^^ g y)
    (h : ∀ i, i < 16 → f (1#16 <<< i) = g (1#16 <<< i)) : ∀ x, f x = g x := by
  have f0 : f 0#16 = 0#16 := by have := hf 0#16 0#16; simpa using this
  have g0 : g 0#16 = 0#16 := by have := hg 0#16 0#16; simpa using this
  have key : ∀ n, n ≤ 16 → ∀ x : BitVec 16, (∀ i, n ≤ i → x.getLsbD i = false) → f x = g x := by
    intro n
    induction n with
    | zero =>
      intro _ x hx
      have : x = 0#16 := by apply BitVec.eq_of_getLsbD_eq; intro i hi; simp [hx i (Nat.zero_le _)]
      rw [this, f0, g0]
    | succ n ih =>
      intro hn x hx
      by_cases hb : x.getLsbD n = true
      · have e : x = (x ^^^ (1#16 <<< n)) ^^^ (1#16 <<< n) := by rw [BitVec.xor_assoc]; simp
        rw [e, hf, hg, h n (by omega), ih (by omega)]
        intro i hi
        rw [BitVec.getLsbD_xor]
        by_cases hin : i = n
        · subst hin; rw [hb]; simp; omega
        · rw [hx i (by omega)]
          simp only [BitVec.getLsbD_shiftLeft, BitVec.getLsbD_one]
          have : ¬ (i - n = 0) := by omega
          simp [this]
      · exact ih (by omega) x (fun i hi => by
          by_cases hin : i = n
          · subst hin; simpa using hb
          · exact hx i (by omega))
  intro x
  exact key 16 (Nat.le_refl _) x (fun i hi => BitVec.getLsbD_of_ge x i hi)

def pr (a b : BitVec 16) : BitVec 16 := prf 16 a b

theorem pr_sh_basis : ∀ j, j < 16 → ∀ i, i < 16 → pr (1#16 <<< j) (sh (1#16 <<< i)) = sh (pr (1#16 <<< j) (1#16 <<< i)) := by
  decide +kernel

theorem pr_sh (a b : BitVec 16) : pr a (sh b) = sh (pr a b) := by
  refine lin_ext (fun b => pr a (sh b)) (fun b => sh (pr a b)) (fun x y => ?_) (fun x y => ?_) (fun i hi => ?_) b
  · simp only [pr]; rw [sh_xor, prf_right]
  · simp only [pr]; rw [prf_right, sh_xor]
  · refine lin_ext (fun a => pr a (sh (1#16 <<< i))) (fun a => sh (pr a (1#16 <<< i))) (fun x y => ?_) (fun x y => ?_) (fun j hj => ?_) a
    · simp only [pr]; rw [prf_left]
    · simp only [pr]; rw [prf_left, sh_xor]
    · exact pr_sh_basis j hj i hi

theorem pr_one (a : BitVec 16) : pr a 1#16 = a := by
  refine lin_ext (fun a => pr a 1#16) (fun a => a) (fun x y => ?_) (fun x y => rfl) (fun j hj => ?_) a
  · simp only [pr]; rw [prf_left]
  · revert j; decide +kernel

theorem pr_pw (a : BitVec 16) (n : Nat) : pr a (pw n 1#16) = pw n a := by
  induction n with
  | zero => exact pr_one a
  | succ n ih => rw [pw_succ, pr_sh, ih, pw_succ]

end Go.Proofs.Ytgdoagmnhmfjkaa
