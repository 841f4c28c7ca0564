/- Telegrams: what is wrong with one (the program's Check, the document's Check). -/
import Derived.Test.YtapbjfllcjfpaaaBytes
import Derived.Deep.QuietTactic
import Derived.BigQuiet
namespace Go.Proofs.Ytapbjfllcjfpaaa
open Go.ChangeShapes Go.WideShapes Go.ChangeAt Go.RowKit

/-- a telegram as five integers -/
structure Tl where
  k : Int
  d : Int
  s : Int
  a : Int
  b : Int
deriving DecidableEq
def Tl.In (t : Tl) : Prop := (0 ≤ t.k ∧ t.k ≤ 255) ∧ (0 ≤ t.d ∧ t.d ≤ 65535) ∧ (0 ≤ t.s ∧ t.s ≤ 65535) ∧ (0 ≤ t.a ∧ t.a ≤ 65535) ∧ (0 ≤ t.b ∧ t.b ≤ 65535)
def tc (t : Tl) : Array Value := #[.int .u8 t.k, .int .u16 t.d, .int .u16 t.s, .int .u16 t.a, .int .u16 t.b]
def tv (t : Tl) : Value := .agg #[.int .u8 t.k, .int .u16 t.d, .int .u16 t.s, .int .u16 t.a, .int .u16 t.b]
def ob (t : Tl) : Obj := .cells #[.int .u8 t.k, .int .u16 t.d, .int .u16 t.s, .int .u16 t.a, .int .u16 t.b] 24

def wi (v lo hi : Int) : Bool := decide (lo ≤ v ∧ v ≤ hi)

/-- whether the fields beside Dev are as the kind wants them -/
def fit (k s a b : Int) : Bool :=
  if k = 1 ∨ k = 2 then wi a 1 30 && decide (b = 0)
  else if k = 3 then wi a 1 30 && wi b 1 3
  else if k = 4 ∨ k = 5 then decide (s = 0) && decide (a = 0) && decide (b = 0)
  else if k = 6 then decide (a = 0) && decide (b = 0)
  else wi b 0 30
def chk (t : Tl) : Int := if wi t.k 1 7 then (if wi t.d 1 200 && fit t.k t.s t.a t.b then 0 else 24) else 23

theorem ret_int {k : IntKind} {a b : Int} (h : a = b) : Ending.returned (.int k a) = .returned (.int k b) := by rw [h]
theorem _root_.Go.RowKit.Below.drewN {B : Nat} {a w : World} (h : Below B a w) (n : Nat) : Below B a (w.drewN n) := by
  induction n with
  | zero => exact h
  | succ n ih => exact ih.drew
theorem beq_dec (x y : Int) : (x == y) = decide (x = y) := by
  by_cases h : x = y <;> simp [h]

theorem within_any (v lo hi : Int) (w : World) :
    Calls Try.prog 13 #[.int .u16 v, .int .u16 lo, .int .u16 hi] w fun e w' => e = .returned (.bool (wi v lo hi)) ∧ w' = w := by
  by_cases h1 : lo ≤ v
  · by_cases h2 : v ≤ hi
    · have : wi v lo hi = true := by simp [wi, h1, h2]
      rw [this]
      clear this
      go_enter Try.func13, Try.ntmps13
      go_wp2
      go_ret
      exact ⟨rfl, rfl⟩
    · have : wi v lo hi = false := by simp [wi, h1, h2]
      rw [this]
      clear this
      go_enter Try.func13, Try.ntmps13
      go_wp2
      go_ret
      exact ⟨rfl, rfl⟩
  · have : wi v lo hi = false := by simp [wi, h1]
    rw [this]
    clear this
    go_enter Try.func13, Try.ntmps13
    go_wp2
    go_ret
    exact ⟨rfl, rfl⟩

theorem fit_any (k d s a b : Int) (w : World) (h : 1 ≤ k ∧ k ≤ 7) :
    Calls Try.prog 14 #[.agg #[.int .u8 k, .int .u16 d, .int .u16 s, .int .u16 a, .int .u16 b]] w fun e w' => e = .returned (.bool (fit k s a b)) ∧ w' = w.alloc (.cells #[.int .u8 k, .int .u16 d, .int .u16 s, .int .u16 a, .int .u16 b] 28) := by
  have hk : k = 1 ∨ k = 2 ∨ k = 3 ∨ k = 4 ∨ k = 5 ∨ k = 6 ∨ k = 7 := by omega
  clear h
  rcases hk with rfl | rfl | rfl | rfl | rfl | rfl | rfl
  all_goals
    go_enter Try.func14, Try.ntmps14
    go_wp2_with (go_at_call 13; refine (within_any _ _ _ _).mono ?_; rintro e w' ⟨rfl, rfl⟩)
    all_goals go_ret
    all_goals refine ⟨?_, ?_⟩
    all_goals first | rfl | (simp [fit, beq_dec, *])

theorem check_any (k d s a b : Int) (w : World) :
    Calls Try.prog 8 #[.agg #[.int .u8 k, .int .u16 d, .int .u16 s, .int .u16 a, .int .u16 b]] w fun e w' => e = .returned (.int .i64 (chk ⟨k, d, s, a, b⟩)) ∧ Below w.heap.size w w' := by
  by_cases h1 : 1 ≤ k
  · by_cases h7 : k ≤ 7
    · have hw : wi k 1 7 = true := by simp [wi, h1, h7]
      cases hd : wi d 1 200
      · have hc : Hid (chk ⟨k, d, s, a, b⟩ = 24) := by simp [Hid, chk, hw, hd]
        clear hw
        go_enter Try.func8, Try.ntmps8
        go_wp2_with (go_at_call 13; refine (within_any _ _ _ _).mono ?_; rw [hd]; rintro e w' ⟨rfl, rfl⟩)
        go_ret
        exact ⟨ret_int hc.out.symm, (Below.refl _ _).alloc (Nat.le_refl _) _⟩
      · cases hf : fit k s a b
        · have hc : Hid (chk ⟨k, d, s, a, b⟩ = 24) := by simp [Hid, chk, hw, hd, hf]
          clear hw
          go_enter Try.func8, Try.ntmps8
          go_wp2_with (first | (go_at_call 13; refine (within_any _ _ _ _).mono ?_; rw [hd]; rintro e w' ⟨rfl, rfl⟩) | (go_at_call 14; refine (fit_any _ _ _ _ _ _ ⟨h1, h7⟩).mono ?_; rw [hf]; rintro e w' ⟨rfl, rfl⟩))
          go_ret
          exact ⟨ret_int hc.out.symm, ((Below.refl _ _).alloc (Nat.le_refl _) _).alloc (by simp) _⟩
        · have hc : Hid (chk ⟨k, d, s, a, b⟩ = 0) := by simp [Hid, chk, hw, hd, hf]
          clear hw
          go_enter Try.func8, Try.ntmps8
          go_wp2_with (first | (go_at_call 13; refine (within_any _ _ _ _).mono ?_; rw [hd]; rintro e w' ⟨rfl, rfl⟩) | (go_at_call 14; refine (fit_any _ _ _ _ _ _ ⟨h1, h7⟩).mono ?_; rw [hf]; rintro e w' ⟨rfl, rfl⟩))
          go_ret
          exact ⟨ret_int hc.out.symm, ((Below.refl _ _).alloc (Nat.le_refl _) _).alloc (by simp) _⟩
    · have hc : Hid (chk ⟨k, d, s, a, b⟩ = 23) := by simp [Hid, chk, wi, h7]
      go_enter Try.func8, Try.ntmps8
      go_wp2_with fail
      go_ret
      exact ⟨ret_int hc.out.symm, (Below.refl _ _).alloc (Nat.le_refl _) _⟩
  · have hc : Hid (chk ⟨k, d, s, a, b⟩ = 23) := by simp [Hid, chk, wi, h1]
    go_enter Try.func8, Try.ntmps8
    go_wp2_with fail
    go_ret
    exact ⟨ret_int hc.out.symm, (Below.refl _ _).alloc (Nat.le_refl _) _⟩

end Go.Proofs.Ytapbjfllcjfpaaa
