/- The contracts of the program's small functions and of the document's: shift, Step, product. -/
import Derived.Test.YtgdoagmnhmfjkaaBas
import Derived.Test.YtgdoagmnhmfjkaaMath
import Derived.WalkKit
import Derived.ProofKit
import Derived.OpenShut
import Derived.Below
namespace Go.Proofs.Ytgdoagmnhmfjkaa
open Go.ChangeShapes Go.WideShapes Go.ChangeAt Go.RowKit

/-- a 16-bit word as the model's integer -/
def uv (x : BitVec 16) : Int := (x.toNat : Int)

theorem uv_lo (x : BitVec 16) : 0 ≤ uv x := by unfold uv; omega
theorem uv_hi (x : BitVec 16) : uv x ≤ 65535 := by unfold uv; omega
theorem uv_inj {x y : BitVec 16} (h : uv x = uv y) : x = y := by
  unfold uv at h; exact BitVec.eq_of_toNat_eq (by omega)
theorem uv_of (n : Int) (h0 : 0 ≤ n) (h1 : n ≤ 65535) : ∃ x, n = uv x :=
  ⟨BitVec.ofNat 16 n.toNat, by unfold uv; simp; omega⟩
theorem ofInt_uv (x : BitVec 16) : BitVec.ofInt 16 (uv x) = x := by
  apply BitVec.eq_of_toNat_eq; unfold uv; simp
theorem wrap_nat (x : BitVec 16) : IntKind.u16.wrap (x.toNat : Int) = uv x := by
  unfold IntKind.wrap uv; simp [IntKind.bits, IntKind.signed]; omega
theorem xor_uv (x y : BitVec 16) : bits .xor .u16 (uv x) (uv y) = uv (x ^^^ y) := by
  unfold bits; simp only [IntKind.bits]; rw [ofInt_uv, ofInt_uv, wrap_nat]; rfl
theorem and_uv (x y : BitVec 16) : bits .and .u16 (uv x) (uv y) = uv (x &&& y) := by
  unfold bits; simp only [IntKind.bits]; rw [ofInt_uv, ofInt_uv, wrap_nat]; rfl
theorem xor_poly (x : BitVec 16) : bits .xor .u16 (uv x) 4129 = uv (x ^^^ 0x1021#16) := by
  rw [← xor_uv]; rfl
theorem wrap_dbl (x : BitVec 16) : IntKind.u16.wrap (uv x * 2) = uv (x <<< 1) := by
  unfold IntKind.wrap uv; simp [IntKind.bits, IntKind.signed, Nat.shiftLeft_eq]
theorem xor_hi (x : BitVec 16) (z : Int) : bits .xor .u16 (uv x) (z * 256) = uv (x ^^^ hi z) := by
  unfold bits; simp only [IntKind.bits]; rw [ofInt_uv, wrap_nat]; rfl
theorem top_bit (x : BitVec 16) : (bits .and .u16 (uv x) 32768 != 0) = x.msb := by
  rw [show (32768 : Int) = uv 0x8000#16 from rfl, and_uv]
  have e : x &&& 0x8000#16 = if x.msb then 0x8000#16 else 0#16 := by
    apply BitVec.eq_of_getLsbD_eq; intro i hi
    rw [BitVec.msb_eq_getLsbD_last]
    rw [BitVec.getLsbD_and]
    by_cases h : i = 15
    · subst h; cases x.getLsbD 15 <;> rfl
    · have hz : (0x8000#16).getLsbD i = false := by revert i; decide
      rw [hz]; cases x.getLsbD (16 - 1) <;> simp [hz]
  rw [e]; cases x.msb <;> decide
theorem low_bit (x : BitVec 16) : (bits .and .u16 (uv x) 1 == 1) = x.getLsbD 0 := by
  rw [show (1 : Int) = uv 1#16 from rfl, and_uv]
  have e : x &&& 1#16 = if x.getLsbD 0 then 1#16 else 0#16 := by
    apply BitVec.eq_of_getLsbD_eq; intro i hi
    rw [BitVec.getLsbD_and]
    by_cases h : i = 0
    · subst h; cases x.getLsbD 0 <;> rfl
    · have hz : (1#16).getLsbD i = false := by simp; omega
      rw [hz]; cases x.getLsbD 0 <;> simp [hz]
  rw [e]; cases x.getLsbD 0 <;> decide
theorem half_uv (x : BitVec 16) : uv x / (2 : Int) = uv (x >>> 1) := by
  unfold uv; simp [Nat.shiftRight_eq_div_pow]
theorem big_uv (x : BitVec 16) : decide (uv x ≥ 32768) = x.msb := by
  unfold uv; rw [BitVec.msb_eq_decide]; simp; omega

theorem shift_any (x : BitVec 16) (w : World) :
    Calls Try.prog 57 #[.int .u16 (uv x)] w fun e w' => e = .returned (.int .u16 (uv (sh x))) ∧ w' = w := by
  cases hm : x.msb
  · have hb : (bits .and .u16 (uv x) 32768 != 0) = false := by rw [top_bit, hm]
    have hs : sh x = x <<< 1 := by simp [sh, hm]
    rw [hs]
    clear hs hm
    go_enter Try.func57, Try.ntmps57
    go_wp2
    go_ret
    rw [wrap_dbl]
    exact ⟨rfl, rfl⟩
  · have hb : (bits .and .u16 (uv x) 32768 != 0) = true := by rw [top_bit, hm]
    have hs : sh x = x <<< 1 ^^^ 0x1021#16 := by simp [sh, hm]
    rw [hs]
    clear hs hm
    go_enter Try.func57, Try.ntmps57
    go_wp2
    go_ret
    rw [wrap_dbl, xor_poly]
    exact ⟨rfl, rfl⟩

theorem step_any (x : BitVec 16) (z : Int) (h0 : 0 ≤ z) (h1 : z ≤ 255) (w : World) :
    Calls Try.prog 54 #[.int .u16 (uv x), .int .u8 z] w fun e w' => e = .returned (.int .u16 (uv (stp x z))) ∧ w' = w := by
  go_enter Try.func54, Try.ntmps54
  go_wp2_with fail
  rw [xor_hi]
  go_loop [0, 10] (fun t i => ∃ k : Nat, k ≤ 8 ∧ i = .int .i64 k ∧ t = .int .u16 (uv (pw k (x ^^^ hi z)))) (fun _ i => 8 - (intOf i).toNat)
  case atStart => exact ⟨0, by omega, rfl, rfl⟩
  case round =>
    obtain ⟨k, hk, rfl, rfl⟩ := hrel
    by_cases hlt : k < 8
    · go_wp2_with (go_at_call 57; refine (shift_any _ _).mono ?_; rintro e w' ⟨rfl, rfl⟩)
      go_round
      case rel => exact ⟨k + 1, by omega, by go_num, by rw [pw_succ]⟩
      case measure => simp [intOf]; omega
    · have : k = 8 := by omega
      subst this
      go_wp2
      go_ret
      exact ⟨rfl, rfl⟩

theorem rstep_any (x : BitVec 16) (z : Int) (h0 : 0 ≤ z) (h1 : z ≤ 255) (w : World) :
    Calls Try.prog 55 #[.int .u16 (uv x), .int .u8 z] w fun e w' => e = .returned (.int .u16 (uv (stp x z))) ∧ w' = w := by
  go_enter Try.func55, Try.ntmps55
  go_wp2_with fail
  rw [xor_hi]
  go_loop [0, 5] (fun t i => ∃ k : Nat, k ≤ 8 ∧ i = .int .i64 k ∧ t = .int .u16 (uv (pw k (x ^^^ hi z)))) (fun _ i => 8 - (intOf i).toNat)
  case atStart => exact ⟨0, by omega, rfl, rfl⟩
  case round =>
    obtain ⟨k, hk, rfl, rfl⟩ := hrel
    by_cases hlt : k < 8
    · generalize hy : pw k (x ^^^ hi z) = y
      have hn : pw (k + 1) (x ^^^ hi z) = sh y := by rw [pw_succ, hy]
      have Hn := hide hn
      clear hn hy
      have hd := big_uv y
      cases hm : y.msb
      · have hb : ¬ 32768 ≤ uv y := by rw [hm] at hd; simpa using hd
        have hs : Hid (sh y = y <<< 1) := hide (by simp [sh, hm])
        clear hd hm
        go_wp2
        go_round
        case rel => exact ⟨k + 1, by omega, by go_num, by rw [wrap_dbl, unhide Hn, unhide hs]⟩
        case measure => simp [intOf]; omega
      · have hb : 32768 ≤ uv y := by rw [hm] at hd; simpa using hd
        have hs : Hid (sh y = y <<< 1 ^^^ 0x1021#16) := hide (by simp [sh, hm])
        clear hd hm
        go_wp2
        go_round
        case rel => exact ⟨k + 1, by omega, by go_num, by rw [wrap_dbl, xor_poly, unhide Hn, unhide hs]⟩
        case measure => simp [intOf]; omega
    · have : k = 8 := by omega
      subst this
      go_wp2
      go_ret
      exact ⟨rfl, rfl⟩

end Go.Proofs.Ytgdoagmnhmfjkaa
