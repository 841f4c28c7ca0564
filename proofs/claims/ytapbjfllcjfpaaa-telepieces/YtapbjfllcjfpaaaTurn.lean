/- A turned bit of a list of bytes: what it changes in the sum; a store into a row of the call's own; the document's Turned. -/
import Derived.Test.YtapbjfllcjfpaaaOrder
import Derived.Test.YtapbjfllcjfpaaaBytes
import Derived.RegionTactic
import Derived.ChangeAlike
namespace Go.Proofs.Ytapbjfllcjfpaaa
open Go.ChangeShapes Go.WideShapes Go.ChangeAt Go.RowKit



/-- a byte with its bit j turned, the highest one first -/
def tb (z : Int) (j : Nat) : Int := bits .xor .u8 z (128 / 2 ^ j)


/-- a list of bytes with its bit i turned -/
def turn (l : List Int) (i : Nat) : List Int := l.set (i / 8) (tb (l[i / 8]?.getD 0) (i % 8))

theorem turn_length (l : List Int) (i : Nat) : (turn l i).length = l.length := by simp [turn]

theorem wrap_nat8 (x : BitVec 8) : IntKind.u8.wrap (x.toNat : Int) = (x.toNat : Int) := by
  unfold IntKind.wrap; simp [IntKind.bits, IntKind.signed]; omega
theorem xor8 (z m : Int) : bits .xor .u8 z m = ((BitVec.ofInt 8 z ^^^ BitVec.ofInt 8 m).toNat : Int) := wrap_nat8 _

theorem tb_bd (z : Int) (j : Nat) : 0 ≤ tb z j ∧ tb z j ≤ 255 := by
  unfold tb; rw [xor8]
  have := (BitVec.ofInt 8 z ^^^ BitVec.ofInt 8 (128 / 2 ^ j)).isLt
  omega

def up (x : BitVec 8) : BitVec 16 := (x.setWidth 16) <<< 8
theorem up_xor (x y : BitVec 8) : up (x ^^^ y) = up x ^^^ up y := by
  unfold up
  apply BitVec.eq_of_getLsbD_eq; intro i hi
  simp only [BitVec.getLsbD_shiftLeft, BitVec.getLsbD_xor, BitVec.getLsbD_setWidth]
  cases decide (i < 16) <;> cases decide (i < 8) <;> cases decide (i - 8 < 16) <;> simp
theorem hi_up (z : Int) : hi z = up (BitVec.ofInt 8 z) := by
  unfold hi up
  apply BitVec.eq_of_toNat_eq
  simp [Nat.shiftLeft_eq, BitVec.toNat_ofInt]
  omega
theorem hi_xor (z m : Int) : hi (bits .xor .u8 z m) = hi z ^^^ hi m := by
  rw [hi_up, hi_up z, hi_up m, ← up_xor, xor8]
  congr 1
  generalize BitVec.ofInt 8 z ^^^ BitVec.ofInt 8 m = x
  apply BitVec.eq_of_toNat_eq
  simp
theorem hi_bit : ∀ j, j < 8 → hi (128 / 2 ^ j) = pw (15 - j) 1#16 := by decide +kernel

theorem stp_tb (c : BitVec 16) (z : Int) (j : Nat) (hj : j < 8) : stp c (tb z j) = stp c z ^^^ chg (7 - j) := by
  unfold stp tb
  rw [hi_xor, ← BitVec.xor_assoc, pw_xor, hi_bit j hj, ← pw_add, chg_pw]
  rw [show 15 - j + 8 = 16 + (7 - j) by omega]

theorem sm_turn (c : BitVec 16) (l : List Int) (i : Nat) (hi : i < 8 * l.length) : sm c (turn l i) = sm c l ^^^ chg (8 * l.length - 1 - i) := by
  induction l generalizing c i with
  | nil => simp at hi
  | cons z l ih =>
    rw [List.length_cons] at hi
    by_cases h8 : i < 8
    · have e0 : i / 8 = 0 := by omega
      have e1 : i % 8 = i := by omega
      unfold turn
      rw [e0, e1]
      simp only [List.getElem?_cons_zero, Option.getD_some, List.set_cons_zero, sm]
      rw [stp_tb c z i h8, sm_xor, chg, chg, ← pw_add, List.length_cons]
      rw [show 7 - i + 8 * l.length = 8 * (l.length + 1) - 1 - i by omega]
    · have e0 : i / 8 = (i - 8) / 8 + 1 := by omega
      have e1 : i % 8 = (i - 8) % 8 := by omega
      have := ih (stp c z) (i - 8) (by omega)
      unfold turn at this ⊢
      rw [e0, e1]
      simp only [List.getElem?_cons_succ, List.set_cons_succ, sm]
      rw [this, List.length_cons]
      rw [show 8 * l.length - 1 - (i - 8) = 8 * (l.length + 1) - 1 - i by omega]

theorem turn_in {l : List Int} (h : InB l) (i : Nat) : InB (turn l i) := by
  intro z hz
  unfold turn at hz
  rcases List.mem_or_eq_of_mem_set hz with h' | rfl
  · exact h z h'
  · exact tb_bd _ _

theorem Ow.cell {w : World} {B g cap n : Nat} {l : List Int} (h : Ow w B (.slice (some ⟨g, 0, none⟩) n cap) l) {i : Nat} (hi : i < l.length) :
    w.cell? ⟨g, i, none⟩ = some (.int .u8 (l[i]?.getD 0)) ∧ w.frozen? ⟨g, i, none⟩ = false := by
  constructor
  · rcases Bs.own h with ⟨h1, _⟩ | ⟨x, c, h1, hc⟩
    · cases h1
    · simp only [Value.slice.injEq, Option.some.injEq] at h1
      have := hc i hi
      rw [← h1.1, add_plain, Nat.zero_add] at this
      exact this
  · rcases h.2 with ⟨h1, _⟩ | ⟨g', cap', cur, h1, _, hg, _⟩
    · cases h1
    · simp only [Value.slice.injEq, Option.some.injEq, Addr.mk.injEq] at h1
      rw [← h1.1.1] at hg
      unfold World.frozen?
      simp only [hg]
      simp

theorem Ow.set {w : World} {B g cap n : Nat} {l : List Int} (h : Ow w B (.slice (some ⟨g, 0, none⟩) n cap) l) (i : Nat) (z : Int) :
    Ow (w.setCell ⟨g, i, none⟩ (.int .u8 z)) B (.slice (some ⟨g, 0, none⟩) n cap) (l.set i z) := by
  obtain ⟨h0, h⟩ := h
  refine ⟨by simp, ?_⟩
  rcases h with ⟨h1, _⟩ | ⟨g', cap', cur, h1, hb, hg, hn, hm, hs, ht⟩
  · cases h1
  · simp only [Value.slice.injEq, Option.some.injEq, Addr.mk.injEq] at h1
    obtain ⟨⟨rfl, _⟩, rfl, rfl⟩ := h1
    refine .inr ⟨g, cap, cur.setIfInBounds i (.int .u8 z), by rw [List.length_set], hb, ?_, by rw [List.length_set]; exact hn, hm, by simpa using hs, ?_⟩
    · simp only [World.setCell, Array.getElem?_modify]
      rw [hg]
      simp
    · rw [List.length_set, Array.toList_setIfInBounds, List.take_set, ht, List.map_set]



end Go.Proofs.Ytapbjfllcjfpaaa
