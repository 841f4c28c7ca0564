/- Two bytes of a list as a number, a number as two bytes. -/
import Derived.Test.YtapbjfllcjfpaaaTele
namespace Go.Proofs.Ytapbjfllcjfpaaa
open Go.ChangeShapes Go.WideShapes Go.ChangeAt Go.RowKit


/-- the number of two bytes of a list -/
def wd (l : List Int) (i : Nat) : Int := l[i]?.getD 0 * 256 + l[i + 1]?.getD 0

theorem getD_in {l : List Int} (h : InB l) (i : Nat) : 0 ≤ l[i]?.getD 0 ∧ l[i]?.getD 0 ≤ 255 := by
  rcases Nat.lt_or_ge i l.length with h' | h'
  · rw [List.getElem?_eq_getElem h']; exact h _ (List.getElem_mem h')
  · rw [List.getElem?_eq_none h']; simp

theorem wd_in {l : List Int} (h : InB l) (i : Nat) : 0 ≤ wd l i ∧ wd l i ≤ 65535 := by
  have := getD_in h i
  have := getD_in h (i + 1)
  unfold wd; omega

theorem or_bytes (x y : Int) (hx : 0 ≤ x ∧ x ≤ 255) (hy : 0 ≤ y ∧ y ≤ 255) : bits .or .u16 (x * 256) y = x * 256 + y := by
  obtain ⟨n, rfl⟩ := Int.eq_ofNat_of_zero_le hx.1
  obtain ⟨m, rfl⟩ := Int.eq_ofNat_of_zero_le hy.1
  have hn : n < 256 := by omega
  have hm : m < 2 ^ 8 := by omega
  unfold bits
  have e1 : BitVec.ofInt IntKind.u16.bits ((n : Int) * 256) = BitVec.ofNat 16 (n * 256) := by
    rw [show ((n : Int) * 256) = ((n * 256 : Nat) : Int) by omega]; rfl
  have e2 : BitVec.ofInt IntKind.u16.bits (m : Int) = BitVec.ofNat 16 m := rfl
  simp only [e1, e2]
  have e3 : (BitVec.ofNat 16 (n * 256) ||| BitVec.ofNat 16 m).toNat = n * 256 + m := by
    rw [BitVec.toNat_or, BitVec.toNat_ofNat, BitVec.toNat_ofNat, Nat.mod_eq_of_lt (by omega), Nat.mod_eq_of_lt (by omega)]
    rw [show n * 256 = n <<< 8 by rw [Nat.shiftLeft_eq]]
    exact (Nat.shiftLeft_add_eq_or_of_lt hm n).symm
  show IntKind.u16.wrap (((BitVec.ofNat 16 (n * 256) ||| BitVec.ofNat 16 m).toNat : Nat) : Int) = _
  rw [e3]
  unfold IntKind.wrap; simp [IntKind.bits, IntKind.signed]; omega


set_option maxHeartbeats 1000000 in
theorem word_any {w : World} {v : Value} {l : List Int} (hs : Bs w v l) (hr : InB l) (i : Nat) (hi : i + 1 < l.length) (hi2 : i ≤ 100) :
    Calls Try.prog 16 #[v, .int .i64 i] w fun e w' => e = .returned (.int .u16 (wd l i)) ∧ ∃ n, w' = w.drewN n := by
  rcases hs with ⟨rfl, rfl⟩ | ⟨x, cap, rfl, hc⟩
  · simp at hi
  · obtain ⟨b, off, spot⟩ := x
    have hspot : spot = none := by simpa [Addr.add] using World.cell?_spot (hc 0 (by omega))
    subst hspot
    have c0 := hc i (by omega)
    have c1 := hc (i + 1) (by omega)
    rw [add_plain] at c0 c1
    clear hc
    have g0 := getD_in hr i
    have g1 := getD_in hr (i + 1)
    have ho : Hid (wd l i = bits .or .u16 (l[i]?.getD 0 * 256) (l[i + 1]?.getD 0)) := hide (by rw [or_bytes _ _ g0 g1]; rfl)
    generalize l[i]?.getD 0 = x at *
    generalize l[i + 1]?.getD 0 = y at *
    have j0 : (0 : Int) ≤ (i : Int) := by omega
    have j1 : (i : Int) < (l.length : Int) := by omega
    have j2 : (i : Int) + 1 < (l.length : Int) := by omega
    have j3 : (i : Int) ≤ 100 := by omega
    go_enter Try.func16, Try.ntmps16
    go_wp2_with fail
    go_quiet (fail)
    go_wp2_with fail
    go_ret
    exact ⟨ret_int ho.out.symm, _, rfl⟩


end Go.Proofs.Ytapbjfllcjfpaaa
