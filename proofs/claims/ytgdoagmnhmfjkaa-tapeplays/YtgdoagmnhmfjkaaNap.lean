/- A number's bytes are appended: the program's appendNumber. -/
import Derived.Test.YtgdoagmnhmfjkaaNca
namespace Go.Proofs.Ytgdoagmnhmfjkaa
open Go.ChangeShapes Go.WideShapes Go.ChangeAt Go.RowKit
set_option linter.unusedVariables false

theorem numI_low {x : Int} (h : x < 128) (h0 : 0 ≤ x) : num x.toNat = [x] := by rw [num_low (by omega)]; congr 1; omega
theorem numI_high {x : Int} (h : 128 ≤ x) : num x.toNat = (x % 128 + 128) :: num (x / 128).toNat := by
  rw [num_high (by omega)]
  have e : (x / 128).toNat = x.toNat / 128 := by omega
  rw [e]
  congr 1
  omega

set_option maxHeartbeats 1000000 in
theorem appn_any (v : Value) (l : List Int) (x : Int) (hx : 0 ≤ x ∧ x < 34359738368) (w w0 : World) (hb : Below w0.heap.size w0 w) (hown : byE.Own w w0.heap.size v l) (hm : l.length ≤ 1000) :
    Calls Try.prog 49 #[v, .int .i64 x] w fun e w' => ∃ v', e = .returned v' ∧ byE.Own w' w0.heap.size v' (l ++ num x.toNat) ∧ Below w0.heap.size w0 w' := by
  obtain ⟨L, hL⟩ : ∃ L, l ++ num x.toNat = L := ⟨_, rfl⟩
  have HL : Hid (L.length ≤ 1005) := hide (by rw [← hL, List.length_append]; have := num_five (v := x.toNat) (by omega); omega)
  rw [hL]
  have H0 := hide (show ∃ l', byE.Own w w0.heap.size v l' ∧ l' ++ num x.toNat = L from ⟨l, hown, hL⟩)
  have Hb := hide hb
  have Hx := hide hx
  clear hL hown hm hb hx
  go_enter Try.func49, Try.ntmps49
  go_wp2_with fail
  go_loopw [0, 1] (fun u y wr => Hid (∃ (z : Int) (l' : List Int), y = .int .i64 z ∧ 0 ≤ z ∧ z < 34359738368 ∧ byE.Own wr w0.heap.size u l' ∧ l' ++ num z.toNat = L ∧ Below w0.heap.size w0 wr)) (fun _ y _ => (intOf y).toNat)
  case atStart =>
    obtain ⟨l', h1, h2⟩ := H0.out
    exact hide ⟨x, l', rfl, Hx.out.1, Hx.out.2, h1, h2, Hb.out⟩
  case round =>
    obtain ⟨z, l', rfl, z0, z1, ho, hL, hb⟩ := hrel.out
    clear hrel H0 Hb Hx
    have hll : l'.length + 1 ≤ 1000000 := by
      have := HL.out
      rw [← hL, List.length_append] at this
      omega
    have Hll := hide hll
    clear hll
    by_cases h : 128 ≤ z
    · have hn := hide (numI_high h)
      have HL2 := hide hL
      clear hL
      go_wp2_with (at_builtin; refine byE.wp (hb.alloc hb.size _) (by rfl) _ _ rfl _ _ rfl rfl l' [_] (ho.keep (below_new _ _)) (by_new1 _ _ _ rfl) Hll.out ?_; intro v1 w1 hown1 hg1 hs1 hb1; refine Hid.out ?_)
      refine hide ?_
      clear hg1 hs1
      go_wp2_with fail
      go_roundw
      case rel => exact hide ⟨z / 128, _, rfl, by omega, by omega, hown1, by rw [← HL2.out, hn.out, List.append_assoc]; rfl, hb1⟩
      case measure => simp [intOf]; omega
    · have hn := hide (numI_low (show z < 128 by omega) z0)
      have HL2 := hide hL
      clear hL
      go_wp2_with (at_builtin; refine byE.wp (hb.alloc hb.size _) (by rfl) _ _ rfl _ _ rfl rfl l' [_] (ho.keep (below_new _ _)) (by_new1 _ _ _ rfl) Hll.out ?_; intro v1 w1 hown1 hg1 hs1 hb1; refine Hid.out ?_)
      refine hide ?_
      clear hg1 hs1
      go_wp2_with fail
      go_ret
      exact ⟨_, rfl, by rw [← HL2.out, hn.out]; exact hown1, hb1⟩
end Go.Proofs.Ytgdoagmnhmfjkaa
