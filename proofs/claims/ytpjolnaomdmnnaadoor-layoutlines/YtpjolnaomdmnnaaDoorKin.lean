/- The document's Kind and Words. -/
import Derived.Test.YtpjolnaomdmnnaaDoorKnd
namespace Go.Proofs.YtpjolnaomdmnnaaDoor
open Go.RowKit
set_option linter.unusedVariables false

set_option maxRecDepth 100000 in
set_option maxHeartbeats 2000000 in
theorem rkind_any (s : ByteArray) (w : World) : Calls Tryd.prog 46 #[.string s] w fun e w' => e = .returned (.int .i64 ((kindS s).getD 0)) ∧ Below w.heap.size w w' := by
  obtain ⟨W0, hW0⟩ : ∃ W0, w.alloc (.cells #[.string (str [116, 114, 97, 99, 107]), .string (str [115, 108, 111, 116]), .string (str [115, 116, 97, 116, 105, 111, 110]), .string (str [103, 97, 116, 101])] 57) = W0 := ⟨_, rfl⟩
  have bA : Below w.heap.size w W0 := by rw [← hW0]; exact (Below.refl _ _).alloc (Nat.le_refl _) _
  have hx : W0.heap[w.heap.size]? = some (.cells #[.string (str [116, 114, 97, 99, 107]), .string (str [115, 108, 111, 116]), .string (str [115, 116, 97, 116, 105, 111, 110]), .string (str [103, 97, 116, 101])] 57) := by rw [← hW0]; exact heap_new _ _
  have k0 := (cells_at hx 0).1
  have k1 := (cells_at hx 1).1
  have k2 := (cells_at hx 2).1
  have k3 := (cells_at hx 3).1
  simp at k0 k1 k2 k3
  have HA := hide bA
  have HW0 := hide hW0
  clear hx bA hW0
  obtain ⟨res, hres⟩ : ∃ res, (kindS s).getD 0 = res := ⟨_, rfl⟩
  rw [hres]
  have spec : Hid (res = ((if s = str [116, 114, 97, 99, 107] then some 1 else if s = str [115, 108, 111, 116] then some 2 else if s = str [115, 116, 97, 116, 105, 111, 110] then some 3 else if s = str [103, 97, 116, 101] then some 4 else none : Option Int)).getD 0) := hide (by rw [← hres]; rfl)
  clear hres
  have z1 : (⟨#[116, 114, 97, 99, 107]⟩ : ByteArray) = str [116, 114, 97, 99, 107] := rfl
  have z2 : (⟨#[115, 108, 111, 116]⟩ : ByteArray) = str [115, 108, 111, 116] := rfl
  have z3 : (⟨#[115, 116, 97, 116, 105, 111, 110]⟩ : ByteArray) = str [115, 116, 97, 116, 105, 111, 110] := rfl
  have z4 : (⟨#[103, 97, 116, 101]⟩ : ByteArray) = str [103, 97, 116, 101] := rfl
  generalize str [116, 114, 97, 99, 107] = a at *
  generalize str [115, 108, 111, 116] = b at *
  generalize str [115, 116, 97, 116, 105, 111, 110] = c at *
  generalize str [103, 97, 116, 101] = d at *
  go_enter Tryd.func46, Tryd.ntmps46
  go_wp2_with fail
  first | rw [HW0.out] | simp only [z1, z2, z3, z4, HW0.out]
  clear HW0
  go_loopw [6] (fun v6 wr => ∃ k : Nat, k ≤ 4 ∧ v6 = .int .i64 k ∧ wr = W0 ∧ Hid ((0 < k → ¬ s = a) ∧ (1 < k → ¬ s = b) ∧ (2 < k → ¬ s = c) ∧ (3 < k → ¬ s = d))) (fun v6 _ => 4 - (intOf v6).toNat)
  case atStart => exact ⟨0, by omega, rfl, rfl, hide (by omega)⟩
  case round =>
    obtain ⟨k, hk, rfl, rfl, HX⟩ := hrel
    rcases (show k = 0 ∨ k = 1 ∨ k = 2 ∨ k = 3 ∨ k = 4 by omega) with rfl | rfl | rfl | rfl | rfl
    · by_cases e : s = a
      · have hr : res = 1 := by rw [spec.out, if_pos e]; rfl
        subst hr
        have ee : (a.toList == s.toList) = true := by rw [eq_bytes]; exact decide_eq_true e.symm
        clear e spec HX
        go_wp2_with fail
        go_ret
        exact ⟨rfl, HA.out⟩
      · have ee : (a.toList == s.toList) = false := by rw [eq_bytes]; exact decide_eq_false (fun h => e h.symm)
        have HX1 : Hid ((0 < 1 → ¬ s = a) ∧ (1 < 1 → ¬ s = b) ∧ (2 < 1 → ¬ s = c) ∧ (3 < 1 → ¬ s = d)) := hide ⟨fun h => e, fun h => absurd h (by omega), fun h => absurd h (by omega), fun h => absurd h (by omega)⟩
        clear e
        go_wp2_with fail
        go_roundw
        case rel => exact ⟨1, by omega, by rfl, trivial, HX1⟩
        case measure => simp [intOf]
    · by_cases e : s = b
      · have hr : res = 2 := by rw [spec.out, if_neg (HX.out.1 (by omega)), if_pos e]; rfl
        subst hr
        have ee : (b.toList == s.toList) = true := by rw [eq_bytes]; exact decide_eq_true e.symm
        clear e spec HX
        go_wp2_with fail
        go_ret
        exact ⟨rfl, HA.out⟩
      · have ee : (b.toList == s.toList) = false := by rw [eq_bytes]; exact decide_eq_false (fun h => e h.symm)
        have HX1 : Hid ((0 < 2 → ¬ s = a) ∧ (1 < 2 → ¬ s = b) ∧ (2 < 2 → ¬ s = c) ∧ (3 < 2 → ¬ s = d)) := hide ⟨fun h => HX.out.1 (by omega), fun h => e, fun h => absurd h (by omega), fun h => absurd h (by omega)⟩
        clear e
        go_wp2_with fail
        go_roundw
        case rel => exact ⟨2, by omega, by rfl, trivial, HX1⟩
        case measure => simp [intOf]
    · by_cases e : s = c
      · have hr : res = 3 := by rw [spec.out, if_neg (HX.out.1 (by omega)), if_neg (HX.out.2.1 (by omega)), if_pos e]; rfl
        subst hr
        have ee : (c.toList == s.toList) = true := by rw [eq_bytes]; exact decide_eq_true e.symm
        clear e spec HX
        go_wp2_with fail
        go_ret
        exact ⟨rfl, HA.out⟩
      · have ee : (c.toList == s.toList) = false := by rw [eq_bytes]; exact decide_eq_false (fun h => e h.symm)
        have HX1 : Hid ((0 < 3 → ¬ s = a) ∧ (1 < 3 → ¬ s = b) ∧ (2 < 3 → ¬ s = c) ∧ (3 < 3 → ¬ s = d)) := hide ⟨fun h => HX.out.1 (by omega), fun h => HX.out.2.1 (by omega), fun h => e, fun h => absurd h (by omega)⟩
        clear e
        go_wp2_with fail
        go_roundw
        case rel => exact ⟨3, by omega, by rfl, trivial, HX1⟩
        case measure => simp [intOf]
    · by_cases e : s = d
      · have hr : res = 4 := by rw [spec.out, if_neg (HX.out.1 (by omega)), if_neg (HX.out.2.1 (by omega)), if_neg (HX.out.2.2.1 (by omega)), if_pos e]; rfl
        subst hr
        have ee : (d.toList == s.toList) = true := by rw [eq_bytes]; exact decide_eq_true e.symm
        clear e spec HX
        go_wp2_with fail
        go_ret
        exact ⟨rfl, HA.out⟩
      · have ee : (d.toList == s.toList) = false := by rw [eq_bytes]; exact decide_eq_false (fun h => e h.symm)
        have HX1 : Hid ((0 < 4 → ¬ s = a) ∧ (1 < 4 → ¬ s = b) ∧ (2 < 4 → ¬ s = c) ∧ (3 < 4 → ¬ s = d)) := hide ⟨fun h => HX.out.1 (by omega), fun h => HX.out.2.1 (by omega), fun h => HX.out.2.2.1 (by omega), fun h => e⟩
        clear e
        go_wp2_with fail
        go_roundw
        case rel => exact ⟨4, by omega, by rfl, trivial, HX1⟩
        case measure => simp [intOf]
    · have hr : res = 0 := by rw [spec.out, if_neg (HX.out.1 (by omega)), if_neg (HX.out.2.1 (by omega)), if_neg (HX.out.2.2.1 (by omega)), if_neg (HX.out.2.2.2 (by omega))]; rfl
      subst hr
      clear spec HX
      go_wp2_with fail
      go_ret
      exact ⟨rfl, HA.out⟩
end Go.Proofs.YtpjolnaomdmnnaaDoor
