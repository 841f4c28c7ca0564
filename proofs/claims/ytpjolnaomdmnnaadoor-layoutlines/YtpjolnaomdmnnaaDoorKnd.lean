/- kindOf, zoneOf, strings.Clone. -/
import Derived.Test.YtpjolnaomdmnnaaDoorSpec
namespace Go.Proofs.YtpjolnaomdmnnaaDoor
open Go.RowKit
set_option linter.unusedVariables false

/-- what lies in the package's variables -/
structure Laid (w : World) : Prop where
  k0 : w.cell? ⟨0, 0, none⟩ = some (.string (str [116, 114, 97, 99, 107]))
  k1 : w.cell? ⟨0, 1, none⟩ = some (.string (str [115, 108, 111, 116]))
  k2 : w.cell? ⟨0, 2, none⟩ = some (.string (str [115, 116, 97, 116, 105, 111, 110]))
  k3 : w.cell? ⟨0, 3, none⟩ = some (.string (str [103, 97, 116, 101]))
  m : ∃ m, w.cell? ⟨2, 0, none⟩ = some (.int .i64 m)
  t : Lib.Utf8Tabs 3 4 w
theorem Laid.keep {w w' : World} {B : Nat} (L : Laid w) (hB : 5 ≤ B) (h : Below B w w') : Laid w' where
  k0 := by rw [h.cell (by show 0 < B; omega)]; exact L.k0
  k1 := by rw [h.cell (by show 0 < B; omega)]; exact L.k1
  k2 := by rw [h.cell (by show 0 < B; omega)]; exact L.k2
  k3 := by rw [h.cell (by show 0 < B; omega)]; exact L.k3
  m := by obtain ⟨m, hm⟩ := L.m; exact ⟨m, by rw [h.cell (by show 2 < B; omega)]; exact hm⟩
  t := ⟨fun c hc => by rw [h.cell (by show 3 < B; omega)]; exact L.t.1 c hc, fun i hi => ⟨by rw [h.cell (by show 4 < B; omega)]; exact (L.t.2 i hi).1, by rw [h.cell (by show 4 < B; omega)]; exact (L.t.2 i hi).2⟩⟩

theorem eq_bytes (a b : ByteArray) : (a.toList == b.toList) = decide (a = b) := by
  rw [ByteArray.toList_eq, ByteArray.toList_eq]
  by_cases h : a = b
  · subst h; simp
  · rw [decide_eq_false h]
    refine beq_eq_false_iff_ne.2 fun e => h ?_
    cases a; cases b
    simp only [ByteArray.mk.injEq] at e ⊢
    exact Array.toList_inj.1 e

set_option maxRecDepth 100000 in
set_option maxHeartbeats 2000000 in
theorem kindOf_any (s : ByteArray) (w : World) (L : Laid w) : Calls Tryd.prog 57 #[.string s] w fun e w' => e = .returned (.tuple #[.int .i64 ((kindS s).getD 0), .bool (kindS s).isSome]) ∧ w' = w := by
  have k0 := L.k0
  have k1 := L.k1
  have k2 := L.k2
  have k3 := L.k3
  clear L
  generalize ea : str [116, 114, 97, 99, 107] = a at *
  generalize eb : str [115, 108, 111, 116] = b at *
  generalize ec : str [115, 116, 97, 116, 105, 111, 110] = c at *
  generalize ed : str [103, 97, 116, 101] = d at *
  have x0 : ∀ W : World, (Instr.index 57 (.agg #[.string a, .string b, .string c, .string d]) (.int .i64 0)).run Tryd.prog W = .ok (.string a) W := fun W => by kernel_rfl
  have x1 : ∀ W : World, (Instr.index 57 (.agg #[.string a, .string b, .string c, .string d]) (.int .i64 1)).run Tryd.prog W = .ok (.string b) W := fun W => by kernel_rfl
  have x2 : ∀ W : World, (Instr.index 57 (.agg #[.string a, .string b, .string c, .string d]) (.int .i64 2)).run Tryd.prog W = .ok (.string c) W := fun W => by kernel_rfl
  have x3 : ∀ W : World, (Instr.index 57 (.agg #[.string a, .string b, .string c, .string d]) (.int .i64 3)).run Tryd.prog W = .ok (.string d) W := fun W => by kernel_rfl
  have spec : Hid (kindS s = if s = a then some 1 else if s = b then some 2 else if s = c then some 3 else if s = d then some 4 else none) := hide (by rw [← ea, ← eb, ← ec, ← ed]; rfl)
  clear ea eb ec ed
  go_enter Tryd.func57, Tryd.ntmps57
  go_wp2_with fail
  go_loopw [7] (fun v7 wr => ∃ k : Nat, k ≤ 4 ∧ v7 = .int .i64 k ∧ wr = w ∧ Hid ((0 < k → ¬ s = a) ∧ (1 < k → ¬ s = b) ∧ (2 < k → ¬ s = c) ∧ (3 < k → ¬ s = d))) (fun v7 _ => 4 - (intOf v7).toNat)
  case atStart => exact ⟨0, by omega, rfl, rfl, hide (by omega)⟩
  case round =>
    obtain ⟨k, hk, rfl, rfl, HX⟩ := hrel
    rcases (show k = 0 ∨ k = 1 ∨ k = 2 ∨ k = 3 ∨ k = 4 by omega) with rfl | rfl | rfl | rfl | rfl
    · by_cases e : s = a
      · have hr : kindS s = some 1 := by rw [spec.out, if_pos e]
        have Hr := hide hr
        have ee : (a.toList == s.toList) = true := by rw [eq_bytes]; exact decide_eq_true e.symm
        clear e spec hr HX
        go_wp2_with fail
        go_ret2
        exact ⟨by rw [Hr.out]; rfl, rfl⟩
      · have ee : (a.toList == s.toList) = false := by rw [eq_bytes]; exact decide_eq_false (fun h => e h.symm)
        have HX1 : Hid ((0 < 1 → ¬ s = a) ∧ (1 < 1 → ¬ s = b) ∧ (2 < 1 → ¬ s = c) ∧ (3 < 1 → ¬ s = d)) := hide ⟨fun h => e, fun h => absurd h (by omega), fun h => absurd h (by omega), fun h => absurd h (by omega)⟩
        clear e
        go_wp2_with fail
        go_roundw
        case rel => exact ⟨1, by omega, by rfl, trivial, HX1⟩
        case measure => simp [intOf]
    · by_cases e : s = b
      · have hr : kindS s = some 2 := by rw [spec.out, if_neg (HX.out.1 (by omega)), if_pos e]
        have Hr := hide hr
        have ee : (b.toList == s.toList) = true := by rw [eq_bytes]; exact decide_eq_true e.symm
        clear e spec hr HX
        go_wp2_with fail
        go_ret2
        exact ⟨by rw [Hr.out]; rfl, rfl⟩
      · have ee : (b.toList == s.toList) = false := by rw [eq_bytes]; exact decide_eq_false (fun h => e h.symm)
        have HX1 : Hid ((0 < 2 → ¬ s = a) ∧ (1 < 2 → ¬ s = b) ∧ (2 < 2 → ¬ s = c) ∧ (3 < 2 → ¬ s = d)) := hide ⟨fun h => HX.out.1 (by omega), fun h => e, fun h => absurd h (by omega), fun h => absurd h (by omega)⟩
        clear e
        go_wp2_with fail
        go_roundw
        case rel => exact ⟨2, by omega, by rfl, trivial, HX1⟩
        case measure => simp [intOf]
    · by_cases e : s = c
      · have hr : kindS s = some 3 := by rw [spec.out, if_neg (HX.out.1 (by omega)), if_neg (HX.out.2.1 (by omega)), if_pos e]
        have Hr := hide hr
        have ee : (c.toList == s.toList) = true := by rw [eq_bytes]; exact decide_eq_true e.symm
        clear e spec hr HX
        go_wp2_with fail
        go_ret2
        exact ⟨by rw [Hr.out]; rfl, rfl⟩
      · have ee : (c.toList == s.toList) = false := by rw [eq_bytes]; exact decide_eq_false (fun h => e h.symm)
        have HX1 : Hid ((0 < 3 → ¬ s = a) ∧ (1 < 3 → ¬ s = b) ∧ (2 < 3 → ¬ s = c) ∧ (3 < 3 → ¬ s = d)) := hide ⟨fun h => HX.out.1 (by omega), fun h => HX.out.2.1 (by omega), fun h => e, fun h => absurd h (by omega)⟩
        clear e
        go_wp2_with fail
        go_roundw
        case rel => exact ⟨3, by omega, by rfl, trivial, HX1⟩
        case measure => simp [intOf]
    · by_cases e : s = d
      · have hr : kindS s = some 4 := by rw [spec.out, if_neg (HX.out.1 (by omega)), if_neg (HX.out.2.1 (by omega)), if_neg (HX.out.2.2.1 (by omega)), if_pos e]
        have Hr := hide hr
        have ee : (d.toList == s.toList) = true := by rw [eq_bytes]; exact decide_eq_true e.symm
        clear e spec hr HX
        go_wp2_with fail
        go_ret2
        exact ⟨by rw [Hr.out]; rfl, rfl⟩
      · have ee : (d.toList == s.toList) = false := by rw [eq_bytes]; exact decide_eq_false (fun h => e h.symm)
        have HX1 : Hid ((0 < 4 → ¬ s = a) ∧ (1 < 4 → ¬ s = b) ∧ (2 < 4 → ¬ s = c) ∧ (3 < 4 → ¬ s = d)) := hide ⟨fun h => HX.out.1 (by omega), fun h => HX.out.2.1 (by omega), fun h => HX.out.2.2.1 (by omega), fun h => e⟩
        clear e
        go_wp2_with fail
        go_roundw
        case rel => exact ⟨4, by omega, by rfl, trivial, HX1⟩
        case measure => simp [intOf]
    · have hr : kindS s = none := by rw [spec.out, if_neg (HX.out.1 (by omega)), if_neg (HX.out.2.1 (by omega)), if_neg (HX.out.2.2.1 (by omega)), if_neg (HX.out.2.2.2 (by omega))]
      have Hr := hide hr
      clear spec hr HX
      go_wp2_with fail
      go_ret2
      exact ⟨by rw [Hr.out]; rfl, rfl⟩

theorem dec1 (s : ByteArray) : (Lib.decodeGo s).2 = s.size ∧ (48 ≤ (Lib.decodeGo s).1 ∧ (Lib.decodeGo s).1 ≤ 55) ↔ s.size = 1 ∧ 48 ≤ byteAt s 0 ∧ byteAt s 0 ≤ 55 := by
  unfold Lib.decodeGo
  by_cases h0 : s.size = 0
  · rw [if_pos h0]
    constructor
    · rintro ⟨_, _, h⟩; simp at h
    · rintro ⟨h, _⟩; omega
  · rw [if_neg h0]
    have hlt : 0 < s.size := by omega
    rw [byteAt_eq s 0 hlt]
    by_cases ha : (s[0]'hlt).toNat < 128
    · rw [decode_ascii s 0 hlt ha]
      simp only
      constructor
      · rintro ⟨h1, h2⟩; exact ⟨h1.symm, h2⟩
      · rintro ⟨h1, h2⟩; exact ⟨h1.symm, h2⟩
    · have := (decode_high s 0 hlt (by omega)).1
      constructor
      · rintro ⟨_, _, h⟩; omega
      · rintro ⟨_, _, h⟩; omega
theorem dec2 (s : ByteArray) (h : s.size = 1 ∧ 48 ≤ byteAt s 0 ∧ byteAt s 0 ≤ 55) : (Lib.decodeGo s).1 = byteAt s 0 := by
  unfold Lib.decodeGo
  rw [if_neg (by omega)]
  have hlt : 0 < s.size := by omega
  have hb := byteAt_eq s 0 hlt
  rw [decode_ascii s 0 hlt (by omega), hb]
theorem dec3 (s : ByteArray) : (Lib.decodeGo s).1 ≤ 2147483647 := by
  unfold Lib.decodeGo
  split
  · simp
  · exact decode_le s 0

set_option maxRecDepth 100000 in
set_option maxHeartbeats 1000000 in
theorem zoneOf_any (s : ByteArray) (w : World) (L : Laid w) : Calls Tryd.prog 58 #[.string s] w fun e w' => e = .returned (.tuple #[.int .i64 ((zoneS s).getD 0), .bool (zoneS s).isSome]) ∧ Below w.heap.size w w' := by
  have K67 := hide (Tryd.utf8_DecodeRuneInString s w L.t)
  have K51 := hide (fun z W => isZone_any z W)
  have d1 := dec1 s
  have d2 := dec2 s
  have d3 := dec3 s
  have spec : zoneS s = if s.size = 1 ∧ 48 ≤ byteAt s 0 ∧ byteAt s 0 ≤ 55 then some ((byteAt s 0 : Int) - 48) else none := rfl
  by_cases hz : s.size = 1 ∧ 48 ≤ byteAt s 0 ∧ byteAt s 0 ≤ 55
  · rw [spec, if_pos hz, ← d2 hz]
    have hd := d1.2 hz
    clear d1 d2 spec
    generalize (Lib.decodeGo s).1 = r at *
    generalize (Lib.decodeGo s).2 = q at *
    obtain ⟨e1, e2, e3⟩ := hd
    subst e1
    have zz : zoneB ((r : Int) - 48) = true := by unfold zoneB; exact decide_eq_true (by omega)
    have i1 : IntKind.i32.wrap ((r : Int) - 48) = (r : Int) - 48 := by unfold IntKind.wrap; simp [IntKind.bits, IntKind.signed]; omega
    have i2 : IntKind.i64.wrap ((r : Int) - 48) = (r : Int) - 48 := by unfold IntKind.wrap; simp [IntKind.bits, IntKind.signed]; omega
    clear hz e2 e3 d3
    go_enter Tryd.func58, Tryd.ntmps58
    go_wp2_with (first
      | (go_at_call 67; refine (K67.out).mono ?_; rintro e W1 ⟨rfl, hb1⟩; have Hb1 := hide hb1; clear hb1)
      | (go_at_call 51; refine (K51.out _ _).mono ?_; rintro e W2 ⟨rfl, rfl⟩; rw [zz]))
    go_ret2
    exact ⟨by simp, Hb1.out⟩
  · rw [spec, if_neg hz]
    have hd : ¬ ((Lib.decodeGo s).2 = s.size ∧ (48 ≤ (Lib.decodeGo s).1 ∧ (Lib.decodeGo s).1 ≤ 55)) := fun h => hz (d1.1 h)
    clear d1 d2 spec hz
    generalize (Lib.decodeGo s).1 = r at *
    generalize (Lib.decodeGo s).2 = q at *
    have i1 : IntKind.i32.wrap ((r : Int) - 48) = (r : Int) - 48 := by unfold IntKind.wrap; simp [IntKind.bits, IntKind.signed]; omega
    have i2 : IntKind.i64.wrap ((r : Int) - 48) = (r : Int) - 48 := by unfold IntKind.wrap; simp [IntKind.bits, IntKind.signed]; omega
    by_cases hq : q = s.size
    · subst hq
      have zz : zoneB ((r : Int) - 48) = false := by unfold zoneB; exact decide_eq_false (by omega)
      clear hd d3
      go_enter Tryd.func58, Tryd.ntmps58
      go_wp2_with (first
        | (go_at_call 67; refine (K67.out).mono ?_; rintro e W1 ⟨rfl, hb1⟩; have Hb1 := hide hb1; clear hb1)
        | (go_at_call 51; refine (K51.out _ _).mono ?_; rintro e W2 ⟨rfl, rfl⟩; rw [zz]))
      go_ret2
      exact ⟨rfl, Hb1.out⟩
    · have hq' : ¬ (q : Int) = (s.size : Int) := by omega
      clear hd d3 hq
      go_enter Tryd.func58, Tryd.ntmps58
      go_wp2_with (first
        | (go_at_call 67; refine (K67.out).mono ?_; rintro e W1 ⟨rfl, hb1⟩; have Hb1 := hide hb1; clear hb1)
        | (go_at_call 51; refine (K51.out _ _).mono ?_; rintro e W2 ⟨rfl, rfl⟩))
      go_ret2
      exact ⟨rfl, Hb1.out⟩

set_option maxHeartbeats 1000000 in
theorem clone_any (s : ByteArray) (w : World) (hs : s.size ≤ 100000) : Calls Tryd.prog 59 #[.string s] w fun e w' => e = .returned (.string s) ∧ Below w.heap.size w w' := by
  have K70 := hide (Tryd.stringslite_Clone s w (by omega))
  go_enter Tryd.func59, Tryd.ntmps59
  go_wp2_with (go_at_call 70; refine (K70.out).mono ?_; rintro e W1 ⟨rfl, hb1⟩; have Hb1 := hide hb1; clear hb1)
  go_ret
  exact ⟨rfl, Hb1.out⟩
end Go.Proofs.YtpjolnaomdmnnaaDoor
