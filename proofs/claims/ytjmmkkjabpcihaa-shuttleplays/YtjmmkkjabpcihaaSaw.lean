/- awake: the document's example. -/
import Derived.Test.YtjmmkkjabpcihaaShd
namespace Go.Proofs.Ytjmmkkjabpcihaa
open Go.RowKit
set_option linter.unusedVariables false

theorem Chg.below {w0 W W' : World} {g b : Nat} {S : Sh} (c : Chg W g S W') (hb : Below b w0 W) (hg : b ≤ g) (hw : b ≤ w0.heap.size) : Below b w0 W' := hb.grown c.gr (Nat.le_trans hw hb.size) (fun k hk => by cases hk; exact hg)

set_option maxRecDepth 100000 in
set_option maxHeartbeats 1000000 in
theorem awake_any (w : World) : Calls Try.prog 8 #[] w fun e w' => e = .returned (.bool true) ∧ Below w.heap.size w w' := by
  obtain ⟨w0, rfl⟩ : ∃ w0, w0 = w := ⟨_, rfl⟩
  obtain ⟨g, hg⟩ : ∃ g, w0.heap.size = g := ⟨_, rfl⟩
  have K9 : Hid (Calls Try.prog 9 #[.int .i64 5, .int .i64 0, .int .i64 3] w0 fun e w' => e = .returned (.tuple #[.pointer (some ⟨g, 0, none⟩), .int .i64 0]) ∧ Shb w' g ⟨5, 3, 0, 0, 0, 0, 0, 0, 0, 0⟩ ∧ Below g w0 w') := hide (by rw [← hg]; exact new_ok 5 0 3 w0 (by unfold noN; omega))
  have KB : Hid (∀ W S W', Below g w0 W → Chg W g S W' → Below g w0 W') := hide (fun W S W' hb c => c.below hb (Nat.le_refl _) (by omega))
  have KBa : Hid (∀ W o, Below g w0 W → Below g w0 (W.alloc o)) := hide (fun W o hb => hb.alloc (by have := hb.size; omega) _)
  have o1 : Sh.Ok ⟨5, 3, 0, 1, 0, 0, 7, 2, 4, 0⟩ := (Sh.ok_new (n := 5) (a := 0) (p := 3) (by omega) (by omega) (by omega) (by omega) (by omega) (by omega)).as 7 2 4
  have K11 : Hid (∀ W, Shb W g ⟨5, 3, 0, 0, 0, 0, 0, 0, 0, 0⟩ → Calls Try.prog 11 #[.pointer (some ⟨g, 0, none⟩), .agg #[.int .i64 7, .int .i64 2, .int .i64 4]] W fun e w' => e = .returned (.int .i64 0) ∧ Chg W g ⟨5, 3, 0, 1, 0, 0, 7, 2, 4, 0⟩ w') := hide (fun W h => as_any h 7 2 4)
  have K13 : Hid (∀ W, Shb W g ⟨5, 3, 0, 1, 0, 0, 7, 2, 4, 0⟩ → Calls Try.prog 13 #[.pointer (some ⟨g, 0, none⟩)] W fun e w' => e = .returned (.agg #[.int .i64 1, .int .i64 2]) ∧ Chg W g ⟨5, 3, 0, 1, 0, 1, 7, 2, 4, 0⟩ w') := hide (fun W h => tick_any h o1)
  have K15 : Hid (∀ W, Shb W g ⟨5, 3, 0, 1, 0, 1, 7, 2, 4, 0⟩ → Calls Try.prog 15 #[.pointer (some ⟨g, 0, none⟩), .int .i64 2] W fun e w' => e = .returned (.int .i64 0) ∧ Chg W g ⟨5, 3, 2, 2, 0, 0, 7, 2, 4, 0⟩ w') := hide (fun W h => mv_any h 2)
  have K23 : Hid (∀ W, Shb W g ⟨5, 3, 2, 2, 0, 0, 7, 2, 4, 0⟩ → Calls Try.prog 23 #[.pointer (some ⟨g, 0, none⟩)] W fun e w' => e = .returned (.int .i64 2) ∧ w' = W) := hide (fun W h => state_any h)
  have K17 : Hid (∀ W, Shb W g ⟨5, 3, 2, 2, 0, 0, 7, 2, 4, 0⟩ → Calls Try.prog 17 #[.pointer (some ⟨g, 0, none⟩), .int .i64 7] W fun e w' => e = .returned (.int .i64 0) ∧ Chg W g ⟨5, 3, 2, 3, 0, 0, 7, 2, 4, 0⟩ w') := hide (fun W h => pk_any h 7)
  have K25 : Hid (∀ W, Shb W g ⟨5, 3, 2, 3, 0, 0, 7, 2, 4, 0⟩ → Calls Try.prog 25 #[.pointer (some ⟨g, 0, none⟩)] W fun e w' => e = .returned (.int .i64 7) ∧ w' = W) := hide (fun W h => load_any h)
  have K15' : Hid (∀ W, Shb W g ⟨5, 3, 2, 3, 0, 0, 7, 2, 4, 0⟩ → Calls Try.prog 15 #[.pointer (some ⟨g, 0, none⟩), .int .i64 4] W fun e w' => e = .returned (.int .i64 0) ∧ Chg W g ⟨5, 3, 4, 4, 0, 0, 7, 2, 4, 0⟩ w') := hide (fun W h => mv_any h 4)
  have K19 : Hid (∀ W, Shb W g ⟨5, 3, 4, 4, 0, 0, 7, 2, 4, 0⟩ → Calls Try.prog 19 #[.pointer (some ⟨g, 0, none⟩), .int .i64 7] W fun e w' => e = .returned (.int .i64 0) ∧ Chg W g ⟨5, 3, 4, 0, 0, 0, 7, 2, 4, 1⟩ w') := hide (fun W h => dp_any h 7 ⟨by show (0 : Int) ≤ 0; omega, by show (0 : Int) ≤ 1000000; omega⟩)
  have K26 : Hid (∀ W, Shb W g ⟨5, 3, 4, 0, 0, 0, 7, 2, 4, 1⟩ → Calls Try.prog 26 #[.pointer (some ⟨g, 0, none⟩)] W fun e w' => e = .returned (.int .i64 1) ∧ w' = W) := hide (fun W h => done_any h)
  rw [hg]
  clear hg o1
  go_enter Try.func8, Try.ntmps8
  go_upto_region 5 with (first
    | (go_at_call 9; refine K9.out.mono ?_; rintro e W1 ⟨rfl, hs, hb⟩; have HS1 := hide hs; have HB1 := hide hb; clear hs hb)
    | (go_at_call 11; refine (K11.out _ HS1.out).mono ?_; rintro e W2 ⟨rfl, hc⟩; have HS2 := hide hc.sh; have HB2 := hide (KB.out _ _ _ HB1.out hc); clear hc)
    | (go_at_call 13; refine (K13.out _ HS2.out).mono ?_; rintro e W3 ⟨rfl, hc⟩; have HS3 := hide hc.sh; have HB3 := hide (KB.out _ _ _ HB2.out hc); clear hc))
  have HB4 := hide (KBa.out W3 (.cells #[.int .i64 1, .int .i64 2] 41) HB3.out)
  have HS4 := hide (HS3.out.keep ((Below.refl _ _).alloc (Nat.le_refl _) (.cells #[.int .i64 1, .int .i64 2] 41)))
  have HX := heap_new W3 (.cells #[.int .i64 1, .int .i64 2] 41)
  obtain ⟨h, hh⟩ : ∃ h, W3.heap.size = h := ⟨_, rfl⟩
  rw [hh] at HX
  try rw [hh]
  have hX := hide HX
  clear hh HX
  generalize W3.alloc (.cells #[.int .i64 1, .int .i64 2] 41) = W4 at *
  have x0 : W4.cell? ⟨h, 0, none⟩ = some (.int .i64 1) := (cells_at hX.out 0).1
  have x1 : W4.cell? ⟨h, 1, none⟩ = some (.int .i64 2) := (cells_at hX.out 1).1
  clear HS1 HS2 HS3 HB1 HB2 HB3 K9 K11 K13
  go_wp2_with (first
    | (go_at_call_of 15 (Value.int .i64 2); refine (K15.out _ HS4.out).mono ?_; rintro e W5 ⟨rfl, hc⟩; have HS5 := hide hc.sh; have HB5 := hide (KB.out _ _ _ HB4.out hc); clear hc)
    | (go_at_call 23; refine (K23.out _ HS5.out).mono ?_; rintro e W6 ⟨rfl, hW⟩; have hW' := hW.symm; clear hW; subst hW')
    | (go_at_call 17; refine (K17.out _ HS5.out).mono ?_; rintro e W7 ⟨rfl, hc⟩; have HS7 := hide hc.sh; have HB7 := hide (KB.out _ _ _ HB5.out hc); clear hc)
    | (go_at_call 25; refine (K25.out _ HS7.out).mono ?_; rintro e W8 ⟨rfl, hW⟩; have hW' := hW.symm; clear hW; subst hW')
    | (go_at_call_of 15 (Value.int .i64 4); refine (K15'.out _ HS7.out).mono ?_; rintro e W9 ⟨rfl, hc⟩; have HS9 := hide hc.sh; have HB9 := hide (KB.out _ _ _ HB7.out hc); clear hc)
    | (go_at_call 19; refine (K19.out _ HS9.out).mono ?_; rintro e W10 ⟨rfl, hc⟩; have HS10 := hide hc.sh; have HB10 := hide (KB.out _ _ _ HB9.out hc); clear hc)
    | (go_at_call 26; refine (K26.out _ HS10.out).mono ?_; rintro e W11 ⟨rfl, hW⟩; have hW' := hW.symm; clear hW; subst hW'))
  go_ret
  exact ⟨rfl, HB10.out⟩
end Go.Proofs.Ytjmmkkjabpcihaa
