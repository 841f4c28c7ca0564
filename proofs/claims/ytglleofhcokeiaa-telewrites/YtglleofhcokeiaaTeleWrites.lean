/- For every telegram the law TeleWrites answers true: it is written as the bytes of the document and read as it, or the same error is told by Check and Encode as by the document; no conditions. -/
import Derived.Test.YtglleofhcokeiaaRByt
import Derived.Test.YtglleofhcokeiaaRDec
import Derived.Test.YtglleofhcokeiaaTAwake
import Derived.Test.YtglleofhcokeiaaArgs
import Derived.Test.YtglleofhcokeiaaTMath
namespace Go.Proofs.Ytglleofhcokeiaa.teleWrites
open Go.ChangeShapes Go.WideShapes Go.ChangeAt Go.RowKit
set_option linter.unusedVariables false

theorem own : ownKnob Try.prog.godebug = none := by kernel_rfl
theorem laidOut : laidOutB Try.prog = true := by kernel_rfl

set_option maxHeartbeats 4000000 in
theorem walk_no (k d s a b : Int) (w : World) (hin : Tl.In ⟨k, d, s, a, b⟩) (hc : chk ⟨k, d, s, a, b⟩ ≠ 0) :
    Calls Try.prog 3 #[.agg #[.int .u8 k, .int .u16 d, .int .u16 s, .int .u16 a, .int .u16 b]] w fun e w' => e = .returned (.bool true) ∧ Below w.heap.size w w' := by
  have k10 := fun W => rcheck_any k d s a b W hin.1 hin.2.2.2.1 hin.2.2.2.2
  have k11 := fun W => encode_no k d s a b W hc
  have k12 := fun W => check_any k d s a b W
  generalize chk ⟨k, d, s, a, b⟩ = z at *
  have K10 := hide k10
  have K11 := hide k11
  have K12 := hide k12
  clear k10 k11 k12 hin
  go_enter Try.func3, Try.ntmps3
  go_wp2_with (first
    | (go_at_call 9; refine (tawake_any _).mono ?_; rintro e w1 ⟨rfl, hb1⟩; obtain ⟨x0, x1, x2, x3, x4⟩ := box5 hb1)
    | (go_at_call 10; refine (K10.out _).mono ?_; rintro e w2 ⟨rfl, hb2⟩; have hc2 := hb1.trans (hb2.mono hb1.size); obtain ⟨y0, y1, y2, y3, y4⟩ := box5 hc2)
    | (go_at_call 11; refine (K11.out _).mono ?_; rintro e w3 ⟨rfl, hb3⟩; have hc3 := hc2.trans (hb3.mono hc2.size); obtain ⟨u0, u1, u2, u3, u4⟩ := box5 hc3)
    | (go_at_call 12; refine (K12.out _).mono ?_; rintro e w4 ⟨rfl, hb4⟩; have hc4 := hc3.trans (hb4.mono hc3.size)))
  go_ret
  exact ⟨rfl, ((Below.refl _ _).alloc (Nat.le_refl _) _).trans (hc4.mono (by simp))⟩

set_option maxHeartbeats 4000000 in
theorem walk_yes (k d s a b : Int) (w : World) (hin : Tl.In ⟨k, d, s, a, b⟩) (hc : chk ⟨k, d, s, a, b⟩ = 0) :
    Calls Try.prog 3 #[.agg #[.int .u8 k, .int .u16 d, .int .u16 s, .int .u16 a, .int .u16 b]] w fun e w' => e = .returned (.bool true) ∧ Below w.heap.size w w' := by
  have k10 := fun W => rcheck_any k d s a b W hin.1 hin.2.2.2.1 hin.2.2.2.2
  have k11 := fun W => encode_yes k d s a b W hc hin
  have k12 := fun W => check_any k d s a b W
  have k14 := fun W => bytes_any k d s a b W hin
  have k13 : ∀ W B v, Ow W B v (enc ⟨k, d, s, a, b⟩) → Calls Try.prog 13 #[v] W fun e w' => e = .returned (.tuple #[.agg #[.int .u8 k, .int .u16 d, .int .u16 s, .int .u16 a, .int .u16 b], .int .i64 0]) ∧ Below W.heap.size W w' := by
    intro W B v hown
    have := decode_any (Bs.own hown) (Cp.own hown) (enc_in _ hin)
    rw [dcode_enc, dtele_enc _ hc, hc] at this
    exact this
  rw [hc] at k10 k12
  have K10 := hide k10
  have K11 := hide k11
  have K12 := hide k12
  have K13 := hide k13
  have K14 := hide k14
  clear k10 k11 k12 k13 k14 hin hc
  generalize enc ⟨k, d, s, a, b⟩ = l at *
  go_enter Try.func3, Try.ntmps3
  go_upto_region 10 with (first
    | (go_at_call 9; refine (tawake_any _).mono ?_; rintro e w1 ⟨rfl, hb1⟩; obtain ⟨x0, x1, x2, x3, x4⟩ := box5 hb1)
    | (go_at_call 10; refine (K10.out _).mono ?_; rintro e w2 ⟨rfl, hb2⟩; have hc2 := hb1.trans (hb2.mono hb1.size); obtain ⟨y0, y1, y2, y3, y4⟩ := box5 hc2)
    | (go_at_call 11; refine (K11.out _).mono ?_; rintro e w3 ⟨v, rfl, hown, hb3⟩; have hc3 := hc2.trans (hb3.mono hc2.size); obtain ⟨u0, u1, u2, u3, u4⟩ := box5 hc3)
    | (go_at_call 12; refine (K12.out _).mono ?_; rintro e w4 ⟨rfl, hb4⟩; have hc4 := hc3.trans (hb4.mono hc3.size); have hown4 := hown.keep hb4)
    | (go_at_call 13; refine (K13.out _ _ _ hown4).mono ?_; rintro e w5 ⟨rfl, hb5⟩; have hc5 := hc4.trans (hb5.mono hc4.size); have hown5 := hown4.keep hb5; obtain ⟨q0, q1, q2, q3, q4⟩ := box5 hc5))
  have hc6 := hc5.alloc hc5.size (.cells #[.int .u8 k, .int .u16 d, .int .u16 s, .int .u16 a, .int .u16 b] 24)
  have hown6 := hown5.keep ((Below.refl _ _).alloc (Nat.le_refl _) (.cells #[.int .u8 k, .int .u16 d, .int .u16 s, .int .u16 a, .int .u16 b] 24))
  have n6 : ∀ i, (w5.alloc (.cells #[.int .u8 k, .int .u16 d, .int .u16 s, .int .u16 a, .int .u16 b] 24)).cell? ⟨w5.heap.size, i, none⟩ = #[Value.int .u8 k, .int .u16 d, .int .u16 s, .int .u16 a, .int .u16 b][i]? := fun i => cell_new _ _ _ _ _
  have l6 : w5.heap.size < (w5.alloc (.cells #[.int .u8 k, .int .u16 d, .int .u16 s, .int .u16 a, .int .u16 b] 24)).heap.size := by simp
  generalize w5.alloc (.cells #[.int .u8 k, .int .u16 d, .int .u16 s, .int .u16 a, .int .u16 b] 24) = W6 at *
  generalize w5.heap.size = g at *
  have H6 : Hid (∀ W, Below W6.heap.size W6 W → (W.cell? ⟨w.heap.size, 0, none⟩ = some (.int .u8 k) ∧ W.cell? ⟨w.heap.size, 1, none⟩ = some (.int .u16 d) ∧ W.cell? ⟨w.heap.size, 2, none⟩ = some (.int .u16 s) ∧ W.cell? ⟨w.heap.size, 3, none⟩ = some (.int .u16 a) ∧ W.cell? ⟨w.heap.size, 4, none⟩ = some (.int .u16 b)
      ∧ W.cell? ⟨g, 0, none⟩ = some (.int .u8 k) ∧ W.cell? ⟨g, 1, none⟩ = some (.int .u16 d) ∧ W.cell? ⟨g, 2, none⟩ = some (.int .u16 s) ∧ W.cell? ⟨g, 3, none⟩ = some (.int .u16 a) ∧ W.cell? ⟨g, 4, none⟩ = some (.int .u16 b)
      ∧ (convert 27 9 v).run Try.prog W = .ok (.string (str l)) W)) := hide (fun W hW => by
    obtain ⟨p0, p1, p2, p3, p4⟩ := box5 (hc6.trans (hW.mono hc6.size))
    refine ⟨p0, p1, p2, p3, p4, ?_, ?_, ?_, ?_, ?_, conv_str (Bs.own (hown6.keep hW))⟩
    · rw [hW.cell (p := ⟨g, 0, none⟩) l6]; exact n6 0
    · rw [hW.cell (p := ⟨g, 1, none⟩) l6]; exact n6 1
    · rw [hW.cell (p := ⟨g, 2, none⟩) l6]; exact n6 2
    · rw [hW.cell (p := ⟨g, 3, none⟩) l6]; exact n6 3
    · rw [hW.cell (p := ⟨g, 4, none⟩) l6]; exact n6 4)
  obtain ⟨p0, p1, p2, p3, p4, r0, r1, r2, r3, r4, cv⟩ := H6.out _ (Below.refl _ _)
  have Hc6 := hide hc6
  clear hc6 hown6 hown5 hown4 hown n6 l6 hc2 hc3 hc4 hc5 hb1 hb2 hb3 hb4 hb5 x0 x1 x2 x3 x4 y0 y1 y2 y3 y4 u0 u1 u2 u3 u4 q0 q1 q2 q3 q4
  have cvd : (convert 27 9 v).run Try.prog W6.drew = .ok (.string (str l)) W6.drew := (H6.out _ (Below.refl _ _).drew).2.2.2.2.2.2.2.2.2.2
  go_region_with (go_at_call 14; refine (K14.out _).mono ?_; rintro e w7 ⟨v2, rfl, hown7, hb7⟩; have hd7 : Below W6.heap.size W6 w7 := ⟨hb7.os, hb7.tape, hb7.output, hb7.size, hb7.block⟩; have cv7 := conv_str (Bs.own hown7); obtain ⟨o0, o1, o2, o3, o4, o5, o6, o7, o8, o9, o10⟩ := H6.out _ hd7)
  all_goals
    have hf7 := ((Below.refl w.heap.size w).alloc (Nat.le_refl _) (.cells #[.int .u8 k, .int .u16 d, .int .u16 s, .int .u16 a, .int .u16 b] 24)).trans ((Hc6.out.trans (hd7.mono Hc6.out.size)).mono (by simp))
    go_wp2_with fail
    go_ret
    exact ⟨rfl, ⟨hf7.os, hf7.tape, hf7.output, hf7.size, hf7.block⟩⟩

theorem walk (t0 : Tl) (w : World) (hin : t0.In) :
    Calls Try.prog 3 #[.agg #[.int .u8 t0.k, .int .u16 t0.d, .int .u16 t0.s, .int .u16 t0.a, .int .u16 t0.b]] w fun e w' => e = .returned (.bool true) ∧ Below w.heap.size w w' := by
  obtain ⟨k, d, s, a, b⟩ := t0
  by_cases hc : chk ⟨k, d, s, a, b⟩ = 0
  · exact walk_yes k d s a b w hin hc
  · exact walk_no k d s a b w hin hc

set_option maxRecDepth 100000 in
theorem lifted (os : Os) (started : os.Started) (H : Type) (enc : TypeId × Value → H) :
    ReturnsInHanded {} Try.checked os 3 .any (Rows.teleWritesSpec.pre6 enc Try.prog Try.f3 Rows.teleWritesRow.domain false) (Rows.teleWritesSpec.post enc Try.prog Try.f3 false true false false) := by
  refine returnsInHanded_of_change_sized (C := Try.checked) own started (by kernel_rfl) Try.func3
    (ChangeSpec.witness6 (enc := enc) (C := Try.checked) false ⟨#[], #[.agg #[.int .u8 0, .int .u16 0, .int .u16 0, .int .u16 0, .int .u16 0]], []⟩ 8 (by kernel_rfl) (by kernel_rfl) (by kernel_rfl) (by kernel_rfl)) ?_
  intro W base args ds gs before hval0 hW hcnd hsz0 _
  have hval : ∀ (j : Nat) t v, Try.f3.params[j]? = some t → args[j]? = some v → Value.okWide Try.prog W .any base t v := hval0
  have hsz : (DataW.weightsEach Try.prog (Try.f3.params.toList ++ Rows.teleWritesSpec.plain.varTypes Try.prog) (ds ++ gs)).all (· ≤ reachBytes) = true := hsz0
  have hW' := hW
  obtain ⟨p, q, hA0, hV, rfl, hfz, hnd⟩ := hW
  have hA : DataW.TrodAll enc Try.prog W 0 (fun _ => true) true Try.f3.params.toList args.toList ds p := hA0
  rw [Try.params3] at hA hval hsz
  obtain ⟨v0, vs0, d0, ds0, p0, q0, hargs, rfl, rfl, h0, r0⟩ := trodAll_cons hA
  obtain ⟨rfl, rfl, rfl⟩ := trodAll_nil r0
  obtain rfl : args = #[v0] := by cases args; simp_all
  obtain ⟨rfl, rfl⟩ := trodVars_none hV
  have k0 := h0
  have lt0 : ∀ x ∈ p0, x.block < W.heap.size := by obtain ⟨m, hm⟩ := k0; exact DataW.trod_lt m _ _ _ hm
  obtain ⟨cs0, rfl, _⟩ := okWide_struct Try.underlying24 (hval 0 24 v0 rfl rfl)
  obtain ⟨t0, w0, e0⟩ : ∃ t : Tl, t.In ∧ cs0 = #[.int .u8 t.k, .int .u16 t.d, .int .u16 t.s, .int .u16 t.a, .int .u16 t.b] := by
    obtain ⟨fuel, hf⟩ := h0
    obtain ⟨t, ht, he⟩ := tele_of_trod hf
    exact ⟨t, ht, by apply Array.toList_inj.1; exact he⟩
  subst e0
  clear hA0 hval0
  refine (walk t0 W w0).mono fun e W' ⟨he, bel⟩ => ?_
  subst he
  exact ⟨_, rfl, _, _, _, [], _, [], hW', trodAll_mk1 (shut_bool Try.underlying4 _), (trodAll_cons_mk (Below.trod laidOut (by kernel_rfl) (of_decide_eq_true (by kernel_rfl)) k0 bel lt0) trodAll_mk0), rfl, bel.frame _, fun h => by cases h⟩

theorem over : Rows.teleWritesRow.holds Try.pinned (OpenSpec.ofChange Rows.teleWritesSpec) :=
  OpenClaim.holds_of_wide 3 Try.f3 rfl rfl rfl rfl rfl rfl rfl ⟨rfl, rfl, rfl, rfl, rfl⟩ rfl rfl rfl rfl rfl (by kernel_rfl) Try.func3 (by kernel_rfl)
    (of_decide_eq_true (by kernel_rfl)) (by unfold Func.isWrapper; first | (rw [if_pos (by decide +kernel)]; kernel_rfl) | (rw [if_neg (by decide +kernel)]; exact ⟨rfl, rfl⟩))
    (fun os started H enc _ => lifted os started H enc)

theorem proved : Rows.TeleWritesSaid := over
end Go.Proofs.Ytglleofhcokeiaa.teleWrites
