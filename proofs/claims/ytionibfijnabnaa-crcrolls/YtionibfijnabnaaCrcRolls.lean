/- For every sum and every two numbers the law CrcRolls answers true: Roll by a few bytes is the document's, Roll by a sum of two numbers is Roll by the one, then by the other, and a number outside 0 to 2^40 is refused; no conditions. -/
import Derived.Test.YtionibfijnabnaaAwake
namespace Go.Proofs.Ytionibfijnabnaa.crcRolls
open Go.ChangeShapes Go.WideShapes Go.ChangeAt Go.RowKit
set_option linter.unusedVariables false

theorem own : ownKnob Try.prog.godebug = none := by kernel_rfl

theorem few_bd (a : Int) : 0 ≤ wrap64 ((IntKind.u64.wrap a).tmod 400) ∧ wrap64 ((IntKind.u64.wrap a).tmod 400) ≤ 399 := by
  have h0 : 0 ≤ IntKind.u64.wrap a := by simp [IntKind.wrap, IntKind.bits, IntKind.signed]; omega
  have e : (IntKind.u64.wrap a).tmod 400 = IntKind.u64.wrap a % 400 := Int.tmod_eq_emod_of_nonneg h0
  rw [e]
  generalize IntKind.u64.wrap a = b at h0
  unfold wrap64
  omega

theorem roll_add (x : BitVec 16) (m n : Int) (h0 : 0 ≤ m) (h1 : 0 ≤ n) : pw (8 * n.toNat) (pw (8 * m.toNat) x) = pw (8 * (m + n).toNat) x := by
  rw [← pw_add]; congr 1; omega
theorem roll_add' (x : BitVec 16) (m n : Int) (h0 : 0 ≤ m) (h1 : 0 ≤ n) : pw (8 * m.toNat) (pw (8 * n.toNat) x) = pw (8 * (m + n).toNat) x := by
  rw [← pw_add]; congr 1; omega

set_option maxHeartbeats 1000000 in
theorem walk (a0 a1 a2 : Int) (w0 : (Lit.int .u16 a0).wf = true) (w1 : (Lit.int .i64 a1).wf = true) (w2 : (Lit.int .i64 a2).wf = true) (w : World) :
    Calls Try.prog 5 #[.int .u16 a0, .int .i64 a1, .int .i64 a2] w fun e w' => e = .returned (.bool true) ∧ Below w.heap.size w w' := by
  have b0 := bounds_u16 w0
  have b2 := bounds_i64 w2
  obtain ⟨x, rfl⟩ := uv_of a0 b0.1 b0.2
  clear b0 w0 w1 w2
  go_enter Try.func5, Try.ntmps5
  go_wp2_with fail
  refine (awake_any _).mono ?_; rintro e w1 ⟨rfl, rfl⟩
  go_wp2_with fail
  have hf := few_bd a1
  generalize wrap64 ((IntKind.u64.wrap a1).tmod 400) = n at *
  generalize IntKind.u64.wrap a1 = b at *
  obtain ⟨f0, f1⟩ := hf
  refine (roll_any x n f0 (by omega) _).mono ?_; rintro e w1 ⟨rfl, rfl⟩
  go_wp2_with fail
  refine (rroll_any x n f0 (by omega) _).mono ?_; rintro e w1 ⟨rfl, rfl⟩
  by_cases hlo : a2 < 0
  · go_wp2_with fail
    refine (roll_no x a2 (.inl hlo) _).mono ?_; rintro e w1 ⟨rfl, rfl⟩
    go_wp2_with fail
    go_ret
    exact ⟨rfl, (Below.refl _ _).alloc (Nat.le_refl _) _⟩
  · by_cases hhi : 1099511627776 < a2
    · go_wp2_with fail
      refine (roll_no x a2 (.inr hhi) _).mono ?_; rintro e w1 ⟨rfl, rfl⟩
      go_wp2_with fail
      go_ret
      exact ⟨rfl, (Below.refl _ _).alloc (Nat.le_refl _) _⟩
    · go_wp2_with fail
      refine (roll_any x a2 (by omega) (by omega) _).mono ?_; rintro e w1 ⟨rfl, rfl⟩
      by_cases hfar : 1099511627776 - n < a2
      · go_wp2_with fail
        go_ret
        exact ⟨rfl, (Below.refl _ _).alloc (Nat.le_refl _) _⟩
      · go_wp2_with fail
        refine (roll_any _ n f0 (by omega) _).mono ?_; rintro e w1 ⟨rfl, rfl⟩
        rw [roll_add x a2 n (by omega) (by omega)]
        go_wp2_with fail
        refine (roll_any x (a2 + n) (by omega) (by omega) _).mono ?_; rintro e w1 ⟨rfl, rfl⟩
        go_wp2_with fail
        refine (roll_any _ a2 (by omega) (by omega) _).mono ?_; rintro e w1 ⟨rfl, rfl⟩
        rw [roll_add' x a2 n (by omega) (by omega)]
        go_wp2_with fail
        go_ret
        exact ⟨rfl, (Below.refl _ _).alloc (Nat.le_refl _) _⟩

set_option maxRecDepth 100000 in
theorem lifted (os : Os) (started : os.Started) (H : Type) (enc : TypeId × Value → H) :
    ReturnsInHanded {} Try.checked os 5 .any (Rows.crcRollsSpec.pre6 enc Try.prog Try.f5 Rows.crcRollsRow.domain false) (Rows.crcRollsSpec.post enc Try.prog Try.f5 false true false false) := by
  refine returnsInHanded_of_change (C := Try.checked) own started (by kernel_rfl) Try.func5
    (ChangeSpec.witness6 (enc := enc) (C := Try.checked) false ⟨#[], #[.int .u16 0, .int .i64 0, .int .i64 0], []⟩ 8 (by kernel_rfl) (by kernel_rfl) (by kernel_rfl) (by kernel_rfl)) ?_
  intro W base args ds gs before hval0 hW hcnd _
  have hval : ∀ (j : Nat) t v, Try.f5.params[j]? = some t → args[j]? = some v → Value.okWide Try.prog W .any base t v := hval0
  have hW' := hW
  obtain ⟨p, q, hA0, hV, rfl, hfz, hnd⟩ := hW
  have hA : DataW.TrodAll enc Try.prog W 0 (fun _ => true) true Try.f5.params.toList args.toList ds p := hA0
  rw [Try.params5] at hA hval
  obtain ⟨v0, vs0, d0, ds0, p0, q0, hargs, rfl, rfl, h0, r0⟩ := trodAll_cons hA
  obtain ⟨v1, vs1, d1, ds1, p1, q1, rfl, rfl, rfl, h1, r1⟩ := trodAll_cons r0
  obtain ⟨v2, vs2, d2, ds2, p2, q2, rfl, rfl, rfl, h2, r2⟩ := trodAll_cons r1
  obtain ⟨rfl, rfl, rfl⟩ := trodAll_nil r2
  obtain rfl : args = #[v0, v1, v2] := by cases args; simp_all
  obtain ⟨rfl, rfl⟩ := trodVars_none hV
  obtain ⟨a0, rfl, rfl, rfl, w0⟩ := open_int Try.underlying22 (hval 0 22 v0 rfl rfl) h0
  obtain ⟨a1, rfl, rfl, rfl, w1⟩ := open_int Try.underlying3 (hval 1 3 v1 rfl rfl) h1
  obtain ⟨a2, rfl, rfl, rfl, w2⟩ := open_int Try.underlying3 (hval 2 3 v2 rfl rfl) h2
  clear hA0 hval0
  refine (walk a0 a1 a2 w0 w1 w2 W).mono fun e W' ⟨he, bel⟩ => ?_
  subst he
  exact ⟨_, rfl, _, _, _, [], _, [], hW', trodAll_mk1 (shut_bool Try.underlying4 _), (trodAll_cons_mk (shut_int Try.underlying22 w0) (trodAll_cons_mk (shut_int Try.underlying3 w1) (trodAll_cons_mk (shut_int Try.underlying3 w2) trodAll_mk0))), rfl, bel.frame _, fun h => by cases h⟩

theorem over : Rows.crcRollsRow.holds Try.pinned (OpenSpec.ofChange Rows.crcRollsSpec) :=
  OpenClaim.holds_of_wide 5 Try.f5 rfl rfl rfl rfl rfl rfl rfl ⟨rfl, rfl, rfl, rfl, rfl⟩ rfl rfl rfl rfl rfl (by kernel_rfl) Try.func5 (by kernel_rfl)
    (of_decide_eq_true (by kernel_rfl)) (by unfold Func.isWrapper; first | (rw [if_pos (by decide +kernel)]; kernel_rfl) | (rw [if_neg (by decide +kernel)]; exact ⟨rfl, rfl⟩))
    (fun os started H enc _ => lifted os started H enc)

theorem proved : Rows.CrcRollsSaid := over
end Go.Proofs.Ytionibfijnabnaa.crcRolls
