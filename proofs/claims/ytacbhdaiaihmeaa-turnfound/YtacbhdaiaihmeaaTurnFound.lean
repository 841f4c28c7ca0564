/- For every two numbers the law TurnFound answers true: a number is found again by its lowest 16 bits beside any number less than 2^15 away, and Dist tells their distance by these bits alone; no conditions. -/
import Derived.Test.YtacbhdaiaihmeaaRowz
namespace Go.Proofs.Ytacbhdaiaihmeaa.turnFound
open Go.ChangeShapes Go.WideShapes Go.ChangeAt Go.RowKit
set_option linter.unusedVariables false

theorem own : ownKnob Try.prog.godebug = none := by kernel_rfl
theorem laidOut : laidOutB Try.prog = true := by kernel_rfl

/-- the lowest 61 bits -/
theorem low61 (n : Int) : 0 ≤ bits .and .i64 n 2305843009213693951 ∧ bits .and .i64 n 2305843009213693951 ≤ 2305843009213693951 := by
  unfold bits
  have e : (BitVec.ofInt IntKind.i64.bits n &&& BitVec.ofInt IntKind.i64.bits 2305843009213693951).toNat ≤ 2305843009213693951 := by
    rw [BitVec.toNat_and]
    exact Nat.le_trans Nat.and_le_right (by decide)
  have f : IntKind.i64.wrap (((BitVec.ofInt IntKind.i64.bits n &&& BitVec.ofInt IntKind.i64.bits 2305843009213693951).toNat : Nat) : Int) = ((BitVec.ofInt IntKind.i64.bits n &&& BitVec.ofInt IntKind.i64.bits 2305843009213693951).toNat : Int) := by
    generalize (BitVec.ofInt IntKind.i64.bits n &&& BitVec.ofInt IntKind.i64.bits 2305843009213693951).toNat = m at e ⊢
    simp [IntKind.wrap, IntKind.bits, IntKind.signed]; omega
  show 0 ≤ IntKind.i64.wrap _ ∧ IntKind.i64.wrap _ ≤ _
  rw [f]; omega

theorem away_in (a : Int) : 0 ≤ wrap64 ((IntKind.u64.wrap a).tmod 65535) ∧ wrap64 ((IntKind.u64.wrap a).tmod 65535) ≤ 65534 := by
  have h0 : 0 ≤ IntKind.u64.wrap a := by simp [IntKind.wrap, IntKind.bits, IntKind.signed]; omega
  have e : (IntKind.u64.wrap a).tmod 65535 = IntKind.u64.wrap a % 65535 := Int.tmod_eq_emod_of_nonneg h0
  rw [e]
  generalize IntKind.u64.wrap a = b at h0
  unfold wrap64
  omega

theorem dst_near (n last : Int) (h : -32768 ≤ last - n ∧ last - n ≤ 32767) : dst (n % 65536) (last % 65536) = last - n := by
  unfold dst up; split <;> omega
theorem lik_near (n last : Int) (h0 : 0 ≤ n) (h : -32767 ≤ last - n ∧ last - n ≤ 32767) : lik last (n % 65536) = n := by
  unfold lik
  rw [dst_near last n (by omega)]
  rw [if_neg (by omega)]; omega

set_option maxHeartbeats 2000000 in
theorem walk (n0 n1 : Int) (w : World) (h0 : -9223372036854775808 ≤ n0 ∧ n0 ≤ 9223372036854775807) (h1 : -9223372036854775808 ≤ n1 ∧ n1 ≤ 9223372036854775807) :
    Calls Try.prog 6 #[.int .i64 n0, .int .i64 n1] w fun e w' => e = .returned (.bool true) ∧ Below w.heap.size w w' := by
  clear h0 h1
  have hn := low61 n0
  have ha := away_in n1
  go_enter Try.func6, Try.ntmps6
  go_upto_region 5 with (go_at_call 10; refine (awake_any _).mono ?_; rintro e w' ⟨rfl, rfl⟩)
  generalize wrap64 ((IntKind.u64.wrap n1).tmod 65535) = a at *
  generalize (IntKind.u64.wrap n1).tmod 65535 = b' at *
  generalize IntKind.u64.wrap n1 = b at *
  generalize bits .and .i64 n0 2305843009213693951 = n at *
  obtain ⟨p0, p1⟩ := hn
  obtain ⟨a0, a1⟩ := ha
  have t1 : n.tmod 65536 = n % 65536 := Int.tmod_eq_emod_of_nonneg p0
  by_cases hl : n + (a - 32767) < 0
  · have e15 : lik n (n % 65536) = n := lik_near n n p0 (by omega)
    have e9 : dst (n % 65536) (n % 65536) = 0 := by rw [dst_near n n (by omega)]; omega
    have en : n % 65536 = n := by omega
    have k15 := fun W => likely_any n (n % 65536) W (by omega)
    have k9 := fun W => dist_any (n % 65536) (n % 65536) W
    rw [e15] at k15
    rw [e9] at k9
    rw [en] at k9 k15 t1
    have K15 := hide k15
    have K9 := hide k9
    clear k15 k9 e15 e9 en
    go_wp2_with (first
      | (go_at_call 15; refine (K15.out _).mono ?_; rintro e w' ⟨rfl, rfl⟩)
      | (go_at_call 9; refine (K9.out _).mono ?_; rintro e w' ⟨rfl, rfl⟩))
    go_ret
    exact ⟨rfl, Below.refl _ _⟩
  · have t2 : (n + (a - 32767)).tmod 65536 = (n + (a - 32767)) % 65536 := Int.tmod_eq_emod_of_nonneg (by omega)
    have e15 : lik (n + (a - 32767)) (n % 65536) = n := lik_near n _ p0 (by omega)
    have e9 : dst (n % 65536) ((n + (a - 32767)) % 65536) = a - 32767 := by rw [dst_near n _ (by omega)]; omega
    have k15 := fun W => likely_any (n + (a - 32767)) (n % 65536) W (by omega)
    have k9 := fun W => dist_any (n % 65536) ((n + (a - 32767)) % 65536) W
    rw [e15] at k15
    rw [e9] at k9
    obtain ⟨m, hm, m0, m1⟩ : ∃ m, n % 65536 = m ∧ 0 ≤ m ∧ m ≤ 65535 := ⟨_, rfl, by omega, by omega⟩
    obtain ⟨l, hl', l0, l1⟩ : ∃ m, (n + (a - 32767)) % 65536 = m ∧ 0 ≤ m ∧ m ≤ 65535 := ⟨_, rfl, by omega, by omega⟩
    rw [hm] at k15 k9 t1
    rw [hl'] at k9 t2
    have K15 := hide k15
    have K9 := hide k9
    clear k15 k9 e15 e9 hm hl'
    go_wp2_with (first
      | (go_at_call 15; refine (K15.out _).mono ?_; rintro e w' ⟨rfl, rfl⟩)
      | (go_at_call 9; refine (K9.out _).mono ?_; rintro e w' ⟨rfl, rfl⟩))
    go_ret
    exact ⟨rfl, Below.refl _ _⟩

set_option maxRecDepth 100000 in
theorem lifted (os : Os) (started : os.Started) (H : Type) (enc : TypeId × Value → H) :
    ReturnsInHanded {} Try.checked os 6 .any (Rows.turnFoundSpec.pre6 enc Try.prog Try.f6 Rows.turnFoundRow.domain false) (Rows.turnFoundSpec.post enc Try.prog Try.f6 false true false false) := by
  refine returnsInHanded_of_change_sized (C := Try.checked) own started (by kernel_rfl) Try.func6
    (ChangeSpec.witness6 (enc := enc) (C := Try.checked) false ⟨#[], #[.int .i64 0, .int .i64 0], []⟩ 8 (by kernel_rfl) (by kernel_rfl) (by kernel_rfl) (by kernel_rfl)) ?_
  intro W base args ds gs before hval0 hW hcnd hsz0 _
  have hval : ∀ (j : Nat) t v, Try.f6.params[j]? = some t → args[j]? = some v → Value.okWide Try.prog W .any base t v := hval0
  have hsz : (DataW.weightsEach Try.prog (Try.f6.params.toList ++ Rows.turnFoundSpec.plain.varTypes Try.prog) (ds ++ gs)).all (· ≤ reachBytes) = true := hsz0
  have hW' := hW
  obtain ⟨p, q, hA0, hV, rfl, hfz, hnd⟩ := hW
  have hA : DataW.TrodAll enc Try.prog W 0 (fun _ => true) true Try.f6.params.toList args.toList ds p := hA0
  rw [Try.params6] at hA hval hsz
  obtain ⟨v0, vs0, d0, ds0, p0, q0, hargs, rfl, rfl, h0, r0⟩ := trodAll_cons hA
  obtain ⟨v1, vs1, d1, ds1, p1, q1, rfl, rfl, rfl, h1, r1⟩ := trodAll_cons r0
  obtain ⟨rfl, rfl, rfl⟩ := trodAll_nil r1
  obtain rfl : args = #[v0, v1] := by cases args; simp_all
  obtain ⟨rfl, rfl⟩ := trodVars_none hV
  have k0 := h0
  have lt0 : ∀ x ∈ p0, x.block < W.heap.size := by obtain ⟨m, hm⟩ := k0; exact DataW.trod_lt m _ _ _ hm
  obtain ⟨n0, rfl⟩ := okWide_int Try.underlying3 (hval 0 3 v0 rfl rfl)
  have w0 : (Lit.int .i64 n0).wf = true := by
    obtain ⟨fuel, hf⟩ := h0
    obtain ⟨m, e, _, hw⟩ := DataW.trod_int Try.underlying3 hf
    simp [Value.cells] at e
    rw [e]; exact hw
  have k1 := h1
  have lt1 : ∀ x ∈ p1, x.block < W.heap.size := by obtain ⟨m, hm⟩ := k1; exact DataW.trod_lt m _ _ _ hm
  obtain ⟨n1, rfl⟩ := okWide_int Try.underlying3 (hval 1 3 v1 rfl rfl)
  have w1 : (Lit.int .i64 n1).wf = true := by
    obtain ⟨fuel, hf⟩ := h1
    obtain ⟨m, e, _, hw⟩ := DataW.trod_int Try.underlying3 hf
    simp [Value.cells] at e
    rw [e]; exact hw
  clear hA0 hval0
  refine (walk n0 n1 W (bounds_i64 w0) (bounds_i64 w1)).mono fun e W' ⟨he, bel⟩ => ?_
  subst he
  exact ⟨_, rfl, _, _, _, [], _, [], hW', trodAll_mk1 (shut_bool Try.underlying4 _), (trodAll_cons_mk (Below.trod laidOut (by kernel_rfl) (of_decide_eq_true (by kernel_rfl)) k0 bel lt0) (trodAll_cons_mk (Below.trod laidOut (by kernel_rfl) (of_decide_eq_true (by kernel_rfl)) k1 bel lt1) trodAll_mk0)), rfl, bel.frame _, fun h => by cases h⟩

theorem over : Rows.turnFoundRow.holds Try.pinned (OpenSpec.ofChange Rows.turnFoundSpec) :=
  OpenClaim.holds_of_wide 6 Try.f6 rfl rfl rfl rfl rfl rfl rfl ⟨rfl, rfl, rfl, rfl, rfl⟩ rfl rfl rfl rfl rfl (by kernel_rfl) Try.func6 (by kernel_rfl)
    (of_decide_eq_true (by kernel_rfl)) (by unfold Func.isWrapper; first | (rw [if_pos (by decide +kernel)]; kernel_rfl) | (rw [if_neg (by decide +kernel)]; exact ⟨rfl, rfl⟩))
    (fun os started H enc _ => lifted os started H enc)

theorem proved : Rows.TurnFoundSaid := over
end Go.Proofs.Ytacbhdaiaihmeaa.turnFound
