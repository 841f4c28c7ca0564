/- For every layout and every list of calls the law PlantFaults answers true: a device out of order does nothing, whatever it is told, and goes on where it was when it is mended; the others don't care; no conditions. -/
import Derived.Test.YthcdfclhenmleaaPfw
namespace Go.Proofs.Ythcdfclhenmleaa.plantFaults
open Go.ChangeShapes Go.WideShapes Go.ChangeAt Go.RowKit
set_option linter.unusedVariables false

theorem own : ownKnob Try.prog.godebug = none := by kernel_rfl
theorem laidOut : laidOutB Try.prog = true := by kernel_rfl

theorem walk (a0 b0 : Option Addr) (c0 e0 : Nat) (ns0 : List Nd) (es0 : List Ed) (a1 : Option Addr) (len1 cap1 : Nat) (z1 : List Op) (n2 : Int) (w : World) (L : Lyt w a0 b0 c0 e0 ns0.length es0.length ns0 es0) (w1 : z1.length = len1) (s1 : Ops w (.slice a1 len1 cap1) z1) (k2 : -9223372036854775808 ≤ n2 ∧ n2 ≤ 9223372036854775807) :
    Calls Try.prog 7 #[.agg #[.slice a0 ns0.length c0, .slice b0 es0.length e0], .slice a1 len1 cap1, .int .i64 n2] w fun e w' => e = .returned (.bool true) ∧ Below w.heap.size w w' :=
  faults_any a0 b0 c0 e0 _ _ ns0 es0 a1 len1 cap1 z1 n2 w L w1 s1

set_option maxRecDepth 100000 in
theorem lifted (os : Os) (started : os.Started) (H : Type) (enc : TypeId × Value → H) :
    ReturnsInHanded {} Try.checked os 7 .any (Rows.plantFaultsSpec.pre6 enc Try.prog Try.f7 Rows.plantFaultsRow.domain false) (Rows.plantFaultsSpec.post enc Try.prog Try.f7 false true false false) := by
  refine returnsInHanded_of_change_sized (C := Try.checked) own started (by kernel_rfl) Try.func7
    (ChangeSpec.witness6 (enc := enc) (C := Try.checked) false ⟨#[], #[.agg #[.slice none 0 0, .slice none 0 0], .slice none 0 0, .int .i64 0], []⟩ 8 (by kernel_rfl) (by kernel_rfl) (by kernel_rfl) (by kernel_rfl)) ?_
  intro W base args ds gs before hval0 hW hcnd hsz0 _
  have hval : ∀ (j : Nat) t v, Try.f7.params[j]? = some t → args[j]? = some v → Value.okWide Try.prog W .any base t v := hval0
  have hsz : (DataW.weightsEach Try.prog (Try.f7.params.toList ++ Rows.plantFaultsSpec.plain.varTypes Try.prog) (ds ++ gs)).all (· ≤ reachBytes) = true := hsz0
  have hW' := hW
  obtain ⟨p, q, hA0, hV, rfl, hfz, hnd⟩ := hW
  have hA : DataW.TrodAll enc Try.prog W 0 (fun _ => true) true Try.f7.params.toList args.toList ds p := hA0
  rw [Try.params7] at hA hval hsz
  obtain ⟨v0, vs0, d0, ds0, p0, q0, hargs, rfl, rfl, h0, r0⟩ := trodAll_cons hA
  obtain ⟨v1, vs1, d1, ds1, p1, q1, rfl, rfl, rfl, h1, r1⟩ := trodAll_cons r0
  obtain ⟨v2, vs2, d2, ds2, p2, q2, rfl, rfl, rfl, h2, r2⟩ := trodAll_cons r1
  obtain ⟨rfl, rfl, rfl⟩ := trodAll_nil r2
  obtain rfl : args = #[v0, v1, v2] := by cases args; simp_all
  obtain ⟨rfl, rfl⟩ := trodVars_none hV
  have k0 := h0
  have lt0 : ∀ x ∈ p0, x.block < W.heap.size := by obtain ⟨m, hm⟩ := k0; exact DataW.trod_lt m _ _ _ hm
  obtain ⟨cs0, rfl, _⟩ := okWide_struct Try.underlying25 (hval 0 25 v0 rfl rfl)
  obtain ⟨a0, c0, b0, e0, ns0, es0, hcs0, rn0⟩ : ∃ (a : Option Addr) (c : Nat) (a' : Option Addr) (c' : Nat) (ns : List Nd) (es : List Ed), cs0 = #[.slice a ns.length c, .slice a' es.length c'] ∧ Lyt W a a' c c' ns.length es.length ns es := by
    obtain ⟨fuel, hf⟩ := h0
    obtain ⟨a, c, a', c', ns, es, he, h1⟩ := lyt_of_trod hf
    exact ⟨a, c, a', c', ns, es, by apply Array.toList_inj.1; exact he, h1⟩
  subst hcs0
  obtain ⟨a1, len1, cap1, rfl⟩ := okWide_slice Try.underlying26 (hval 1 26 v1 rfl rfl)
  have k1 := h1
  have lt1 : ∀ x ∈ p1, x.block < W.heap.size := by obtain ⟨m, hm⟩ := k1; exact DataW.trod_lt m _ _ _ hm
  obtain ⟨z1, w1, s1⟩ : ∃ hs : List Op, hs.length = len1 ∧ Ops W (.slice a1 len1 cap1) hs := by
    obtain ⟨fuel, hf⟩ := h1
    exact ops_of_trod hf rfl
  have k2 := h2
  have lt2 : ∀ x ∈ p2, x.block < W.heap.size := by obtain ⟨m, hm⟩ := k2; exact DataW.trod_lt m _ _ _ hm
  obtain ⟨n2, rfl⟩ := okWide_int Try.underlying3 (hval 2 3 v2 rfl rfl)
  have w2 : (Lit.int .i64 n2).wf = true := by
    obtain ⟨fuel, hf⟩ := h2
    obtain ⟨m, e, _, hw⟩ := DataW.trod_int Try.underlying3 hf
    simp [Value.cells] at e
    rw [e]; exact hw
  clear hA0 hval0
  refine (walk a0 b0 c0 e0 ns0 es0 a1 len1 cap1 z1 n2 W rn0 w1 s1 (bounds_i64 w2)).mono fun e W' ⟨he, bel⟩ => ?_
  subst he
  exact ⟨_, rfl, _, _, _, [], _, [], hW', trodAll_mk1 (shut_bool Try.underlying4 _), (trodAll_cons_mk (Below.trod laidOut (by kernel_rfl) (of_decide_eq_true (by kernel_rfl)) k0 bel lt0) (trodAll_cons_mk (Below.trod laidOut (by kernel_rfl) (of_decide_eq_true (by kernel_rfl)) k1 bel lt1) (trodAll_cons_mk (Below.trod laidOut (by kernel_rfl) (of_decide_eq_true (by kernel_rfl)) k2 bel lt2) trodAll_mk0))), rfl, bel.frame _, fun h => by cases h⟩

theorem over : Rows.plantFaultsRow.holds Try.pinned (OpenSpec.ofChange Rows.plantFaultsSpec) :=
  OpenClaim.holds_of_wide 7 Try.f7 rfl rfl rfl rfl rfl rfl rfl ⟨rfl, rfl, rfl, rfl, rfl⟩ rfl rfl rfl rfl rfl (by kernel_rfl) Try.func7 (by kernel_rfl)
    (of_decide_eq_true (by kernel_rfl)) (by unfold Func.isWrapper; first | (rw [if_pos (by decide +kernel)]; kernel_rfl) | (rw [if_neg (by decide +kernel)]; exact ⟨rfl, rfl⟩))
    (fun os started H enc _ => lifted os started H enc)

theorem proved : Rows.PlantFaultsSaid := over
end Go.Proofs.Ythcdfclhenmleaa.plantFaults
