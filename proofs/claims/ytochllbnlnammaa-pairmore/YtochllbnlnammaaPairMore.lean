/- A job more never makes the least drive less, nor more than its own drive, there and back, alone: PairMore returns true for every input; no conditions. -/
import Derived.Test.YtochllbnlnammaaPmw
import Derived.Test.YtochllbnlnammaaPag
namespace Go.Proofs.Ytochllbnlnammaa.pairMore
open Go.ChangeShapes Go.WideShapes Go.ChangeAt Go.RowKit
set_option linter.unusedVariables false

theorem own : ownKnob Try.prog.godebug = none := by kernel_rfl
theorem laidOut : laidOutB Try.prog = true := by kernel_rfl

theorem walk (a : Option Addr) (n c : Nat) (L : List (Int × Int)) (b : Option Addr) (m d : Nat) (M : List (Int × Int)) (x y : Int) (w : World) (hn : L.length = n) (hv : spE.Rd w (.slice a n c) L) (q1 : n * 16 ≤ 140737488351232) (hm : M.length = m) (hu : spE.Rd w (.slice b m d) M) (q2 : m * 16 ≤ 140737488351232) :
    Calls Try.prog 8 #[.slice a n c, .slice b m d, .agg #[.int .i64 x, .int .i64 y]] w fun e w' => e = .returned (.bool true) ∧ Below w.heap.size w w' := more_walk a n c L b m d M x y w hn hv q1 hm hu q2

set_option maxRecDepth 100000 in
theorem lifted (os : Os) (started : os.Started) (H : Type) (enc : TypeId × Value → H) :
    ReturnsInHanded {} Try.checked os 8 .any (Rows.pairMoreSpec.pre6 enc Try.prog Try.f8 Rows.pairMoreRow.domain false) (Rows.pairMoreSpec.post enc Try.prog Try.f8 false true false false) := by
  refine returnsInHanded_of_change_sized (C := Try.checked) own started (by kernel_rfl) Try.func8
    (ChangeSpec.witness6 (enc := enc) (C := Try.checked) false ⟨#[], #[.slice none 0 0, .slice none 0 0, .agg #[.int .i64 0, .int .i64 0]], []⟩ 8 (by kernel_rfl) (by kernel_rfl) (by kernel_rfl) (by kernel_rfl)) ?_
  intro W base args ds gs before hval0 hW hcnd hsz0 _
  have hval : ∀ (j : Nat) t v, Try.f8.params[j]? = some t → args[j]? = some v → Value.okWide Try.prog W .any base t v := hval0
  have hsz : (DataW.weightsEach Try.prog (Try.f8.params.toList ++ Rows.pairMoreSpec.plain.varTypes Try.prog) (ds ++ gs)).all (· ≤ reachBytes) = true := hsz0
  have hW' := hW
  obtain ⟨p, q, hA0, hV, rfl, hfz, hnd⟩ := hW
  have hA : DataW.TrodAll enc Try.prog W 0 (fun _ => true) true Try.f8.params.toList args.toList ds p := hA0
  rw [Try.params8] at hA hval hsz
  obtain ⟨v0, vs0, d0, ds0, p0, q0, hargs, rfl, rfl, h0, r0⟩ := trodAll_cons hA
  obtain ⟨v1, vs1, d1, ds1, p1, q1, rfl, rfl, rfl, h1, r1⟩ := trodAll_cons r0
  obtain ⟨v2, vs2, d2, ds2, p2, q2, rfl, rfl, rfl, h2, r2⟩ := trodAll_cons r1
  obtain ⟨rfl, rfl, rfl⟩ := trodAll_nil r2
  obtain rfl : args = #[v0, v1, v2] := by cases args; simp_all
  obtain ⟨rfl, rfl⟩ := trodVars_none hV
  obtain ⟨a0, len0, cap0, rfl⟩ := okWide_slice Try.underlying30 (hval 0 30 v0 rfl rfl)
  have k0 := h0
  have lt0 : ∀ x ∈ p0, x.block < W.heap.size := by obtain ⟨m, hm⟩ := k0; exact DataW.trod_lt m _ _ _ hm
  obtain ⟨z0, w0, s0, _⟩ : ∃ zs : List (Int × Int), zs.length = len0 ∧ spE.Rd W (.slice a0 len0 cap0) zs ∧ ∀ y ∈ zs, True := by
    obtain ⟨fuel, hf⟩ := h0
    exact rd_of_trod spE (fun _ => True) (by kernel_rfl) (fun n cs y hy => sp_of_trod hy) hf rfl
  have q90 : len0 * 16 ≤ 140737488351232 := by
    obtain ⟨fuel, hf⟩ := k0
    rcases DataW.trod_slice Try.underlying30 hf with ⟨hcs, _⟩ | ⟨x, l, c, elems, rest, m, _, hcs, hx, _, hl, hm, he, _⟩
    · simp [Value.cells] at hcs
      rw [hcs.2.1]; omega
    · simp [Value.cells] at hcs
      obtain ⟨rfl, rfl, rfl⟩ := hcs
      have hd : d0 = _ := congrArg Prod.fst hx
      have := sized_slice hsz (j := 0) (t := 30) (e := 23) rfl (by rw [hd]; rfl) Try.underlying30
      have hb16 : Try.prog.bytesOf 23 = 16 := by kernel_rfl
      simp only [List.length_map, reachBytes] at this
      rw [hb16, he] at this
      omega
  obtain ⟨a1, len1, cap1, rfl⟩ := okWide_slice Try.underlying30 (hval 1 30 v1 rfl rfl)
  have k1 := h1
  have lt1 : ∀ x ∈ p1, x.block < W.heap.size := by obtain ⟨m, hm⟩ := k1; exact DataW.trod_lt m _ _ _ hm
  obtain ⟨z1, w1, s1, _⟩ : ∃ zs : List (Int × Int), zs.length = len1 ∧ spE.Rd W (.slice a1 len1 cap1) zs ∧ ∀ y ∈ zs, True := by
    obtain ⟨fuel, hf⟩ := h1
    exact rd_of_trod spE (fun _ => True) (by kernel_rfl) (fun n cs y hy => sp_of_trod hy) hf rfl
  have q91 : len1 * 16 ≤ 140737488351232 := by
    obtain ⟨fuel, hf⟩ := k1
    rcases DataW.trod_slice Try.underlying30 hf with ⟨hcs, _⟩ | ⟨x, l, c, elems, rest, m, _, hcs, hx, _, hl, hm, he, _⟩
    · simp [Value.cells] at hcs
      rw [hcs.2.1]; omega
    · simp [Value.cells] at hcs
      obtain ⟨rfl, rfl, rfl⟩ := hcs
      have hd : d1 = _ := congrArg Prod.fst hx
      have := sized_slice hsz (j := 1) (t := 30) (e := 23) rfl (by rw [hd]; rfl) Try.underlying30
      have hb16 : Try.prog.bytesOf 23 = 16 := by kernel_rfl
      simp only [List.length_map, reachBytes] at this
      rw [hb16, he] at this
      omega
  have k2 := h2
  have lt2 : ∀ x ∈ p2, x.block < W.heap.size := by obtain ⟨m, hm⟩ := k2; exact DataW.trod_lt m _ _ _ hm
  obtain ⟨cs2, rfl, _⟩ : ∃ cs, v2 = .agg cs ∧ True := by
    have := hval 2 23 v2 rfl rfl
    unfold Value.okWide at this
    rw [Try.underlying23] at this
    obtain ⟨cs, h, _⟩ := this
    exact ⟨cs, h, trivial⟩
  obtain ⟨x20, x21, e2⟩ : ∃ x0 x1 : Int, cs2 = #[.int .i64 x0, .int .i64 x1] := by
    obtain ⟨fuel, hf⟩ := h2
    obtain ⟨y, he, _⟩ := sp_of_trod hf
    exact ⟨y.1, y.2, by apply Array.toList_inj.1; exact he⟩
  subst e2
  clear hA0 hval0
  refine (walk a0 len0 cap0 z0 a1 len1 cap1 z1 x20 x21 W w0 s0 q90 w1 s1 q91).mono fun e W' ⟨he, bel⟩ => ?_
  subst he
  exact ⟨_, rfl, _, _, _, [], _, [], hW', trodAll_mk1 (shut_bool Try.underlying4 _), (trodAll_cons_mk (Below.trod laidOut (by kernel_rfl) (of_decide_eq_true (by kernel_rfl)) k0 bel lt0) (trodAll_cons_mk (Below.trod laidOut (by kernel_rfl) (of_decide_eq_true (by kernel_rfl)) k1 bel lt1) (trodAll_cons_mk (Below.trod laidOut (by kernel_rfl) (of_decide_eq_true (by kernel_rfl)) k2 bel lt2) trodAll_mk0))), rfl, bel.frame _, fun h => by cases h⟩

theorem over : Rows.pairMoreRow.holds Try.pinned (OpenSpec.ofChange Rows.pairMoreSpec) :=
  OpenClaim.holds_of_wide 8 Try.f8 rfl rfl rfl rfl rfl rfl rfl ⟨rfl, rfl, rfl, rfl, rfl⟩ rfl rfl rfl rfl rfl (by kernel_rfl) Try.func8 (by kernel_rfl)
    (of_decide_eq_true (by kernel_rfl)) (by unfold Func.isWrapper; first | (rw [if_pos (by decide +kernel)]; kernel_rfl) | (rw [if_neg (by decide +kernel)]; exact ⟨rfl, rfl⟩))
    (fun os started H enc _ => lifted os started H enc)

theorem proved : Rows.PairMoreSaid := over
end Go.Proofs.Ytochllbnlnammaa.pairMore
