/- For every list of bytes (nil or not) the law TeleReads answers true: Decode tells the telegram and the error that the document tells, the list stays, and what is read is written as just these bytes; no conditions. -/
import Derived.Test.YtglleofhcokeiaaRDec
import Derived.Test.YtglleofhcokeiaaTAwake
import Derived.Test.YtglleofhcokeiaaArgs
import Derived.Test.YtglleofhcokeiaaTMath
import Derived.Test.YtglleofhcokeiaaBig
namespace Go.Proofs.Ytglleofhcokeiaa.teleReads
open Go.ChangeShapes Go.WideShapes Go.ChangeAt Go.RowKit
set_option linter.unusedVariables false

theorem own : ownKnob Try.prog.godebug = none := by kernel_rfl
theorem laidOut : laidOutB Try.prog = true := by kernel_rfl

set_option maxHeartbeats 4000000 in
theorem walk_l (v0 : Value) (l : List Int) (w : World) (hbs : Bs w v0 l) (hcp : Cp v0) (hin : InB l) (hm : l.length ≤ 140737488355328) :
    Calls Try.prog 4 #[v0] w fun e w' => e = .returned (.bool true) ∧ Below w.heap.size w w' := by
  have k13 := fun W v (h : Bs W v l) (hc : Cp v) => decode_any h hc hin
  have k15 := fun W v (h : Bs W v l) (hc : Cp v) => rdecode_any h hc hin
  have k11 : dcode l = 0 → ∀ W, Calls Try.prog 11 #[.agg #[.int .u8 (dtele l).k, .int .u16 (dtele l).d, .int .u16 (dtele l).s, .int .u16 (dtele l).a, .int .u16 (dtele l).b]] W fun e w' => ∃ v, e = .returned (.tuple #[v, .int .i64 0]) ∧ Ow w' W.heap.size v l ∧ Below W.heap.size W w' := by
    intro h W
    have ht : dtele l = dcd l := by unfold dtele; rw [if_pos h]
    have := encode_yes (dcd l).k (dcd l).d (dcd l).s (dcd l).a (dcd l).b W (dcode_zero h).2.2.2 (dcd_in hin)
    rw [ht]
    rw [show (⟨(dcd l).k, (dcd l).d, (dcd l).s, (dcd l).a, (dcd l).b⟩ : Tl) = dcd l from rfl, enc_dcd hin h] at this
    exact this
  unfold tv at k13 k15
  generalize dtele l = t at *
  obtain ⟨k, d, s, a, b⟩ := t
  simp only at k13 k15 k11
  generalize dcode l = z at *
  have K13 := hide k13
  have K15 := hide k15
  have K11 := hide k11
  have Hm := hide hm
  have Hs := hide hbs
  have Hcp := hide hcp
  clear k13 k15 k11 hin hm hbs hcp
  by_cases hz : z = 0
  · subst hz
    have K11' := hide (K11.out rfl)
    clear K11
    go_enter Try.func4, Try.ntmps4
    go_wp2_with (first
      | (go_at_call 9; refine (tawake_any _).mono ?_; rintro e w1 ⟨rfl, hb1⟩)
      | (at_builtin; refine wpList_app_big (hb1.alloc hb1.size _) (by rfl) _ _ rfl _ _ rfl rfl [] l (own_empty _ _ hb1.size _ (by simp)) (Hs.out.keep (hb1.alloc hb1.size _)) (by simp; exact Hm.out) ?_; intro v1 w2 hown2 hb2; refine Hid.out ?_))
    refine hide ?_
    rw [List.nil_append] at hown2
    go_upto_region 6 with (first
      | (go_at_call 13; refine (K13.out _ _ (Bs.own hown2) (Cp.own hown2)).mono ?_; rintro e w3 ⟨rfl, hb3⟩)
      | (go_at_call 15; refine (K15.out _ _ (Hs.out.keep (hb2.trans (((hb3.mono hb2.size).alloc (Nat.le_trans hb2.size hb3.size) _)))) Hcp.out).mono ?_; rintro e w4 ⟨rfl, hb4⟩))
    have h45 := hb4.alloc hb4.size (.cells #[.int .u8 k, .int .u16 d, .int .u16 s, .int .u16 a, .int .u16 b] 24)
    have h25 := (hb3.alloc hb3.size (.cells #[.int .u8 k, .int .u16 d, .int .u16 s, .int .u16 a, .int .u16 b] 24)).trans (h45.mono (Nat.le_trans hb3.size (by simp)))
    have h05 := hb2.trans (h25.mono hb2.size)
    obtain ⟨p0, p1, p2, p3, p4⟩ := box5 h45
    have q0 : (w4.alloc (.cells #[.int .u8 k, .int .u16 d, .int .u16 s, .int .u16 a, .int .u16 b] 24)).cell? ⟨w4.heap.size, 0, none⟩ = some (.int .u8 k) := cell_new _ _ _ _ _
    have q1 : (w4.alloc (.cells #[.int .u8 k, .int .u16 d, .int .u16 s, .int .u16 a, .int .u16 b] 24)).cell? ⟨w4.heap.size, 1, none⟩ = some (.int .u16 d) := cell_new _ _ _ _ _
    have q2 : (w4.alloc (.cells #[.int .u8 k, .int .u16 d, .int .u16 s, .int .u16 a, .int .u16 b] 24)).cell? ⟨w4.heap.size, 2, none⟩ = some (.int .u16 s) := cell_new _ _ _ _ _
    have q3 : (w4.alloc (.cells #[.int .u8 k, .int .u16 d, .int .u16 s, .int .u16 a, .int .u16 b] 24)).cell? ⟨w4.heap.size, 3, none⟩ = some (.int .u16 a) := cell_new _ _ _ _ _
    have q4 : (w4.alloc (.cells #[.int .u8 k, .int .u16 d, .int .u16 s, .int .u16 a, .int .u16 b] 24)).cell? ⟨w4.heap.size, 4, none⟩ = some (.int .u16 b) := cell_new _ _ _ _ _
    generalize w4.alloc (.cells #[.int .u8 k, .int .u16 d, .int .u16 s, .int .u16 a, .int .u16 b] 24) = W5 at *
    have c1 := conv_str (Bs.own (hown2.keep h25))
    have c0 := conv_str (Hs.out.keep h05)
    have H05 := hide h05
    clear h45 h25 h05 hb4 hb3 hb2 hb1 hown2
    go_wp2_with (go_at_call 11; refine (K11'.out _).mono ?_; rintro e w6 ⟨v6, rfl, hown6, hb6⟩; have c6 := conv_str (Bs.own hown6); have c7 := conv_str (Hs.out.keep (H05.out.trans (hb6.mono H05.out.size))))
    go_ret
    exact ⟨rfl, H05.out.trans (hb6.mono H05.out.size)⟩
  · clear K11
    go_enter Try.func4, Try.ntmps4
    go_wp2_with (first
      | (go_at_call 9; refine (tawake_any _).mono ?_; rintro e w1 ⟨rfl, hb1⟩)
      | (at_builtin; refine wpList_app_big (hb1.alloc hb1.size _) (by rfl) _ _ rfl _ _ rfl rfl [] l (own_empty _ _ hb1.size _ (by simp)) (Hs.out.keep (hb1.alloc hb1.size _)) (by simp; exact Hm.out) ?_; intro v1 w2 hown2 hb2; refine Hid.out ?_))
    refine hide ?_
    rw [List.nil_append] at hown2
    go_upto_region 6 with (first
      | (go_at_call 13; refine (K13.out _ _ (Bs.own hown2) (Cp.own hown2)).mono ?_; rintro e w3 ⟨rfl, hb3⟩)
      | (go_at_call 15; refine (K15.out _ _ (Hs.out.keep (hb2.trans (((hb3.mono hb2.size).alloc (Nat.le_trans hb2.size hb3.size) _)))) Hcp.out).mono ?_; rintro e w4 ⟨rfl, hb4⟩))
    have h45 := hb4.alloc hb4.size (.cells #[.int .u8 k, .int .u16 d, .int .u16 s, .int .u16 a, .int .u16 b] 24)
    have h25 := (hb3.alloc hb3.size (.cells #[.int .u8 k, .int .u16 d, .int .u16 s, .int .u16 a, .int .u16 b] 24)).trans (h45.mono (Nat.le_trans hb3.size (by simp)))
    have h05 := hb2.trans (h25.mono hb2.size)
    obtain ⟨p0, p1, p2, p3, p4⟩ := box5 h45
    have q0 : (w4.alloc (.cells #[.int .u8 k, .int .u16 d, .int .u16 s, .int .u16 a, .int .u16 b] 24)).cell? ⟨w4.heap.size, 0, none⟩ = some (.int .u8 k) := cell_new _ _ _ _ _
    have q1 : (w4.alloc (.cells #[.int .u8 k, .int .u16 d, .int .u16 s, .int .u16 a, .int .u16 b] 24)).cell? ⟨w4.heap.size, 1, none⟩ = some (.int .u16 d) := cell_new _ _ _ _ _
    have q2 : (w4.alloc (.cells #[.int .u8 k, .int .u16 d, .int .u16 s, .int .u16 a, .int .u16 b] 24)).cell? ⟨w4.heap.size, 2, none⟩ = some (.int .u16 s) := cell_new _ _ _ _ _
    have q3 : (w4.alloc (.cells #[.int .u8 k, .int .u16 d, .int .u16 s, .int .u16 a, .int .u16 b] 24)).cell? ⟨w4.heap.size, 3, none⟩ = some (.int .u16 a) := cell_new _ _ _ _ _
    have q4 : (w4.alloc (.cells #[.int .u8 k, .int .u16 d, .int .u16 s, .int .u16 a, .int .u16 b] 24)).cell? ⟨w4.heap.size, 4, none⟩ = some (.int .u16 b) := cell_new _ _ _ _ _
    generalize w4.alloc (.cells #[.int .u8 k, .int .u16 d, .int .u16 s, .int .u16 a, .int .u16 b] 24) = W5 at *
    have c1 := conv_str (Bs.own (hown2.keep h25))
    have c0 := conv_str (Hs.out.keep h05)
    have H05 := hide h05
    clear h45 h25 h05 hb4 hb3 hb2 hb1 hown2
    go_wp2_with fail
    go_ret
    exact ⟨rfl, H05.out⟩

theorem walk (a0 : Option Addr) (len0 cap0 : Nat) (z0 : List Int) (w : World) (w0 : IsRow .u8 w a0 len0 cap0 z0) (s0 : cap0 * Try.prog.bytesOf 5 ≤ 140737488351232) :
    Calls Try.prog 4 #[.slice a0 len0 cap0] w fun e w' => e = .returned (.bool true) ∧ Below w.heap.size w w' := by
  obtain ⟨l, hl, hbs, hin, hm, hc⟩ := bs_of_row w0
  rw [bytes5] at s0
  exact walk_l _ l w hbs ⟨_, _, _, rfl, hc⟩ hin (by omega)

set_option maxRecDepth 100000 in
theorem lifted (os : Os) (started : os.Started) (H : Type) (enc : TypeId × Value → H) :
    ReturnsInHanded {} Try.checked os 4 .any (Rows.teleReadsSpec.pre6 enc Try.prog Try.f4 Rows.teleReadsRow.domain false) (Rows.teleReadsSpec.post enc Try.prog Try.f4 false true false false) := by
  refine returnsInHanded_of_change_sized (C := Try.checked) own started (by kernel_rfl) Try.func4
    (ChangeSpec.witness6 (enc := enc) (C := Try.checked) false ⟨#[], #[.slice none 0 0], []⟩ 8 (by kernel_rfl) (by kernel_rfl) (by kernel_rfl) (by kernel_rfl)) ?_
  intro W base args ds gs before hval0 hW hcnd hsz0 _
  have hval : ∀ (j : Nat) t v, Try.f4.params[j]? = some t → args[j]? = some v → Value.okWide Try.prog W .any base t v := hval0
  have hsz : (DataW.weightsEach Try.prog (Try.f4.params.toList ++ Rows.teleReadsSpec.plain.varTypes Try.prog) (ds ++ gs)).all (· ≤ reachBytes) = true := hsz0
  have hW' := hW
  obtain ⟨p, q, hA0, hV, rfl, hfz, hnd⟩ := hW
  have hA : DataW.TrodAll enc Try.prog W 0 (fun _ => true) true Try.f4.params.toList args.toList ds p := hA0
  rw [Try.params4] at hA hval hsz
  obtain ⟨v0, vs0, d0, ds0, p0, q0, hargs, rfl, rfl, h0, r0⟩ := trodAll_cons hA
  obtain ⟨rfl, rfl, rfl⟩ := trodAll_nil r0
  obtain rfl : args = #[v0] := by cases args; simp_all
  obtain ⟨rfl, rfl⟩ := trodVars_none hV
  obtain ⟨a0, len0, cap0, rfl⟩ := okWide_slice Try.underlying27 (hval 0 27 v0 rfl rfl)
  have k0 := h0
  have lt0 : ∀ x ∈ p0, x.block < W.heap.size := by obtain ⟨m, hm⟩ := k0; exact DataW.trod_lt m _ _ _ hm
  obtain ⟨z0, w0⟩ : ∃ zs, IsRow .u8 W a0 len0 cap0 zs := by
    obtain ⟨fuel, hf⟩ := h0
    rcases open_ints Try.underlying27 Try.underlying5 (by kernel_rfl) hf with ⟨hcs, _⟩ | ⟨x, l, c, zs, hcs, _, hl, hm, hz, _, hcell, hwz⟩
    · simp [Value.cells] at hcs
      obtain ⟨rfl, rfl, rfl⟩ := hcs
      exact ⟨[], .inl ⟨rfl, rfl, rfl, rfl⟩⟩
    · simp [Value.cells] at hcs
      obtain ⟨rfl, rfl, rfl⟩ := hcs
      exact ⟨zs, .inr ⟨_, rfl, hl, hm, by simpa using hz, hcell, hwz⟩⟩
  have s0 : cap0 * Try.prog.bytesOf 5 ≤ 140737488351232 := by
    obtain ⟨fuel, hf⟩ := k0
    rcases open_ints Try.underlying27 Try.underlying5 (by kernel_rfl) hf with ⟨hcs, _⟩ | ⟨x, l, c, zs, hcs, _, hl, hm, hz, hx, _, _⟩
    · simp [Value.cells] at hcs
      rw [hcs.2.2]; omega
    · simp [Value.cells] at hcs
      obtain ⟨rfl, rfl, rfl⟩ := hcs
      have hd : d0 = _ := congrArg Prod.fst hx
      have := sized_slice hsz (j := 0) (t := 27) (e := 5) rfl (by rw [hd]; rfl) Try.underlying27
      simp only [lits, List.length_map, List.length_take, List.length_drop, reachBytes] at this
      simp only [if_true] at hz
      rw [hz, Nat.min_eq_left hl, Nat.add_sub_cancel' hl] at this
      exact this
  clear hA0 hval0
  refine (walk a0 len0 cap0 z0 W w0 s0).mono fun e W' ⟨he, bel⟩ => ?_
  subst he
  exact ⟨_, rfl, _, _, _, [], _, [], hW', trodAll_mk1 (shut_bool Try.underlying4 _), (trodAll_cons_mk (Below.trod laidOut (by kernel_rfl) (of_decide_eq_true (by kernel_rfl)) k0 bel lt0) trodAll_mk0), rfl, bel.frame _, fun h => by cases h⟩

theorem over : Rows.teleReadsRow.holds Try.pinned (OpenSpec.ofChange Rows.teleReadsSpec) :=
  OpenClaim.holds_of_wide 4 Try.f4 rfl rfl rfl rfl rfl rfl rfl ⟨rfl, rfl, rfl, rfl, rfl⟩ rfl rfl rfl rfl rfl (by kernel_rfl) Try.func4 (by kernel_rfl)
    (of_decide_eq_true (by kernel_rfl)) (by unfold Func.isWrapper; first | (rw [if_pos (by decide +kernel)]; kernel_rfl) | (rw [if_neg (by decide +kernel)]; exact ⟨rfl, rfl⟩))
    (fun os started H enc _ => lifted os started H enc)

theorem proved : Rows.TeleReadsSaid := over
end Go.Proofs.Ytglleofhcokeiaa.teleReads
