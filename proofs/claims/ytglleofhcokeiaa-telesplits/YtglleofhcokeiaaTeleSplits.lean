/- For every list of bytes (nil or not) the law TeleSplits answers true: Split finds the document's telegrams, leaves the bytes that the document leaves, and tells how many were gone by (lists of at most 3,000 bytes are looked at, as the law says); no conditions. -/
import Derived.Test.YtglleofhcokeiaaRSplit
import Derived.Test.YtglleofhcokeiaaSame
import Derived.Test.YtglleofhcokeiaaTAwake
import Derived.Test.YtglleofhcokeiaaArgs
namespace Go.Proofs.Ytglleofhcokeiaa.teleSplits
open Go.ChangeShapes Go.WideShapes Go.ChangeAt Go.RowKit
set_option linter.unusedVariables false

theorem own : ownKnob Try.prog.godebug = none := by kernel_rfl
theorem laidOut : laidOutB Try.prog = true := by kernel_rfl

set_option maxHeartbeats 1000000 in
theorem walk_far (a : Option Addr) (n cap : Nat) (w : World) (h : (3000 : Int) < (n : Int)) :
    Calls Try.prog 5 #[.slice a n cap] w fun e w' => e = .returned (.bool true) ∧ Below w.heap.size w w' := by
  go_enter Try.func5, Try.ntmps5
  go_wp2_with fail
  refine (tawake_any _).mono ?_; rintro e w1 ⟨rfl, hb1⟩
  go_wp2_with fail
  refine (tawake_any _).mono ?_; rintro e w2 ⟨rfl, hb2⟩
  go_wp2_with fail
  go_ret
  exact ⟨rfl, hb1.trans (hb2.mono hb1.size)⟩

theorem spl_left_len (l : List Int) : (spl l).2.1.length < 12 := by
  generalize hn : l.length = n
  induction n using Nat.strongRecOn generalizing l with
  | ind n ih =>
    by_cases h : 12 ≤ l.length
    · by_cases h0 : dcode (l.take 12) = 0
      · rw [spl_hit h h0]
        exact ih (l.drop 12).length (by simp; omega) _ rfl
      · rw [spl_miss h h0]
        exact ih (l.drop 1).length (by simp; omega) _ rfl
    · rw [spl_short (by omega)]
      show l.length < 12
      omega

theorem spl_found_len (l : List Int) : (spl l).1.length ≤ l.length := by
  generalize hn : l.length = n
  induction n using Nat.strongRecOn generalizing l with
  | ind n ih =>
    by_cases h : 12 ≤ l.length
    · by_cases h0 : dcode (l.take 12) = 0
      · rw [spl_hit h h0]
        have := ih (l.drop 12).length (by simp; omega) _ rfl
        simp at this ⊢
        omega
      · rw [spl_miss h h0]
        have := ih (l.drop 1).length (by simp; omega) _ rfl
        simp at this ⊢
        omega
    · rw [spl_short (by omega)]
      simp

set_option maxHeartbeats 1000000 in
theorem walk_l (a : Option Addr) (n cap : Nat) (l : List Int) (w : World) (hbs : Bs w (.slice a n cap) l) (hn : l.length = n) (hc : n ≤ cap) (hin : InB l) (hm : n ≤ 3000) :
    Calls Try.prog 5 #[.slice a n cap] w fun e w' => e = .returned (.bool true) ∧ Below w.heap.size w w' := by
  have i0 : ¬ (3000 : Int) < (n : Int) := by omega
  have i1 : (n : Int) ≤ (cap : Int) := by omega
  have k16 : ∀ W B v, Ow W B v l → _ := fun W B v (h : Ow W B v l) => split_any (Bs.own h) (Cp.own h) hin (by omega)
  have k17 : ∀ W, Below w.heap.size w W → _ := fun W (h : Below w.heap.size w W) => rsplit_any (hbs.keep h) ⟨_, _, _, rfl, hc⟩ hin (by omega)
  have Hll := hide (spl_left_len l)
  have Hfl := hide (spl_found_len l)
  have K16 := hide k16
  have K17 := hide k17
  have Hbs := hide hbs
  have Hn := hide hn
  clear k16 k17 hbs hn hin
  go_enter Try.func5, Try.ntmps5
  go_upto_region 5 with (first
    | (go_at_call 9; refine (tawake_any _).mono ?_; rintro e w1 ⟨rfl, hb1⟩)
    | (at_builtin; refine wpList_app (hb1.alloc hb1.size _) (by rfl) _ _ rfl _ _ rfl rfl [] l (own_empty _ _ hb1.size _ (by simp)) (Hbs.out.keep (hb1.alloc hb1.size _)) (by simp; rw [Hn.out]; omega) ?_; intro v1 w2 hown2 hb2; rw [List.nil_append] at hown2)
    | (go_at_call 16; refine (K16.out _ _ _ hown2).mono ?_; rintro e w3 ⟨vf, vl, rfl, hot3, hown3, hb3⟩; have hb03 := hb2.trans (hb3.mono hb2.size))
    | (go_at_call 17; refine (K17.out _ hb03).mono ?_; rintro e w4 ⟨vg, p, rfl, hp, hdrop, hot4, hb4⟩; have hb04 := hb03.trans (hb4.mono hb03.size)))
  have K18 := hide (fun q => same_eq (w := w4.drewN q) (Rt.own (hot3.keep (hb4.drewN q))) (Rt.own (hot4.keep ((Below.refl _ _).drewN q))) (by have := Hfl.out; rw [Hn.out] at this; omega))
  have cl : ∀ q, (convert 27 9 vl).run Try.prog (w4.drewN q) = .ok (.string (str (spl l).2.1)) (w4.drewN q) := fun q => conv_str (w := w4.drewN q) (Bs.own (hown3.keep (hb4.drewN q)))
  obtain ⟨al, capl, rfl⟩ := (Bs.own hown3).form
  generalize (spl l).2.2 = k at *
  rw [← hdrop] at cl Hll
  rw [← hdrop]
  have Hb04 := hide hb04
  have hlen : (l.drop p).length = n - p := by rw [List.length_drop, Hn.out]
  have h12 : n - p < 12 := by have := Hll.out; omega
  rw [hlen] at cl ⊢
  rw [Hn.out] at hp
  have j0 : (p : Int) ≤ (n : Int) := by omega
  have j1 : (0 : Int) ≤ (p : Int) := by omega
  have j2 : ((n - p : Nat) : Int) < 12 := by omega
  rcases Hbs.out with ⟨h1, h2⟩ | ⟨x, c, h1, hcell⟩
  · simp only [Value.slice.injEq] at h1
    obtain ⟨rfl, rfl, rfl⟩ := h1
    have : p = 0 := by omega
    subst this
    have cb : ∀ q, (convert 27 9 (.slice none 0 0)).run Try.prog (w4.drewN q) = .ok (.string (str (l.drop 0))) (w4.drewN q) := fun q => conv_str (w := w4.drewN q) (.inl ⟨rfl, by rw [h2]; rfl⟩)
    clear hot3 hot4 hown3 hown2 hb1 hb2 hb3 hb4 hb03 hb04 hdrop h2
    go_quiet ((go_at_call 18; exact Calls.quiet_of (K18.out _)))
    go_wp2_with fail
    go_ret
    exact ⟨rfl, Hb04.out.drewN _⟩
  · simp only [Value.slice.injEq] at h1
    obtain ⟨rfl, hx, rfl⟩ := h1
    clear hx
    by_cases hl0 : n = 0
    · subst hl0
      have : p = 0 := by omega
      subst this
      have h2 : l = [] := List.eq_nil_of_length_eq_zero Hn.out
      have cb : ∀ a c q, (convert 27 9 (.slice (some a) 0 c)).run Try.prog (w4.drewN q) = .ok (.string (str (l.drop 0))) (w4.drewN q) := fun a c q => conv_str (w := w4.drewN q) (.inr ⟨a, c, by rw [h2]; rfl, fun i hi => by rw [h2] at hi; simp at hi⟩)
      clear hot3 hot4 hown3 hown2 hb1 hb2 hb3 hb4 hb03 hb04 hdrop hcell h2
      by_cases hcap : cap = 0
      · subst hcap
        go_quiet ((go_at_call 18; exact Calls.quiet_of (K18.out _)))
        go_wp2_with fail
        go_ret
        exact ⟨rfl, Hb04.out.drewN _⟩
      · go_quiet ((go_at_call 18; exact Calls.quiet_of (K18.out _)))
        go_wp2_with fail
        go_ret
        exact ⟨rfl, Hb04.out.drewN _⟩
    obtain ⟨b, off, spot⟩ := x
    have hspot : spot = none := by simpa [Addr.add] using World.cell?_spot (hcell 0 (by rw [Hn.out]; omega))
    subst hspot
    have cb : ∀ q, (convert 27 9 (.slice (if cap = p then some ⟨b, off, none⟩ else some ⟨b, off + p, none⟩) (n - p) (cap - p))).run Try.prog (w4.drewN q) = .ok (.string (str (l.drop p))) (w4.drewN q) := fun q => conv_str (w := w4.drewN q) ((bs_drop_if (by rw [Hn.out]; exact Hbs.out) Hn.out hc p hp).keep (hb04.drewN q))
    clear hot3 hot4 hown3 hown2 hb1 hb2 hb3 hb4 hb03 hb04 hdrop hcell
    go_quiet ((go_at_call 18; exact Calls.quiet_of (K18.out _)))
    all_goals go_wp2_with fail
    all_goals go_ret
    all_goals exact ⟨rfl, Hb04.out.drewN _⟩

theorem walk (a0 : Option Addr) (len0 cap0 : Nat) (z0 : List Int) (w : World) (w0 : IsRow .u8 w a0 len0 cap0 z0) (s0 : cap0 * Try.prog.bytesOf 5 ≤ 140737488351232) :
    Calls Try.prog 5 #[.slice a0 len0 cap0] w fun e w' => e = .returned (.bool true) ∧ Below w.heap.size w w' := by
  obtain ⟨l, hl, hbs, hin, hm, hc⟩ := bs_of_row w0
  by_cases h : (3000 : Int) < (len0 : Int)
  · exact walk_far _ _ _ w h
  · exact walk_l _ _ _ l w hbs hl hc hin (by omega)

set_option maxRecDepth 100000 in
theorem lifted (os : Os) (started : os.Started) (H : Type) (enc : TypeId × Value → H) :
    ReturnsInHanded {} Try.checked os 5 .any (Rows.teleSplitsSpec.pre6 enc Try.prog Try.f5 Rows.teleSplitsRow.domain false) (Rows.teleSplitsSpec.post enc Try.prog Try.f5 false true false false) := by
  refine returnsInHanded_of_change_sized (C := Try.checked) own started (by kernel_rfl) Try.func5
    (ChangeSpec.witness6 (enc := enc) (C := Try.checked) false ⟨#[], #[.slice none 0 0], []⟩ 8 (by kernel_rfl) (by kernel_rfl) (by kernel_rfl) (by kernel_rfl)) ?_
  intro W base args ds gs before hval0 hW hcnd hsz0 _
  have hval : ∀ (j : Nat) t v, Try.f5.params[j]? = some t → args[j]? = some v → Value.okWide Try.prog W .any base t v := hval0
  have hsz : (DataW.weightsEach Try.prog (Try.f5.params.toList ++ Rows.teleSplitsSpec.plain.varTypes Try.prog) (ds ++ gs)).all (· ≤ reachBytes) = true := hsz0
  have hW' := hW
  obtain ⟨p, q, hA0, hV, rfl, hfz, hnd⟩ := hW
  have hA : DataW.TrodAll enc Try.prog W 0 (fun _ => true) true Try.f5.params.toList args.toList ds p := hA0
  rw [Try.params5] at hA hval hsz
  obtain ⟨v0, vs0, d0, ds0, p0, q0, hargs, rfl, rfl, h0, r0⟩ := trodAll_cons hA
  obtain ⟨rfl, rfl, rfl⟩ := trodAll_nil r0
  obtain rfl : args = #[v0] := by cases args; simp_all
  obtain ⟨rfl, rfl⟩ := trodVars_none hV
  obtain ⟨a0, len0, cap0, rfl⟩ := okWide_slice Try.underlying27 (hval 0 27 v0 rfl rfl)
  have k0 := h0
  have lt0 : ∀ x ∈ p0, x.block < W.heap.size := by obtain ⟨m, hm⟩ := k0; exact DataW.trod_lt m _ _ _ hm
  obtain ⟨z0, w0⟩ : ∃ zs, IsRow .u8 W a0 len0 cap0 zs := by
    obtain ⟨fuel, hf⟩ := h0
    rcases open_ints Try.underlying27 Try.underlying5 (by kernel_rfl) hf with ⟨hcs, _⟩ | ⟨x, l, c, zs, hcs, _, hl, hm, hz, _, hcell, hwz⟩
    · simp [Value.cells] at hcs
      obtain ⟨rfl, rfl, rfl⟩ := hcs
      exact ⟨[], .inl ⟨rfl, rfl, rfl, rfl⟩⟩
    · simp [Value.cells] at hcs
      obtain ⟨rfl, rfl, rfl⟩ := hcs
      exact ⟨zs, .inr ⟨_, rfl, hl, hm, by simpa using hz, hcell, hwz⟩⟩
  have s0 : cap0 * Try.prog.bytesOf 5 ≤ 140737488351232 := by
    obtain ⟨fuel, hf⟩ := k0
    rcases open_ints Try.underlying27 Try.underlying5 (by kernel_rfl) hf with ⟨hcs, _⟩ | ⟨x, l, c, zs, hcs, _, hl, hm, hz, hx, _, _⟩
    · simp [Value.cells] at hcs
      rw [hcs.2.2]; omega
    · simp [Value.cells] at hcs
      obtain ⟨rfl, rfl, rfl⟩ := hcs
      have hd : d0 = _ := congrArg Prod.fst hx
      have := sized_slice hsz (j := 0) (t := 27) (e := 5) rfl (by rw [hd]; rfl) Try.underlying27
      simp only [lits, List.length_map, List.length_take, List.length_drop, reachBytes] at this
      simp only [if_true] at hz
      rw [hz, Nat.min_eq_left hl, Nat.add_sub_cancel' hl] at this
      exact this
  clear hA0 hval0
  refine (walk a0 len0 cap0 z0 W w0 s0).mono fun e W' ⟨he, bel⟩ => ?_
  subst he
  exact ⟨_, rfl, _, _, _, [], _, [], hW', trodAll_mk1 (shut_bool Try.underlying4 _), (trodAll_cons_mk (Below.trod laidOut (by kernel_rfl) (of_decide_eq_true (by kernel_rfl)) k0 bel lt0) trodAll_mk0), rfl, bel.frame _, fun h => by cases h⟩

theorem over : Rows.teleSplitsRow.holds Try.pinned (OpenSpec.ofChange Rows.teleSplitsSpec) :=
  OpenClaim.holds_of_wide 5 Try.f5 rfl rfl rfl rfl rfl rfl rfl ⟨rfl, rfl, rfl, rfl, rfl⟩ rfl rfl rfl rfl rfl (by kernel_rfl) Try.func5 (by kernel_rfl)
    (of_decide_eq_true (by kernel_rfl)) (by unfold Func.isWrapper; first | (rw [if_pos (by decide +kernel)]; kernel_rfl) | (rw [if_neg (by decide +kernel)]; exact ⟨rfl, rfl⟩))
    (fun os started H enc _ => lifted os started H enc)

theorem proved : Rows.TeleSplitsSaid := over
end Go.Proofs.Ytglleofhcokeiaa.teleSplits
