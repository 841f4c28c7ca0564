/- For every number of 16 bits and every list of steps (nil or not) the law TurnAdds answers true: distances of a row of small steps add up, wherever it goes round; no conditions. -/
import Derived.Test.YtacbhdaiaihmeaaRowz
namespace Go.Proofs.Ytacbhdaiaihmeaa.turnAdds
open Go.ChangeShapes Go.WideShapes Go.ChangeAt Go.RowKit
set_option linter.unusedVariables false

theorem own : ownKnob Try.prog.godebug = none := by kernel_rfl
theorem laidOut : laidOutB Try.prog = true := by kernel_rfl

theorem step_in (x : Int) : -29 ≤ x.tmod 30 ∧ x.tmod 30 ≤ 29 := by
  have h1 := Int.tmod_lt_of_pos x (b := 30) (by omega)
  have h2 := Int.lt_tmod_of_pos x (b := 30) (by omega)
  omega
theorem dst_step (p t : Int) (hp : 0 ≤ p ∧ p ≤ 65535) (ht : -29 ≤ t ∧ t ≤ 29) : dst p ((p + t) % 65536) = t := by
  unfold dst up; split <;> omega
theorem dst_sum (a s : Int) (ha : 0 ≤ a ∧ a ≤ 65535) (hs : -29000 ≤ s ∧ s ≤ 29000) : dst a ((a + s) % 65536) = s := by
  unfold dst up; split <;> omega

set_option maxHeartbeats 2000000 in
theorem walk (n0 : Int) (a1 : Option Addr) (len1 cap1 : Nat) (z1 : List Int) (w : World) (h0 : 0 ≤ n0 ∧ n0 ≤ 65535) (h1 : IsRow .i16 w a1 len1 cap1 z1) (_ : cap1 * Try.prog.bytesOf 36 ≤ 140737488351232) :
    Calls Try.prog 7 #[.int .u16 n0, .slice a1 len1 cap1] w fun e w' => e = .returned (.bool true) ∧ Below w.heap.size w w' := by
  obtain ⟨hll, _, hc, hw⟩ := row_at h1
  clear h1
  generalize z1.take len1 = l at *
  have HL := hide hll
  clear hll
  by_cases hlen : 1000 < len1
  · have j : (1000 : Int) < (len1 : Int) := by omega
    clear hc hw
    go_enter Try.func7, Try.ntmps7
    go_wp2_with (go_at_call 10; refine (awake_any _).mono ?_; rintro e w' ⟨rfl, rfl⟩)
    go_ret
    exact ⟨rfl, Below.refl _ _⟩
  · have j : ¬ (1000 : Int) < (len1 : Int) := by omega
    have Hc := hide hc
    have Hw := hide hw
    clear hc hw
    obtain ⟨p0, p1⟩ := h0
    go_enter Try.func7, Try.ntmps7
    go_wp2_with (go_at_call 10; refine (awake_any _).mono ?_; rintro e w' ⟨rfl, rfl⟩)
    go_loopw [5, 6, 21] (fun v5 v6 v21 wr => ∃ (k : Nat) (s : Int), k ≤ len1 ∧ -29 * (k : Int) ≤ s ∧ s ≤ 29 * (k : Int) ∧ v5 = .int .i64 s ∧ v6 = .int .u16 ((n0 + s) % 65536) ∧ v21 = .int .i64 k ∧ wr = w') (fun _ _ i _ => len1 - (intOf i).toNat)
    case atStart => exact ⟨0, 0, by omega, by omega, by omega, rfl, by rw [show (n0 + 0) % 65536 = n0 by omega], rfl, rfl⟩
    case round =>
      obtain ⟨k, s, hk, s0, s1, rfl, rfl, rfl, rfl⟩ := hrel
      obtain ⟨p, hp⟩ : ∃ p, (n0 + s) % 65536 = p := ⟨_, rfl⟩
      rw [hp]
      have hp0 : 0 ≤ p := by omega
      have hp1 : p ≤ 65535 := by omega
      by_cases hlt : k < len1
      · rcases Hc.out with h | ⟨b, off, rfl, hcell⟩
        · omega
        · have hx := hcell k hlt
          clear hcell
          obtain ⟨x, hx'⟩ : ∃ x, l[k]?.getD 0 = x := ⟨_, rfl⟩
          rw [hx'] at hx
          obtain ⟨x0, x1⟩ : -32768 ≤ x ∧ x ≤ 32767 := by
            have hkl : k < l.length := by have := HL.out; omega
            rw [List.getElem?_eq_getElem hkl] at hx'
            have := bounds_i16 (Hw.out _ (List.getElem_mem hkl))
            simp only [Option.getD_some] at hx'
            rw [hx'] at this
            exact this
          clear hx'
          have ht := step_in x
          obtain ⟨t, ht'⟩ : ∃ t, x.tmod 30 = t := ⟨_, rfl⟩
          rw [ht'] at ht
          obtain ⟨t0, t1⟩ := ht
          have e1 : (p + t + 65536).tmod 65536 = (p + t) % 65536 := by rw [Int.tmod_eq_emod_of_nonneg (by omega)]; omega
          have e2 := dst_step p t ⟨hp0, hp1⟩ ⟨t0, t1⟩
          have k9 := fun W => dist_any p ((p + t) % 65536) W
          rw [e2] at k9
          have e3 : Hid ((p + t) % 65536 = (n0 + (s + t)) % 65536) := hide (by omega)
          obtain ⟨q, hq⟩ : ∃ q, (p + t) % 65536 = q := ⟨_, rfl⟩
          have q0 : 0 ≤ q := by omega
          have q1 : q ≤ 65535 := by omega
          rw [hq] at k9 e1 e3
          have K9 := hide k9
          have HP := hide hp
          clear k9 e2 hq hp
          have j0 : (0 : Int) ≤ (k : Int) := by omega
          have j1 : (k : Int) < (len1 : Int) := by omega
          go_wp2_with (go_at_call 9; refine (K9.out _).mono ?_; rintro e w' ⟨rfl, rfl⟩)
          go_roundw
          case rel => exact ⟨k + 1, s + t, by omega, by omega, by omega, by go_num, by rw [← e3.out], by go_num, by first | rfl | trivial⟩
          case measure => simp [intOf]; omega
      · have : k = len1 := by omega
        subst this
        have e := dst_sum n0 s ⟨p0, p1⟩ (by omega)
        rw [hp] at e
        have k9 := fun W => dist_any n0 p W
        rw [e] at k9
        clear e hp
        go_wp2_with (go_at_call 9; refine (k9 _).mono ?_; rintro e w' ⟨rfl, rfl⟩)
        go_ret
        exact ⟨rfl, Below.refl _ _⟩

set_option maxRecDepth 100000 in
theorem lifted (os : Os) (started : os.Started) (H : Type) (enc : TypeId × Value → H) :
    ReturnsInHanded {} Try.checked os 7 .any (Rows.turnAddsSpec.pre6 enc Try.prog Try.f7 Rows.turnAddsRow.domain false) (Rows.turnAddsSpec.post enc Try.prog Try.f7 false true false false) := by
  refine returnsInHanded_of_change_sized (C := Try.checked) own started (by kernel_rfl) Try.func7
    (ChangeSpec.witness6 (enc := enc) (C := Try.checked) false ⟨#[], #[.int .u16 0, .slice none 0 0], []⟩ 8 (by kernel_rfl) (by kernel_rfl) (by kernel_rfl) (by kernel_rfl)) ?_
  intro W base args ds gs before hval0 hW hcnd hsz0 _
  have hval : ∀ (j : Nat) t v, Try.f7.params[j]? = some t → args[j]? = some v → Value.okWide Try.prog W .any base t v := hval0
  have hsz : (DataW.weightsEach Try.prog (Try.f7.params.toList ++ Rows.turnAddsSpec.plain.varTypes Try.prog) (ds ++ gs)).all (· ≤ reachBytes) = true := hsz0
  have hW' := hW
  obtain ⟨p, q, hA0, hV, rfl, hfz, hnd⟩ := hW
  have hA : DataW.TrodAll enc Try.prog W 0 (fun _ => true) true Try.f7.params.toList args.toList ds p := hA0
  rw [Try.params7] at hA hval hsz
  obtain ⟨v0, vs0, d0, ds0, p0, q0, hargs, rfl, rfl, h0, r0⟩ := trodAll_cons hA
  obtain ⟨v1, vs1, d1, ds1, p1, q1, rfl, rfl, rfl, h1, r1⟩ := trodAll_cons r0
  obtain ⟨rfl, rfl, rfl⟩ := trodAll_nil r1
  obtain rfl : args = #[v0, v1] := by cases args; simp_all
  obtain ⟨rfl, rfl⟩ := trodVars_none hV
  have k0 := h0
  have lt0 : ∀ x ∈ p0, x.block < W.heap.size := by obtain ⟨m, hm⟩ := k0; exact DataW.trod_lt m _ _ _ hm
  obtain ⟨n0, rfl⟩ := okWide_int Try.underlying22 (hval 0 22 v0 rfl rfl)
  have w0 : (Lit.int .u16 n0).wf = true := by
    obtain ⟨fuel, hf⟩ := h0
    obtain ⟨m, e, _, hw⟩ := DataW.trod_int Try.underlying22 hf
    simp [Value.cells] at e
    rw [e]; exact hw
  obtain ⟨a1, len1, cap1, rfl⟩ := okWide_slice Try.underlying35 (hval 1 35 v1 rfl rfl)
  have k1 := h1
  have lt1 : ∀ x ∈ p1, x.block < W.heap.size := by obtain ⟨m, hm⟩ := k1; exact DataW.trod_lt m _ _ _ hm
  obtain ⟨z1, w1⟩ : ∃ zs, IsRow .i16 W a1 len1 cap1 zs := by
    obtain ⟨fuel, hf⟩ := h1
    rcases open_ints Try.underlying35 Try.underlying36 (by kernel_rfl) hf with ⟨hcs, _⟩ | ⟨x, l, c, zs, hcs, _, hl, hm, hz, _, hcell, hwz⟩
    · simp [Value.cells] at hcs
      obtain ⟨rfl, rfl, rfl⟩ := hcs
      exact ⟨[], .inl ⟨rfl, rfl, rfl, rfl⟩⟩
    · simp [Value.cells] at hcs
      obtain ⟨rfl, rfl, rfl⟩ := hcs
      exact ⟨zs, .inr ⟨_, rfl, hl, hm, by simpa using hz, hcell, hwz⟩⟩
  have s1 : cap1 * Try.prog.bytesOf 36 ≤ 140737488351232 := by
    obtain ⟨fuel, hf⟩ := k1
    rcases open_ints Try.underlying35 Try.underlying36 (by kernel_rfl) hf with ⟨hcs, _⟩ | ⟨x, l, c, zs, hcs, _, hl, hm, hz, hx, _, _⟩
    · simp [Value.cells] at hcs
      rw [hcs.2.2]; omega
    · simp [Value.cells] at hcs
      obtain ⟨rfl, rfl, rfl⟩ := hcs
      have hd : d1 = _ := congrArg Prod.fst hx
      have := sized_slice hsz (j := 1) (t := 35) (e := 36) rfl (by rw [hd]; rfl) Try.underlying35
      simp only [lits, List.length_map, List.length_take, List.length_drop, reachBytes] at this
      simp only [if_true] at hz
      rw [hz, Nat.min_eq_left hl, Nat.add_sub_cancel' hl] at this
      exact this
  clear hA0 hval0
  refine (walk n0 a1 len1 cap1 z1 W (bounds_u16 w0) w1 s1).mono fun e W' ⟨he, bel⟩ => ?_
  subst he
  exact ⟨_, rfl, _, _, _, [], _, [], hW', trodAll_mk1 (shut_bool Try.underlying4 _), (trodAll_cons_mk (Below.trod laidOut (by kernel_rfl) (of_decide_eq_true (by kernel_rfl)) k0 bel lt0) (trodAll_cons_mk (Below.trod laidOut (by kernel_rfl) (of_decide_eq_true (by kernel_rfl)) k1 bel lt1) trodAll_mk0)), rfl, bel.frame _, fun h => by cases h⟩

theorem over : Rows.turnAddsRow.holds Try.pinned (OpenSpec.ofChange Rows.turnAddsSpec) :=
  OpenClaim.holds_of_wide 7 Try.f7 rfl rfl rfl rfl rfl rfl rfl ⟨rfl, rfl, rfl, rfl, rfl⟩ rfl rfl rfl rfl rfl (by kernel_rfl) Try.func7 (by kernel_rfl)
    (of_decide_eq_true (by kernel_rfl)) (by unfold Func.isWrapper; first | (rw [if_pos (by decide +kernel)]; kernel_rfl) | (rw [if_neg (by decide +kernel)]; exact ⟨rfl, rfl⟩))
    (fun os started H enc _ => lifted os started H enc)

theorem proved : Rows.TurnAddsSaid := over
end Go.Proofs.Ytacbhdaiaihmeaa.turnAdds
