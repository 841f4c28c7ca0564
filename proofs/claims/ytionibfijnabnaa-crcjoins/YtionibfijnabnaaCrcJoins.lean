/- For every two lists of bytes and every number the law CrcJoins answers true: Join of their sums and the length of the second is the sum of the two lists one behind the other (lists of at most 5,000 bytes together are looked at, as the law says), and a number outside 0 to 2^40 is refused; no conditions. -/
import Derived.Test.YtionibfijnabnaaBytes
namespace Go.Proofs.Ytionibfijnabnaa.crcJoins
open Go.ChangeShapes Go.WideShapes Go.ChangeAt Go.RowKit
set_option linter.unusedVariables false

theorem own : ownKnob Try.prog.godebug = none := by kernel_rfl
theorem laidOut : laidOutB Try.prog = true := by kernel_rfl

theorem join_sums (a b : List Int) : pw (8 * (b.length : Int).toNat) (sm 0xFFFF#16 a ^^^ 0xFFFF#16) ^^^ sm 0xFFFF#16 b = sm 0xFFFF#16 (a ++ b) := by
  rw [sm_append, Int.toNat_natCast]
  have h := sm_xor b 0xFFFF#16 (sm 0xFFFF#16 a ^^^ 0xFFFF#16)
  rw [BitVec.xor_comm (pw _ _), ← h]
  congr 1
  rw [BitVec.xor_comm (sm _ a), ← BitVec.xor_assoc]; simp

set_option maxHeartbeats 1000000 in
theorem walk (a0 : Option Addr) (len0 cap0 : Nat) (z0 : List Int) (a1 : Option Addr) (len1 cap1 : Nat) (z1 : List Int) (a2 : Int) (w : World) (w0 : IsRow .u8 w a0 len0 cap0 z0) (w1 : IsRow .u8 w a1 len1 cap1 z1) (w2 : (Lit.int .i64 a2).wf = true) (s0 : cap0 * Try.prog.bytesOf 5 ≤ 140737488351232) (s1 : cap1 * Try.prog.bytesOf 5 ≤ 140737488351232) :
    Calls Try.prog 6 #[.slice a0 len0 cap0, .slice a1 len1 cap1, .int .i64 a2] w fun e w' => e = .returned (.bool true) ∧ Below w.heap.size w w' := by
  rw [bytes5] at s0 s1
  obtain ⟨la, hla, hba, hina, hma, hca⟩ := bs_of_row w0
  obtain ⟨lb, hlb, hbb, hinb, hmb, hcb⟩ := bs_of_row w1
  have b2 := bounds_i64 w2
  clear w0 w1 w2
  unfold maxLen at hma hmb
  have Hla := hide hla
  have Hlb := hide hlb
  clear hla hlb
  by_cases hlen : (5000 : Int) < (len0 : Int) + (len1 : Int)
  · have hw64 : wrap64 ((len0 : Int) + (len1 : Int)) = (len0 : Int) + (len1 : Int) := by unfold wrap64; omega
    go_enter Try.func6, Try.ntmps6
    go_wp2_with fail
    refine (awake_any _).mono ?_; rintro e w1 ⟨rfl, rfl⟩
    go_wp2_with fail
    refine (awake_any _).mono ?_; rintro e w1 ⟨rfl, rfl⟩
    go_wp2_with fail
    go_ret
    exact ⟨rfl, ((Below.refl _ _).alloc (Nat.le_refl _) _).alloc (by simp) _⟩
  · go_enter Try.func6, Try.ntmps6
    go_wp2_with fail
    refine (awake_any _).mono ?_; rintro e w1 ⟨rfl, rfl⟩
    have hb1 : Below w.heap.size w (w.alloc digitsObj) := (Below.refl _ _).alloc (Nat.le_refl _) _
    have hb0 : Below w.heap.size w ((w.alloc digitsObj).alloc (.cells #[] 5)) := ((Below.refl _ _).alloc (Nat.le_refl _) _).alloc (by simp) _
    go_wp2_with fail
    refine (sum_bs (hba.keep hb1) hina (by rw [unhide Hla]; omega)).mono ?_; rintro e w2 ⟨rfl, rfl⟩
    go_wp2_with fail
    refine (sum_bs (hbb.keep hb1) hinb (by rw [unhide Hlb]; omega)).mono ?_; rintro e w2 ⟨rfl, rfl⟩
    go_wp2_with fail
    refine (join_any _ _ _ (by omega) (by omega) _).mono ?_; rintro e w2 ⟨rfl, rfl⟩
    have hj : pw (8 * (len1 : Int).toNat) (sm 0xFFFF#16 la ^^^ 0xFFFF#16) ^^^ sm 0xFFFF#16 lb = sm 0xFFFF#16 (la ++ lb) := by rw [← unhide Hlb]; exact join_sums la lb
    rw [hj]
    clear hj
    have hin2 : InB (la ++ lb) := fun z hz => by rcases List.mem_append.1 hz with h | h; exact hina z h; exact hinb z h
    have hn2 : la.length + lb.length ≤ 1000000 := by rw [unhide Hla, unhide Hlb]; omega
    have Hn2 := hide hn2
    clear hn2
    by_cases hlo : 0 ≤ a2
    · have dlo : decide (0 ≤ a2) = true := by simpa using hlo
      by_cases hhi : a2 ≤ 1099511627776
      · go_wp2_with fail
        refine (join_any 1#16 2#16 a2 hlo hhi _).mono ?_; rintro e w2 ⟨rfl, rfl⟩
        go_wp2_with (at_builtin; refine wpList_app hb0 (by rfl) _ _ rfl _ _ rfl rfl [] la (own_empty _ _ (by simp) _ (by simp)) (hba.keep hb0) (by simp; have := unhide Hn2; omega) ?_; intro v1 w1 hown hb1; refine Hid.out ?_)
        refine hide ?_
        rw [List.nil_append] at hown
        go_wp2_with (at_builtin; refine wpList_app hb1 (by rfl) _ _ rfl _ _ rfl rfl la lb hown (hbb.keep hb1) (unhide Hn2) ?_; intro v2 w2 hown2 hb2; refine Hid.out ?_)
        refine hide ?_
        go_wp2_with fail
        refine (rsum_bs (Bs.own hown2) hin2 (by simp; have := unhide Hn2; omega)).mono ?_; rintro e w3 ⟨rfl, rfl⟩
        go_wp2_with fail
        go_ret
        exact ⟨rfl, hb2⟩
      · have dhi : decide (a2 ≤ 1099511627776) = false := by simpa using hhi
        go_wp2_with fail
        refine (join_no 1#16 2#16 a2 (.inr (by omega)) _).mono ?_; rintro e w2 ⟨rfl, rfl⟩
        go_wp2_with (at_builtin; refine wpList_app hb0 (by rfl) _ _ rfl _ _ rfl rfl [] la (own_empty _ _ (by simp) _ (by simp)) (hba.keep hb0) (by simp; have := unhide Hn2; omega) ?_; intro v1 w1 hown hb1; refine Hid.out ?_)
        refine hide ?_
        rw [List.nil_append] at hown
        go_wp2_with (at_builtin; refine wpList_app hb1 (by rfl) _ _ rfl _ _ rfl rfl la lb hown (hbb.keep hb1) (unhide Hn2) ?_; intro v2 w2 hown2 hb2; refine Hid.out ?_)
        refine hide ?_
        go_wp2_with fail
        refine (rsum_bs (Bs.own hown2) hin2 (by simp; have := unhide Hn2; omega)).mono ?_; rintro e w3 ⟨rfl, rfl⟩
        go_wp2_with fail
        go_ret
        exact ⟨rfl, hb2⟩
    · have dlo : decide (0 ≤ a2) = false := by simpa using hlo
      go_wp2_with fail
      refine (join_no 1#16 2#16 a2 (.inl (by omega)) _).mono ?_; rintro e w2 ⟨rfl, rfl⟩
      go_wp2_with (at_builtin; refine wpList_app hb0 (by rfl) _ _ rfl _ _ rfl rfl [] la (own_empty _ _ (by simp) _ (by simp)) (hba.keep hb0) (by simp; have := unhide Hn2; omega) ?_; intro v1 w1 hown hb1; refine Hid.out ?_)
      refine hide ?_
      rw [List.nil_append] at hown
      go_wp2_with (at_builtin; refine wpList_app hb1 (by rfl) _ _ rfl _ _ rfl rfl la lb hown (hbb.keep hb1) (unhide Hn2) ?_; intro v2 w2 hown2 hb2; refine Hid.out ?_)
      refine hide ?_
      go_wp2_with fail
      refine (rsum_bs (Bs.own hown2) hin2 (by simp; have := unhide Hn2; omega)).mono ?_; rintro e w3 ⟨rfl, rfl⟩
      go_wp2_with fail
      go_ret
      exact ⟨rfl, hb2⟩


set_option maxRecDepth 100000 in
theorem lifted (os : Os) (started : os.Started) (H : Type) (enc : TypeId × Value → H) :
    ReturnsInHanded {} Try.checked os 6 .any (Rows.crcJoinsSpec.pre6 enc Try.prog Try.f6 Rows.crcJoinsRow.domain false) (Rows.crcJoinsSpec.post enc Try.prog Try.f6 false true false false) := by
  refine returnsInHanded_of_change_sized (C := Try.checked) own started (by kernel_rfl) Try.func6
    (ChangeSpec.witness6 (enc := enc) (C := Try.checked) false ⟨#[], #[.slice none 0 0, .slice none 0 0, .int .i64 0], []⟩ 8 (by kernel_rfl) (by kernel_rfl) (by kernel_rfl) (by kernel_rfl)) ?_
  intro W base args ds gs before hval0 hW hcnd hsz0 _
  have hval : ∀ (j : Nat) t v, Try.f6.params[j]? = some t → args[j]? = some v → Value.okWide Try.prog W .any base t v := hval0
  have hsz : (DataW.weightsEach Try.prog (Try.f6.params.toList ++ Rows.crcJoinsSpec.plain.varTypes Try.prog) (ds ++ gs)).all (· ≤ reachBytes) = true := hsz0
  have hW' := hW
  obtain ⟨p, q, hA0, hV, rfl, hfz, hnd⟩ := hW
  have hA : DataW.TrodAll enc Try.prog W 0 (fun _ => true) true Try.f6.params.toList args.toList ds p := hA0
  rw [Try.params6] at hA hval hsz
  obtain ⟨v0, vs0, d0, ds0, p0, q0, hargs, rfl, rfl, h0, r0⟩ := trodAll_cons hA
  obtain ⟨v1, vs1, d1, ds1, p1, q1, rfl, rfl, rfl, h1, r1⟩ := trodAll_cons r0
  obtain ⟨v2, vs2, d2, ds2, p2, q2, rfl, rfl, rfl, h2, r2⟩ := trodAll_cons r1
  obtain ⟨rfl, rfl, rfl⟩ := trodAll_nil r2
  obtain rfl : args = #[v0, v1, v2] := by cases args; simp_all
  obtain ⟨rfl, rfl⟩ := trodVars_none hV
  obtain ⟨a0, len0, cap0, rfl⟩ := okWide_slice Try.underlying26 (hval 0 26 v0 rfl rfl)
  have k0 := h0
  have lt0 : ∀ x ∈ p0, x.block < W.heap.size := by obtain ⟨m, hm⟩ := k0; exact DataW.trod_lt m _ _ _ hm
  obtain ⟨z0, w0⟩ : ∃ zs, IsRow .u8 W a0 len0 cap0 zs := by
    obtain ⟨fuel, hf⟩ := h0
    rcases open_ints Try.underlying26 Try.underlying5 (by kernel_rfl) hf with ⟨hcs, _⟩ | ⟨x, l, c, zs, hcs, _, hl, hm, hz, _, hcell, hwz⟩
    · simp [Value.cells] at hcs
      obtain ⟨rfl, rfl, rfl⟩ := hcs
      exact ⟨[], .inl ⟨rfl, rfl, rfl, rfl⟩⟩
    · simp [Value.cells] at hcs
      obtain ⟨rfl, rfl, rfl⟩ := hcs
      exact ⟨zs, .inr ⟨_, rfl, hl, hm, by simpa using hz, hcell, hwz⟩⟩
  obtain ⟨a1, len1, cap1, rfl⟩ := okWide_slice Try.underlying26 (hval 1 26 v1 rfl rfl)
  have k1 := h1
  have lt1 : ∀ x ∈ p1, x.block < W.heap.size := by obtain ⟨m, hm⟩ := k1; exact DataW.trod_lt m _ _ _ hm
  obtain ⟨z1, w1⟩ : ∃ zs, IsRow .u8 W a1 len1 cap1 zs := by
    obtain ⟨fuel, hf⟩ := h1
    rcases open_ints Try.underlying26 Try.underlying5 (by kernel_rfl) hf with ⟨hcs, _⟩ | ⟨x, l, c, zs, hcs, _, hl, hm, hz, _, hcell, hwz⟩
    · simp [Value.cells] at hcs
      obtain ⟨rfl, rfl, rfl⟩ := hcs
      exact ⟨[], .inl ⟨rfl, rfl, rfl, rfl⟩⟩
    · simp [Value.cells] at hcs
      obtain ⟨rfl, rfl, rfl⟩ := hcs
      exact ⟨zs, .inr ⟨_, rfl, hl, hm, by simpa using hz, hcell, hwz⟩⟩
  obtain ⟨a2, rfl, rfl, rfl, w2⟩ := open_int Try.underlying3 (hval 2 3 v2 rfl rfl) h2
  have s0 : cap0 * Try.prog.bytesOf 5 ≤ 140737488351232 := by
    obtain ⟨fuel, hf⟩ := k0
    rcases open_ints Try.underlying26 Try.underlying5 (by kernel_rfl) hf with ⟨hcs, _⟩ | ⟨x, l, c, zs, hcs, _, hl, hm, hz, hx, _, _⟩
    · simp [Value.cells] at hcs
      rw [hcs.2.2]; omega
    · simp [Value.cells] at hcs
      obtain ⟨rfl, rfl, rfl⟩ := hcs
      have hd : d0 = _ := congrArg Prod.fst hx
      have := sized_slice hsz (j := 0) (t := 26) (e := 5) rfl (by rw [hd]; rfl) Try.underlying26
      simp only [lits, List.length_map, List.length_take, List.length_drop, reachBytes] at this
      simp only [if_true] at hz
      rw [hz, Nat.min_eq_left hl, Nat.add_sub_cancel' hl] at this
      exact this
  have s1 : cap1 * Try.prog.bytesOf 5 ≤ 140737488351232 := by
    obtain ⟨fuel, hf⟩ := k1
    rcases open_ints Try.underlying26 Try.underlying5 (by kernel_rfl) hf with ⟨hcs, _⟩ | ⟨x, l, c, zs, hcs, _, hl, hm, hz, hx, _, _⟩
    · simp [Value.cells] at hcs
      rw [hcs.2.2]; omega
    · simp [Value.cells] at hcs
      obtain ⟨rfl, rfl, rfl⟩ := hcs
      have hd : d1 = _ := congrArg Prod.fst hx
      have := sized_slice hsz (j := 1) (t := 26) (e := 5) rfl (by rw [hd]; rfl) Try.underlying26
      simp only [lits, List.length_map, List.length_take, List.length_drop, reachBytes] at this
      simp only [if_true] at hz
      rw [hz, Nat.min_eq_left hl, Nat.add_sub_cancel' hl] at this
      exact this
  clear hA0 hval0
  refine (walk a0 len0 cap0 z0 a1 len1 cap1 z1 a2 W w0 w1 w2 s0 s1).mono fun e W' ⟨he, bel⟩ => ?_
  subst he
  exact ⟨_, rfl, _, _, _, [], _, [], hW', trodAll_mk1 (shut_bool Try.underlying4 _), (trodAll_cons_mk (Below.trod laidOut (by kernel_rfl) (of_decide_eq_true (by kernel_rfl)) k0 bel lt0) (trodAll_cons_mk (Below.trod laidOut (by kernel_rfl) (of_decide_eq_true (by kernel_rfl)) k1 bel lt1) (trodAll_cons_mk (shut_int Try.underlying3 w2) trodAll_mk0))), rfl, bel.frame _, fun h => by cases h⟩

theorem over : Rows.crcJoinsRow.holds Try.pinned (OpenSpec.ofChange Rows.crcJoinsSpec) :=
  OpenClaim.holds_of_wide 6 Try.f6 rfl rfl rfl rfl rfl rfl rfl ⟨rfl, rfl, rfl, rfl, rfl⟩ rfl rfl rfl rfl rfl (by kernel_rfl) Try.func6 (by kernel_rfl)
    (of_decide_eq_true (by kernel_rfl)) (by unfold Func.isWrapper; first | (rw [if_pos (by decide +kernel)]; kernel_rfl) | (rw [if_neg (by decide +kernel)]; exact ⟨rfl, rfl⟩))
    (fun os started H enc _ => lifted os started H enc)

theorem proved : Rows.CrcJoinsSaid := over
end Go.Proofs.Ytionibfijnabnaa.crcJoins
