/- For every list of bytes and every 16-bit number the law CrcOwn answers true: a list with its own sum behind it has the sum 0, and with any other two bytes it has not (lists of at most 4,000 bytes are looked at, as the law says); no conditions. -/
import Derived.Test.YtionibfijnabnabFind
namespace Go.Proofs.Ytionibfijnabnab.crcOwn
open Go.ChangeShapes Go.WideShapes Go.ChangeAt Go.RowKit
set_option linter.unusedVariables false

theorem own : ownKnob Try.prog.godebug = none := by kernel_rfl
theorem laidOut : laidOutB Try.prog = true := by kernel_rfl

theorem split_uv (y : BitVec 16) : hi (uv y / 256) ^^^ BitVec.ofInt 16 (uv y % 256) = y := by
  have e1 : hi (uv y / 256) = (y >>> 8) <<< 8 := by
    unfold hi uv
    apply BitVec.eq_of_toNat_eq
    simp [Nat.shiftLeft_eq, Nat.shiftRight_eq_div_pow, BitVec.toNat_ofInt]
    omega
  have e2 : BitVec.ofInt 16 (uv y % 256) = y &&& 0xFF#16 := by
    unfold uv
    apply BitVec.eq_of_toNat_eq
    rw [BitVec.toNat_and, show (0xFF#16).toNat = 2 ^ 8 - 1 from rfl, Nat.and_two_pow_sub_one_eq_mod]
    simp [BitVec.toNat_ofInt]
    omega
  rw [e1, e2]
  apply BitVec.eq_of_getLsbD_eq
  intro i hi
  have h255 : (0xFF#16).getLsbD i = decide (i < 8) := by revert i; decide
  rw [BitVec.getLsbD_xor, BitVec.getLsbD_and, BitVec.getLsbD_shiftLeft, BitVec.getLsbD_ushiftRight, h255]
  by_cases h : i < 8
  · simp [h]
  · simp [h, hi, show 8 + (i - 8) = i by omega]

theorem low_pw : ∀ n, n < 256 → pw 8 (BitVec.ofNat 16 n) = hi (n : Int) := by decide +kernel

theorem sm_put (l : List Int) (y : BitVec 16) : sm 0xFFFF#16 (l ++ [uv y / 256, uv y % 256]) = pw 16 (sm 0xFFFF#16 l ^^^ y) := by
  rw [sm_append]
  generalize sm 0xFFFF#16 l = c
  simp only [sm, stp]
  obtain ⟨n, hn, hn2⟩ : ∃ n : Nat, n < 256 ∧ uv y % 256 = (n : Int) := ⟨(uv y % 256).toNat, by have := uv_lo y; omega, by have := uv_lo y; omega⟩
  have e : hi (uv y % 256) = pw 8 (BitVec.ofInt 16 (uv y % 256)) := by rw [hn2, ← low_pw n hn, BitVec.ofInt_natCast]
  rw [e, ← pw_xor, ← pw_add]
  congr 1
  rw [BitVec.xor_assoc, split_uv]

theorem bs_two (w : World) (z y : Int) (n : Nat) (hn : n = w.heap.size) : Bs (w.alloc (.cells #[.int .u8 z, .int .u8 y] 5)) (.slice (some ⟨n, 0, none⟩) 2 2) [z, y] := by
  subst hn
  refine .inr ⟨⟨w.heap.size, 0, none⟩, 2, rfl, fun i hi => ?_⟩
  rw [add_plain, cell_new, Nat.zero_add]
  have : i = 0 ∨ i = 1 := by simp at hi; omega
  rcases this with rfl | rfl <;> rfl

set_option maxHeartbeats 1000000 in
theorem put_any (y : BitVec 16) (c : Nat) (v : Value) (l : List Int) (w : World) (hcell : w.cell? ⟨c, 0, none⟩ = some v) (hv : ∃ a len cap, v = .slice a len cap) (hs : Bs w v l) (hin : InB l) (hlen : l.length ≤ 4000) :
    Calls Try.prog 9 #[.int .u16 (uv y), .pointer (some ⟨c, 0, none⟩)] w fun e w' => e = .returned (.int .u16 (uv (pw 16 (sm 0xFFFF#16 l ^^^ y)))) ∧ Below w.heap.size w w' := by
  obtain ⟨a, len, cap, rfl⟩ := hv
  have Hlen := hide hlen
  clear hlen
  have y0 := uv_lo y
  have y1 := uv_hi y
  have hb0 : Below w.heap.size w (w.alloc (.cells #[] 5)) := (Below.refl _ _).alloc (Nat.le_refl _) _
  have hcell2 : (w.alloc (.cells #[] 5)).cell? ⟨c, 0, none⟩ = some (.slice a len cap) := Lib.cell?_alloc_marked _ hcell
  go_enter Try.func9, Try.ntmps9
  go_wp2_with (at_builtin; refine wpList_app hb0 (by rfl) _ _ rfl _ _ rfl rfl [] l (own_empty _ _ (by simp) _ (by simp)) (hs.keep hb0) (by simp; have := unhide Hlen; omega) ?_; intro v1 w1 hown hb1; refine Hid.out ?_)
  refine hide ?_
  rw [List.nil_append] at hown
  have hb2 : ∀ o, Below w.heap.size w (w1.alloc o) := fun o => hb1.alloc hb1.size _
  have Hb2 := hide hb2
  clear hb2
  go_wp2_with (at_builtin; refine wpList_app (unhide Hb2 _) (by rfl) _ _ rfl _ _ rfl rfl l [IntKind.u16.wrap ((uv y).tdiv 256) % 256, uv y % 256] (World.ownsRow.alloc hown _) (bs_two _ _ _ _ rfl) (by simp; have := unhide Hlen; omega) ?_; intro v2 w2 hown2 hb3; refine Hid.out ?_)
  refine hide ?_
  have ew : IntKind.u16.wrap ((uv y).tdiv 256) % 256 = uv y / 256 := by
    rw [Int.tdiv_eq_ediv_of_nonneg y0]
    simp only [IntKind.wrap, IntKind.bits, IntKind.signed]
    simp
    omega
  rw [ew] at hown2
  clear ew
  have hin2 : InB (l ++ [uv y / 256, uv y % 256]) := fun z hz => by
    rcases List.mem_append.1 hz with h | h
    · exact hin z h
    · simp at h
      omega
  have hs2 := Bs.own hown2
  clear hown2 hown
  go_wp2_with fail
  refine (sum_bs hs2 hin2 (by simp; have := unhide Hlen; omega)).mono ?_; rintro e w3 ⟨rfl, rfl⟩
  go_wp2_with fail
  go_ret
  exact ⟨by rw [← sm_put]; rfl, hb3⟩

theorem zero_iff (c x : BitVec 16) : (uv (pw 16 (c ^^^ x)) == 0) = (uv x == uv c) := by
  by_cases h : x = c
  · subst h
    rw [show x ^^^ x = 0#16 by simp, pw_zero, show uv 0#16 = 0 from rfl]
    simp
  · have h1 : uv x ≠ uv c := fun e => h (uv_inj e)
    have h2 : uv (pw 16 (c ^^^ x)) ≠ 0 := fun e => by
      have e2 : pw 16 (c ^^^ x) = pw 16 0#16 := by rw [pw_zero]; exact uv_inj e
      exact h (xor_eq_zero (pw_inj e2)).symm
    rw [beq_eq_false_iff_ne.2 h1, beq_eq_false_iff_ne.2 h2]

set_option maxHeartbeats 1000000 in
theorem walk (a0 : Option Addr) (len0 cap0 : Nat) (z0 : List Int) (a1 : Int) (w : World) (w0 : IsRow .u8 w a0 len0 cap0 z0) (w1 : (Lit.int .u16 a1).wf = true) :
    Calls Try.prog 4 #[.slice a0 len0 cap0, .int .u16 a1] w fun e w' => e = .returned (.bool true) ∧ Below w.heap.size w w' := by
  obtain ⟨l, hl, hbs, hin, hm, _⟩ := bs_of_row w0
  have b1 := bounds_u16 w1
  obtain ⟨x, rfl⟩ := uv_of a1 b1.1 b1.2
  clear w0 w1 b1
  unfold maxLen at hm
  have Hl := hide hl
  clear hl
  by_cases hlen : (4000 : Int) < (len0 : Int)
  · go_enter Try.func4, Try.ntmps4
    go_wp2_with fail
    refine (awake_any _).mono ?_; rintro e w1 ⟨rfl, rfl⟩
    go_wp2_with fail
    refine (awake_any _).mono ?_; rintro e w1 ⟨rfl, rfl⟩
    go_wp2_with fail
    go_ret
    exact ⟨rfl, (((Below.refl _ _).alloc (Nat.le_refl _) _).alloc (by simp) _).alloc (by simp; omega) _⟩
  · have hb1 : Below w.heap.size w ((w.alloc (.cells #[.slice a0 len0 cap0] 23)).alloc digitsObj) := ((Below.refl _ _).alloc (Nat.le_refl _) _).alloc (by simp) _
    have hc1 : ((w.alloc (.cells #[.slice a0 len0 cap0] 23)).alloc digitsObj).cell? ⟨w.heap.size, 0, none⟩ = some (.slice a0 len0 cap0) := by
      rw [World.cell?_of_block (Below.heap_alloc _ _ _ (by simp)), cell_new]; rfl
    have hlt : w.heap.size < ((w.alloc (.cells #[.slice a0 len0 cap0] 23)).alloc digitsObj).heap.size := by simp; omega
    have hlen2 : l.length ≤ 4000 := by rw [unhide Hl]; omega
    have Hlen2 := hide hlen2
    clear hlen2
    go_enter Try.func4, Try.ntmps4
    go_wp2_with fail
    refine (awake_any _).mono ?_; rintro e w1 ⟨rfl, rfl⟩
    go_wp2_with fail
    generalize (w.alloc (.cells #[.slice a0 len0 cap0] 23)).alloc digitsObj = W1 at *
    have hs1 := hbs.keep hb1
    refine (sum_bs hs1 hin (by have := unhide Hlen2; omega)).mono ?_; rintro e w1 ⟨rfl, rfl⟩
    go_wp2_with fail
    refine (put_any _ _ _ l _ hc1 ⟨_, _, _, rfl⟩ hs1 hin (unhide Hlen2)).mono ?_; rintro e w2 ⟨rfl, hb2⟩
    have hz : uv (pw 16 (sm 0xFFFF#16 l ^^^ sm 0xFFFF#16 l)) = 0 := by
      rw [show sm 0xFFFF#16 l ^^^ sm 0xFFFF#16 l = 0#16 by simp, pw_zero]; rfl
    rw [hz]
    have hc2 : w2.cell? ⟨w.heap.size, 0, none⟩ = some (.slice a0 len0 cap0) := by rw [hb2.cell (p := ⟨w.heap.size, 0, none⟩) hlt]; exact hc1
    have hb3 : Below w.heap.size w w2 := hb1.trans (hb2.mono (by omega))
    have hs2 := hbs.keep hb3
    clear hz hc1 hs1
    go_wp2_with fail
    refine (put_any _ _ _ l _ hc2 ⟨_, _, _, rfl⟩ hs2 hin (unhide Hlen2)).mono ?_; rintro e w3 ⟨rfl, hb4⟩
    have hi := zero_iff (sm 0xFFFF#16 l) x
    go_wp2_with fail
    go_ret
    exact ⟨rfl, hb3.trans (hb4.mono hb3.size)⟩


set_option maxRecDepth 100000 in
theorem lifted (os : Os) (started : os.Started) (H : Type) (enc : TypeId × Value → H) :
    ReturnsInHanded {} Try.checked os 4 .any (Rows.crcOwnSpec.pre6 enc Try.prog Try.f4 Rows.crcOwnRow.domain false) (Rows.crcOwnSpec.post enc Try.prog Try.f4 false true false false) := by
  refine returnsInHanded_of_change (C := Try.checked) own started (by kernel_rfl) Try.func4
    (ChangeSpec.witness6 (enc := enc) (C := Try.checked) false ⟨#[], #[.slice none 0 0, .int .u16 0], []⟩ 8 (by kernel_rfl) (by kernel_rfl) (by kernel_rfl) (by kernel_rfl)) ?_
  intro W base args ds gs before hval0 hW hcnd _
  have hval : ∀ (j : Nat) t v, Try.f4.params[j]? = some t → args[j]? = some v → Value.okWide Try.prog W .any base t v := hval0
  have hW' := hW
  obtain ⟨p, q, hA0, hV, rfl, hfz, hnd⟩ := hW
  have hA : DataW.TrodAll enc Try.prog W 0 (fun _ => true) true Try.f4.params.toList args.toList ds p := hA0
  rw [Try.params4] at hA hval
  obtain ⟨v0, vs0, d0, ds0, p0, q0, hargs, rfl, rfl, h0, r0⟩ := trodAll_cons hA
  obtain ⟨v1, vs1, d1, ds1, p1, q1, rfl, rfl, rfl, h1, r1⟩ := trodAll_cons r0
  obtain ⟨rfl, rfl, rfl⟩ := trodAll_nil r1
  obtain rfl : args = #[v0, v1] := by cases args; simp_all
  obtain ⟨rfl, rfl⟩ := trodVars_none hV
  obtain ⟨a0, len0, cap0, rfl⟩ := okWide_slice Try.underlying23 (hval 0 23 v0 rfl rfl)
  have k0 := h0
  have lt0 : ∀ x ∈ p0, x.block < W.heap.size := by obtain ⟨m, hm⟩ := k0; exact DataW.trod_lt m _ _ _ hm
  obtain ⟨z0, w0⟩ : ∃ zs, IsRow .u8 W a0 len0 cap0 zs := by
    obtain ⟨fuel, hf⟩ := h0
    rcases open_ints Try.underlying23 Try.underlying5 (by kernel_rfl) hf with ⟨hcs, _⟩ | ⟨x, l, c, zs, hcs, _, hl, hm, hz, _, hcell, hwz⟩
    · simp [Value.cells] at hcs
      obtain ⟨rfl, rfl, rfl⟩ := hcs
      exact ⟨[], .inl ⟨rfl, rfl, rfl, rfl⟩⟩
    · simp [Value.cells] at hcs
      obtain ⟨rfl, rfl, rfl⟩ := hcs
      exact ⟨zs, .inr ⟨_, rfl, hl, hm, by simpa using hz, hcell, hwz⟩⟩
  obtain ⟨a1, rfl, rfl, rfl, w1⟩ := open_int Try.underlying24 (hval 1 24 v1 rfl rfl) h1
  clear hA0 hval0
  refine (walk a0 len0 cap0 z0 a1 W w0 w1).mono fun e W' ⟨he, bel⟩ => ?_
  subst he
  exact ⟨_, rfl, _, _, _, [], _, [], hW', trodAll_mk1 (shut_bool Try.underlying4 _), (trodAll_cons_mk (Below.trod laidOut (by kernel_rfl) (of_decide_eq_true (by kernel_rfl)) k0 bel lt0) (trodAll_cons_mk (shut_int Try.underlying24 w1) trodAll_mk0)), rfl, bel.frame _, fun h => by cases h⟩

theorem over : Rows.crcOwnRow.holds Try.pinned (OpenSpec.ofChange Rows.crcOwnSpec) :=
  OpenClaim.holds_of_wide 4 Try.f4 rfl rfl rfl rfl rfl rfl rfl ⟨rfl, rfl, rfl, rfl, rfl⟩ rfl rfl rfl rfl rfl (by kernel_rfl) Try.func4 (by kernel_rfl)
    (of_decide_eq_true (by kernel_rfl)) (by unfold Func.isWrapper; first | (rw [if_pos (by decide +kernel)]; kernel_rfl) | (rw [if_neg (by decide +kernel)]; exact ⟨rfl, rfl⟩))
    (fun os started H enc _ => lifted os started H enc)

theorem proved : Rows.CrcOwnSaid := over
end Go.Proofs.Ytionibfijnabnab.crcOwn
