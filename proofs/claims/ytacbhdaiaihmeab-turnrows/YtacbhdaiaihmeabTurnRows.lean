/- For every number of 16 bits and every two numbers the law TurnRows answers true: of a row of numbers from one on each is within it, the next one and the one ahead aren't, and turned any way they are put in order again; no conditions. -/
import Derived.Test.YtacbhdaiaihmeabTwo
namespace Go.Proofs.Ytacbhdaiaihmeab.turnRows
open Go.ChangeShapes Go.WideShapes Go.ChangeAt Go.RowKit
set_option linter.unusedVariables false

theorem own : ownKnob Try.prog.godebug = none := by kernel_rfl
theorem laidOut : laidOutB Try.prog = true := by kernel_rfl

theorem few_in (a : Int) : 0 ≤ wrap64 ((IntKind.u64.wrap a).tmod 200) ∧ wrap64 ((IntKind.u64.wrap a).tmod 200) ≤ 199 := by
  have h0 : 0 ≤ IntKind.u64.wrap a := by simp [IntKind.wrap, IntKind.bits, IntKind.signed]; omega
  have e : (IntKind.u64.wrap a).tmod 200 = IntKind.u64.wrap a % 200 := Int.tmod_eq_emod_of_nonneg h0
  rw [e]
  generalize IntKind.u64.wrap a = b at h0
  unfold wrap64
  omega

theorem turn_in (n2 : Int) (N : Nat) (N0 : 1 ≤ N) (N1 : N ≤ 200) : ∃ k : Nat, wrap64 ((IntKind.u64.wrap n2).tmod (N : Int)) = (k : Int) ∧ k < N := by
  have h0 : 0 ≤ IntKind.u64.wrap n2 := by simp [IntKind.wrap, IntKind.bits, IntKind.signed]; omega
  rw [Int.tmod_eq_emod_of_nonneg h0]
  generalize IntKind.u64.wrap n2 = b at h0
  have h1 := Int.emod_nonneg b (by omega : (N : Int) ≠ 0)
  have h2 := Int.emod_lt_of_pos b (by omega : (0 : Int) < N)
  generalize b % (N : Int) = c at *
  refine ⟨c.toNat, ?_, by omega⟩
  unfold wrap64
  omega
theorem wrap64_id (x : Int) (h : -9223372036854775808 ≤ x ∧ x ≤ 9223372036854775807) : wrap64 x = x := by
  unfold wrap64; omega
theorem wrap_mod (a : Int) : IntKind.u16.wrap a = a % 65536 := by
  unfold IntKind.wrap; simp [IntKind.bits, IntKind.signed]
theorem iwrap_id (x : Int) (h : -9223372036854775808 ≤ x ∧ x ≤ 9223372036854775807) : IntKind.i64.wrap x = x := by
  unfold IntKind.wrap; simp [IntKind.bits, IntKind.signed]; omega
theorem sum_id (x y : Int) (h1 : x ≤ 200) (h2 : y ≤ 200) (h3 : 0 ≤ x) (h4 : 0 ≤ y) : wrap64 (x + y) = x + y := wrap64_id (x + y) ⟨by omega, by omega⟩
theorem facts1 (i k N : Nat) (hi : i < N) (hk : k < N) (hN : N ≤ 200) :
    N ≠ 0 ∧ ¬ (N : Int) = 0 ∧ wrap64 ((i : Int) * 7) = (i : Int) * 7 ∧ wrap64 ((i : Int) * 7 + (k : Int)) = (i : Int) * 7 + (k : Int) ∧ wrap64 ((i : Int) + (k : Int)) = (i : Int) + (k : Int) :=
  ⟨by omega, by omega, wrap64_id _ (by omega), wrap64_id _ (by omega), sum_id _ _ (by omega) (by omega) (by omega) (by omega)⟩
theorem facts2 (a N : Nat) (hi : a < N) (hN : N ≤ 200) : (a : Int) % 65536 = (a : Int) ∧ IntKind.u16.wrap (a : Int) = (a : Int) ∧ wrap64 (a : Int) = (a : Int) := by
  have h : (a : Int) % 65536 = (a : Int) := by omega
  exact ⟨h, by rw [wrap_mod]; exact h, wrap64_id _ (by omega)⟩

set_option maxHeartbeats 1000000 in
theorem walk (n0 n1 n2 : Int) (w : World) (h0 : 0 ≤ n0 ∧ n0 ≤ 65535) (h1 : -9223372036854775808 ≤ n1 ∧ n1 ≤ 9223372036854775807) (h2 : -9223372036854775808 ≤ n2 ∧ n2 ≤ 9223372036854775807) :
    Calls Try.prog 3 #[.int .u16 n0, .int .i64 n1, .int .i64 n2] w fun e w' => e = .returned (.bool true) ∧ Below w.heap.size w w' := by
  clear h1 h2
  have hf := few_in n1
  go_enter Try.func3, Try.ntmps3
  go_upto_region 5 with (go_at_call 4; refine (awake_any _).mono ?_; rintro e w1 ⟨rfl, rfl⟩)
  obtain ⟨N, hN, N0, N1⟩ : ∃ N : Nat, wrap64 ((IntKind.u64.wrap n1).tmod 200) + 1 = (N : Int) ∧ 1 ≤ N ∧ N ≤ 200 := by
    generalize wrap64 ((IntKind.u64.wrap n1).tmod 200) = a at hf
    exact ⟨(a + 1).toNat, by omega, by omega, by omega⟩
  rw [hN]
  clear hN hf
  obtain ⟨k, hk, k1⟩ : ∃ k : Nat, wrap64 ((IntKind.u64.wrap n2).tmod (N : Int)) = (k : Int) ∧ k < N := turn_in n2 N N0 N1
  rw [hk]
  generalize wrap64 ((IntKind.u64.wrap n1).tmod 200) = g1
  generalize (IntKind.u64.wrap n1).tmod 200 = g2
  generalize IntKind.u64.wrap n1 = g3
  generalize (IntKind.u64.wrap n2).tmod (N : Int) = g4
  generalize IntKind.u64.wrap n2 = g5
  clear hk
  obtain ⟨p0, p1⟩ := h0
  have i0 : (1 : Int) ≤ (N : Int) := by omega
  have i1 : (N : Int) ≤ 200 := by omega
  have i2 : (0 : Int) ≤ (k : Int) := by omega
  have i3 : (k : Int) < (N : Int) := by omega
  go_wp2_with fail
  go_loopw [8, 9, 10] (fun v8 v9 v10 wr => ∃ (i : Nat) (T : List Int), i ≤ N ∧ v10 = .int .i64 i ∧ Ow wr w1.heap.size v8 (rw' n0 i) ∧ Ow wr w1.heap.size v9 T ∧ Sep v8 v9 ∧ Below w1.heap.size w1 wr ∧ Hid (TInv n0 N k i T)) (fun _ _ i _ => N - (intOf i).toNat)
  case atStart => exact ⟨0, [], by omega, rfl, ⟨rfl, .inl ⟨rfl, rfl⟩⟩, ⟨rfl, .inl ⟨rfl, rfl⟩⟩, (fun g hg => by cases hg), Below.refl _ _, hide (tinv_start n0 N k)⟩
  case round =>
    obtain ⟨i, T, hi, rfl, hr, ht, hsep, hb, HT⟩ := hrel
    have Hr := hide hr
    have Ht := hide ht
    have Hsep := hide hsep
    have Hb := hide hb
    clear hr ht hsep hb
    by_cases hlt : i < N
    · have HT' := hide (tinv_next HT.out (by omega) ((i * 7 + k) % N) (Nat.mod_lt _ (by omega)))
      have Hr' := hide (rw_succ n0 i)
      have Hlen := hide (rw_len n0 i)
      have Hlen2 := hide HT.out.1
      have Hi := hide hi
      have Hlt := hide hlt
      have HN1 := hide N1
      have HN0 := hide N0
      have Hk1 := hide k1
      obtain ⟨x, hx⟩ : ∃ x : Int, (i : Int) = x := ⟨_, rfl⟩
      obtain ⟨n, hn⟩ : ∃ x : Int, (N : Int) = x := ⟨_, rfl⟩
      obtain ⟨m, hm⟩ : ∃ x : Int, (k : Int) = x := ⟨_, rfl⟩
      obtain ⟨b1, hb1⟩ : ∃ x : Int, (((i * 7 + k) % N : Nat) : Int) = x := ⟨_, rfl⟩
      obtain ⟨b2, hb2⟩ : ∃ x : Int, (((i + k) % N : Nat) : Int) = x := ⟨_, rfl⟩
      have e1 : (x * 7 + m).tmod n = b1 := by rw [← hx, ← hm, ← hn, ← hb1, Int.tmod_eq_emod_of_nonneg (by omega)]; simp
      have e2 : (x + m).tmod n = b2 := by rw [← hx, ← hm, ← hn, ← hb2, Int.tmod_eq_emod_of_nonneg (by omega)]; simp
      have q10 : 0 ≤ b1 ∧ b1 < n := by have := Nat.mod_lt (i * 7 + k) (show 0 < N by omega); omega
      have q20 : 0 ≤ b2 ∧ b2 < n := by have := Nat.mod_lt (i + k) (show 0 < N by omega); omega
      obtain ⟨b10, b11⟩ := q10
      obtain ⟨b20, b21⟩ := q20
      have j0 : 0 ≤ x := by omega
      have j1 : x < n := by omega
      have j2 : 1 ≤ n := by omega
      have j3 : n ≤ 200 := by omega
      have j4 : 0 ≤ m := by omega
      have j5 : m < n := by omega
      rw [hb1, hb2] at HT'
      rw [hx] at Hr' ⊢
      rw [hn] at ⊢
      rw [hm] at ⊢
      have HX := hide hx
      have HN := hide hn
      clear hx hn hm hb1 hb2 i0 i1 i2 i3 hlt hi N0 N1 k1
      have hw := up_rw n0 x (by omega)
      have k5 := fun W => within_any ((n0 + x) % 65536) n0 n W
      rw [hw, decide_eq_true j1] at k5
      have e0 : IntKind.u16.wrap (n0 + x) = (n0 + x) % 65536 := wrap_mod _
      have e3 : IntKind.u16.wrap (n0 + b1) = (n0 + b1) % 65536 := wrap_mod _
      have e4 : IntKind.u16.wrap (n0 + b2) = (n0 + b2) % 65536 := wrap_mod _
      generalize (n0 + x) % 65536 = y at *
      generalize (n0 + b1) % 65536 = y1 at *
      generalize (n0 + b2) % 65536 = y2 at *
      have K5 := hide k5
      clear k5 hw
      go_upto_region 10 with (at_builtin; refine wpList_app2 (w0 := w1) (Hb.out.alloc Hb.out.size _) (by rfl) _ _ rfl _ _ _ rfl rfl (rw' n0 i) T [y] (World.ownsRow.alloc Hr.out _) (World.ownsRow.alloc Ht.out _) Hsep.out (bs_one _ _ _ rfl) (by have := Hlen.out; have := Hlt.out; have := HN1.out; simp; omega) ?_; intro v2 w2 hr2 ht2 hsep2 hb2)
      rw [← Hr'.out] at hr2
      have hE : Below w1.heap.size w1 (w2.alloc (.cells #[.int .u16 y1, .int .u16 y2] 22)) := hb2.alloc hb2.size _
      have hT : Ow (w2.alloc (.cells #[.int .u16 y1, .int .u16 y2] 22)) w1.heap.size u9 T := World.ownsRow.alloc ht2 _
      have hR : Ow (w2.alloc (.cells #[.int .u16 y1, .int .u16 y2] 22)) w1.heap.size v2 (rw' n0 (i + 1)) := World.ownsRow.alloc hr2 _
      have hS : Bs (w2.alloc (.cells #[.int .u16 y1, .int .u16 y2] 22)) (.slice (some ⟨w2.heap.size, 0, none⟩) 2 2) [y1, y2] := bs_two _ _ _ _ rfl
      have z1 : ¬ n = 0 := by omega
      have f1 : IntKind.i64.wrap (x * 7) = x * 7 := iwrap_id _ (by omega)
      have f2 : IntKind.i64.wrap (x * 7 + m) = x * 7 + m := iwrap_id _ (by omega)
      have f3 : IntKind.i64.wrap (x + m) = x + m := iwrap_id _ (by omega)
      have c3 : IntKind.u16.wrap b1 = b1 := by rw [wrap_mod]; omega
      have c4 : IntKind.u16.wrap b2 = b2 := by rw [wrap_mod]; omega
      have hY1 : IntKind.u16.wrap (n0 + IntKind.u16.wrap ((IntKind.i64.wrap (IntKind.i64.wrap (x * 7) + m)).tmod n)) = y1 := by rw [f1, f2, e1, c3, e3]
      have hY2 : IntKind.u16.wrap (n0 + IntKind.u16.wrap ((IntKind.i64.wrap (x + m)).tmod n)) = y2 := by rw [f3, e2, c4, e4]
      rw [← hY1, ← hY2] at hE hT hR hS
      have HY1 := hide hY1
      have HY2 := hide hY2
      have HE := hide hE
      have HTT := hide hT
      have HR := hide hR
      have HS := hide hS
      have Hs2 := hide hsep2.symm
      clear hE hT hR hS hr2 ht2 hsep2 hb2 f1 f2 f3 c3 c4 hY1 hY2 e1 e2 e3 e4
      go_region_held3 (fun _ => True) (trivial)
        (first
          | (refine step_app2 (w0 := w1) ?_ (by rfl) (.tmp 36) (.tmp 54) (by rfl) _ _ _ (by rfl) (by rfl) T (rw' n0 (i + 1)) [IntKind.u16.wrap (n0 + IntKind.u16.wrap ((IntKind.i64.wrap (IntKind.i64.wrap (x * 7) + m)).tmod n)), IntKind.u16.wrap (n0 + IntKind.u16.wrap ((IntKind.i64.wrap (x + m)).tmod n))] ?_ ?_ Hs2.out ?_ ?_ ?_; exact ⟨HE.out.os, HE.out.tape, HE.out.output, HE.out.size, HE.out.block⟩; exact HTT.out; exact HR.out; exact HS.out; (have := Hlen2.out; have := Hlt.out; have := HN1.out; simp; omega); intro v3 w3 ht3 hr3 hsep3 hb3))
      rw [HY1.out, HY2.out] at ht3
      have Ht3 := hide ht3
      have Hr3 := hide hr3
      have Hs3 := hide hsep3.symm
      have Hb3 := hide hb3
      clear ht3 hr3 hsep3 hb3 HE HTT HR HS Hs2 HY1 HY2
      generalize IntKind.u16.wrap (n0 + IntKind.u16.wrap ((IntKind.i64.wrap (IntKind.i64.wrap (x * 7) + m)).tmod n)) = t1
      generalize IntKind.u16.wrap ((IntKind.i64.wrap (IntKind.i64.wrap (x * 7) + m)).tmod n) = t2
      generalize (IntKind.i64.wrap (IntKind.i64.wrap (x * 7) + m)).tmod n = t3
      generalize IntKind.i64.wrap (IntKind.i64.wrap (x * 7) + m) = t4
      generalize IntKind.i64.wrap (x * 7) = t5
      generalize IntKind.u16.wrap (n0 + IntKind.u16.wrap ((IntKind.i64.wrap (x + m)).tmod n)) = t6
      generalize IntKind.u16.wrap ((IntKind.i64.wrap (x + m)).tmod n) = t7
      generalize (IntKind.i64.wrap (x + m)).tmod n = t8
      generalize IntKind.i64.wrap (x + m) = t9
      go_wp2_with (go_at_call 5; refine (K5.out _).mono ?_; rintro e w4 ⟨rfl, rfl⟩)
      go_roundw
      case rel => exact ⟨i + 1, T ++ [y1, y2], by have := Hlt.out; omega, by rw [← HX.out]; rfl, Hr3.out, Ht3.out, Hs3.out, Hb3.out, HT'⟩
      case measure => have := Hlt.out; have := HX.out; simp [intOf]; omega
    · have hin : i = N := by omega
      subst hin
      have Hd := hide (tinv_done HT.out (by omega) (by omega))
      have Hi := hide (tinv_in HT.out)
      have HL := hide HT.out.1
      have HN1 := hide N1
      have HN0 := hide N0
      obtain ⟨n, hn⟩ : ∃ x : Int, (i : Int) = x := ⟨_, rfl⟩
      rw [hn]
      have j2 : 1 ≤ n := by omega
      have j3 : n ≤ 200 := by omega
      have u1 : up n0 ((n0 + n) % 65536) = n := up_rw n0 n (by omega)
      have u2 : up n0 ((n0 - 1) % 65536) = 65535 := by unfold up; omega
      have k5 := fun W => within_any ((n0 + n) % 65536) n0 n W
      have k6 := fun W => within_any ((n0 - 1) % 65536) n0 n W
      rw [u1, decide_eq_false (by omega)] at k5
      rw [u2, decide_eq_false (by omega)] at k6
      have e0 : IntKind.u16.wrap (n0 + n) = (n0 + n) % 65536 := wrap_mod _
      have e1 : IntKind.u16.wrap (n0 - 1) = (n0 - 1) % 65536 := wrap_mod _
      generalize (n0 + n) % 65536 = y at *
      generalize (n0 - 1) % 65536 = y1 at *
      have K7 := hide (order_any n0 T u9 wr (Bs.own Ht.out) Hi.out (by have := HL.out; omega))
      have KS : Hid (∀ v W r, Ow W wr.heap.size v r → Ordd n0 T r → Below wr.heap.size wr W → Calls Try.prog 6 #[v, u8] W fun e w' => e = .returned (.bool true) ∧ ∃ q, w' = W.drewN q) := hide (by
        intro v W r h1 h2 h3
        have := ordd_uniq n0 _ _ _ h2 Hd.out
        subst this
        exact same_eq (Bs.own h1) ((Bs.own Hr.out).keep h3) (by rw [rw_len]; have := HN1.out; omega))
      have K5 := hide k5
      have K6 := hide k6
      clear k5 k6 u1 u2 hn i0 i1 i2 i3 hi N0 N1 k1 Hd Hi HL HT hlt
      go_wp2_with (first
        | (go_at_call_of 5 (Value.int .u16 y); refine (K5.out _).mono ?_; rintro e w4 ⟨rfl, rfl⟩)
        | (go_at_call_of 5 (Value.int .u16 y1); refine (K6.out _).mono ?_; rintro e w5 ⟨rfl, rfl⟩)
        | (go_at_call 7; refine K7.out.mono ?_; rintro e w6 ⟨v6, r6, rfl, hown6, hord6, hb6⟩)
        | (go_at_call 6; refine (KS.out _ _ _ hown6 hord6 hb6).mono ?_; rintro e w7 ⟨rfl, q7, rfl⟩))
      go_ret
      have h := Hb.out.trans (hb6.mono Hb.out.size)
      exact ⟨rfl, ⟨h.os, h.tape, h.output, h.size, h.block⟩⟩

set_option maxRecDepth 100000 in
theorem lifted (os : Os) (started : os.Started) (H : Type) (enc : TypeId × Value → H) :
    ReturnsInHanded {} Try.checked os 3 .any (Rows.turnRowsSpec.pre6 enc Try.prog Try.f3 Rows.turnRowsRow.domain false) (Rows.turnRowsSpec.post enc Try.prog Try.f3 false true false false) := by
  refine returnsInHanded_of_change_sized (C := Try.checked) own started (by kernel_rfl) Try.func3
    (ChangeSpec.witness6 (enc := enc) (C := Try.checked) false ⟨#[], #[.int .u16 0, .int .i64 0, .int .i64 0], []⟩ 8 (by kernel_rfl) (by kernel_rfl) (by kernel_rfl) (by kernel_rfl)) ?_
  intro W base args ds gs before hval0 hW hcnd hsz0 _
  have hval : ∀ (j : Nat) t v, Try.f3.params[j]? = some t → args[j]? = some v → Value.okWide Try.prog W .any base t v := hval0
  have hsz : (DataW.weightsEach Try.prog (Try.f3.params.toList ++ Rows.turnRowsSpec.plain.varTypes Try.prog) (ds ++ gs)).all (· ≤ reachBytes) = true := hsz0
  have hW' := hW
  obtain ⟨p, q, hA0, hV, rfl, hfz, hnd⟩ := hW
  have hA : DataW.TrodAll enc Try.prog W 0 (fun _ => true) true Try.f3.params.toList args.toList ds p := hA0
  rw [Try.params3] at hA hval hsz
  obtain ⟨v0, vs0, d0, ds0, p0, q0, hargs, rfl, rfl, h0, r0⟩ := trodAll_cons hA
  obtain ⟨v1, vs1, d1, ds1, p1, q1, rfl, rfl, rfl, h1, r1⟩ := trodAll_cons r0
  obtain ⟨v2, vs2, d2, ds2, p2, q2, rfl, rfl, rfl, h2, r2⟩ := trodAll_cons r1
  obtain ⟨rfl, rfl, rfl⟩ := trodAll_nil r2
  obtain rfl : args = #[v0, v1, v2] := by cases args; simp_all
  obtain ⟨rfl, rfl⟩ := trodVars_none hV
  have k0 := h0
  have lt0 : ∀ x ∈ p0, x.block < W.heap.size := by obtain ⟨m, hm⟩ := k0; exact DataW.trod_lt m _ _ _ hm
  obtain ⟨n0, rfl⟩ := okWide_int Try.underlying22 (hval 0 22 v0 rfl rfl)
  have w0 : (Lit.int .u16 n0).wf = true := by
    obtain ⟨fuel, hf⟩ := h0
    obtain ⟨m, e, _, hw⟩ := DataW.trod_int Try.underlying22 hf
    simp [Value.cells] at e
    rw [e]; exact hw
  have k1 := h1
  have lt1 : ∀ x ∈ p1, x.block < W.heap.size := by obtain ⟨m, hm⟩ := k1; exact DataW.trod_lt m _ _ _ hm
  obtain ⟨n1, rfl⟩ := okWide_int Try.underlying3 (hval 1 3 v1 rfl rfl)
  have w1 : (Lit.int .i64 n1).wf = true := by
    obtain ⟨fuel, hf⟩ := h1
    obtain ⟨m, e, _, hw⟩ := DataW.trod_int Try.underlying3 hf
    simp [Value.cells] at e
    rw [e]; exact hw
  have k2 := h2
  have lt2 : ∀ x ∈ p2, x.block < W.heap.size := by obtain ⟨m, hm⟩ := k2; exact DataW.trod_lt m _ _ _ hm
  obtain ⟨n2, rfl⟩ := okWide_int Try.underlying3 (hval 2 3 v2 rfl rfl)
  have w2 : (Lit.int .i64 n2).wf = true := by
    obtain ⟨fuel, hf⟩ := h2
    obtain ⟨m, e, _, hw⟩ := DataW.trod_int Try.underlying3 hf
    simp [Value.cells] at e
    rw [e]; exact hw
  clear hA0 hval0
  refine (walk n0 n1 n2 W (bounds_u16 w0) (bounds_i64 w1) (bounds_i64 w2)).mono fun e W' ⟨he, bel⟩ => ?_
  subst he
  exact ⟨_, rfl, _, _, _, [], _, [], hW', trodAll_mk1 (shut_bool Try.underlying4 _), (trodAll_cons_mk (Below.trod laidOut (by kernel_rfl) (of_decide_eq_true (by kernel_rfl)) k0 bel lt0) (trodAll_cons_mk (Below.trod laidOut (by kernel_rfl) (of_decide_eq_true (by kernel_rfl)) k1 bel lt1) (trodAll_cons_mk (Below.trod laidOut (by kernel_rfl) (of_decide_eq_true (by kernel_rfl)) k2 bel lt2) trodAll_mk0))), rfl, bel.frame _, fun h => by cases h⟩

theorem over : Rows.turnRowsRow.holds Try.pinned (OpenSpec.ofChange Rows.turnRowsSpec) :=
  OpenClaim.holds_of_wide 3 Try.f3 rfl rfl rfl rfl rfl rfl rfl ⟨rfl, rfl, rfl, rfl, rfl⟩ rfl rfl rfl rfl rfl (by kernel_rfl) Try.func3 (by kernel_rfl)
    (of_decide_eq_true (by kernel_rfl)) (by unfold Func.isWrapper; first | (rw [if_pos (by decide +kernel)]; kernel_rfl) | (rw [if_neg (by decide +kernel)]; exact ⟨rfl, rfl⟩))
    (fun os started H enc _ => lifted os started H enc)

theorem proved : Rows.TurnRowsSaid := over
end Go.Proofs.Ytacbhdaiaihmeab.turnRows
