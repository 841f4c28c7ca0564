/- For every number and every number of 16 bits the law IntakeFills answers true: an intake whose window is filled from behind has nothing ready till the first piece comes, then all, and takes more only behind that; no conditions. -/
import Derived.Test.YtmbgcbbpkbaajaaFillM
namespace Go.Proofs.Ytmbgcbbpkbaajaa.intakeFills
open Go.ChangeShapes Go.WideShapes Go.ChangeAt Go.RowKit
set_option linter.unusedVariables false

theorem own : ownKnob Try.prog.godebug = none := by kernel_rfl
theorem laidOut : laidOutB Try.prog = true := by kernel_rfl

theorem w16 (a : Int) : IntKind.u16.wrap a = a % 65536 := by unfold IntKind.wrap; simp [IntKind.bits, IntKind.signed]
theorem w8 (a : Int) (h0 : 0 ≤ a) (h1 : a ≤ 255) : IntKind.u8.wrap a = a := by unfold IntKind.wrap; simp [IntKind.bits, IntKind.signed]; omega

set_option maxHeartbeats 4000000 in
theorem walk (n0 n1 : Int) (w : World) (h0 : -9223372036854775808 ≤ n0 ∧ n0 ≤ 9223372036854775807) (h1 : 0 ≤ n1 ∧ n1 ≤ 65535) :
    Calls Try.prog 5 #[.int .i64 n0, .int .u16 n1] w fun e w' => e = .returned (.bool true) ∧ Below w.heap.size w w' := by
  obtain ⟨f0, f1⟩ := h1
  obtain ⟨N, hN, N0, N1⟩ := win_in n0
  clear h0
  go_enter Try.func5, Try.ntmps5
  go_upto_region 4 with (go_at_call 9; refine (awake_any _).mono ?_; rintro e wa ⟨rfl, Ba⟩)
  generalize wrap64 ((IntKind.u64.wrap n0).tmod 64) = g1
  generalize (IntKind.u64.wrap n0).tmod 64 = g2
  generalize IntKind.u64.wrap n0 = g3
  clear hN
  have i0 : (1 : Int) ≤ (N : Int) := by omega
  have i1 : (N : Int) ≤ 64 := by omega
  obtain ⟨g0, gg1, gg2⟩ := hd_ge wa.heap.size
  go_upto_region 8 with (go_at_call 10; refine (new_ok (N : Int) n1 _ (by omega) (by omega) (by omega) (by omega)).mono ?_; rintro e w1 ⟨rfl, H1, B1, Z1⟩)
  obtain ⟨h, hh⟩ : ∃ h, hdAt wa.heap.size = h := ⟨_, rfl⟩
  have hg : wa.heap.size + 2 = h.g := by rw [← hh]; rfl
  rw [hh] at H1 g0 gg1 gg2
  rw [hg]
  have q0 : w.heap.size ≤ h.g := Nat.le_trans Ba.size g0
  have q1 : w.heap.size ≤ h.mb := Nat.le_trans Ba.size gg1
  have q2 : w.heap.size ≤ h.c := Nat.le_trans Ba.size gg2
  have HB1 := hide (Ba.trans (B1.mono Ba.size))
  have HH1 := hide H1
  clear H1 B1 Z1 Ba hh hg g0 gg1 gg2
  go_loopw [7] (fun v7 wr => ∃ (K : Nat) (S : Ik), K ≤ N ∧ v7 = .int .i64 ((K : Int) - 1) ∧ Hid (Has wr h S) ∧ Hid ((0 < K → Back n1 N K S) ∧ (K = 0 → Full n1 N S)) ∧ Hid (Below w.heap.size w wr)) (fun v7 _ => (intOf v7 + 1).toNat)
  case atStart => exact ⟨N, _, by omega, by go_num, HH1, hide ⟨fun _ => back_new n1 N ⟨f0, f1⟩, fun e => by omega⟩, HB1⟩
  case round =>
    clear HH1 HB1
    obtain ⟨K, S, hK, rfl, HH, HS, HB⟩ := hrel
    by_cases hK0 : K = 0
    · subst hK0
      have hF := HS.out.2 rfl
      have eq := hF.q
      have enx := hF.nx
      have K15 := hide (ready_any HH.out)
      have K16 := hide (next_any HH.out)
      have K12 := hide (take_no (l := []) HH.out (.inl ⟨rfl, rfl⟩) S.nx HH.out.nx.1 HH.out.nx.2 (by simp) (by rw [show ([] : List Int).length = 0 from rfl, full_far hF N1 N0]; decide))
      rw [show ([] : List Int).length = 0 from rfl, full_far hF N1 N0] at K12
      rw [eq] at K15
      have ew : IntKind.u16.wrap (n1 + IntKind.u16.wrap (N : Int)) = S.nx := by rw [w16, w16, enx]; omega
      have ewa : IntKind.u16.wrap (N : Int) = (N : Int) := by rw [w16]; omega
      have ewb : IntKind.u16.wrap (n1 + (N : Int)) = S.nx := by rw [w16, enx]
      have ew1 : IntKind.u16.wrap (n1 + 1) = (n1 + 1) % 65536 := w16 _
      have HF := hide hF
      clear hF eq enx HS
      obtain ⟨nx, hnx⟩ : ∃ nx, S.nx = nx := ⟨_, rfl⟩
      rw [hnx] at K12 K16 ew ewb
      have Hnx := hide hnx
      clear hnx
      go_wp2_with (first
        | (go_at_call 15; refine K15.out.mono ?_; rintro e w2 ⟨rfl, rfl⟩)
        | (go_at_call 16; refine K16.out.mono ?_; rintro e w2 ⟨rfl, rfl⟩))
      refine K12.out.mono ?_
      rintro e w3 ⟨rfl, n3, rfl⟩
      clear K12 K15 K16
      obtain ⟨p0, r, hqr, hp0⟩ := HF.out.head
      have hr : r.length + 1 = N := by have := HF.out.q; rw [hqr] at this; simpa using this
      have K11 := hide (get_some (HH.out.drewN n3) hqr)
      have Hr := hide hr
      clear hqr hr
      go_upto_region 15 with (go_at_call 11; refine K11.out.mono ?_; rintro e w4 ⟨v4, rfl, D4, H4, O4, Z4⟩)
      obtain ⟨g4, cap4, rfl, hc4⟩ := D4.form (by rw [hp0]; decide)
      have c4 := hc4 0 (by rw [hp0]; decide)
      rw [hp0, show ([0] : List Int)[0]?.getD 0 = 0 from rfl] at c4
      rw [hp0, show ([0] : List Int).length = 1 from rfl]
      clear hc4 D4
      have HH4 := hide H4
      have HB4 := hide (O4.below (B := w.heap.size) (a := w) ⟨HB.out.os, HB.out.tape, HB.out.output, HB.out.size, HB.out.block⟩ HB.out.size q0 q1 q2)
      have K16 := hide (next_any H4)
      have e16 : ({ S with q := r } : Ik).nx = nx := Hnx.out
      rw [e16] at K16
      have K12 := hide (take_ok (l := []) H4 HF.out.inw (Nat.le_trans HF.out.n (by omega)) (.inl ⟨rfl, rfl⟩) S.nx HH.out.nx.1 HH.out.nx.2 (full_ok HF.out N1 N0 r Hr.out))
      rw [Hnx.out] at K12
      clear H4 O4 Z4 e16 K11
      go_wp2_with (go_at_call 16; refine K16.out.mono ?_; rintro e w5 ⟨rfl, rfl⟩)
      refine K12.out.mono ?_
      rintro e w6 ⟨rfl, p6, j, _, _, j1, j2, H6, I6, O6⟩
      rw [← Hnx.out] at j1 j2 H6
      obtain ⟨l6, t6⟩ := full_more HF.out N1 N0 ⟨f0, f1⟩ r Hr.out p6 j1 j2
      have K15 := hide (ready_any H6)
      rw [l6] at K15
      have K12' := hide (take_no (l := []) H6 (.inl ⟨rfl, rfl⟩) ((n1 + 1) % 65536) (by omega) (by omega) (by simp) (by rw [show ([] : List Int).length = 0 from rfl, t6]; decide))
      rw [show ([] : List Int).length = 0 from rfl, t6] at K12'
      have HB6 := hide (O6.below HB4.out HB4.out.size q0 q1 q2)
      clear j1 j2 H6 I6 O6 l6 t6 K12 K16
      go_wp2_with (go_at_call 15; refine K15.out.mono ?_; rintro e w7 ⟨rfl, rfl⟩)
      refine K12'.out.mono ?_
      rintro e w8 ⟨rfl, n8, rfl⟩
      go_wp2_with fail
      go_ret
      exact ⟨rfl, ⟨HB6.out.os, HB6.out.tape, HB6.out.output, HB6.out.size, HB6.out.block⟩⟩
    · obtain ⟨k, rfl⟩ : ∃ k, K = k + 1 := ⟨K - 1, by omega⟩
      have hBk := HS.out.1 (by omega)
      have hk : k < N := by omega
      have ek : ((k + 1 : Nat) : Int) - 1 = (k : Int) := by omega
      rw [ek]
      have k0 : (0 : Int) ≤ (k : Int) := by omega
      have k1 : (k : Int) < (N : Int) := by omega
      have K15 := hide (ready_any HH.out)
      rw [hBk.q] at K15
      have K12 : Hid (∀ o, o = Obj.cells #[.int .u8 (k : Int)] 5 → _) := hide (fun o ho => take_ok (HH.out.keep ((Below.refl _ _).alloc (Nat.le_refl _) o)) hBk.inw (by have := hBk.n; omega) (l := [(k : Int)]) (ho ▸ rd_new wr _ [(k : Int)] rfl (0, 0) wr.heap.size 1 1 rfl rfl) ((n1 + k) % 65536) (by omega) (by omega) (back_code hBk N1 hK))
      have ew : IntKind.u16.wrap (n1 + (k : Int)) = (n1 + k) % 65536 := w16 _
      have ewa : IntKind.u16.wrap (k : Int) = (k : Int) := by rw [w16]; omega
      have ew8 : IntKind.u8.wrap (k : Int) = (k : Int) := w8 _ (by omega) (by omega)
      obtain ⟨x, hx⟩ : ∃ x, (n1 + (k : Int)) % 65536 = x := ⟨_, rfl⟩
      rw [hx] at K12 ew
      have Hx := hide hx
      have HBk := hide hBk
      clear hBk HS hx
      go_wp2_with (go_at_call 15; refine K15.out.mono ?_; rintro e w2 ⟨rfl, rfl⟩)
      refine (K12.out _ rfl).mono ?_
      rintro e w3 ⟨rfl, p, j, hp, _, j1, j2, H3, I3, O3⟩
      have HH3 := hide H3
      have HB3 := hide (O3.below (HB.out.alloc HB.out.size _) (HB.out.alloc HB.out.size _).size q0 q1 q2)
      have HS3 : Hid ((0 < k → Back n1 N k ((S.put x p).go j)) ∧ (k = 0 → Full n1 N ((S.put x p).go j))) := hide (by
        rw [← Hx.out] at j1 j2 I3 ⊢
        refine ⟨fun h0 => back_next HBk.out N1 hK h0 p hp ⟨f0, f1⟩ j1 I3, fun h0 => ?_⟩
        subst h0
        exact back_full HBk.out N1 N0 p hp ⟨f0, f1⟩ j1 j2 I3)
      clear H3 I3 O3 j1 j2 K12 K15 HBk
      go_wp2_with fail
      go_roundw
      case rel => exact ⟨k, _, by omega, by go_num, HH3, HS3, HB3⟩
      case measure => simp [intOf]

set_option maxRecDepth 100000 in
theorem lifted (os : Os) (started : os.Started) (H : Type) (enc : TypeId × Value → H) :
    ReturnsInHanded {} Try.checked os 5 .any (Rows.intakeFillsSpec.pre6 enc Try.prog Try.f5 Rows.intakeFillsRow.domain false) (Rows.intakeFillsSpec.post enc Try.prog Try.f5 false true false false) := by
  refine returnsInHanded_of_change_sized (C := Try.checked) own started (by kernel_rfl) Try.func5
    (ChangeSpec.witness6 (enc := enc) (C := Try.checked) false ⟨#[], #[.int .i64 0, .int .u16 0], []⟩ 8 (by kernel_rfl) (by kernel_rfl) (by kernel_rfl) (by kernel_rfl)) ?_
  intro W base args ds gs before hval0 hW hcnd hsz0 _
  have hval : ∀ (j : Nat) t v, Try.f5.params[j]? = some t → args[j]? = some v → Value.okWide Try.prog W .any base t v := hval0
  have hsz : (DataW.weightsEach Try.prog (Try.f5.params.toList ++ Rows.intakeFillsSpec.plain.varTypes Try.prog) (ds ++ gs)).all (· ≤ reachBytes) = true := hsz0
  have hW' := hW
  obtain ⟨p, q, hA0, hV, rfl, hfz, hnd⟩ := hW
  have hA : DataW.TrodAll enc Try.prog W 0 (fun _ => true) true Try.f5.params.toList args.toList ds p := hA0
  rw [Try.params5] at hA hval hsz
  obtain ⟨v0, vs0, d0, ds0, p0, q0, hargs, rfl, rfl, h0, r0⟩ := trodAll_cons hA
  obtain ⟨v1, vs1, d1, ds1, p1, q1, rfl, rfl, rfl, h1, r1⟩ := trodAll_cons r0
  obtain ⟨rfl, rfl, rfl⟩ := trodAll_nil r1
  obtain rfl : args = #[v0, v1] := by cases args; simp_all
  obtain ⟨rfl, rfl⟩ := trodVars_none hV
  have k0 := h0
  have lt0 : ∀ x ∈ p0, x.block < W.heap.size := by obtain ⟨m, hm⟩ := k0; exact DataW.trod_lt m _ _ _ hm
  obtain ⟨n0, rfl⟩ := okWide_int Try.underlying3 (hval 0 3 v0 rfl rfl)
  have w0 : (Lit.int .i64 n0).wf = true := by
    obtain ⟨fuel, hf⟩ := h0
    obtain ⟨m, e, _, hw⟩ := DataW.trod_int Try.underlying3 hf
    simp [Value.cells] at e
    rw [e]; exact hw
  have k1 := h1
  have lt1 : ∀ x ∈ p1, x.block < W.heap.size := by obtain ⟨m, hm⟩ := k1; exact DataW.trod_lt m _ _ _ hm
  obtain ⟨n1, rfl⟩ := okWide_int Try.underlying22 (hval 1 22 v1 rfl rfl)
  have w1 : (Lit.int .u16 n1).wf = true := by
    obtain ⟨fuel, hf⟩ := h1
    obtain ⟨m, e, _, hw⟩ := DataW.trod_int Try.underlying22 hf
    simp [Value.cells] at e
    rw [e]; exact hw
  clear hA0 hval0
  refine (walk n0 n1 W (bounds_i64 w0) (bounds_u16 w1)).mono fun e W' ⟨he, bel⟩ => ?_
  subst he
  exact ⟨_, rfl, _, _, _, [], _, [], hW', trodAll_mk1 (shut_bool Try.underlying4 _), (trodAll_cons_mk (Below.trod laidOut (by kernel_rfl) (of_decide_eq_true (by kernel_rfl)) k0 bel lt0) (trodAll_cons_mk (Below.trod laidOut (by kernel_rfl) (of_decide_eq_true (by kernel_rfl)) k1 bel lt1) trodAll_mk0)), rfl, bel.frame _, fun h => by cases h⟩

theorem over : Rows.intakeFillsRow.holds Try.pinned (OpenSpec.ofChange Rows.intakeFillsSpec) :=
  OpenClaim.holds_of_wide 5 Try.f5 rfl rfl rfl rfl rfl rfl rfl ⟨rfl, rfl, rfl, rfl, rfl⟩ rfl rfl rfl rfl rfl (by kernel_rfl) Try.func5 (by kernel_rfl)
    (of_decide_eq_true (by kernel_rfl)) (by unfold Func.isWrapper; first | (rw [if_pos (by decide +kernel)]; kernel_rfl) | (rw [if_neg (by decide +kernel)]; exact ⟨rfl, rfl⟩))
    (fun os started H enc _ => lifted os started H enc)

theorem proved : Rows.IntakeFillsSaid := over
end Go.Proofs.Ytmbgcbbpkbaajaa.intakeFills
