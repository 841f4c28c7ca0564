/- For every list of numbers of 16 bits (nil or not) and every number lo the law TurnOrders answers true: Order puts the numbers once each in the order in which they come from lo on, as the document does; the list stays, also if the answer is changed; no conditions. -/
import Derived.Test.YtacbhdaiaihmeaaROrd
namespace Go.Proofs.Ytacbhdaiaihmeaa.turnOrders
open Go.ChangeShapes Go.WideShapes Go.ChangeAt Go.RowKit
set_option linter.unusedVariables false

theorem own : ownKnob Try.prog.godebug = none := by kernel_rfl
theorem laidOut : laidOutB Try.prog = true := by kernel_rfl

theorem ow_at {w : World} {B : Nat} {a : Option Addr} {n cap : Nat} {L : List Int} (h : Ow w B (.slice a n cap) L) (i : Nat) (hi : i < L.length) :
    ∃ g, a = some ⟨g, 0, none⟩ ∧ B ≤ g ∧ w.cell? ⟨g, i, none⟩ = some (.int .u16 (L[i]?.getD 0)) ∧ w.frozen? ⟨g, i, none⟩ = false := by
  obtain ⟨h0, h⟩ := h
  rcases h with ⟨_, h⟩ | ⟨g, c, cur, h1, hb, hg, hn, hm, hs, ht⟩
  · omega
  · simp only [Value.slice.injEq] at h1
    refine ⟨g, h1.1, hb, ?_, ?_⟩
    · have e : cur[i]? = some (.int .u16 (L[i]?.getD 0)) := by
        have := congrArg (fun (m : List Value) => m[i]?) ht
        simp only [Nat.mul_one] at this
        rw [List.getElem?_take_of_lt hi] at this
        rw [← Array.getElem?_toList, this]
        simp [hi]
      unfold World.cell?
      simp only [hg]
      exact e
    · unfold World.frozen?
      simp [hg]

theorem ow_set {w : World} {B g cap n : Nat} {l : List Int} (h : Ow w B (.slice (some ⟨g, 0, none⟩) n cap) l) (i : Nat) (z : Int) :
    Ow (w.setCell ⟨g, i, none⟩ (.int .u16 z)) B (.slice (some ⟨g, 0, none⟩) n cap) (l.set i z) := by
  obtain ⟨h0, h⟩ := h
  refine ⟨by simp, ?_⟩
  rcases h with ⟨h1, _⟩ | ⟨g', cap', cur, h1, hb, hg, hn, hm, hs, ht⟩
  · cases h1
  · simp only [Value.slice.injEq, Option.some.injEq, Addr.mk.injEq] at h1
    obtain ⟨⟨rfl, _⟩, rfl, rfl⟩ := h1
    refine .inr ⟨g, cap, cur.setIfInBounds i (.int .u16 z), by rw [List.length_set], hb, ?_, by rw [List.length_set]; exact hn, hm, by simpa using hs, ?_⟩
    · simp only [World.setCell, Array.getElem?_modify]
      rw [hg]
      simp
    · rw [List.length_set, Array.toList_setIfInBounds, List.take_set, ht, List.map_set]

theorem len_from (lo : Int) : ∀ (r : List Int) (m : Int), m ≤ 65536 → r.Pairwise (fun x y => up lo x < up lo y) → (∀ x ∈ r, m ≤ up lo x) → (r.length : Int) + m ≤ 65536 := by
  intro r
  induction r with
  | nil => intro m hm _ _; simpa using hm
  | cons a r ih =>
    intro m hm hp hx
    have p := List.pairwise_cons.1 hp
    have ha := hx a (by simp)
    have hu := up_in lo a
    have := ih (up lo a + 1) (by omega) p.2 (fun x h => by have := p.1 x h; omega)
    simp only [List.length_cons]
    omega
theorem ordd_len {lo : Int} {l r : List Int} (h : Ordd lo l r) : r.length ≤ 65536 := by
  have := len_from lo r 0 (by omega) h.1 (fun x _ => (up_in lo x).1)
  omega

set_option maxHeartbeats 4000000 in
theorem walk_l (lo : Int) (v0 : Value) (l : List Int) (a0 : Option Addr) (len0 cap0 : Nat) (hv0 : v0 = .slice a0 len0 cap0) (w : World) (hlo : 0 ≤ lo ∧ lo ≤ 65535) (hbs : Bs w v0 l) (hin : InW l) (hll : l.length = len0) (hm : len0 ≤ 200) :
    Calls Try.prog 8 #[v0, .int .u16 lo] w fun e w' => e = .returned (.bool true) ∧ Below w.heap.size w w' := by
  subst hv0
  have K17 := hide (fun W v (h : Bs W v l) => order_any lo l v W h hin (by omega))
  have K19 := hide (fun W v (h : Bs W v l) => rorder_any lo l v W h hin hlo (by omega))
  have Hbs := hide hbs
  have Hll := hide hll
  have Hm := hide hm
  have j : (len0 : Int) ≤ 200 := by omega
  clear hbs hll hm hin hlo
  go_enter Try.func8, Try.ntmps8
  go_upto_region 5 with (first
    | (go_at_call 10; refine (awake_any _).mono ?_; rintro e w1 ⟨rfl, rfl⟩)
    | (at_builtin; refine wpList_app (w0 := w1) ((Below.refl _ _).alloc (Nat.le_refl _) _) (by rfl) _ _ rfl _ _ rfl rfl [] l (own_empty _ _ (Nat.le_refl _) _ rfl) (Hbs.out.keep ((Below.refl _ _).alloc (Nat.le_refl _) _)) (by simp; rw [Hll.out]; have := Hm.out; omega) ?_; intro v1 w2 hown2 hb2; rw [List.nil_append] at hown2)
    | (go_at_call 17; refine (K17.out _ _ (Bs.own hown2)).mono ?_; rintro e w3 ⟨v3, r, rfl, hown3, hord3, hb3⟩))
  have hA : Bs w3 v1 l := (Bs.own hown2).keep hb3
  have hB : Bs w3 (.slice a0 len0 cap0) l := Hbs.out.keep (hb2.trans (hb3.mono hb2.size))
  have hm2 : l.length ≤ 100000 := by rw [Hll.out]; have := Hm.out; omega
  have Hlen := hide (ordd_len hord3)
  have K18 := hide (same_eq hA hB hm2)
  have kr : ∀ n, Calls Try.prog 19 #[.slice a0 len0 cap0, .int .u16 lo] (w3.drewN n) fun e w' => ∃ v', e = .returned v' ∧ Bs w' v' r ∧ Below w3.heap.size w3 w' := by
    intro n
    refine (K19.out (w3.drewN n) (.slice a0 len0 cap0) hB).mono ?_
    rintro e w5 ⟨v5, r5, rfl, hown5, hord5, hb5⟩
    have := ordd_uniq lo _ _ _ hord5 hord3
    subst this
    exact ⟨v5, rfl, Bs.own hown5, ⟨hb5.os, hb5.tape, hb5.output, hb5.size, hb5.block⟩⟩
  have KR := hide kr
  clear kr
  have H2 := hide hown2
  have Hb2 := hide hb2
  have H3 := hide hown3
  have Hb3 := hide hb3
  clear hA hB hown2 hb2 hown3 hb3 hord3 hm2
  go_upto_region 7 with (first
    | (go_at_call_of 18 (v1); refine K18.out.mono ?_; rintro e w4 ⟨rfl, q4, rfl⟩)
    | (go_at_call 19; refine (KR.out _).mono ?_; rintro e w5 ⟨v5, rfl, hbs5, hb5⟩)
    | (go_at_call_of 18 (v3); refine (same_eq (Bs.keep (Bs.own H3.out) hb5) hbs5 (by have := Hlen.out; omega)).mono ?_; rintro e w6 ⟨rfl, q6, rfl⟩))
  have h25 : Below w2.heap.size w2 (w5.drewN q6) := Hb3.out.trans (Below.mono ⟨hb5.os, hb5.tape, hb5.output, hb5.size, hb5.block⟩ Hb3.out.size)
  have hown5 : Ow (w5.drewN q6) w2.heap.size v3 r := Ow.keep H3.out ⟨hb5.os, hb5.tape, hb5.output, hb5.size, hb5.block⟩
  generalize w5.drewN q6 = w6 at *
  obtain ⟨al, capl, rfl⟩ := (Bs.own hown5).form
  obtain ⟨nl, hnl⟩ : ∃ nl, r.length = nl := ⟨_, rfl⟩
  have hml : nl ≤ 65536 := by have := Hlen.out; omega
  rw [hnl] at hown5 ⊢
  have Hnl := hide hnl
  have H5 := hide hown5
  have Hb5 := hide h25
  clear hnl hown5 h25 hbs5 hb5 Hlen K18 KR H3 Hb3
  have m0 : (nl : Int) ≤ 65536 := by omega
  go_wp2_with fail
  go_loopw [36] (fun i wr => ∃ (q : Nat) (L : List Int), q ≤ nl ∧ i = .int .i64 q ∧ L.length = nl ∧ Ow wr w2.heap.size (.slice al nl capl) L ∧ Below w2.heap.size w2 wr) (fun i _ => nl - (intOf i).toNat)
  case atStart => exact ⟨0, r, by omega, rfl, Hnl.out, H5.out, Hb5.out⟩
  case round =>
    obtain ⟨q, L, hq, rfl, hL, hown, hb⟩ := hrel
    have HL := hide hL
    clear hL
    have q0 : (0 : Int) ≤ (q : Int) := by omega
    by_cases hlt : q < nl
    · have q1 : (q : Int) < (nl : Int) := by omega
      obtain ⟨g, rfl, hg, hcell, hfr⟩ := ow_at hown q (by rw [HL.out]; exact hlt)
      generalize L[q]?.getD 0 = z0 at hcell
      have Hown := hide hown
      have Hb := hide hb
      clear hown hb
      go_wp2_with fail
      go_roundw
      case rel => exact ⟨q + 1, L.set q _, by omega, by go_num, by rw [List.length_set]; exact HL.out, ow_set Hown.out q _, Hb.out.setCell hg _⟩
      case measure => simp [intOf]; omega
    · have Hb := hide hb
      have hA : Bs wr v1 l := (Bs.own H2.out).keep hb
      have hB : Bs wr (.slice a0 len0 cap0) l := Hbs.out.keep (Hb2.out.trans (hb.mono Hb2.out.size))
      have K18 := hide (same_eq hA hB (by rw [Hll.out]; have := Hm.out; omega))
      clear hA hB hown hb
      go_wp2_with (go_at_call 18; refine K18.out.mono ?_; rintro e w7 ⟨rfl, q7, rfl⟩)
      go_ret
      have h := Hb2.out.trans (Hb.out.mono Hb2.out.size)
      exact ⟨rfl, ⟨h.os, h.tape, h.output, h.size, h.block⟩⟩

theorem walk (a0 : Option Addr) (len0 cap0 : Nat) (z0 : List Int) (n1 : Int) (w : World) (h0 : IsRow .u16 w a0 len0 cap0 z0) (_ : cap0 * Try.prog.bytesOf 22 ≤ 140737488351232) (h1 : 0 ≤ n1 ∧ n1 ≤ 65535) :
    Calls Try.prog 8 #[.slice a0 len0 cap0, .int .u16 n1] w fun e w' => e = .returned (.bool true) ∧ Below w.heap.size w w' := by
  obtain ⟨l, hl, hb, hin, _, _⟩ := bs_of_row h0
  by_cases hlen : len0 ≤ 200
  · exact walk_l n1 _ l a0 len0 cap0 rfl w h1 hb hin hl hlen
  · have j : (200 : Int) < (len0 : Int) := by omega
    clear hb hin hl h0
    go_enter Try.func8, Try.ntmps8
    go_wp2_with (go_at_call 10; refine (awake_any _).mono ?_; rintro e w' ⟨rfl, rfl⟩)
    go_ret
    exact ⟨rfl, Below.refl _ _⟩

set_option maxRecDepth 100000 in
theorem lifted (os : Os) (started : os.Started) (H : Type) (enc : TypeId × Value → H) :
    ReturnsInHanded {} Try.checked os 8 .any (Rows.turnOrdersSpec.pre6 enc Try.prog Try.f8 Rows.turnOrdersRow.domain false) (Rows.turnOrdersSpec.post enc Try.prog Try.f8 false true false false) := by
  refine returnsInHanded_of_change_sized (C := Try.checked) own started (by kernel_rfl) Try.func8
    (ChangeSpec.witness6 (enc := enc) (C := Try.checked) false ⟨#[], #[.slice none 0 0, .int .u16 0], []⟩ 8 (by kernel_rfl) (by kernel_rfl) (by kernel_rfl) (by kernel_rfl)) ?_
  intro W base args ds gs before hval0 hW hcnd hsz0 _
  have hval : ∀ (j : Nat) t v, Try.f8.params[j]? = some t → args[j]? = some v → Value.okWide Try.prog W .any base t v := hval0
  have hsz : (DataW.weightsEach Try.prog (Try.f8.params.toList ++ Rows.turnOrdersSpec.plain.varTypes Try.prog) (ds ++ gs)).all (· ≤ reachBytes) = true := hsz0
  have hW' := hW
  obtain ⟨p, q, hA0, hV, rfl, hfz, hnd⟩ := hW
  have hA : DataW.TrodAll enc Try.prog W 0 (fun _ => true) true Try.f8.params.toList args.toList ds p := hA0
  rw [Try.params8] at hA hval hsz
  obtain ⟨v0, vs0, d0, ds0, p0, q0, hargs, rfl, rfl, h0, r0⟩ := trodAll_cons hA
  obtain ⟨v1, vs1, d1, ds1, p1, q1, rfl, rfl, rfl, h1, r1⟩ := trodAll_cons r0
  obtain ⟨rfl, rfl, rfl⟩ := trodAll_nil r1
  obtain rfl : args = #[v0, v1] := by cases args; simp_all
  obtain ⟨rfl, rfl⟩ := trodVars_none hV
  obtain ⟨a0, len0, cap0, rfl⟩ := okWide_slice Try.underlying38 (hval 0 38 v0 rfl rfl)
  have k0 := h0
  have lt0 : ∀ x ∈ p0, x.block < W.heap.size := by obtain ⟨m, hm⟩ := k0; exact DataW.trod_lt m _ _ _ hm
  obtain ⟨z0, w0⟩ : ∃ zs, IsRow .u16 W a0 len0 cap0 zs := by
    obtain ⟨fuel, hf⟩ := h0
    rcases open_ints Try.underlying38 Try.underlying22 (by kernel_rfl) hf with ⟨hcs, _⟩ | ⟨x, l, c, zs, hcs, _, hl, hm, hz, _, hcell, hwz⟩
    · simp [Value.cells] at hcs
      obtain ⟨rfl, rfl, rfl⟩ := hcs
      exact ⟨[], .inl ⟨rfl, rfl, rfl, rfl⟩⟩
    · simp [Value.cells] at hcs
      obtain ⟨rfl, rfl, rfl⟩ := hcs
      exact ⟨zs, .inr ⟨_, rfl, hl, hm, by simpa using hz, hcell, hwz⟩⟩
  have s0 : cap0 * Try.prog.bytesOf 22 ≤ 140737488351232 := by
    obtain ⟨fuel, hf⟩ := k0
    rcases open_ints Try.underlying38 Try.underlying22 (by kernel_rfl) hf with ⟨hcs, _⟩ | ⟨x, l, c, zs, hcs, _, hl, hm, hz, hx, _, _⟩
    · simp [Value.cells] at hcs
      rw [hcs.2.2]; omega
    · simp [Value.cells] at hcs
      obtain ⟨rfl, rfl, rfl⟩ := hcs
      have hd : d0 = _ := congrArg Prod.fst hx
      have := sized_slice hsz (j := 0) (t := 38) (e := 22) rfl (by rw [hd]; rfl) Try.underlying38
      simp only [lits, List.length_map, List.length_take, List.length_drop, reachBytes] at this
      simp only [if_true] at hz
      rw [hz, Nat.min_eq_left hl, Nat.add_sub_cancel' hl] at this
      exact this
  have k1 := h1
  have lt1 : ∀ x ∈ p1, x.block < W.heap.size := by obtain ⟨m, hm⟩ := k1; exact DataW.trod_lt m _ _ _ hm
  obtain ⟨n1, rfl⟩ := okWide_int Try.underlying22 (hval 1 22 v1 rfl rfl)
  have w1 : (Lit.int .u16 n1).wf = true := by
    obtain ⟨fuel, hf⟩ := h1
    obtain ⟨m, e, _, hw⟩ := DataW.trod_int Try.underlying22 hf
    simp [Value.cells] at e
    rw [e]; exact hw
  clear hA0 hval0
  refine (walk a0 len0 cap0 z0 n1 W w0 s0 (bounds_u16 w1)).mono fun e W' ⟨he, bel⟩ => ?_
  subst he
  exact ⟨_, rfl, _, _, _, [], _, [], hW', trodAll_mk1 (shut_bool Try.underlying4 _), (trodAll_cons_mk (Below.trod laidOut (by kernel_rfl) (of_decide_eq_true (by kernel_rfl)) k0 bel lt0) (trodAll_cons_mk (Below.trod laidOut (by kernel_rfl) (of_decide_eq_true (by kernel_rfl)) k1 bel lt1) trodAll_mk0)), rfl, bel.frame _, fun h => by cases h⟩

theorem over : Rows.turnOrdersRow.holds Try.pinned (OpenSpec.ofChange Rows.turnOrdersSpec) :=
  OpenClaim.holds_of_wide 8 Try.f8 rfl rfl rfl rfl rfl rfl rfl ⟨rfl, rfl, rfl, rfl, rfl⟩ rfl rfl rfl rfl rfl (by kernel_rfl) Try.func8 (by kernel_rfl)
    (of_decide_eq_true (by kernel_rfl)) (by unfold Func.isWrapper; first | (rw [if_pos (by decide +kernel)]; kernel_rfl) | (rw [if_neg (by decide +kernel)]; exact ⟨rfl, rfl⟩))
    (fun os started H enc _ => lifted os started H enc)

theorem proved : Rows.TurnOrdersSaid := over
end Go.Proofs.Ytacbhdaiaihmeaa.turnOrders
