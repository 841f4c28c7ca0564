/- The document's New; lists of any length: append, Ints; the law's same. -/
import Derived.Test.YtddcjkbdgneklaaGro
namespace Go.Proofs.Ytddcjkbdgneklaa
open Go.RowKit
set_option linter.unusedVariables false

theorem El.run2 {P : Program} {α : Type} (E : El P α) {w : World} {B : Nat} {v : Value} {xs : List α} (hown : E.Own w B v xs) (hB : B ≤ w.heap.size) {u : Value} {ys : List α} (hu : E.Rd w u ys) (hn : xs.length + ys.length ≤ maxLen) (hn2 : (xs.length + ys.length) * E.by' ≤ 140737488355328) (ty : TypeId) :
    ∃ v' w', (Builtin.append_ #[E.t, E.t] ty #[v, u]).run P w = .ok v' w' ∧ E.Own w' B v' (xs ++ ys) ∧ w.grownBy w' v.ownBlock ∧ (v'.ownBlock = v.ownBlock ∨ v'.ownBlock = some w.heap.size) := by
  obtain ⟨i, hi, he⟩ := Option.map_eq_some_iff.1 E.info
  have e1 : i.zero = some E.z := congrArg Prod.fst he
  have e2 : i.size = E.k := congrArg (fun p => p.2.1) he
  have e3 : i.bytes = E.by' := congrArg (fun p => p.2.2) he
  rcases hu with ⟨rfl, rfl⟩ | ⟨x, cap, rfl, hc⟩
  · refine ⟨v, w, run_append_owned_none (P := P) (w := w) B E.t ty E.e i E.k E.ht hi v _ _ hown, ?_, ⟨rfl, rfl, rfl, Nat.le_refl _, fun _ _ _ => rfl⟩, .inl rfl⟩
    rw [List.append_nil]; exact hown
  · obtain ⟨v', w', hr, h2, h3, _, h5⟩ := run_append_own_at (P := P) w B E.t ty E.e i E.z E.k E.by' E.ht hi e1 e2 e3 E.zc E.kpos v xs.length (E.fl xs) hown
      x ys.length cap (E.fl ys) (E.fl_len ys) (fun j y hy => by
        have hj : j < ys.length * E.k := by
          rcases Nat.lt_or_ge j (ys.length * E.k) with h | h
          · exact h
          · rw [List.getElem?_eq_none (by rw [E.fl_len]; exact h)] at hy; cases hy
        rw [hc j hj]; exact hy)
      (fun y hy => by
        obtain ⟨t, _, ht⟩ := List.mem_flatMap.1 hy
        exact E.one t y ht) hn hn2 hB
    refine ⟨v', w', hr, ?_, h3, h5⟩
    unfold El.Own
    rw [List.length_append, E.fl_app]
    exact h2
theorem El.wp2 {P : Program} {α : Type} (E : El P α) {w : World} {B : Nat} (hB : B ≤ w.heap.size) {ops : Array Oper} {rest : List Oper} {o : Oper} {a : Act} {Q : Exit → Act → World → Prop} (hwant : Region.wanted o (yielded ops a.tmps) = true) (s x : Operand)
    (ho : o.op = .call { callee := .builtin .append, args := #[s, x], argTypes := #[E.t, E.t] }) (v u : Value) (hs : a.eval s = v) (hx : a.eval x = u)
    (xs ys : List α) (hown : E.Own w B v xs) (hu : E.Rd w u ys) (hn : xs.length + ys.length ≤ maxLen) (hn2 : (xs.length + ys.length) * E.by' ≤ 140737488355328)
    (h : ∀ v' w', E.Own w' B v' (xs ++ ys) → w.grownBy w' v.ownBlock → (v'.ownBlock = v.ownBlock ∨ v'.ownBlock = some w.heap.size) → wpList P ops Q rest (a.put o.dst v') w') : wpList P ops Q (o :: rest) a w := by
  obtain ⟨v', w', hr, h2, h3, h4⟩ := E.run2 hown hB hu hn hn2 o.type
  refine wpList_step fun K hK => ?_
  rw [if_pos hwant]
  unfold Oper.wp execOp
  simp only [ho, resolve, invoke, builtin, Sem.run_bind, Sem.run_pure, Result.andThen_ok, List.map_toArray, List.map_cons, List.map_nil, hs, hx, hr]
  exact hK _ _ (h v' w' h2 h3 h4)
theorem El.stepB {P : Program} {α : Type} (E : El P α) {w : World} {B : Nat} (hB : B ≤ w.heap.size) {ops : Array Oper} {o : Oper} {a : Act} {K : Act → World → Prop} {Q : Exit → Act → World → Prop} {F : Prop} (hgd : o.guard = none) (s x : Operand)
    (ho : o.op = .call { callee := .builtin .append, args := #[s, x], argTypes := #[E.t, E.t] }) (v u : Value) (hs : a.eval s = v) (hx : a.eval x = u)
    (xs ys : List α) (hown : E.Own w B v xs) (hu : E.Rd w u ys) (hn : xs.length + ys.length ≤ 1000000)
    (h : ∀ v' w', E.Own w' B v' (xs ++ ys) → w.grownBy w' v.ownBlock → (v'.ownBlock = v.ownBlock ∨ v'.ownBlock = some w.heap.size) → K (a.put o.dst v') w') :
    if Region.wanted o (yielded ops a.tmps) = true then Oper.wp P o a w K Q else F := by
  have hw : Region.wanted o (yielded ops a.tmps) = true := by simp [Region.wanted, hgd]
  rw [if_pos hw]
  obtain ⟨v', w', hr, h2, h3, h4⟩ := E.run hown hB hu hn o.type
  unfold Oper.wp execOp
  simp only [ho, resolve, invoke, builtin, Sem.run_bind, Sem.run_pure, Result.andThen_ok, List.map_toArray, List.map_cons, List.map_nil, hs, hx, hr]
  exact h v' w' h2 h3 h4

set_option maxRecDepth 100000 in
set_option maxHeartbeats 2000000 in
theorem ints_same (a b : Option Addr) (c d n : Nat) (xs : List Int) (w : World) (hn : xs.length = n) (hv : intE.Rd w (.slice a n c) xs) (hu : intE.Rd w (.slice b n d) xs) (hl : n ≤ 9223372036854775807) :
    Calls Try.prog 12 #[.slice a n c, .slice b n d] w fun e w' => e = .returned (.bool true) ∧ ∃ q, w' = w.drewN q := by
  have q1 : ((n : Int) != (n : Int)) = false := bne_self_eq_false _
  have Hn := hide hn
  have Hv := hide hv
  have Hu := hide hu
  have i0 : (n : Int) ≤ 9223372036854775807 := by omega
  clear hn hv hu hl
  go_enter Try.func12, Try.ntmps12
  go_wp2_with fail
  go_loopw [13] (fun v13 wr => ∃ k q : Nat, k ≤ n ∧ v13 = .int .i64 k ∧ wr = w.drewN q) (fun v13 _ => n - (intOf v13).toNat)
  case atStart => exact ⟨0, 0, by omega, rfl, rfl⟩
  case round =>
    obtain ⟨k, q, hk, rfl, rfl⟩ := hrel
    by_cases hlt : k < n
    · obtain ⟨p, hp⟩ : ∃ p, xs[k]? = some p := ⟨_, List.getElem?_eq_getElem (by rw [Hn.out]; exact hlt)⟩
      obtain ⟨b1, off1, rfl, c0⟩ := int_at Hv.out k p hp
      obtain ⟨b2, off2, rfl, c3⟩ := int_at Hu.out k p hp
      have j0 : (0 : Int) ≤ (k : Int) := by omega
      have j1 : (k : Int) < (n : Int) := by omega
      have j2 : (k : Int) < 9223372036854775807 := by omega
      have hbe : (p != p) = false := bne_self_eq_false _
      clear hp
      go_upto_region 6 with fail
      go_quiet (fail)
      go_wp2_with fail
      go_roundw
      case rel => exact ⟨k + 1, _, by omega, by go_num, rfl⟩
      case measure => simp [intOf]; omega
    · obtain rfl : k = n := by omega
      have j1 : ¬ (k : Int) < (k : Int) := by omega
      go_wp2_with fail
      go_ret
      exact ⟨rfl, _, rfl⟩

set_option maxRecDepth 100000 in
set_option maxHeartbeats 4000000 in
theorem same_any (a b : Option Addr) (c d n : Nat) (ms : List Mv) (w : World) (hn : ms.length = n) (hv : mvE.Rd w (.slice a n c) ms) (hu : mrE.Rd w (.slice b n d) ms) (hl : n ≤ 1000) :
    Calls Try.prog 17 #[.slice a n c, .slice b n d] w fun e w' => e = .returned (.bool true) ∧ ∃ q, w' = w.drewN q := by
  have q1 : ((n : Int) != (n : Int)) = false := bne_self_eq_false _
  have Hn := hide hn
  have Hv := hide hv
  have Hu := hide hu
  have i0 : (n : Int) ≤ 1000 := by omega
  clear hn hv hu hl
  go_enter Try.func17, Try.ntmps17
  go_wp2_with fail
  go_loopw [13] (fun v13 wr => ∃ k q : Nat, k ≤ n ∧ v13 = .int .i64 k ∧ wr = w.drewN q) (fun v13 _ => n - (intOf v13).toNat)
  case atStart => exact ⟨0, 0, by omega, rfl, rfl⟩
  case round =>
    obtain ⟨k, q, hk, rfl, rfl⟩ := hrel
    by_cases hlt : k < n
    · obtain ⟨⟨x, y, z⟩, hp⟩ : ∃ p, ms[k]? = some p := ⟨_, List.getElem?_eq_getElem (by rw [Hn.out]; exact hlt)⟩
      obtain ⟨b1, off1, rfl, c0, c1, c2⟩ := mv_at Hv.out k _ hp
      obtain ⟨b2, off2, rfl, e0, e1, e2⟩ := mr_at Hu.out k _ hp
      simp only at c0 c1 c2 e0 e1 e2
      have j0 : (0 : Int) ≤ (k : Int) := by omega
      have j1 : (k : Int) < (n : Int) := by omega
      have hb1 : (x != x) = false := bne_self_eq_false _
      have hb2 : (y != y) = false := bne_self_eq_false _
      have hb3 : (z != z) = false := bne_self_eq_false _
      clear hp
      go_upto_region 6 with fail
      go_quiet (fail)
      go_wp2_with fail
      go_roundw
      case rel => exact ⟨k + 1, q + nq, by omega, by go_num, rfl⟩
      case measure => simp [intOf]; omega
    · obtain rfl : k = n := by omega
      have j1 : ¬ (k : Int) < (k : Int) := by omega
      go_wp2_with fail
      go_ret
      exact ⟨rfl, _, rfl⟩

def mkE (ds : List Int) : List LnV := ds.map (fun d => ⟨d.toNat, none, 0, 0⟩)
/-- New answers so -/
def NewD (h : Nat) (w0 : World) (ds : List Int) (e : Ending) (w' : World) : Prop := Below h w0 w' ∧ ((¬ Okd ds ∧ ∃ a' n' c', e = .returned (.tuple #[.agg #[.slice a' n' c'], .int .i64 1])) ∨ (Okd ds ∧ ∃ a' c', e = .returned (.tuple #[.agg #[.slice a' ds.length c'], .int .i64 0]) ∧ lnE.Own w' h (.slice a' ds.length c') (mkE ds)))
theorem mkE_take {ds : List Int} {k : Nat} {d : Int} (h : ds[k]? = some d) : mkE (ds.take (k + 1)) = mkE (ds.take k) ++ [⟨d.toNat, none, 0, 0⟩] := by
  unfold mkE; rw [List.take_add_one, h]; simp
theorem dr_mk {W : World} {h : Nat} {a : Option Addr} {c : Nat} {ds : List Int} (hk : Okd ds) (ho : lnE.Own W h (.slice a ds.length c) (mkE ds)) : DR W h a ds.length c (mkE ds) (mk ds) := by
  refine ⟨ho, by simp [mkE], by simp [mk], hk.1.2, fun i e l he hl => ?_, fun i l hl => ?_⟩
  · unfold mkE at he
    unfold mk at hl
    rw [List.getElem?_map] at he hl
    cases hd : ds[i]? with
    | none => rw [hd] at he; cases he
    | some d =>
      rw [hd] at he hl
      cases he
      cases hl
      exact ⟨rfl, rfl, El.Own.nil _ _ _⟩
  · unfold mk at hl
    rw [List.getElem?_map] at hl
    cases hd : ds[i]? with
    | none => rw [hd] at hl; cases hl
    | some d =>
      rw [hd] at hl
      cases hl
      have := hk.2 d (List.mem_of_getElem? hd)
      exact ⟨Nat.zero_le _, by simp only; omega⟩

theorem X2.grow {w0 W W' : World} {h : Nat} {v z u : Value} {xs : List LnV} (x : X2 w0 h v z W) (ho : lnE.Own W h u xs) (hg : W.grownBy W' u.ownBlock) : X2 w0 h v z W' :=
  ⟨x.bel.grown hg (Nat.le_of_lt (heap_lt x.b1)) (fun k hk => ho.ge k hk), by rw [hg.block _ (heap_lt x.b1) (fun e => zown_ne ho x.b1 (by decide) e.symm)]; exact x.b1, by rw [hg.block _ (heap_lt x.b2) (fun e => zown_ne ho x.b2 (by decide) e.symm)]; exact x.b2⟩
theorem X2.in' {w0 W : World} {h : Nat} {v z : Value} (x : X2 w0 h v z W) (u : Value) : X2 w0 h u z (W.setCell ⟨h, 0, none⟩ u) :=
  ⟨x.bel.setCell (p := ⟨h, 0, none⟩) (Nat.le_refl _) _, by rw [heap_put x.b1]; rfl, by rw [Below.heap_setCell _ _ _ _ (by show h + 1 ≠ h; omega)]; exact x.b2⟩

set_option maxRecDepth 100000 in
set_option maxHeartbeats 8000000 in
theorem rnew_any (a : Option Addr) (n c : Nat) (ds : List Int) (w : World) (hn : ds.length = n) (hv : intE.Rd w (.slice a n c) ds) :
    Calls Try.prog 11 #[.slice a n c] w (NewD w.heap.size w ds) := by
  obtain ⟨w0, rfl⟩ : ∃ w0, w0 = w := ⟨_, rfl⟩
  obtain ⟨h, hh⟩ : ∃ h, w0.heap.size = h := ⟨_, rfl⟩
  have HX0 := hide (X2.new w0 (.slice none 0 0) h hh)
  have HV : Hid (∀ W, Below h w0 W → intE.Rd W (.slice a n c) ds) := hide (fun W hb => hv.keep (by rw [hh]; exact hb))
  have Hn := hide hn
  rw [hh]
  have Hh := hide hh
  clear hh hv hn
  go_enter Try.func11, Try.ntmps11
  go_upto_region 2 with fail
  rw [Hh.out]
  generalize (w0.alloc (.cells #[.slice none 0 0] 31)).alloc (.cells #[.slice none 0 0] 31) = W at *
  obtain ⟨x0, x1, x2, x3⟩ := HX0.out.cells
  by_cases h1 : n < 1 ∨ 32 < n
  · have HF : Hid (¬ Okd ds) := hide (fun hk => by have := hk.1; have := Hn.out; omega)
    have HX := hide (HX0.out.in' (.slice none 0 0))
    rcases h1 with h1 | h1
    · have j0 : (n : Int) < 1 := by omega
      go_wp2_with fail
      refine bodyPost_ret (v := .tuple #[.agg #[.slice none 0 0], .int .i64 1]) (by have x := HX.out.cells; simp [results, Try.results11, go_sem, x.1]) rfl ⟨HX.out.bel, .inl ⟨HF.out, _, _, _, rfl⟩⟩
    · have j0 : ¬ (n : Int) < 1 := by omega
      have j1 : (n : Int) > 32 := by omega
      go_wp2_with fail
      refine bodyPost_ret (v := .tuple #[.agg #[.slice none 0 0], .int .i64 1]) (by have x := HX.out.cells; simp [results, Try.results11, go_sem, x.1]) rfl ⟨HX.out.bel, .inl ⟨HF.out, _, _, _, rfl⟩⟩
  have j0 : ¬ (n : Int) < 1 := by omega
  have j1 : ¬ (n : Int) > 32 := by omega
  go_wp2_with fail
  go_loopw [18] (fun v18 wr => ∃ (k : Nat) (a1 : Option Addr) (c1 : Nat), v18 = .int .i64 k ∧ k ≤ n ∧ Hid (X2 w0 h (.slice none 0 0) (.slice a1 k c1) wr) ∧ Hid (lnE.Own wr h (.slice a1 k c1) (mkE (ds.take k))) ∧ Hid (∀ (i : Nat) (d : Int), i < k → ds[i]? = some d → 1 ≤ d ∧ d ≤ 8)) (fun v18 _ => n - (intOf v18).toNat)
  case atStart => exact ⟨0, none, 0, rfl, Nat.zero_le _, HX0, hide (El.Own.nil _ _ _), hide (fun i d hi => by omega)⟩
  case round =>
    clear x0 x1 x2 x3
    obtain ⟨k, a1, c1, rfl, hk, HX, HO, HD⟩ := hrel
    obtain ⟨x0, x1, x2, x3⟩ := HX.out.cells
    by_cases hlt : k < n
    · obtain ⟨d, hd⟩ : ∃ d, ds[k]? = some d := ⟨_, List.getElem?_eq_getElem (by rw [Hn.out]; exact hlt)⟩
      obtain ⟨b, off, ea, z0⟩ := int_at (HV.out wr HX.out.bel) k d hd
      subst ea
      have i0 : (0 : Int) ≤ (k : Int) := by omega
      have i1 : (k : Int) < (n : Int) := by omega
      by_cases hd1 : d < 1 ∨ 8 < d
      · have HF : Hid (¬ Okd ds) := hide (fun hk => by have := hk.2 d (List.mem_of_getElem? hd); omega)
        have HX' := hide (HX.out.in' (.slice none 0 0))
        rcases hd1 with hd1 | hd1
        · clear hd
          go_wp2_with fail
          refine bodyPost_ret (v := .tuple #[.agg #[.slice none 0 0], .int .i64 1]) (by have x := HX'.out.cells; simp [results, Try.results11, go_sem, x.1]) rfl ⟨HX'.out.bel, .inl ⟨HF.out, _, _, _, rfl⟩⟩
        · have hd2 : ¬ d < 1 := by omega
          have hd3 : d > 8 := hd1
          clear hd
          go_wp2_with fail
          refine bodyPost_ret (v := .tuple #[.agg #[.slice none 0 0], .int .i64 1]) (by have x := HX'.out.cells; simp [results, Try.results11, go_sem, x.1]) rfl ⟨HX'.out.bel, .inl ⟨HF.out, _, _, _, rfl⟩⟩
      have hd2 : ¬ d < 1 := by omega
      have hd3 : ¬ d > 8 := by omega
      have HD1 : Hid (∀ (i : Nat) (d : Int), i < k + 1 → ds[i]? = some d → 1 ≤ d ∧ d ≤ 8) := hide (fun i d' hi hd' => by
        rcases Nat.lt_or_ge i k with g | g
        · exact HD.out i d' g hd'
        · obtain rfl : i = k := by omega
          rw [hd] at hd'
          cases hd'
          omega)
      have Hmk := hide (mkE_take hd)
      obtain ⟨dn, hdn⟩ : ∃ dn : Nat, d = (dn : Int) := ⟨d.toNat, by omega⟩
      subst hdn
      rw [Int.toNat_natCast] at Hmk
      have HLn : Hid ((mkE (ds.take k)).length + [(⟨dn, none, 0, 0⟩ : LnV)].length ≤ 1000000) := hide (by simp [mkE]; omega)
      obtain ⟨S0, hS0⟩ : ∃ S : World → Prop, ∀ V, S V ↔ (V.cell? ⟨h + 1, 0, none⟩ = some (.slice a1 k c1) ∧ V.cell? ⟨b, off + k, none⟩ = some (.int .i64 dn)) := ⟨_, fun _ => Iff.rfl⟩
      have SD : Hid (∀ V, S0 V → V.cell? ⟨h + 1, 0, none⟩ = some (.slice a1 k c1) ∧ V.cell? ⟨b, off + k, none⟩ = some (.int .i64 dn)) := hide (fun V h => (hS0 V).1 h)
      have SI : Hid (∀ V, X2 w0 h (.slice none 0 0) (.slice a1 k c1) V → S0 V) := hide (fun V x => (hS0 V).2 ⟨x.cells.2.1, by
        obtain ⟨b2, off2, e2, z2⟩ := int_at (HV.out V x.bel) k _ hd
        cases e2
        exact z2⟩)
      have HXd := hide (HX.out.keep (below_drewN wr 1))
      have HBn : Hid (Below wr.heap.size wr (wr.alloc (.cells #[.int .i64 dn, .slice none 0 0] 75)).drew) := hide ((Below.refl _ _).alloc (Nat.le_refl _) _).drew
      have HXn := hide (HX.out.keep HBn.out)
      have HOn := hide (HO.out.keep HBn.out)
      have HNw : Hid (lnE.Rd (wr.alloc (.cells #[.int .i64 dn, .slice none 0 0] 75)).drew (.slice (some ⟨wr.heap.size, 0, none⟩) 1 1) [⟨dn, none, 0, 0⟩]) := hide (El.Rd.keep (El.Own.new lnE wr wr.heap.size (Nat.le_refl _) _ [(⟨dn, none, 0, 0⟩ : LnV)] rfl (by simp) _ _ _ rfl rfl rfl).rd (Below.refl _ _).drew)
      clear hd hS0 hd1
      go_upto_region 9 with fail
      clear x0 x1 x2 x3 z0
      have hS0 := SI.out _ HXd.out
      refine wp_region_E S0 10 (by kernel_rfl) ?_
      refine wpAnyE_take (i := 0) (v := .pointer (some ⟨h + 1, 0, none⟩)) rfl (by kernel_rfl) (by kernel_rfl) (by kernel_rfl) (by kernel_rfl) (fun _ _ _ h => h) (Or.inl ⟨by kernel_rfl, fun W' hW => by go_simp⟩) hS0 ?_
      refine wpAnyE_take (i := 1) (v := .slice a1 k c1) rfl (by kernel_rfl) (by kernel_rfl) (by kernel_rfl) (by kernel_rfl) (fun _ _ _ h => h) (Or.inl ⟨by kernel_rfl, fun W' hW => by have z0 := SD.out W' hW; go_simp⟩) hS0 ?_
      refine wpAnyE_take (i := 2) (v := .slice (some ⟨b, off, none⟩) n c) rfl (by kernel_rfl) (by kernel_rfl) (by kernel_rfl) (by kernel_rfl) (fun _ _ _ h => h) (Or.inl ⟨by kernel_rfl, fun W' hW => by go_simp⟩) hS0 ?_
      refine wpAnyE_take (i := 3) (v := .int .i64 k) rfl (by kernel_rfl) (by kernel_rfl) (by kernel_rfl) (by kernel_rfl) (fun _ _ _ h => h) (Or.inl ⟨by kernel_rfl, fun W' hW => by go_simp⟩) hS0 ?_
      refine wpAnyE_take (i := 4) (v := .pointer (some ⟨b, off + k, none⟩)) rfl (by kernel_rfl) (by kernel_rfl) (by kernel_rfl) (by kernel_rfl) (fun _ _ _ h => h) (Or.inl ⟨by kernel_rfl, fun W' hW => by go_simp⟩) hS0 ?_
      refine wpAnyE_take (i := 5) (v := .int .i64 dn) rfl (by kernel_rfl) (by kernel_rfl) (by kernel_rfl) (by kernel_rfl) (fun _ _ _ h => h) (Or.inl ⟨by kernel_rfl, fun W' hW => by have z0 := SD.out W' hW; go_simp⟩) hS0 ?_
      refine wpAnyE_take (i := 6) (v := .agg #[.int .i64 dn, .slice none 0 0]) rfl (by kernel_rfl) (by kernel_rfl) (by kernel_rfl) (by kernel_rfl) (fun _ _ _ h => h) (Or.inl ⟨by kernel_rfl, fun W' hW => by go_simp⟩) hS0 ?_
      refine wpAnyE_ready (rs := [7]) (by kernel_rfl) (by simp) ?_
      refine AllReadyE.cons rfl (fun K hK => ?_) AllReadyE.nil
      go_simp
      refine hK.out _ _ (fun _ => SI.out _ HXn.out) ?_
      clear hK K
      refine wpAnyE_ready (rs := [8]) (by kernel_rfl) (by simp) ?_
      refine AllReadyE.cons rfl (fun K hK => ?_) AllReadyE.nil
      refine lnE.stepB (B := h) (Nat.le_of_lt (heap_lt HXn.out.b1)) rfl _ _ rfl _ _ rfl rfl (mkE (ds.take k)) [⟨dn, none, 0, 0⟩] HOn.out HNw.out HLn.out ?_
      intro v4 W4 ho4 hg4 hs4
      have HX4 := hide (HXn.out.grow HOn.out hg4)
      obtain ⟨a4, c4, e4⟩ := ho4.rd.form
      have e5 : (mkE (ds.take k) ++ [(⟨dn, none, 0, 0⟩ : LnV)]).length = k + 1 := by simp [mkE]; have := Hn.out; omega
      rw [e5] at e4
      subst e4
      have HO4 := hide ho4
      refine hK.out _ _ (fun _ => SI.out _ HX4.out) ?_
      clear hK K ho4 hg4 hs4 e5
      obtain ⟨x0, x1, x2, x3⟩ := HX4.out.cells
      have HX5 := hide (HX4.out.out (.slice a4 (k + 1) c4))
      have HO5 : Hid (lnE.Own (W4.setCell ⟨h + 1, 0, none⟩ (.slice a4 (k + 1) c4)) h (.slice a4 (k + 1) c4) (mkE (ds.take (k + 1)))) := hide (by rw [Hmk.out]; exact own_set_other HO4.out (zown_ne HO4.out HX4.out.b2 (by decide)))
      refine wpAnyE_ready (rs := [9]) (by kernel_rfl) (by simp) ?_
      refine AllReadyE.cons rfl (fun K hK => ?_) AllReadyE.nil
      go_simp
      refine hK.out _ _ (fun _ => SI.out _ HX4.out) ?_
      clear hK K
      refine wpAnyE_ready (rs := [10]) (by kernel_rfl) (by simp) ?_
      refine AllReadyE.cons rfl (fun K hK => ?_) AllReadyE.nil
      go_simp
      refine hK.out _ _ (fun h => absurd rfl h) ?_
      clear hK K
      refine wpAnyE_done (by kernel_rfl) ?_ _
      clear x0 x1 x2 x3
      go_wp2_with fail
      go_roundw
      case rel => exact ⟨k + 1, a4, c4, by go_num, by omega, HX5, HO5, HD1⟩
      case measure => simp [intOf]; omega
    · obtain rfl : k = n := by omega
      have i1 : ¬ (k : Int) < (k : Int) := by omega
      have HK : Hid (Okd ds) := hide ⟨by have := Hn.out; omega, fun d hd => by
        obtain ⟨i, hi⟩ := List.getElem?_of_mem hd
        exact HD.out i d (by rw [← Hn.out]; exact idx_lt hi) hi⟩
      have HX' := hide (HX.out.in' (.slice a1 k c1))
      have HO' : Hid (lnE.Own (wr.setCell ⟨h, 0, none⟩ (.slice a1 k c1)) h (.slice a1 k c1) (mkE ds)) := hide (by
        have := HO.out
        rw [← Hn.out, List.take_length] at this
        have h2 := own_set_other (g := h) (i := 0) (u := .slice a1 k c1) this (zown_ne this HX.out.b1 (by decide))
        rw [Hn.out] at h2
        exact h2)
      go_wp2_with fail
      refine bodyPost_ret (v := .tuple #[.agg #[.slice a1 k c1], .int .i64 0]) (by have x := HX'.out.cells; simp [results, Try.results11, go_sem, x.1]) rfl ⟨HX'.out.bel, .inr ⟨HK.out, a1, c1, by rw [Hn.out], by have hx := Hn.out; subst hx; exact HO'.out⟩⟩
end Go.Proofs.Ytddcjkbdgneklaa
