/- Own: a layout's copy. -/
import Derived.Test.YthcdfclhenmleaaLyb
import Derived.Test.YthcdfclhenmleaaExm
namespace Go.Proofs.Ythcdfclhenmleaa
open Go.RowKit
set_option linter.unusedVariables false

theorem stepB {P : Program} {α : Type} (E : El P α) {B : Nat} {w : World} (hB : B ≤ w.heap.size) {ops : Array Oper} {o : Oper} {a : Act} {K : Act → World → Prop} {Q : Exit → Act → World → Prop} {F : Prop} (hgd : o.guard = none) (s x : Operand)
    (ho : o.op = .call { callee := .builtin .append, args := #[s, x], argTypes := #[E.t, E.t] }) (v u : Value) (hs : a.eval s = v) (hx : a.eval x = u)
    (xs ys : List α) (hown : E.Own w B v xs) (hu : E.Rd w u ys) (hn : xs.length + ys.length ≤ 1000000)
    (h : ∀ v' w', E.Own w' B v' (xs ++ ys) → w.grownBy w' v.ownBlock → K (a.put o.dst v') w') :
    if Region.wanted o (yielded ops a.tmps) = true then Oper.wp P o a w K Q else F := by
  have hw : Region.wanted o (yielded ops a.tmps) = true := by simp [Region.wanted, hgd]
  rw [if_pos hw]
  obtain ⟨v', w', hr, h2, h3, h4⟩ := E.run hown hB hu hn o.type
  unfold Oper.wp execOp
  simp only [ho, resolve, invoke, builtin, Sem.run_bind, Sem.run_pure, Result.andThen_ok, List.map_toArray, List.map_cons, List.map_nil, hs, hx, hr]
  exact h v' w' h2 h3
theorem own_other {α β : Type} {E : El Try.prog α} {F : El Try.prog β} {w w' : World} {B : Nat} {v u : Value} {xs : List α} {ys : List β} (hne : E.e ≠ F.e) (hE : E.Own w B v xs) (hF : F.Own w B u ys) (hg : w.grownBy w' v.ownBlock) : F.Own w' B u ys :=
  own_chg hF fun k cur hk hc => hg.block k (heap_lt hc) (fun e => by
    rcases hE.2 with ⟨hx, _⟩ | ⟨q', cap, cur', hx, h2, h3, _⟩
    · rw [hx] at e; cases e
    · rw [hx] at e
      simp [Value.ownBlock] at e
      subst e
      rw [hc] at h3
      simp only [Option.some.injEq, Obj.cells.injEq] at h3
      exact hne h3.2.1.symm)
theorem leaf_ok {w W0 W : World} {vN vE : Value} {ns : List Nd} {es : List Ed} (h0 : w.heap.size ≤ W0.heap.size) (hA : Below w.heap.size w W0) (hb : Below W0.heap.size W0 W) (hz : W.heap[w.heap.size + 1]? = some (.cells #[.slice none 0 0, .slice none 0 0] 25)) (hn : ndE.Own W W0.heap.size vN ns) (he : edE.Own W W0.heap.size vE es) :
    ((W.setCell ⟨w.heap.size + 1, 0, none⟩ vN).setCell ⟨w.heap.size + 1, 1, none⟩ vE).heap[w.heap.size + 1]? = some (.cells #[vN, vE] 25) ∧ ndE.Own ((W.setCell ⟨w.heap.size + 1, 0, none⟩ vN).setCell ⟨w.heap.size + 1, 1, none⟩ vE) w.heap.size vN ns ∧ edE.Own ((W.setCell ⟨w.heap.size + 1, 0, none⟩ vN).setCell ⟨w.heap.size + 1, 1, none⟩ vE) w.heap.size vE es ∧ Below w.heap.size w ((W.setCell ⟨w.heap.size + 1, 0, none⟩ vN).setCell ⟨w.heap.size + 1, 1, none⟩ vE) := by
  refine ⟨heap_put (heap_put hz vN) vE, (own_chg hn fun k cur _ hk => ?_).mono h0, (own_chg he fun k cur _ hk => ?_).mono h0, ((hA.trans (hb.mono h0)).setCell (p := ⟨w.heap.size + 1, 0, none⟩) (by simp) _).setCell (p := ⟨w.heap.size + 1, 1, none⟩) (by simp) _⟩
  · have ne : k ≠ w.heap.size + 1 := fun e => by subst e; rw [hz] at hk; simp only [Option.some.injEq, Obj.cells.injEq] at hk; exact absurd hk.2.1 (by decide)
    rw [Below.heap_setCell _ _ _ _ ne, Below.heap_setCell _ _ _ _ ne]
  · have ne : k ≠ w.heap.size + 1 := fun e => by subst e; rw [hz] at hk; simp only [Option.some.injEq, Obj.cells.injEq] at hk; exact absurd hk.2.1 (by decide)
    rw [Below.heap_setCell _ _ _ _ ne, Below.heap_setCell _ _ _ _ ne]

set_option maxRecDepth 100000 in
set_option maxHeartbeats 8000000 in
theorem copy_any (a a' : Option Addr) (c c' : Nat) (ns : List Nd) (es : List Ed) (w : World) (hv : ndE.Rd w (.slice a ns.length c) ns) (hu : edE.Rd w (.slice a' es.length c') es) (hl : ns.length ≤ 1000) (hl' : es.length ≤ 1000) :
    Calls Try.prog 11 #[.agg #[.slice a ns.length c, .slice a' es.length c']] w fun e w' => ∃ vN vE, e = .returned (.agg #[vN, vE]) ∧ ndE.Own w' w.heap.size vN ns ∧ edE.Own w' w.heap.size vE es ∧ Below w.heap.size w w' := by
  obtain ⟨n, hn⟩ : ∃ n, ns.length = n := ⟨_, rfl⟩
  obtain ⟨m, hm⟩ : ∃ m, es.length = m := ⟨_, rfl⟩
  rw [hn] at hv ⊢
  rw [hm] at hu ⊢
  obtain ⟨W0, hW0⟩ : ∃ W0, (w.alloc (.cells #[.slice a n c, .slice a' m c'] 25)).alloc (.cells #[.slice none 0 0, .slice none 0 0] 25) = W0 := ⟨_, rfl⟩
  have bA : Below w.heap.size w W0 := by rw [← hW0]; exact ((Below.refl _ _).alloc (Nat.le_refl _) _).alloc (by simp) _
  have x1 : W0.heap[w.heap.size]? = some (.cells #[.slice a n c, .slice a' m c'] 25) := by rw [← hW0, Below.heap_alloc _ _ _ (by simp)]; exact heap_new _ _
  have x2 : W0.heap[w.heap.size + 1]? = some (.cells #[.slice none 0 0, .slice none 0 0] 25) := by
    rw [← hW0]
    have := heap_new (w.alloc (.cells #[.slice a n c, .slice a' m c'] 25)) (.cells #[.slice none 0 0, .slice none 0 0] 25)
    rwa [show (w.alloc (.cells #[.slice a n c, .slice a' m c'] 25)).heap.size = w.heap.size + 1 by simp] at this
  have HA := hide bA
  have Hx2 := hide x2
  have HW0s : Hid (W0 = W0) := hide rfl
  have Hn := hide hn
  have Hm := hide hm
  have HRN : Hid (∀ W, Below W0.heap.size W0 W → ndE.Rd W (.slice a n c) ns) := hide (fun W h => (hv.keep bA).keep h)
  have HRE : Hid (∀ W, Below W0.heap.size W0 W → edE.Rd W (.slice a' m c') es) := hide (fun W h => (hu.keep bA).keep h)
  obtain ⟨SS, hSS⟩ : ∃ SS : World → Prop, SS = fun W' => Below W0.heap.size W0 W' := ⟨_, rfl⟩
  have s9 : Hid (∀ W', SS W' → Below W0.heap.size W0 W') := hide (fun W' h => by rw [hSS] at h; exact h)
  have s8 : Hid (∀ W', Below W0.heap.size W0 W' → SS W') := hide (fun W' h => by rw [hSS]; exact h)
  have s1 : ∀ W', SS W' → W'.cell? ⟨w.heap.size, 0, none⟩ = some (.slice a n c) := fun W' h => by rw [(s9.out W' h).cell (heap_lt x1)]; exact (cells_at x1 0).1
  have s2 : ∀ W', SS W' → W'.cell? ⟨w.heap.size, 1, none⟩ = some (.slice a' m c') := fun W' h => by rw [(s9.out W' h).cell (heap_lt x1)]; exact (cells_at x1 1).1
  have hS0 := s8.out W0.drew (Below.refl _ _).drew
  have HW0 := hide hW0
  clear hSS hn hm hv hu bA x1 x2 hW0
  go_enter Try.func11, Try.ntmps11
  go_upto_region 1 with fail
  rw [HW0.out]
  go_cut [] (fun wx => ∃ (vN vE : Value) (W : World), wx = W ∧ Hid (W.heap[w.heap.size + 1]? = some (.cells #[vN, vE] 25) ∧ ndE.Own W w.heap.size vN ns ∧ edE.Own W w.heap.size vE es ∧ Below w.heap.size w W))
  case first =>
    refine wp_region_E SS 9 (by kernel_rfl) ?_
    refine wpAnyE_take (i := 1) (v := .pointer (some ⟨w.heap.size, 0, none⟩)) rfl (by kernel_rfl) (by kernel_rfl) (by kernel_rfl) (by kernel_rfl) (fun _ _ _ h => h) (Or.inl ⟨by rfl, fun W' hW => by go_simp⟩) hS0 ?_
    refine wpAnyE_take (i := 2) (v := .slice a n c) rfl (by kernel_rfl) (by kernel_rfl) (by kernel_rfl) (by kernel_rfl) (fun _ _ _ h => h) (Or.inl ⟨by rfl, fun W' hW => by have x0 := s1 W' hW; go_simp⟩) hS0 ?_
    refine wpAnyE_take (i := 5) (v := .pointer (some ⟨w.heap.size, 1, none⟩)) rfl (by kernel_rfl) (by kernel_rfl) (by kernel_rfl) (by kernel_rfl) (fun _ _ _ h => h) (Or.inl ⟨by rfl, fun W' hW => by go_simp⟩) hS0 ?_
    refine wpAnyE_take (i := 6) (v := .slice a' m c') rfl (by kernel_rfl) (by kernel_rfl) (by kernel_rfl) (by kernel_rfl) (fun _ _ _ h => h) (Or.inl ⟨by rfl, fun W' hW => by have x0 := s2 W' hW; go_simp⟩) hS0 ?_
    refine wpAnyE_ready (rs := [0, 4]) (by kernel_rfl) (by simp) ?_
    refine AllReadyE.cons rfl (fun K hK => ?_) (AllReadyE.cons rfl (fun K hK => ?_) AllReadyE.nil)
    · go_simp
      have S1 := s8.out _ ((s9.out _ hS0).alloc (s9.out _ hS0).size (.cells #[] 67))
      have O1 : Hid (ndE.Own (W0.drew.alloc (.cells #[] 67)) W0.heap.size (.slice (some ⟨W0.heap.size, 0, none⟩) 0 0) []) := hide (El.Own.new ndE W0.drew _ (s9.out _ hS0).size #[] [] rfl (by simp) _ _ _ (by simp) rfl rfl)
      refine hK.out _ _ (fun _ => S1) ?_
      clear hK K
      refine wpAnyE_ready (rs := [3, 4]) (by kernel_rfl) (by simp) ?_
      refine AllReadyE.cons rfl (fun K hK => ?_) (AllReadyE.cons rfl (fun K hK => ?_) AllReadyE.nil)
      · refine stepB ndE (B := W0.heap.size) (s9.out _ S1).size rfl (.tmp 3) (.tmp 5) rfl (.slice (some ⟨W0.heap.size, 0, none⟩) 0 0) (.slice a n c) rfl rfl [] ns O1.out (HRN.out _ (s9.out _ S1)) (by simp; omega) ?_
        intro v2 W2 ho2 hg2
        rw [List.nil_append] at ho2
        have S2 := s8.out _ ((s9.out _ S1).grown hg2 (s9.out _ S1).size (fun q hq => O1.out.ge q hq))
        obtain ⟨a2, c2, hv2⟩ := ho2.rd.form
        rw [Hn.out] at hv2
        subst hv2
        have O2 := hide ho2
        clear ho2 hg2
        refine hK.out _ _ (fun _ => S2) ?_
        clear hK K
        refine wpAnyE_ready (rs := [4]) (by kernel_rfl) (by simp) ?_
        refine AllReadyE.cons rfl (fun K hK => ?_) AllReadyE.nil
        go_simp
        have S3 := s8.out _ ((s9.out _ S2).alloc (s9.out _ S2).size (.cells #[] 42))
        have O3 : Hid (edE.Own (W2.alloc (.cells #[] 42)) W0.heap.size (.slice (some ⟨W2.heap.size, 0, none⟩) 0 0) []) := hide (El.Own.new edE W2 _ (s9.out _ S2).size #[] [] rfl (by simp) _ _ _ (by simp) rfl rfl)
        have P3 : Hid (ndE.Own (W2.alloc (.cells #[] 42)) W0.heap.size (.slice a2 n c2) ns) := hide (World.ownsRow.alloc O2.out (.cells #[] 42))
        refine hK.out _ _ (fun _ => S3) ?_
        clear hK K
        refine wpAnyE_ready (rs := [7]) (by kernel_rfl) (by simp) ?_
        refine AllReadyE.cons rfl (fun K hK => ?_) AllReadyE.nil
        refine stepB edE (B := W0.heap.size) (s9.out _ S3).size rfl (.tmp 7) (.tmp 9) rfl (.slice (some ⟨W2.heap.size, 0, none⟩) 0 0) (.slice a' m c') rfl rfl [] es O3.out (HRE.out _ (s9.out _ S3)) (by simp; omega) ?_
        intro v4 W4 ho4 hg4
        rw [List.nil_append] at ho4
        have S4 := s8.out _ ((s9.out _ S3).grown hg4 (s9.out _ S3).size (fun q hq => O3.out.ge q hq))
        have P4 := hide (own_other (by decide) O3.out P3.out hg4)
        obtain ⟨a4, c4, hv4⟩ := ho4.rd.form
        rw [Hm.out] at hv4
        subst hv4
        have O4 := hide ho4
        clear ho4 hg4
        refine hK.out _ _ (fun _ => S4) ?_
        clear hK K
        refine wpAnyE_take (i := 8) (v := .agg #[.slice a2 n c2, .slice a4 m c4]) rfl (by kernel_rfl) (by kernel_rfl) (by kernel_rfl) (by kernel_rfl) (fun _ _ _ h => h) (Or.inl ⟨by rfl, fun W' hW => by go_simp⟩) S4 ?_
        refine wpAnyE_ready (rs := [9]) (by kernel_rfl) (by simp) ?_
        refine AllReadyE.cons rfl (fun K hK => ?_) AllReadyE.nil
        have z0 := (s9.out _ S4)
        have zb : W4.heap[w.heap.size + 1]? = some (.cells #[.slice none 0 0, .slice none 0 0] 25) := by rw [z0.block _ (heap_lt Hx2.out)]; exact Hx2.out
        have y0 := (cells_at zb 0).1
        have y1 := (cells_at zb 1).1
        have f0 := (cells_at zb 0).2
        have f1 := (cells_at zb 1).2
        simp at y0 y1
        have MT := leaf_ok (by rw [← HW0s.out]; exact HA.out.size) HA.out z0 zb P4.out O4.out
        have MTH := hide MT
        clear MT z0 zb
        go_simp
        refine hK.out _ _ (fun h => absurd rfl h) ?_
        clear hK K
        refine wpAnyE_done (by kernel_rfl) ?_ _
        go_wp2_with fail
        go_meet
        exact ⟨_, _, _, rfl, MTH⟩
      · go_simp
        have S5 := s8.out _ ((s9.out _ S1).alloc (s9.out _ S1).size (.cells #[] 42))
        have O5 : Hid (edE.Own ((W0.drew.alloc (.cells #[] 67)).alloc (.cells #[] 42)) W0.heap.size (.slice (some ⟨W0.heap.size + 1, 0, none⟩) 0 0) []) := hide (El.Own.new edE (W0.drew.alloc (.cells #[] 67)) _ (s9.out _ S1).size #[] [] rfl (by simp) _ _ _ (by simp) rfl rfl)
        have P5 : Hid (ndE.Own ((W0.drew.alloc (.cells #[] 67)).alloc (.cells #[] 42)) W0.heap.size (.slice (some ⟨W0.heap.size, 0, none⟩) 0 0) []) := hide (World.ownsRow.alloc O1.out (.cells #[] 42))
        refine hK.out _ _ (fun _ => S5) ?_
        clear hK K
        refine wpAnyE_ready (rs := [3]) (by kernel_rfl) (by simp) ?_
        refine AllReadyE.cons rfl (fun K hK => ?_) AllReadyE.nil
        refine stepB ndE (B := W0.heap.size) (s9.out _ S5).size rfl (.tmp 3) (.tmp 5) rfl (.slice (some ⟨W0.heap.size, 0, none⟩) 0 0) (.slice a n c) rfl rfl [] ns P5.out (HRN.out _ (s9.out _ S5)) (by simp; omega) ?_
        intro v6 W6 ho6 hg6
        rw [List.nil_append] at ho6
        have S6 := s8.out _ ((s9.out _ S5).grown hg6 (s9.out _ S5).size (fun q hq => P5.out.ge q hq))
        have P6 := hide (own_other (by decide) P5.out O5.out hg6)
        obtain ⟨a6, c6, hv6⟩ := ho6.rd.form
        rw [Hn.out] at hv6
        subst hv6
        have O6 := hide ho6
        clear ho6 hg6
        refine hK.out _ _ (fun _ => S6) ?_
        clear hK K
        refine wpAnyE_ready (rs := [7]) (by kernel_rfl) (by simp) ?_
        refine AllReadyE.cons rfl (fun K hK => ?_) AllReadyE.nil
        refine stepB edE (B := W0.heap.size) (s9.out _ S6).size rfl (.tmp 7) (.tmp 9) rfl (.slice (some ⟨W0.heap.size + 1, 0, none⟩) 0 0) (.slice a' m c') rfl rfl [] es P6.out (HRE.out _ (s9.out _ S6)) (by simp; omega) ?_
        intro v7 W7 ho7 hg7
        rw [List.nil_append] at ho7
        have S7 := s8.out _ ((s9.out _ S6).grown hg7 (s9.out _ S6).size (fun q hq => P6.out.ge q hq))
        have P7 := hide (own_other (by decide) P6.out O6.out hg7)
        obtain ⟨a7, c7, hv7⟩ := ho7.rd.form
        rw [Hm.out] at hv7
        subst hv7
        have O7 := hide ho7
        clear ho7 hg7
        refine hK.out _ _ (fun _ => S7) ?_
        clear hK K
        refine wpAnyE_take (i := 8) (v := .agg #[.slice a6 n c6, .slice a7 m c7]) rfl (by kernel_rfl) (by kernel_rfl) (by kernel_rfl) (by kernel_rfl) (fun _ _ _ h => h) (Or.inl ⟨by rfl, fun W' hW => by go_simp⟩) S7 ?_
        refine wpAnyE_ready (rs := [9]) (by kernel_rfl) (by simp) ?_
        refine AllReadyE.cons rfl (fun K hK => ?_) AllReadyE.nil
        have z0 := (s9.out _ S7)
        have zb : W7.heap[w.heap.size + 1]? = some (.cells #[.slice none 0 0, .slice none 0 0] 25) := by rw [z0.block _ (heap_lt Hx2.out)]; exact Hx2.out
        have y0 := (cells_at zb 0).1
        have y1 := (cells_at zb 1).1
        have f0 := (cells_at zb 0).2
        have f1 := (cells_at zb 1).2
        simp at y0 y1
        have MT := leaf_ok (by rw [← HW0s.out]; exact HA.out.size) HA.out z0 zb P7.out O7.out
        have MTH := hide MT
        clear MT z0 zb
        go_simp
        refine hK.out _ _ (fun h => absurd rfl h) ?_
        clear hK K
        refine wpAnyE_done (by kernel_rfl) ?_ _
        go_wp2_with fail
        go_meet
        exact ⟨_, _, _, rfl, MTH⟩
    · go_simp
      have S8 := s8.out _ ((s9.out _ hS0).alloc (s9.out _ hS0).size (.cells #[] 42))
      have O8 : Hid (edE.Own (W0.drew.alloc (.cells #[] 42)) W0.heap.size (.slice (some ⟨W0.heap.size, 0, none⟩) 0 0) []) := hide (El.Own.new edE W0.drew _ (s9.out _ hS0).size #[] [] rfl (by simp) _ _ _ (by simp) rfl rfl)
      refine hK.out _ _ (fun _ => S8) ?_
      clear hK K
      refine wpAnyE_ready (rs := [0]) (by kernel_rfl) (by simp) ?_
      refine AllReadyE.cons rfl (fun K hK => ?_) AllReadyE.nil
      go_simp
      have S9 := s8.out _ ((s9.out _ S8).alloc (s9.out _ S8).size (.cells #[] 67))
      have O9 : Hid (ndE.Own ((W0.drew.alloc (.cells #[] 42)).alloc (.cells #[] 67)) W0.heap.size (.slice (some ⟨W0.heap.size + 1, 0, none⟩) 0 0) []) := hide (El.Own.new ndE (W0.drew.alloc (.cells #[] 42)) _ (s9.out _ S8).size #[] [] rfl (by simp) _ _ _ (by simp) rfl rfl)
      have P9 : Hid (edE.Own ((W0.drew.alloc (.cells #[] 42)).alloc (.cells #[] 67)) W0.heap.size (.slice (some ⟨W0.heap.size, 0, none⟩) 0 0) []) := hide (World.ownsRow.alloc O8.out (.cells #[] 67))
      refine hK.out _ _ (fun _ => S9) ?_
      clear hK K
      refine wpAnyE_ready (rs := [3]) (by kernel_rfl) (by simp) ?_
      refine AllReadyE.cons rfl (fun K hK => ?_) AllReadyE.nil
      refine stepB ndE (B := W0.heap.size) (s9.out _ S9).size rfl (.tmp 3) (.tmp 5) rfl (.slice (some ⟨W0.heap.size + 1, 0, none⟩) 0 0) (.slice a n c) rfl rfl [] ns O9.out (HRN.out _ (s9.out _ S9)) (by simp; omega) ?_
      intro v10 W10 ho10 hg10
      rw [List.nil_append] at ho10
      have S10 := s8.out _ ((s9.out _ S9).grown hg10 (s9.out _ S9).size (fun q hq => O9.out.ge q hq))
      have P10 := hide (own_other (by decide) O9.out P9.out hg10)
      obtain ⟨a10, c10, hv10⟩ := ho10.rd.form
      rw [Hn.out] at hv10
      subst hv10
      have O10 := hide ho10
      clear ho10 hg10
      refine hK.out _ _ (fun _ => S10) ?_
      clear hK K
      refine wpAnyE_ready (rs := [7]) (by kernel_rfl) (by simp) ?_
      refine AllReadyE.cons rfl (fun K hK => ?_) AllReadyE.nil
      refine stepB edE (B := W0.heap.size) (s9.out _ S10).size rfl (.tmp 7) (.tmp 9) rfl (.slice (some ⟨W0.heap.size, 0, none⟩) 0 0) (.slice a' m c') rfl rfl [] es P10.out (HRE.out _ (s9.out _ S10)) (by simp; omega) ?_
      intro v11 W11 ho11 hg11
      rw [List.nil_append] at ho11
      have S11 := s8.out _ ((s9.out _ S10).grown hg11 (s9.out _ S10).size (fun q hq => P10.out.ge q hq))
      have P11 := hide (own_other (by decide) P10.out O10.out hg11)
      obtain ⟨a11, c11, hv11⟩ := ho11.rd.form
      rw [Hm.out] at hv11
      subst hv11
      have O11 := hide ho11
      clear ho11 hg11
      refine hK.out _ _ (fun _ => S11) ?_
      clear hK K
      refine wpAnyE_take (i := 8) (v := .agg #[.slice a10 n c10, .slice a11 m c11]) rfl (by kernel_rfl) (by kernel_rfl) (by kernel_rfl) (by kernel_rfl) (fun _ _ _ h => h) (Or.inl ⟨by rfl, fun W' hW => by go_simp⟩) S11 ?_
      refine wpAnyE_ready (rs := [9]) (by kernel_rfl) (by simp) ?_
      refine AllReadyE.cons rfl (fun K hK => ?_) AllReadyE.nil
      have z0 := (s9.out _ S11)
      have zb : W11.heap[w.heap.size + 1]? = some (.cells #[.slice none 0 0, .slice none 0 0] 25) := by rw [z0.block _ (heap_lt Hx2.out)]; exact Hx2.out
      have y0 := (cells_at zb 0).1
      have y1 := (cells_at zb 1).1
      have f0 := (cells_at zb 0).2
      have f1 := (cells_at zb 1).2
      simp at y0 y1
      have MT := leaf_ok (by rw [← HW0s.out]; exact HA.out.size) HA.out z0 zb P11.out O11.out
      have MTH := hide MT
      clear MT z0 zb
      go_simp
      refine hK.out _ _ (fun h => absurd rfl h) ?_
      clear hK K
      refine wpAnyE_done (by kernel_rfl) ?_ _
      go_wp2_with fail
      go_meet
      exact ⟨_, _, _, rfl, MTH⟩
  case rest =>
  obtain ⟨vN, vE, W, rfl, HH⟩ := hcut
  obtain ⟨aN, cN, hN⟩ := HH.out.2.1.rd.form
  obtain ⟨aE, cE, hE⟩ := HH.out.2.2.1.rd.form
  subst hN
  subst hE
  have q0 := (cells_at HH.out.1 0).1
  have q1 := (cells_at HH.out.1 1).1
  simp at q0 q1
  go_wp2_with fail
  refine bodyPost_ret (v := .agg #[.slice aN ns.length cN, .slice aE es.length cE]) (by simp [results, Try.results11, go_sem, q0, q1]) rfl ?_
  exact ⟨_, _, rfl, HH.out.2.1, HH.out.2.2.1, HH.out.2.2.2⟩
end Go.Proofs.Ythcdfclhenmleaa
