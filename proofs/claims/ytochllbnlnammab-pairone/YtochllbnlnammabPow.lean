/- The law on one store and one retrieval. -/
import Derived.Test.YtochllbnlnammabPrg
namespace Go.Proofs.Ytochllbnlnammab
open Go.RowKit
set_option linter.unusedVariables false

theorem dr_comm (p q : Int × Int) : dr p q = dr q p := by unfold dr ad; (repeat' split) <;> omega
theorem alw_one (p : Int × Int) : Alw [p] ↔ In p := ⟨fun h => h.2 p (by simp), fun h => ⟨by simp, fun q hq => by simp at hq; subst hq; exact h⟩⟩
/-- of one and one -/
theorem bst_one (p q : Int × Int) : (sgs p q > 0 → bst [p] [q] = [0] ∧ cst [p] [q] [0] = alo p + alo q - sgs p q) ∧ (¬ sgs p q > 0 → bst [p] [q] = [-1] ∧ cst [p] [q] [-1] = alo p + alo q) := by
  have hs : sg [p] [q] 0 0 = sgs p q := rfl
  have hb : bst [p] [q] = [lsg (sg [p] [q] 0) (tp (sg [p] [q]) 1 1 0) 1 1] := rfl
  have hl : lsg (sg [p] [q] 0) (tp (sg [p] [q]) 1 1 0) 1 1 = if sgs p q > 0 then 0 else -1 := by
    have e : (1 : Nat).testBit 0 = true := rfl
    have e2 : sg [p] [q] 0 0 + tp (sg [p] [q]) 1 1 0 (clr 1 0) = sgs p q := by rw [hs]; show sgs p q + 0 = _; omega
    have e3 : mxg (sg [p] [q] 0) (tp (sg [p] [q]) 1 1 0) 1 0 = 0 := rfl
    rw [lsg, e2, e3]
    simp only [e, true_and]
    rfl
  have t1 : tot [p] = alo p := tot_one p
  have t2 : tot [q] = alo q := tot_one q
  have m0 : sv (sg [p] [q]) (mof 0 [0]) = sgs p q := by show sg [p] [q] 0 0 + 0 = _; rw [hs]; omega
  have m1 : sv (sg [p] [q]) (mof 0 [-1]) = 0 := rfl
  refine ⟨fun h => ?_, fun h => ?_⟩
  · rw [hb, hl, if_pos h]
    exact ⟨rfl, by unfold cst; rw [t1, t2, m0]⟩
  · rw [hb, hl, if_neg h]
    exact ⟨rfl, by unfold cst; rw [t1, t2, m1]; omega⟩

/-- the law's boxes: both spots and home -/
def Ob (w : World) (B gh : Nat) (x1 y1 x2 y2 : Int) (W : World) : Prop := Below w.heap.size w W ∧ W.cell? ⟨B, 0, none⟩ = some (.int .i64 x1) ∧ W.cell? ⟨B, 1, none⟩ = some (.int .i64 y1) ∧ W.cell? ⟨B + 1, 0, none⟩ = some (.int .i64 x2) ∧ W.cell? ⟨B + 1, 1, none⟩ = some (.int .i64 y2) ∧ W.cell? ⟨gh, 0, none⟩ = some (.int .i64 0) ∧ W.cell? ⟨gh, 1, none⟩ = some (.int .i64 0)
theorem Ob.keep {w : World} {B gh : Nat} {x1 y1 x2 y2 : Int} {W W' : World} (h : Ob w B gh x1 y1 x2 y2 W) (hb : Below W.heap.size W W') : Ob w B gh x1 y1 x2 y2 W' := by
  obtain ⟨h0, h1, h2, h3, h4, h5, h6⟩ := h
  exact ⟨h0.trans (hb.mono h0.size), by rw [hb.cell (cell_lt h1)]; exact h1, by rw [hb.cell (cell_lt h2)]; exact h2, by rw [hb.cell (cell_lt h3)]; exact h3, by rw [hb.cell (cell_lt h4)]; exact h4, by rw [hb.cell (cell_lt h5)]; exact h5, by rw [hb.cell (cell_lt h6)]; exact h6⟩

set_option maxRecDepth 100000 in
set_option maxHeartbeats 4000000 in
theorem one_walk (x1 y1 x2 y2 : Int) (w : World) : Calls Try.prog 3 #[.agg #[.int .i64 x1, .int .i64 y1], .agg #[.int .i64 x2, .int .i64 y2]] w fun e w' => e = .returned (.bool true) ∧ Below w.heap.size w w' := by
  obtain ⟨w0, rfl⟩ : ∃ w0, w0 = w := ⟨_, rfl⟩
  have HB0 := hide (below_alloc2 w0 (.cells #[.int .i64 x1, .int .i64 y1] 23) (.cells #[.int .i64 x2, .int .i64 y2] 23))
  have HT0 := hide (two_new w0 x1 y1 x2 y2 23)
  obtain ⟨B, hB⟩ : ∃ B, w0.heap.size = B := ⟨_, rfl⟩
  rw [hB] at HT0
  have K4 := hide awake_any
  have K5 : Hid (∀ W a1 b1, spE.Rd W (.slice a1 1 1) [(x1, y1)] → spE.Rd W (.slice b1 1 1) [(x2, y2)] → Calls Try.prog 5 #[.slice a1 1 1, .slice b1 1 1] W (BestP [(x1, y1)] [(x2, y2)] W)) := hide (fun W a1 b1 h1 h2 => best_any a1 b1 1 1 1 1 [(x1, y1)] [(x2, y2)] W rfl rfl h1 h2)
  go_enter Try.func3, Try.ntmps3
  go_upto_region 1 with fail
  try rw [hB]
  have HB := hide hB
  clear hB
  generalize ((w0.alloc (Obj.cells #[.int .i64 x1, .int .i64 y1] 23)).alloc (Obj.cells #[.int .i64 x2, .int .i64 y2] 23)) = W0 at *
  go_upto_region 3 with (go_at_call 4; refine (K4.out _).mono ?_; rintro e W1 ⟨rfl, hb⟩; have HB1 := hide (HB0.out.trans (hb.mono HB0.out.size)); have HT1 : Hid (Two B x1 y1 x2 y2 W1) := hide (by obtain ⟨h1, h2, h3, h4⟩ := HT0.out; exact ⟨by rw [hb.cell (cell_lt h1)]; exact h1, by rw [hb.cell (cell_lt h2)]; exact h2, by rw [hb.cell (cell_lt h3)]; exact h3, by rw [hb.cell (cell_lt h4)]; exact h4⟩); clear hb)
  have HO1 : Hid (Ob w0 B W1.heap.size x1 y1 x2 y2 (W1.alloc (.cells #[.int .i64 0, .int .i64 0] 23))) := hide (by
    have hb : Below W1.heap.size W1 (W1.alloc (.cells #[.int .i64 0, .int .i64 0] 23)) := (Below.refl _ _).alloc (Nat.le_refl _) _
    obtain ⟨h1, h2, h3, h4⟩ := HT1.out
    exact ⟨HB1.out.trans (hb.mono HB1.out.size), by rw [hb.cell (cell_lt h1)]; exact h1, by rw [hb.cell (cell_lt h2)]; exact h2, by rw [hb.cell (cell_lt h3)]; exact h3, by rw [hb.cell (cell_lt h4)]; exact h4, (cells_at (heap_new _ _) 0).1, (cells_at (heap_new _ _) 1).1⟩)
  go_upto_region 4 with fail
  generalize W1.alloc (.cells #[.int .i64 0, .int .i64 0] 23) = W2 at *
  generalize W1.heap.size = gh at *
  clear HB0 HT0 HB1 HT1 K4
  have HO2 : Hid (Ob w0 B gh x1 y1 x2 y2 ((W2.alloc (.cells #[.int .i64 x1, .int .i64 y1] 23)).alloc (.cells #[.int .i64 x2, .int .i64 y2] 23))) := hide (HO1.out.keep (below_alloc2 W2 _ _))
  have HR1 : Hid (spE.Rd ((W2.alloc (.cells #[.int .i64 x1, .int .i64 y1] 23)).alloc (.cells #[.int .i64 x2, .int .i64 y2] 23)) (.slice (some ⟨W2.heap.size, 0, none⟩) 1 1) [(x1, y1)]) := hide ((sp_new W2 _ [(x1, y1)] rfl (by simp) _ 1 rfl rfl).keep ((Below.refl _ _).alloc (Nat.le_refl _) _))
  have HR2 : Hid (spE.Rd ((W2.alloc (.cells #[.int .i64 x1, .int .i64 y1] 23)).alloc (.cells #[.int .i64 x2, .int .i64 y2] 23)) (.slice (some ⟨W2.heap.size + 1, 0, none⟩) 1 1) [(x2, y2)]) := hide (sp_new _ _ [(x2, y2)] rfl (by simp) _ 1 (by show _ = (W2.heap.push _).size; simp) rfl)
  obtain ⟨z0, z1, z2, z3, z4, z5⟩ := HO1.out.2
  obtain ⟨_, _, _, y2', y3', _, _⟩ := HO1.out.keep ((Below.refl W2.heap.size W2).alloc (Nat.le_refl _) (.cells #[.int .i64 x1, .int .i64 y1] 23))
  by_cases hok : In (x1, y1) ∧ In (x2, y2)
  · obtain ⟨sm1, sm2⟩ := hok.1.sm
    obtain ⟨sm3, sm4⟩ := hok.2.sm
    have K01 := hide (fun W => drive_any 0 0 x1 y1 W Sm.zero Sm.zero sm1 sm2)
    have K02 := hide (fun W => drive_any 0 0 x2 y2 W Sm.zero Sm.zero sm3 sm4)
    have K12 := hide (fun W => drive_any x1 y1 x2 y2 W sm1 sm2 sm3 sm4)
    have K20 := hide (fun W => drive_any x2 y2 0 0 W sm3 sm4 Sm.zero Sm.zero)
    rw [dr_comm (x2, y2) (0, 0)] at K20
    obtain ⟨d10, d11⟩ := dr_bd In.zero hok.1
    obtain ⟨d20, d21⟩ := dr_bd In.zero hok.2
    obtain ⟨d30, d31⟩ := dr_bd hok.1 hok.2
    obtain ⟨h1, h2⟩ := bst_one (x1, y1) (x2, y2)
    have hal : ∀ p : Int × Int, alo p = 2 * dr (0, 0) p := fun _ => rfl
    have hsg : sgs (x1, y1) (x2, y2) = dr (0, 0) (x1, y1) + dr (0, 0) (x2, y2) - dr (x1, y1) (x2, y2) := rfl
    have K5' : Hid (∀ W a1 b1, spE.Rd W (.slice a1 1 1) [(x1, y1)] → spE.Rd W (.slice b1 1 1) [(x2, y2)] → Calls Try.prog 5 #[.slice a1 1 1, .slice b1 1 1] W fun e w' => ∃ a3 c3, e = .returned (.tuple #[.slice a3 1 c3, .int .i64 (cst [(x1, y1)] [(x2, y2)] (bst [(x1, y1)] [(x2, y2)])), .int .i64 0]) ∧ intE.Rd w' (.slice a3 1 c3) (bst [(x1, y1)] [(x2, y2)]) ∧ Below W.heap.size W w') := hide (fun W a1 b1 q1 q2 => (K5.out W a1 b1 q1 q2).mono (by
      rintro e w' ⟨hb, ⟨h, _⟩ | ⟨_, _, a3, c3, rfl, ho⟩⟩
      · exact absurd ⟨(alw_one _).2 hok.1, (alw_one _).2 hok.2⟩ h
      · exact ⟨a3, c3, rfl, ho.rd, hb⟩))
    rw [hal, hal, hsg] at h1
    rw [hal, hal, hsg] at h2
    generalize dr (0, 0) (x1, y1) = d1 at *
    generalize dr (0, 0) (x2, y2) = d2 at *
    generalize dr (x1, y1) (x2, y2) = d3 at *
    obtain ⟨ls, hls⟩ : ∃ ls, bst [(x1, y1)] [(x2, y2)] = ls := ⟨_, rfl⟩
    rw [hls] at h1 h2
    simp only [hls] at K5'
    obtain ⟨cc, hcc⟩ : ∃ cc, cst [(x1, y1)] [(x2, y2)] ls = cc := ⟨_, rfl⟩
    simp only [hcc] at K5'
    have Hlc : Hid ((d1 + d3 + d2 < 2 * d1 + 2 * d2 ∧ ls = [0] ∧ cc = d1 + d3 + d2) ∨ (¬ d1 + d3 + d2 < 2 * d1 + 2 * d2 ∧ ls = [-1] ∧ cc = 2 * d1 + 2 * d2)) := hide (by
      by_cases h : d1 + d2 - d3 > 0
      · obtain ⟨q1, q2⟩ := h1 h
        subst q1
        exact .inl ⟨by omega, rfl, by rw [← hcc, q2]; omega⟩
      · obtain ⟨q1, q2⟩ := h2 h
        subst q1
        exact .inr ⟨by omega, rfl, by rw [← hcc, q2]⟩)
    clear h1 h2 hal hsg hls hcc K5 hok sm1 sm2 sm3 sm4
    obtain ⟨e1, he1⟩ : ∃ z, 2 * d1 = z := ⟨_, rfl⟩
    obtain ⟨e2, he2⟩ : ∃ z, 2 * d2 = z := ⟨_, rfl⟩
    obtain ⟨al, hal⟩ : ∃ z, e1 + e2 = z := ⟨_, rfl⟩
    obtain ⟨f1, hf1⟩ : ∃ z, d1 + d3 = z := ⟨_, rfl⟩
    obtain ⟨bo, hbo⟩ : ∃ z, f1 + d2 = z := ⟨_, rfl⟩
    have w1 : IntKind.i64.wrap (2 * d1) = e1 := by rw [IntKind.wrap_i64]; omega
    have w2 : IntKind.i64.wrap (2 * d2) = e2 := by rw [IntKind.wrap_i64]; omega
    have w3 : IntKind.i64.wrap (e1 + e2) = al := by rw [IntKind.wrap_i64]; omega
    have w4 : IntKind.i64.wrap (d1 + d3) = f1 := by rw [IntKind.wrap_i64]; omega
    have w5 : IntKind.i64.wrap (f1 + d2) = bo := by rw [IntKind.wrap_i64]; omega
    rw [he1, he2, hal, hf1, hbo] at Hlc
    clear he1 he2 hal hf1 hbo d10 d11 d20 d21 d30 d31
    go_upto_region 7 with (go_at_call 5; refine (K5'.out _ _ _ HR1.out HR2.out).mono ?_; rintro e W3 ⟨a3, c3, rfl, hrd, hb⟩; have HL3 := hide hrd; have HO3 := hide (HO2.out.keep hb); clear hrd hb)
    clear z0 z1 z2 z3 z4 z5 y2' y3' HO1 HO2 HR1 HR2
    have SI : Hid (∀ W, Ob w0 B gh x1 y1 x2 y2 W → W.cell? ⟨B, 0, none⟩ = some (.int .i64 x1) ∧ W.cell? ⟨B, 1, none⟩ = some (.int .i64 y1) ∧ W.cell? ⟨B + 1, 0, none⟩ = some (.int .i64 x2) ∧ W.cell? ⟨B + 1, 1, none⟩ = some (.int .i64 y2) ∧ W.cell? ⟨gh, 0, none⟩ = some (.int .i64 0) ∧ W.cell? ⟨gh, 1, none⟩ = some (.int .i64 0)) := hide (fun W h => h.2)
    have SD := SI
    obtain ⟨S0, hS0⟩ : ∃ S : World → Prop, S = Ob w0 B gh x1 y1 x2 y2 := ⟨_, rfl⟩
    rw [← hS0] at SD
    have SI : Hid (∀ W, Ob w0 B gh x1 y1 x2 y2 W → S0 W) := hide (fun W h => by rw [hS0]; exact h)
    clear hS0
    have HOd := hide (HO3.out.keep (Below.refl W3.heap.size W3).drew)
    have HLd := hide (HL3.out.keep (Below.refl W3.heap.size W3).drew)
    have hS := SI.out _ HOd.out
    refine wp_region_held_drew (S := S0) (by kernel_rfl) hS (fun _ => ?_)
    refine wpAnyH_take (i := 0) (v := .agg #[.int .i64 0, .int .i64 0]) rfl (by kernel_rfl) (by kernel_rfl) (by kernel_rfl) (fun _ _ _ h => h) (Or.inl ⟨by rfl, fun W' hW => by have z0 := SD.out W' hW; go_simp⟩) hS ?_
    refine wpAnyH_take (i := 1) (v := .agg #[.int .i64 x1, .int .i64 y1]) rfl (by kernel_rfl) (by kernel_rfl) (by kernel_rfl) (fun _ _ _ h => h) (Or.inl ⟨by rfl, fun W' hW => by have z0 := SD.out W' hW; go_simp⟩) hS ?_
    refine wpAnyH_take (i := 4) (v := .agg #[.int .i64 0, .int .i64 0]) rfl (by kernel_rfl) (by kernel_rfl) (by kernel_rfl) (fun _ _ _ h => h) (Or.inl ⟨by rfl, fun W' hW => by have z0 := SD.out W' hW; go_simp⟩) hS ?_
    refine wpAnyH_take (i := 5) (v := .agg #[.int .i64 x2, .int .i64 y2]) rfl (by kernel_rfl) (by kernel_rfl) (by kernel_rfl) (fun _ _ _ h => h) (Or.inl ⟨by rfl, fun W' hW => by have z0 := SD.out W' hW; go_simp⟩) hS ?_
    refine wpAnyH_ready (rs := [2]) (by kernel_rfl) (by simp) ?_
    refine AllReadyH.cons rfl (fun K hK => ?_) AllReadyH.nil
    go_simp
    go_at_call 6
    refine (K01.out _).mono ?_
    rintro e Wa ⟨rfl, hb⟩
    have HOWa := hide (HOd.out.keep hb)
    have HLWa := hide (HLd.out.keep hb)
    have hSWa := SI.out _ HOWa.out
    clear hb
    go_simp
    refine hK.out _ _ hSWa (fun _ => ?_)
    clear hK K
    refine wpAnyH_take (i := 3) (v := .int .i64 e1) rfl (by kernel_rfl) (by kernel_rfl) (by kernel_rfl) (fun _ _ _ h => h) (Or.inl ⟨by rfl, fun W' hW => by go_simp⟩) hSWa ?_
    refine wpAnyH_ready (rs := [6]) (by kernel_rfl) (by simp) ?_
    refine AllReadyH.cons rfl (fun K hK => ?_) AllReadyH.nil
    go_simp
    go_at_call 6
    refine (K02.out _).mono ?_
    rintro e Wb ⟨rfl, hb⟩
    have HOWb := hide (HOWa.out.keep hb)
    have HLWb := hide (HLWa.out.keep hb)
    have hSWb := SI.out _ HOWb.out
    clear hb
    go_simp
    refine hK.out _ _ hSWb (fun _ => ?_)
    clear hK K
    refine wpAnyH_ready (rs := [7]) (by kernel_rfl) (by simp) ?_
    refine AllReadyH.cons rfl (fun K hK => ?_) AllReadyH.nil
    go_simp
    refine hK.out _ _ hSWb (fun _ => ?_)
    clear hK K
    refine wpAnyH_ready (rs := [8]) (by kernel_rfl) (by simp) ?_
    refine AllReadyH.cons rfl (fun K hK => ?_) AllReadyH.nil
    go_simp
    refine hK.out _ _ hSWb (fun _ => ?_)
    clear hK K
    refine wpAnyH_ready (rs := [9]) (by kernel_rfl) (by simp) ?_
    refine AllReadyH.cons rfl (fun K hK => ?_) AllReadyH.nil
    go_simp
    refine hK.out _ _ hSWb (fun _ => ?_)
    clear hK K
    refine wpAnyH_done (by kernel_rfl) ?_ _
    go_upto_region 8 with fail
    have HOe := hide (HOWb.out.keep (Below.refl Wb.heap.size Wb).drew)
    have HLe := hide (HLWb.out.keep (Below.refl Wb.heap.size Wb).drew)
    have hS := SI.out _ HOe.out
    refine wp_region_held_drew (S := S0) (by kernel_rfl) hS (fun _ => ?_)
    refine wpAnyH_take (i := 0) (v := .agg #[.int .i64 0, .int .i64 0]) rfl (by kernel_rfl) (by kernel_rfl) (by kernel_rfl) (fun _ _ _ h => h) (Or.inl ⟨by rfl, fun W' hW => by have z0 := SD.out W' hW; go_simp⟩) hS ?_
    refine wpAnyH_take (i := 1) (v := .agg #[.int .i64 x1, .int .i64 y1]) rfl (by kernel_rfl) (by kernel_rfl) (by kernel_rfl) (fun _ _ _ h => h) (Or.inl ⟨by rfl, fun W' hW => by have z0 := SD.out W' hW; go_simp⟩) hS ?_
    refine wpAnyH_take (i := 3) (v := .agg #[.int .i64 x1, .int .i64 y1]) rfl (by kernel_rfl) (by kernel_rfl) (by kernel_rfl) (fun _ _ _ h => h) (Or.inl ⟨by rfl, fun W' hW => by have z0 := SD.out W' hW; go_simp⟩) hS ?_
    refine wpAnyH_take (i := 4) (v := .agg #[.int .i64 x2, .int .i64 y2]) rfl (by kernel_rfl) (by kernel_rfl) (by kernel_rfl) (fun _ _ _ h => h) (Or.inl ⟨by rfl, fun W' hW => by have z0 := SD.out W' hW; go_simp⟩) hS ?_
    refine wpAnyH_take (i := 7) (v := .agg #[.int .i64 x2, .int .i64 y2]) rfl (by kernel_rfl) (by kernel_rfl) (by kernel_rfl) (fun _ _ _ h => h) (Or.inl ⟨by rfl, fun W' hW => by have z0 := SD.out W' hW; go_simp⟩) hS ?_
    refine wpAnyH_take (i := 8) (v := .agg #[.int .i64 0, .int .i64 0]) rfl (by kernel_rfl) (by kernel_rfl) (by kernel_rfl) (fun _ _ _ h => h) (Or.inl ⟨by rfl, fun W' hW => by have z0 := SD.out W' hW; go_simp⟩) hS ?_
    refine wpAnyH_ready (rs := [2]) (by kernel_rfl) (by simp) ?_
    refine AllReadyH.cons rfl (fun K hK => ?_) AllReadyH.nil
    go_simp
    go_at_call 6
    refine (K01.out _).mono ?_
    rintro e Wc ⟨rfl, hb⟩
    have HOWc := hide (HOe.out.keep hb)
    have HLWc := hide (HLe.out.keep hb)
    have hSWc := SI.out _ HOWc.out
    clear hb
    go_simp
    refine hK.out _ _ hSWc (fun _ => ?_)
    clear hK K
    refine wpAnyH_ready (rs := [5]) (by kernel_rfl) (by simp) ?_
    refine AllReadyH.cons rfl (fun K hK => ?_) AllReadyH.nil
    go_simp
    go_at_call 6
    refine (K12.out _).mono ?_
    rintro e Wf ⟨rfl, hb⟩
    have HOWf := hide (HOWc.out.keep hb)
    have HLWf := hide (HLWc.out.keep hb)
    have hSWf := SI.out _ HOWf.out
    clear hb
    go_simp
    refine hK.out _ _ hSWf (fun _ => ?_)
    clear hK K
    refine wpAnyH_take (i := 6) (v := .int .i64 f1) rfl (by kernel_rfl) (by kernel_rfl) (by kernel_rfl) (fun _ _ _ h => h) (Or.inl ⟨by rfl, fun W' hW => by go_simp⟩) hSWf ?_
    refine wpAnyH_ready (rs := [9]) (by kernel_rfl) (by simp) ?_
    refine AllReadyH.cons rfl (fun K hK => ?_) AllReadyH.nil
    go_simp
    go_at_call 6
    refine (K20.out _).mono ?_
    rintro e Wg ⟨rfl, hb⟩
    have HOWg := hide (HOWf.out.keep hb)
    have HLWg := hide (HLWf.out.keep hb)
    have hSWg := SI.out _ HOWg.out
    clear hb
    go_simp
    refine hK.out _ _ hSWg (fun _ => ?_)
    clear hK K
    refine wpAnyH_ready (rs := [10]) (by kernel_rfl) (by simp) ?_
    refine AllReadyH.cons rfl (fun K hK => ?_) AllReadyH.nil
    go_simp
    refine hK.out _ _ hSWg (fun _ => ?_)
    clear hK K
    refine wpAnyH_ready (rs := [11]) (by kernel_rfl) (by simp) ?_
    refine AllReadyH.cons rfl (fun K hK => ?_) AllReadyH.nil
    go_simp
    refine hK.out _ _ hSWg (fun _ => ?_)
    clear hK K
    refine wpAnyH_done (by kernel_rfl) ?_ _
    have K7 : Hid (∀ (W : World) a c z, intE.Rd W (.slice a 1 c) [z] → Calls Try.prog 7 #[.slice a 1 c, .slice (some ⟨W.heap.size, 0, none⟩) 1 1] (W.alloc (.cells #[.int .i64 z] 3)) fun e w' => e = .returned (.bool true) ∧ ∃ q, w' = (W.alloc (.cells #[.int .i64 z] 3)).drewN q) := hide (fun W a c z h => ints_same a _ c 1 1 [z] _ rfl (h.keep ((Below.refl _ _).alloc (Nat.le_refl _) _)) (int_new W z _ rfl) (by omega))
    have HBz : Hid (∀ (W : World) z q, Below w0.heap.size w0 W → Below w0.heap.size w0 ((W.alloc (.cells #[.int .i64 z] 3)).drewN q)) := hide (fun W z q h => by
      have h1 : Below w0.heap.size w0 (W.alloc (.cells #[.int .i64 z] 3)) := h.alloc h.size _
      exact h1.trans ((below_drewN _ q).mono h1.size))
    rcases Hlc.out with ⟨hlt, rfl, rfl⟩ | ⟨hlt, rfl, rfl⟩
    · clear Hlc
      go_wp2_with (go_at_call 7; refine (K7.out _ _ _ _ HLWg.out).mono ?_; rintro e W9 ⟨rfl, q, rfl⟩)
      go_ret
      exact ⟨rfl, HBz.out _ _ _ HOWg.out.1⟩
    · clear Hlc
      go_wp2_with (go_at_call 7; refine (K7.out _ _ _ _ HLWg.out).mono ?_; rintro e W9 ⟨rfl, q, rfl⟩)
      go_ret
      exact ⟨rfl, HBz.out _ _ _ HOWg.out.1⟩
  · have K5' : Hid (∀ W a1 b1, spE.Rd W (.slice a1 1 1) [(x1, y1)] → spE.Rd W (.slice b1 1 1) [(x2, y2)] → Calls Try.prog 5 #[.slice a1 1 1, .slice b1 1 1] W fun e w' => e = .returned (.tuple #[.slice none 0 0, .int .i64 0, .int .i64 1]) ∧ Below W.heap.size W w') := hide (fun W a1 b1 q1 q2 => (K5.out W a1 b1 q1 q2).mono (by
      rintro e w' ⟨hb, ⟨_, h⟩ | ⟨h1, h2, _⟩⟩
      · exact ⟨h, hb⟩
      · exact absurd ⟨(alw_one _).1 h1, (alw_one _).1 h2⟩ hok))
    go_upto_region 6 with (go_at_call 5; refine (K5'.out _ _ _ HR1.out HR2.out).mono ?_; rintro e W3 ⟨rfl, hb⟩; have HO3 := hide (HO2.out.keep hb); clear hb)
    clear z0 z1 z2 z3 z4 z5 y2' y3' HO1 HO2 HR1 HR2 K5 K5'
    obtain ⟨z0, z1, z2, z3, z4, z5⟩ := HO3.out.2
    have h8 : x1 < 0 ∨ (0 ≤ x1 ∧ x1 > 1000) ∨ (0 ≤ x1 ∧ x1 ≤ 1000 ∧ y1 < 0) ∨ (0 ≤ x1 ∧ x1 ≤ 1000 ∧ 0 ≤ y1 ∧ y1 > 1000) ∨ (0 ≤ x1 ∧ x1 ≤ 1000 ∧ 0 ≤ y1 ∧ y1 ≤ 1000 ∧ x2 < 0) ∨ (0 ≤ x1 ∧ x1 ≤ 1000 ∧ 0 ≤ y1 ∧ y1 ≤ 1000 ∧ 0 ≤ x2 ∧ x2 > 1000) ∨ (0 ≤ x1 ∧ x1 ≤ 1000 ∧ 0 ≤ y1 ∧ y1 ≤ 1000 ∧ 0 ≤ x2 ∧ x2 ≤ 1000 ∧ y2 < 0) ∨ (0 ≤ x1 ∧ x1 ≤ 1000 ∧ 0 ≤ y1 ∧ y1 ≤ 1000 ∧ 0 ≤ x2 ∧ x2 ≤ 1000 ∧ 0 ≤ y2 ∧ y2 > 1000) := by
      unfold In at hok; simp only at hok; omega
    clear hok
    rcases h8 with h | ⟨h1, h⟩ | ⟨h1, h2, h⟩ | ⟨h1, h2, h3, h⟩ | ⟨h1, h2, h3, h4, h⟩ | ⟨h1, h2, h3, h4, h5, h⟩ | ⟨h1, h2, h3, h4, h5, h6, h⟩ | ⟨h1, h2, h3, h4, h5, h6, h7, h⟩
    all_goals
      go_wp2_with fail
      go_ret
      exact ⟨rfl, HO3.out.1⟩
end Go.Proofs.Ytochllbnlnammab
