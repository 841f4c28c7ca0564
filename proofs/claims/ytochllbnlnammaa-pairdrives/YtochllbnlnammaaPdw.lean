/- The law on drives. -/
import Derived.Test.YtochllbnlnammaaPrg
import Derived.Test.YtochllbnlnammaaPdr
namespace Go.Proofs.Ytochllbnlnammaa
open Go.RowKit
set_option linter.unusedVariables false

/-- three spots in boxes -/
def T3 (B : Nat) (x0 y0 x1 y1 x2 y2 : Int) (W : World) : Prop := W.cell? ⟨B, 0, none⟩ = some (.int .i64 x0) ∧ W.cell? ⟨B, 1, none⟩ = some (.int .i64 y0) ∧ W.cell? ⟨B + 1, 0, none⟩ = some (.int .i64 x1) ∧ W.cell? ⟨B + 1, 1, none⟩ = some (.int .i64 y1) ∧ W.cell? ⟨B + 1 + 1, 0, none⟩ = some (.int .i64 x2) ∧ W.cell? ⟨B + 1 + 1, 1, none⟩ = some (.int .i64 y2)
theorem T3.keep {B : Nat} {x0 y0 x1 y1 x2 y2 : Int} {W W' : World} (h : T3 B x0 y0 x1 y1 x2 y2 W) (hb : Below W.heap.size W W') : T3 B x0 y0 x1 y1 x2 y2 W' := by
  obtain ⟨h1, h2, h3, h4, h5, h6⟩ := h
  exact ⟨by rw [hb.cell (cell_lt h1)]; exact h1, by rw [hb.cell (cell_lt h2)]; exact h2, by rw [hb.cell (cell_lt h3)]; exact h3, by rw [hb.cell (cell_lt h4)]; exact h4, by rw [hb.cell (cell_lt h5)]; exact h5, by rw [hb.cell (cell_lt h6)]; exact h6⟩
theorem t3_new (w : World) (x0 y0 x1 y1 x2 y2 : Int) : T3 w.heap.size x0 y0 x1 y1 x2 y2 (((w.alloc (.cells #[.int .i64 x0, .int .i64 y0] 23)).alloc (.cells #[.int .i64 x1, .int .i64 y1] 23)).alloc (.cells #[.int .i64 x2, .int .i64 y2] 23)) := by
  obtain ⟨h1, h2, h3⟩ := heap_new3 w (.cells #[.int .i64 x0, .int .i64 y0] 23) (.cells #[.int .i64 x1, .int .i64 y1] 23) (.cells #[.int .i64 x2, .int .i64 y2] 23)
  exact ⟨(cells_at h1 0).1, (cells_at h1 1).1, (cells_at h2 0).1, (cells_at h2 1).1, (cells_at h3 0).1, (cells_at h3 1).1⟩
theorem Sm.not {x y : Int} (h : ¬ (Sm x ∧ Sm y)) : x < -1073741824 ∨ (-1073741824 ≤ x ∧ x > 1073741824) ∨ (-1073741824 ≤ x ∧ x ≤ 1073741824 ∧ y < -1073741824) ∨ (-1073741824 ≤ x ∧ x ≤ 1073741824 ∧ -1073741824 ≤ y ∧ y > 1073741824) := by unfold Sm at h; omega

/-- the boxes' world, behind the start -/
def Dv (w : World) (B : Nat) (x0 y0 x1 y1 x2 y2 : Int) (W : World) : Prop := T3 B x0 y0 x1 y1 x2 y2 W ∧ Below w.heap.size w W
theorem Dv.keep {w : World} {B : Nat} {x0 y0 x1 y1 x2 y2 : Int} {W W' : World} (h : Dv w B x0 y0 x1 y1 x2 y2 W) (hb : Below W.heap.size W W') : Dv w B x0 y0 x1 y1 x2 y2 W' := ⟨h.1.keep hb, h.2.trans (hb.mono h.2.size)⟩

set_option maxRecDepth 100000 in
set_option maxHeartbeats 4000000 in
theorem drives_walk (x0 y0 x1 y1 x2 y2 : Int) (w : World) : Calls Try.prog 3 #[.agg #[.int .i64 x0, .int .i64 y0], .agg #[.int .i64 x1, .int .i64 y1], .agg #[.int .i64 x2, .int .i64 y2]] w fun e w' => e = .returned (.bool true) ∧ Below w.heap.size w w' := by
  obtain ⟨w0, rfl⟩ : ∃ w0, w0 = w := ⟨_, rfl⟩
  have HD0 : Hid (Dv w0 w0.heap.size x0 y0 x1 y1 x2 y2 (((w0.alloc (.cells #[.int .i64 x0, .int .i64 y0] 23)).alloc (.cells #[.int .i64 x1, .int .i64 y1] 23)).alloc (.cells #[.int .i64 x2, .int .i64 y2] 23))) := hide ⟨t3_new w0 _ _ _ _ _ _, (below_alloc2 w0 _ _).alloc (below_alloc2 w0 _ _).size _⟩
  have f0 : ∀ W, (Instr.index 25 (.agg #[.int .i64 x0, .int .i64 y0, .int .i64 x1, .int .i64 y1, .int .i64 x2, .int .i64 y2]) (.int .i64 0)).run Try.prog W = .ok (.agg #[.int .i64 x0, .int .i64 y0]) W := fun W => by kernel_rfl
  have f1 : ∀ W, (Instr.index 25 (.agg #[.int .i64 x0, .int .i64 y0, .int .i64 x1, .int .i64 y1, .int .i64 x2, .int .i64 y2]) (.int .i64 1)).run Try.prog W = .ok (.agg #[.int .i64 x1, .int .i64 y1]) W := fun W => by kernel_rfl
  have f2 : ∀ W, (Instr.index 25 (.agg #[.int .i64 x0, .int .i64 y0, .int .i64 x1, .int .i64 y1, .int .i64 x2, .int .i64 y2]) (.int .i64 2)).run Try.prog W = .ok (.agg #[.int .i64 x2, .int .i64 y2]) W := fun W => by kernel_rfl
  obtain ⟨B, hB⟩ : ∃ B, w0.heap.size = B := ⟨_, rfl⟩
  rw [hB] at HD0
  have K9 := hide awake_any
  go_enter Try.func3, Try.ntmps3
  go_upto_region 1 with fail
  try rw [hB]
  have HB := hide hB
  clear hB
  generalize (((w0.alloc (Obj.cells #[.int .i64 x0, .int .i64 y0] 23)).alloc (.cells #[.int .i64 x1, .int .i64 y1] 23)).alloc (.cells #[.int .i64 x2, .int .i64 y2] 23)) = W1 at *
  go_upto_region 3 with (go_at_call 9; refine (K9.out _).mono ?_; rintro e W2 ⟨rfl, hb⟩; have HD1 := hide (HD0.out.keep hb); clear hb)
  obtain ⟨z0, z1, z2, z3, z4, z5⟩ := HD1.out.1
  go_upto_region 4 with fail
  clear z0 z1 z2 z3 z4 z5
  go_loopw [16] (fun v16 wr => ∃ k : Nat, v16 = .int .i64 k ∧ k ≤ 3 ∧ Hid (Dv w0 B x0 y0 x1 y1 x2 y2 wr) ∧ Hid ((1 ≤ k → Sm x0 ∧ Sm y0) ∧ (2 ≤ k → Sm x1 ∧ Sm y1) ∧ (3 ≤ k → Sm x2 ∧ Sm y2))) (fun v16 _ => 3 - (intOf v16).toNat)
  case atStart => exact ⟨0, rfl, by omega, HD1, hide ⟨fun h => by omega, fun h => by omega, fun h => by omega⟩⟩
  case round =>
    clear HD0 HD1
    obtain ⟨k, rfl, hk, HD, HS⟩ := hrel
    have HN : Hid (∀ x y, Dv w0 B x0 y0 x1 y1 x2 y2 (wr.alloc (.cells #[.int .i64 x, .int .i64 y] 23))) := hide (fun x y => HD.out.keep ((Below.refl _ _).alloc (Nat.le_refl _) _))
    rcases k with _ | _ | _ | _ | k
    · by_cases hs : Sm x0 ∧ Sm y0
      · have HSn : Hid ((1 ≤ 1 → Sm x0 ∧ Sm y0) ∧ (2 ≤ 1 → Sm x1 ∧ Sm y1) ∧ (3 ≤ 1 → Sm x2 ∧ Sm y2)) := hide ⟨fun _ => hs, fun h => by omega, fun h => by omega⟩
        have hs' := hs
        unfold Sm at hs'
        obtain ⟨⟨q0, q1⟩, q2, q3⟩ := hs'
        clear hs
        go_wp2_with fail
        go_roundw
        case rel => exact ⟨1, rfl, by omega, HN.out _ _, HSn⟩
        case measure => simp [intOf]
      · have h := Sm.not hs
        clear hs
        rcases h with h | ⟨h, h'⟩ | ⟨h, h', h''⟩ | ⟨h, h', h'', hq⟩
        all_goals
          go_wp2_with fail
          go_ret
          exact ⟨rfl, (HN.out _ _).2⟩
    · by_cases hs : Sm x1 ∧ Sm y1
      · have HSn : Hid ((1 ≤ 2 → Sm x0 ∧ Sm y0) ∧ (2 ≤ 2 → Sm x1 ∧ Sm y1) ∧ (3 ≤ 2 → Sm x2 ∧ Sm y2)) := hide ⟨fun _ => HS.out.1 (by omega), fun _ => hs, fun h => by omega⟩
        have hs' := hs
        unfold Sm at hs'
        obtain ⟨⟨q0, q1⟩, q2, q3⟩ := hs'
        clear hs
        go_wp2_with fail
        go_roundw
        case rel => exact ⟨2, rfl, by omega, HN.out _ _, HSn⟩
        case measure => simp [intOf]
      · have h := Sm.not hs
        clear hs
        rcases h with h | ⟨h, h'⟩ | ⟨h, h', h''⟩ | ⟨h, h', h'', hq⟩
        all_goals
          go_wp2_with fail
          go_ret
          exact ⟨rfl, (HN.out _ _).2⟩
    · by_cases hs : Sm x2 ∧ Sm y2
      · have HSn : Hid ((1 ≤ 3 → Sm x0 ∧ Sm y0) ∧ (2 ≤ 3 → Sm x1 ∧ Sm y1) ∧ (3 ≤ 3 → Sm x2 ∧ Sm y2)) := hide ⟨fun _ => HS.out.1 (by omega), fun _ => HS.out.2.1 (by omega), fun _ => hs⟩
        have hs' := hs
        unfold Sm at hs'
        obtain ⟨⟨q0, q1⟩, q2, q3⟩ := hs'
        clear hs
        go_wp2_with fail
        go_roundw
        case rel => exact ⟨3, rfl, by omega, HN.out _ _, HSn⟩
        case measure => simp [intOf]
      · have h := Sm.not hs
        clear hs
        rcases h with h | ⟨h, h'⟩ | ⟨h, h', h''⟩ | ⟨h, h', h'', hq⟩
        all_goals
          go_wp2_with fail
          go_ret
          exact ⟨rfl, (HN.out _ _).2⟩
    · obtain ⟨s1, s2⟩ := HS.out.1 (by omega)
      obtain ⟨s3, s4⟩ := HS.out.2.1 (by omega)
      obtain ⟨s5, s6⟩ := HS.out.2.2 (by omega)
      have K01 := hide (fun W => drive_any x0 y0 x1 y1 W s1 s2 s3 s4)
      have KR := hide (fun W => rdrive_any x0 y0 x1 y1 W s1 s2 s3 s4)
      have K10 := hide (fun W => drive_any x1 y1 x0 y0 W s3 s4 s1 s2)
      have K02 := hide (fun W => drive_any x0 y0 x2 y2 W s1 s2 s5 s6)
      have K21 := hide (fun W => drive_any x2 y2 x1 y1 W s5 s6 s3 s4)
      rw [dr_comm (x1, y1) (x0, y0)] at K10
      have hle := dr_tri (x0, y0) (x1, y1) (x2, y2)
      have h1b := dr_sm (p := (x0, y0)) (q := (x2, y2)) s1 s2 s5 s6
      have h2b := dr_sm (p := (x2, y2)) (q := (x1, y1)) s5 s6 s3 s4
      have hz : ((dr (x0, y0) (x1, y1) == 0) = (x0 == x1 && y0 == y1)) := by
        rw [Bool.eq_iff_iff]; simp [dr_zero]
      generalize dr (x0, y0) (x1, y1) = d at *
      generalize dr (x0, y0) (x2, y2) = d1 at *
      generalize dr (x2, y2) (x1, y1) = d2 at *
      obtain ⟨d12, h12⟩ : ∃ x, d1 + d2 = x := ⟨_, rfl⟩
      have ew : IntKind.i64.wrap (d1 + d2) = d12 := by rw [IntKind.wrap_i64]; omega
      rw [h12] at hle
      obtain ⟨bz, hbz⟩ : ∃ b, (d == 0) = b := ⟨_, rfl⟩
      have hxy : (x0 == x1 && y0 == y1) = bz := by rw [← hz, hbz]
      clear hz h12 h1b h2b s1 s2 s3 s4 s5 s6 HS HN f0 f1 f2
      have SI : Hid (∀ W W', T3 B x0 y0 x1 y1 x2 y2 W → Below W.heap.size W W' → T3 B x0 y0 x1 y1 x2 y2 W') := hide (fun W W' h hb => h.keep hb)
      have SJ : Hid (∀ W, Dv w0 B x0 y0 x1 y1 x2 y2 W → T3 B x0 y0 x1 y1 x2 y2 W) := hide (fun W h => h.1)
      have SD : Hid (∀ W, T3 B x0 y0 x1 y1 x2 y2 W → W.cell? ⟨B, 0, none⟩ = some (.int .i64 x0) ∧ W.cell? ⟨B, 1, none⟩ = some (.int .i64 y0) ∧ W.cell? ⟨B + 1, 0, none⟩ = some (.int .i64 x1) ∧ W.cell? ⟨B + 1, 1, none⟩ = some (.int .i64 y1) ∧ W.cell? ⟨B + 1 + 1, 0, none⟩ = some (.int .i64 x2) ∧ W.cell? ⟨B + 1 + 1, 1, none⟩ = some (.int .i64 y2)) := hide (fun W h => h)
      obtain ⟨S0, hS0⟩ : ∃ S : World → Prop, S = T3 B x0 y0 x1 y1 x2 y2 := ⟨_, rfl⟩
      rw [← hS0] at SI SJ SD
      clear hS0
      obtain ⟨z0, z1, z2, z3, z4, z5⟩ := HD.out.1
      go_upto_region 10 with (go_at_call 10; refine (K01.out _).mono ?_; rintro e W3 ⟨rfl, hb⟩; have HD3 := hide (HD.out.keep hb); clear hb)
      clear z0 z1 z2 z3 z4 z5
      have HD4 := hide (HD3.out.keep (Below.refl W3.heap.size W3).drew)
      have hS := SJ.out _ HD4.out
      refine wp_region_held_drew (S := S0) (by kernel_rfl) hS (fun _ => ?_)
      refine wpAnyH_take (i := 0) (v := .int .i64 d) rfl (by kernel_rfl) (by kernel_rfl) (by kernel_rfl) (fun _ _ _ h => h) (Or.inl ⟨by kernel_rfl, fun W' hW => by go_simp⟩) hS ?_
      refine wpAnyH_take (i := 1) (v := .pointer (some ⟨B, 0, none⟩)) rfl (by kernel_rfl) (by kernel_rfl) (by kernel_rfl) (fun _ _ _ h => h) (Or.inl ⟨by kernel_rfl, fun W' hW => by go_simp⟩) hS ?_
      refine wpAnyH_take (i := 2) (v := .int .i64 x0) rfl (by kernel_rfl) (by kernel_rfl) (by kernel_rfl) (fun _ _ _ h => h) (Or.inl ⟨by kernel_rfl, fun W' hW => by have z0 := SD.out W' hW; go_simp⟩) hS ?_
      refine wpAnyH_take (i := 3) (v := .pointer (some ⟨B, 1, none⟩)) rfl (by kernel_rfl) (by kernel_rfl) (by kernel_rfl) (fun _ _ _ h => h) (Or.inl ⟨by kernel_rfl, fun W' hW => by go_simp⟩) hS ?_
      refine wpAnyH_take (i := 4) (v := .int .i64 y0) rfl (by kernel_rfl) (by kernel_rfl) (by kernel_rfl) (fun _ _ _ h => h) (Or.inl ⟨by kernel_rfl, fun W' hW => by have z0 := SD.out W' hW; go_simp⟩) hS ?_
      refine wpAnyH_take (i := 5) (v := .agg #[.int .i64 x0, .int .i64 y0]) rfl (by kernel_rfl) (by kernel_rfl) (by kernel_rfl) (fun _ _ _ h => h) (Or.inl ⟨by kernel_rfl, fun W' hW => by go_simp⟩) hS ?_
      refine wpAnyH_take (i := 6) (v := .pointer (some ⟨B + 1, 0, none⟩)) rfl (by kernel_rfl) (by kernel_rfl) (by kernel_rfl) (fun _ _ _ h => h) (Or.inl ⟨by kernel_rfl, fun W' hW => by go_simp⟩) hS ?_
      refine wpAnyH_take (i := 7) (v := .int .i64 x1) rfl (by kernel_rfl) (by kernel_rfl) (by kernel_rfl) (fun _ _ _ h => h) (Or.inl ⟨by kernel_rfl, fun W' hW => by have z0 := SD.out W' hW; go_simp⟩) hS ?_
      refine wpAnyH_take (i := 8) (v := .pointer (some ⟨B + 1, 1, none⟩)) rfl (by kernel_rfl) (by kernel_rfl) (by kernel_rfl) (fun _ _ _ h => h) (Or.inl ⟨by kernel_rfl, fun W' hW => by go_simp⟩) hS ?_
      refine wpAnyH_take (i := 9) (v := .int .i64 y1) rfl (by kernel_rfl) (by kernel_rfl) (by kernel_rfl) (fun _ _ _ h => h) (Or.inl ⟨by kernel_rfl, fun W' hW => by have z0 := SD.out W' hW; go_simp⟩) hS ?_
      refine wpAnyH_take (i := 10) (v := .agg #[.int .i64 x1, .int .i64 y1]) rfl (by kernel_rfl) (by kernel_rfl) (by kernel_rfl) (fun _ _ _ h => h) (Or.inl ⟨by kernel_rfl, fun W' hW => by go_simp⟩) hS ?_
      refine wpAnyH_ready (rs := [11]) (by kernel_rfl) (by simp) ?_
      refine AllReadyH.cons rfl (fun K hK => ?_) AllReadyH.nil
      go_simp
      go_at_call 11
      refine (KR.out _).mono ?_
      rintro e Wa ⟨rfl, hb⟩
      have HDWa := hide (HD4.out.keep hb)
      have hSWa := SJ.out _ HDWa.out
      clear hb
      go_simp
      refine hK.out _ _ hSWa (fun _ => ?_)
      clear hK K
      refine wpAnyH_ready (rs := [12]) (by kernel_rfl) (by simp) ?_
      refine AllReadyH.cons rfl (fun K hK => ?_) AllReadyH.nil
      go_simp
      refine hK.out _ _ hSWa (fun _ => ?_)
      clear hK K
      refine wpAnyH_ready (rs := [13]) (by kernel_rfl) (by simp) ?_
      refine AllReadyH.cons rfl (fun K hK => ?_) AllReadyH.nil
      go_simp
      refine hK.out _ _ hSWa (fun _ => ?_)
      clear hK K
      refine wpAnyH_take (i := 14) (v := .int .i64 d) rfl (by kernel_rfl) (by kernel_rfl) (by kernel_rfl) (fun _ _ _ h => h) (Or.inl ⟨by kernel_rfl, fun W' hW => by go_simp⟩) hSWa ?_
      refine wpAnyH_take (i := 15) (v := .agg #[.int .i64 x1, .int .i64 y1]) rfl (by kernel_rfl) (by kernel_rfl) (by kernel_rfl) (fun _ _ _ h => h) (Or.inl ⟨by kernel_rfl, fun W' hW => by have z0 := SD.out W' hW; go_simp⟩) hSWa ?_
      refine wpAnyH_take (i := 16) (v := .agg #[.int .i64 x0, .int .i64 y0]) rfl (by kernel_rfl) (by kernel_rfl) (by kernel_rfl) (fun _ _ _ h => h) (Or.inl ⟨by kernel_rfl, fun W' hW => by have z0 := SD.out W' hW; go_simp⟩) hSWa ?_
      refine wpAnyH_ready (rs := [17]) (by kernel_rfl) (by simp) ?_
      refine AllReadyH.cons rfl (fun K hK => ?_) AllReadyH.nil
      go_simp
      go_at_call 10
      refine (K10.out _).mono ?_
      rintro e Wb ⟨rfl, hb⟩
      have HDWb := hide (HDWa.out.keep hb)
      have hSWb := SJ.out _ HDWb.out
      clear hb
      go_simp
      refine hK.out _ _ hSWb (fun _ => ?_)
      clear hK K
      refine wpAnyH_ready (rs := [18]) (by kernel_rfl) (by simp) ?_
      refine AllReadyH.cons rfl (fun K hK => ?_) AllReadyH.nil
      go_simp
      refine hK.out _ _ hSWb (fun _ => ?_)
      clear hK K
      refine wpAnyH_ready (rs := [19]) (by kernel_rfl) (by simp) ?_
      refine AllReadyH.cons rfl (fun K hK => ?_) AllReadyH.nil
      go_simp
      refine hK.out _ _ hSWb (fun _ => ?_)
      clear hK K
      refine wpAnyH_ready (rs := [20]) (by kernel_rfl) (by simp) ?_
      refine AllReadyH.cons rfl (fun K hK => ?_) AllReadyH.nil
      go_simp
      refine hK.out _ _ hSWb (fun _ => ?_)
      clear hK K
      refine wpAnyH_take (i := 21) (v := .int .i64 d) rfl (by kernel_rfl) (by kernel_rfl) (by kernel_rfl) (fun _ _ _ h => h) (Or.inl ⟨by kernel_rfl, fun W' hW => by go_simp⟩) hSWb ?_
      refine wpAnyH_take (i := 22) (v := .agg #[.int .i64 x0, .int .i64 y0]) rfl (by kernel_rfl) (by kernel_rfl) (by kernel_rfl) (fun _ _ _ h => h) (Or.inl ⟨by kernel_rfl, fun W' hW => by have z0 := SD.out W' hW; go_simp⟩) hSWb ?_
      refine wpAnyH_take (i := 23) (v := .agg #[.int .i64 x2, .int .i64 y2]) rfl (by kernel_rfl) (by kernel_rfl) (by kernel_rfl) (fun _ _ _ h => h) (Or.inl ⟨by kernel_rfl, fun W' hW => by have z0 := SD.out W' hW; go_simp⟩) hSWb ?_
      refine wpAnyH_take (i := 25) (v := .agg #[.int .i64 x2, .int .i64 y2]) rfl (by kernel_rfl) (by kernel_rfl) (by kernel_rfl) (fun _ _ _ h => h) (Or.inl ⟨by kernel_rfl, fun W' hW => by have z0 := SD.out W' hW; go_simp⟩) hSWb ?_
      refine wpAnyH_take (i := 26) (v := .agg #[.int .i64 x1, .int .i64 y1]) rfl (by kernel_rfl) (by kernel_rfl) (by kernel_rfl) (fun _ _ _ h => h) (Or.inl ⟨by kernel_rfl, fun W' hW => by have z0 := SD.out W' hW; go_simp⟩) hSWb ?_
      refine wpAnyH_ready (rs := [24]) (by kernel_rfl) (by simp) ?_
      refine AllReadyH.cons rfl (fun K hK => ?_) AllReadyH.nil
      go_simp
      go_at_call 10
      refine (K02.out _).mono ?_
      rintro e Wc ⟨rfl, hb⟩
      have HDWc := hide (HDWb.out.keep hb)
      have hSWc := SJ.out _ HDWc.out
      clear hb
      go_simp
      refine hK.out _ _ hSWc (fun _ => ?_)
      clear hK K
      refine wpAnyH_ready (rs := [27]) (by kernel_rfl) (by simp) ?_
      refine AllReadyH.cons rfl (fun K hK => ?_) AllReadyH.nil
      go_simp
      go_at_call 10
      refine (K21.out _).mono ?_
      rintro e Wd ⟨rfl, hb⟩
      have HDWd := hide (HDWc.out.keep hb)
      have hSWd := SJ.out _ HDWd.out
      clear hb
      go_simp
      refine hK.out _ _ hSWd (fun _ => ?_)
      clear hK K
      refine wpAnyH_ready (rs := [28]) (by kernel_rfl) (by simp) ?_
      refine AllReadyH.cons rfl (fun K hK => ?_) AllReadyH.nil
      go_simp
      refine hK.out _ _ hSWd (fun _ => ?_)
      clear hK K
      refine wpAnyH_ready (rs := [29]) (by kernel_rfl) (by simp) ?_
      refine AllReadyH.cons rfl (fun K hK => ?_) AllReadyH.nil
      go_simp
      refine hK.out _ _ hSWd (fun _ => ?_)
      clear hK K
      refine wpAnyH_ready (rs := [30]) (by kernel_rfl) (by simp) ?_
      refine AllReadyH.cons rfl (fun K hK => ?_) AllReadyH.nil
      go_simp
      refine hK.out _ _ hSWd (fun _ => ?_)
      clear hK K
      refine wpAnyH_ready (rs := [31]) (by kernel_rfl) (by simp) ?_
      refine AllReadyH.cons rfl (fun K hK => ?_) AllReadyH.nil
      go_simp
      refine hK.out _ _ hSWd (fun _ => ?_)
      clear hK K
      refine wpAnyH_take (i := 32) (v := .int .i64 d) rfl (by kernel_rfl) (by kernel_rfl) (by kernel_rfl) (fun _ _ _ h => h) (Or.inl ⟨by kernel_rfl, fun W' hW => by go_simp⟩) hSWd ?_
      refine wpAnyH_take (i := 33) (v := .bool bz) rfl (by kernel_rfl) (by kernel_rfl) (by kernel_rfl) (fun _ _ _ h => h) (Or.inl ⟨by kernel_rfl, fun W' hW => by go_simp⟩) hSWd ?_
      refine wpAnyH_take (i := 34) (v := .agg #[.int .i64 x0, .int .i64 y0]) rfl (by kernel_rfl) (by kernel_rfl) (by kernel_rfl) (fun _ _ _ h => h) (Or.inl ⟨by kernel_rfl, fun W' hW => by have z0 := SD.out W' hW; go_simp⟩) hSWd ?_
      refine wpAnyH_take (i := 35) (v := .agg #[.int .i64 x1, .int .i64 y1]) rfl (by kernel_rfl) (by kernel_rfl) (by kernel_rfl) (fun _ _ _ h => h) (Or.inl ⟨by kernel_rfl, fun W' hW => by have z0 := SD.out W' hW; go_simp⟩) hSWd ?_
      refine wpAnyH_take (i := 36) (v := .bool bz) rfl (by kernel_rfl) (by kernel_rfl) (by kernel_rfl) (fun _ _ _ h => h) (Or.inl ⟨by kernel_rfl, fun W' hW => by go_simp; rw [← hxy]; by_cases e1 : x0 = x1 <;> by_cases e2 : y0 = y1 <;> simp [e1, e2]⟩) hSWd ?_
      refine wpAnyH_ready (rs := [37]) (by kernel_rfl) (by simp) ?_
      refine AllReadyH.cons rfl (fun K hK => ?_) AllReadyH.nil
      go_simp
      refine hK.out _ _ hSWd (fun _ => ?_)
      clear hK K
      refine wpAnyH_ready (rs := [38]) (by kernel_rfl) (by simp) ?_
      refine AllReadyH.cons rfl (fun K hK => ?_) AllReadyH.nil
      go_simp
      refine hK.out _ _ hSWd (fun _ => ?_)
      clear hK K
      refine wpAnyH_ready (rs := [39]) (by kernel_rfl) (by simp) ?_
      refine AllReadyH.cons rfl (fun K hK => ?_) AllReadyH.nil
      go_simp
      refine hK.out _ _ hSWd (fun _ => ?_)
      clear hK K
      refine wpAnyH_done (by kernel_rfl) ?_ _
      go_wp2_with fail
      go_ret
      exact ⟨rfl, HDWd.out.2⟩
    · omega
end Go.Proofs.Ytochllbnlnammaa
