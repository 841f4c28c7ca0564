/- The law on one job more. -/
import Derived.Test.YtochllbnlnammaaPtw
namespace Go.Proofs.Ytochllbnlnammaa
open Go.RowKit
set_option linter.unusedVariables false

set_option maxRecDepth 100000 in
theorem apart_tot (a b : Int) : ∃ z, ∀ w, Calls Try.prog 21 #[.int .i64 a, .int .i64 b] w fun e w' => e = .returned (.int .i64 z) ∧ w' = w := by
  refine ⟨max (wrap64 (a - b)) (wrap64 (b - a)), fun w => ?_⟩
  go_enter Try.func21, Try.ntmps21
  go_wp2_with fail
  go_ret
  exact ⟨rfl, rfl⟩

set_option maxRecDepth 100000 in
set_option maxHeartbeats 2000000 in
theorem drive_of (x1 y1 x2 y2 dx dy : Int) (w : World) (k1 : ∀ W, Calls Try.prog 21 #[.int .i64 x1, .int .i64 x2] W fun e w' => e = .returned (.int .i64 dx) ∧ w' = W) (k2 : ∀ W, Calls Try.prog 21 #[.int .i64 y1, .int .i64 y2] W fun e w' => e = .returned (.int .i64 dy) ∧ w' = W) : Calls Try.prog 10 #[.agg #[.int .i64 x1, .int .i64 y1], .agg #[.int .i64 x2, .int .i64 y2]] w fun e w' => e = .returned (.int .i64 (max dx dy)) ∧ Below w.heap.size w w' := by
  have K1 := hide k1
  have K2 := hide k2
  clear k1 k2
  have HB := hide (below_alloc2 w (.cells #[.int .i64 x1, .int .i64 y1] 23) (.cells #[.int .i64 x2, .int .i64 y2] 23))
  have HT := hide (two_new w x1 y1 x2 y2 23)
  obtain ⟨g, hg⟩ : ∃ g, w.heap.size = g := ⟨_, rfl⟩
  rw [hg] at HT
  have SI : Hid (∀ W, Two g x1 y1 x2 y2 W → Two g x1 y1 x2 y2 W.drew) := hide (fun W h => h)
  have SD : Hid (∀ W, Two g x1 y1 x2 y2 W → W.cell? ⟨g, 0, none⟩ = some (.int .i64 x1) ∧ W.cell? ⟨g, 1, none⟩ = some (.int .i64 y1) ∧ W.cell? ⟨g + 1, 0, none⟩ = some (.int .i64 x2) ∧ W.cell? ⟨g + 1, 1, none⟩ = some (.int .i64 y2)) := hide (fun W h => h)
  obtain ⟨S0, hS0⟩ : ∃ S : World → Prop, S = Two g x1 y1 x2 y2 := ⟨_, rfl⟩
  rw [← hS0] at SI SD HT
  clear hS0
  go_enter Try.func10, Try.ntmps10
  go_upto_region 1 with fail
  try rw [hg]
  generalize ((w.alloc (Obj.cells #[Value.int IntKind.i64 x1, Value.int IntKind.i64 y1] 23)).alloc (Obj.cells #[Value.int IntKind.i64 x2, Value.int IntKind.i64 y2] 23)) = W at *
  have HBd : Hid (Below w.heap.size w W.drew) := hide HB.out.drew
  clear hg
  have hS := SI.out _ HT.out
  refine wp_region_held_drew (S := S0) (by kernel_rfl) hS (fun _ => ?_)
  refine wpAnyH_take (i := 0) (v := .pointer (some ⟨g, 0, none⟩)) rfl (by kernel_rfl) (by kernel_rfl) (by kernel_rfl) (fun _ _ _ h => h) (Or.inl ⟨by rfl, fun W' hW => by go_simp⟩) hS ?_
  refine wpAnyH_take (i := 1) (v := .int .i64 x1) rfl (by kernel_rfl) (by kernel_rfl) (by kernel_rfl) (fun _ _ _ h => h) (Or.inl ⟨by rfl, fun W' hW => by have z0 := SD.out W' hW; go_simp⟩) hS ?_
  refine wpAnyH_take (i := 2) (v := .pointer (some ⟨g + 1, 0, none⟩)) rfl (by kernel_rfl) (by kernel_rfl) (by kernel_rfl) (fun _ _ _ h => h) (Or.inl ⟨by rfl, fun W' hW => by go_simp⟩) hS ?_
  refine wpAnyH_take (i := 3) (v := .int .i64 x2) rfl (by kernel_rfl) (by kernel_rfl) (by kernel_rfl) (fun _ _ _ h => h) (Or.inl ⟨by rfl, fun W' hW => by have z0 := SD.out W' hW; go_simp⟩) hS ?_
  refine wpAnyH_take (i := 5) (v := .pointer (some ⟨g, 1, none⟩)) rfl (by kernel_rfl) (by kernel_rfl) (by kernel_rfl) (fun _ _ _ h => h) (Or.inl ⟨by rfl, fun W' hW => by go_simp⟩) hS ?_
  refine wpAnyH_take (i := 6) (v := .int .i64 y1) rfl (by kernel_rfl) (by kernel_rfl) (by kernel_rfl) (fun _ _ _ h => h) (Or.inl ⟨by rfl, fun W' hW => by have z0 := SD.out W' hW; go_simp⟩) hS ?_
  refine wpAnyH_take (i := 7) (v := .pointer (some ⟨g + 1, 1, none⟩)) rfl (by kernel_rfl) (by kernel_rfl) (by kernel_rfl) (fun _ _ _ h => h) (Or.inl ⟨by rfl, fun W' hW => by go_simp⟩) hS ?_
  refine wpAnyH_take (i := 8) (v := .int .i64 y2) rfl (by kernel_rfl) (by kernel_rfl) (by kernel_rfl) (fun _ _ _ h => h) (Or.inl ⟨by rfl, fun W' hW => by have z0 := SD.out W' hW; go_simp⟩) hS ?_
  refine wpAnyH_ready (rs := [4]) (by kernel_rfl) (by simp) ?_
  refine AllReadyH.cons rfl (fun K hK => ?_) AllReadyH.nil
  go_simp
  go_at_call 21
  refine (K1.out _).mono ?_
  rintro e W4 ⟨rfl, rfl⟩
  go_simp
  refine hK.out _ _ hS (fun _ => ?_)
  clear hK K
  refine wpAnyH_ready (rs := [9]) (by kernel_rfl) (by simp) ?_
  refine AllReadyH.cons rfl (fun K hK => ?_) AllReadyH.nil
  go_simp
  go_at_call 21
  refine (K2.out _).mono ?_
  rintro e W4 ⟨rfl, rfl⟩
  go_simp
  refine hK.out _ _ hS (fun _ => ?_)
  clear hK K
  refine wpAnyH_ready (rs := [10]) (by kernel_rfl) (by simp) ?_
  refine AllReadyH.cons rfl (fun K hK => ?_) AllReadyH.nil
  go_simp
  refine hK.out _ _ hS (fun _ => ?_)
  clear hK K
  refine wpAnyH_ready (rs := [11]) (by kernel_rfl) (by simp) ?_
  refine AllReadyH.cons rfl (fun K hK => ?_) AllReadyH.nil
  go_simp
  refine hK.out _ _ hS (fun _ => ?_)
  clear hK K
  refine wpAnyH_done (by kernel_rfl) ?_ _
  go_wp2_with fail
  all_goals
    go_ret
    exact ⟨rfl, HBd.out⟩

theorem drive_tot (x1 y1 x2 y2 : Int) : ∃ z, ∀ w, Calls Try.prog 10 #[.agg #[.int .i64 x1, .int .i64 y1], .agg #[.int .i64 x2, .int .i64 y2]] w fun e w' => e = .returned (.int .i64 z) ∧ Below w.heap.size w w' := by
  obtain ⟨dx, k1⟩ := apart_tot x1 x2
  obtain ⟨dy, k2⟩ := apart_tot y1 y2
  exact ⟨_, fun w => drive_of x1 y1 x2 y2 dx dy w k1 k2⟩

theorem tot_pos2 (L : List (Int × Int)) : 0 ≤ tot L := by
  induction L with
  | nil => simp [tot]
  | cons p L ih =>
    have e : tot (p :: L) = 2 * dr (0, 0) p + tot L := rfl
    have hd : 0 ≤ dr (0, 0) p := by unfold dr ad; (repeat' split) <;> omega
    omega
theorem mxs_tot (L M : List (Int × Int)) : mxs L M ≤ tot L := by
  have h : ∀ K : List (Int × Int), mxs (L.take K.length) M ≤ mxs (L.take K.length) M := fun _ => Int.le_refl _
  clear h
  have step : ∀ n, n ≤ L.length → mxs (L.take n) M ≤ tot (L.take n) := by
    intro n
    induction n with
    | zero => intro _; simp [mxs, tp, tot]
    | succ n ih =>
      intro hn
      have h1 := List.getElem?_eq_getElem (show n < L.length by omega)
      have e : L.take (n + 1) = L.take n ++ [L[n]] := by rw [List.take_add_one, h1]; rfl
      have h2 := (mxs_more (L.take n) M L[n]).2
      have h3 := ih (by omega)
      rw [e, tot_app, tot_one]
      unfold alo
      omega
  have := step L.length (Nat.le_refl _)
  rwa [List.take_length] at this

/-- the world of the law: the job in a box -/
def Mb (w : World) (g : Nat) (x y : Int) (W : World) : Prop := Below w.heap.size w W ∧ W.cell? ⟨g, 0, none⟩ = some (.int .i64 x) ∧ W.cell? ⟨g, 1, none⟩ = some (.int .i64 y)
theorem Mb.keep {w : World} {g : Nat} {x y : Int} {W W' : World} (h : Mb w g x y W) (hb : Below W.heap.size W W') : Mb w g x y W' :=
  ⟨h.1.trans (hb.mono h.1.size), by rw [hb.cell (cell_lt h.2.1)]; exact h.2.1, by rw [hb.cell (cell_lt h.2.2)]; exact h.2.2⟩
theorem alw_app {L : List (Int × Int)} {p : Int × Int} (h : Alw (L ++ [p])) : In p := h.2 p (by simp)

set_option maxRecDepth 100000 in
set_option maxHeartbeats 6000000 in
theorem more_walk (a : Option Addr) (n c : Nat) (L : List (Int × Int)) (b : Option Addr) (m d : Nat) (M : List (Int × Int)) (x y : Int) (w : World) (hn : L.length = n) (hv : spE.Rd w (.slice a n c) L) (q1 : n * 16 ≤ 140737488351232) (hm : M.length = m) (hu : spE.Rd w (.slice b m d) M) (q2 : m * 16 ≤ 140737488351232) :
    Calls Try.prog 8 #[.slice a n c, .slice b m d, .agg #[.int .i64 x, .int .i64 y]] w fun e w' => e = .returned (.bool true) ∧ Below w.heap.size w w' := by
  obtain ⟨w0, rfl⟩ : ∃ w0, w0 = w := ⟨_, rfl⟩
  have K9 := hide awake_any
  have x1 : (n : Int) ≤ 140737488351232 := by omega
  have x2 : (m : Int) ≤ 140737488351232 := by omega
  have e1 : wrap64 ((n : Int) + (m : Int)) = (n : Int) + (m : Int) := by unfold wrap64; omega
  have HM0 : Hid (Mb w0 w0.heap.size x y (w0.alloc (.cells #[.int .i64 x, .int .i64 y] 23))) := hide ⟨(Below.refl _ _).alloc (Nat.le_refl _) _, (cells_at (heap_new _ _) 0).1, (cells_at (heap_new _ _) 1).1⟩
  obtain ⟨g, hg⟩ : ∃ g, w0.heap.size = g := ⟨_, rfl⟩
  rw [hg] at HM0
  by_cases hbig : (n : Int) + (m : Int) > 100
  · clear hn hv hm hu q1 q2
    go_enter Try.func8, Try.ntmps8
    go_upto_region 1 with fail
    generalize w0.alloc (.cells #[.int .i64 x, .int .i64 y] 23) = W0 at *
    go_wp2_with (first
      | (go_at_call 9; refine (K9.out _).mono ?_; rintro e W1 ⟨rfl, hb⟩; first | (have HB2 := hide (HB1.out.keep hb); clear hb) | (have HB1 := hide (HM0.out.keep hb); clear hb)))
    go_ret
    exact ⟨rfl, HB2.out.1⟩
  have i0 : (n : Int) ≤ 100 := by omega
  have i1 : (m : Int) ≤ 100 := by omega
  have KA : Hid (∀ W, Below w0.heap.size w0 W → Calls Try.prog 13 #[.slice a n c] W fun e w' => ∃ g c', e = .returned (.slice g n c') ∧ spE.Own w' W.heap.size (.slice g n c') L ∧ Below W.heap.size W w') := hide (fun W h => own_any a n c L W hn (by omega) (hv.keep h))
  have KB : Hid (∀ W, Below w0.heap.size w0 W → Calls Try.prog 13 #[.slice b m d] W fun e w' => ∃ g c', e = .returned (.slice g m c') ∧ spE.Own w' W.heap.size (.slice g m c') M ∧ Below W.heap.size W w') := hide (fun W h => own_any b m d M W hm (by omega) (hu.keep h))
  have hl1 : (L ++ [(x, y)]).length = n + 1 := by rw [List.length_append, hn]; rfl
  have hl2 : (M ++ [(x, y)]).length = m + 1 := by rw [List.length_append, hm]; rfl
  have K16 : Hid (∀ W a1 c1 b1 d1, spE.Rd W (.slice a1 n c1) L → spE.Rd W (.slice b1 m d1) M → _) := hide (fun W a1 c1 b1 d1 h1 h2 => best_tell a1 b1 n c1 m d1 L M W hn hm h1 h2)
  have K16a : Hid (∀ W a1 c1 b1 d1, spE.Rd W (.slice a1 (n + 1) c1) (L ++ [(x, y)]) → spE.Rd W (.slice b1 m d1) M → _) := hide (fun W a1 c1 b1 d1 h1 h2 => best_tell a1 b1 (n + 1) c1 m d1 (L ++ [(x, y)]) M W hl1 hm h1 h2)
  have K16b : Hid (∀ W a1 c1 b1 d1, spE.Rd W (.slice a1 n c1) L → spE.Rd W (.slice b1 (m + 1) d1) (M ++ [(x, y)]) → _) := hide (fun W a1 c1 b1 d1 h1 h2 => best_tell a1 b1 n c1 (m + 1) d1 L (M ++ [(x, y)]) W hn hl2 h1 h2)
  have Hl1 := hide hl1
  have Hl2 := hide hl2
  have HLa : Hid (L.length + [(x, y)].length ≤ 1000000) := hide (by rw [hn]; simp; omega)
  have HLb : Hid (M.length + [(x, y)].length ≤ 1000000) := hide (by rw [hm]; simp; omega)
  obtain ⟨n1, hn1⟩ : ∃ z, (if Alw L ∧ Alw M then cst L M (bst L M) else 0) = z := ⟨_, rfl⟩
  obtain ⟨c1, hc1⟩ : ∃ z : Int, (if Alw L ∧ Alw M then (0 : Int) else 1) = z := ⟨_, rfl⟩
  obtain ⟨n2, hn2⟩ : ∃ z, (if Alw (L ++ [(x, y)]) ∧ Alw M then cst (L ++ [(x, y)]) M (bst (L ++ [(x, y)]) M) else 0) = z := ⟨_, rfl⟩
  obtain ⟨c2, hc2⟩ : ∃ z : Int, (if Alw (L ++ [(x, y)]) ∧ Alw M then (0 : Int) else 1) = z := ⟨_, rfl⟩
  obtain ⟨n3, hn3⟩ : ∃ z, (if Alw L ∧ Alw (M ++ [(x, y)]) then cst L (M ++ [(x, y)]) (bst L (M ++ [(x, y)])) else 0) = z := ⟨_, rfl⟩
  obtain ⟨c3, hc3⟩ : ∃ z : Int, (if Alw L ∧ Alw (M ++ [(x, y)]) then (0 : Int) else 1) = z := ⟨_, rfl⟩
  have Hf1 : Hid (c1 = 0 → 0 ≤ n1 ∧ n1 ≤ 100000) := hide (fun h => by
    by_cases hp : Alw L ∧ Alw M
    · rw [← hn1, if_pos hp, cst_bst]
      have h3 := tot_bd hp.1.2
      have h4 := tot_bd hp.2.2
      have h5 := hp.1.1
      have h6 := hp.2.1
      have h7 := tp_bd (sg L M) M.length L.length 2000 (by omega) (fun s g _ _ => (sg_bd hp.1 hp.2 s g).2) L.length (2 ^ M.length - 1) (Nat.le_refl _)
      have h8 := cst_least (ps := List.replicate L.length (-1)) (L := L) (M := M) ⟨List.length_replicate, fun z hz => by rw [(List.mem_replicate.1 hz).2]; omega⟩ (nod_none [] _)
      have h9 : mxs L M ≤ tot L := mxs_tot L M
      have h10 := tot_pos2 M
      unfold mxs at h9 ⊢
      omega
    · rw [← hc1, if_neg hp] at h; cases h)
  have Hf2 : Hid (c1 = 0 → c2 = 0 → In (x, y) ∧ n1 ≤ n2 ∧ n2 ≤ n1 + 2 * dr (0, 0) (x, y)) := hide (fun h h' => by
    by_cases hp : Alw L ∧ Alw M
    · by_cases hp' : Alw (L ++ [(x, y)]) ∧ Alw M
      · rw [← hn1, ← hn2, if_pos hp, if_pos hp']
        exact ⟨alw_app hp'.1, (cst_more L M (x, y)).1, (cst_more L M (x, y)).2⟩
      · rw [← hc2, if_neg hp'] at h'; cases h'
    · rw [← hc1, if_neg hp] at h; cases h)
  have Hf3 : Hid (c1 = 0 → c3 = 0 → In (x, y) ∧ n1 ≤ n3 ∧ n3 ≤ n1 + 2 * dr (0, 0) (x, y)) := hide (fun h h' => by
    by_cases hp : Alw L ∧ Alw M
    · by_cases hp' : Alw L ∧ Alw (M ++ [(x, y)])
      · rw [← hn1, ← hn3, if_pos hp, if_pos hp']
        exact ⟨alw_app hp'.2, (cst_more' L M (x, y)).1, (cst_more' L M (x, y)).2⟩
      · rw [← hc3, if_neg hp'] at h'; cases h'
    · rw [← hc1, if_neg hp] at h; cases h)
  simp only [hn1, hc1] at K16
  simp only [hn2, hc2] at K16a
  simp only [hn3, hc3] at K16b
  clear hn hv hm hu q1 q2 x1 x2 hl1 hl2 hn1 hc1 hn2 hc2 hn3 hc3
  go_enter Try.func8, Try.ntmps8
  go_upto_region 1 with fail
  try rw [hg]
  generalize w0.alloc (.cells #[.int .i64 x, .int .i64 y] 23) = W0 at *
  clear hg
  go_upto_region 3 with (go_at_call 9; refine (K9.out _).mono ?_; rintro e W1 ⟨rfl, hb⟩; have HW := hide (HM0.out.keep hb); clear hb)
  clear e1 HM0
  go_upto_region 4 with (first
    | (go_at_call_of 13 (Value.slice a n c); refine (KA.out _ HW.out.1).mono ?_; rintro e W2 ⟨ga, ca, rfl, ho, hb⟩; have HA := hide ho.rd; have HW := hide (HW.out.keep hb); clear ho hb)
    | (go_at_call_of 13 (Value.slice b m d); refine (KB.out _ HW.out.1).mono ?_; rintro e W3 ⟨gb, cb, rfl, ho, hb⟩; have HA := hide (HA.out.keep hb); have HG := hide ho.rd; have HW := hide (HW.out.keep hb); clear ho hb)
    | (go_at_call 16; refine (K16.out _ _ _ _ _ HA.out HG.out).mono ?_; rintro e W4 ⟨v4, rfl, hb⟩; have HW := hide (HW.out.keep hb); clear hb))
  clear HA HG
  go_cut [10, 11, 12] (fun v10 v11 v12 wy => v11 = .int .i64 n2 ∧ v12 = .int .i64 c2 ∧ Hid (Mb w0 g x y wy))
  case first =>
    obtain ⟨Wd, hWd⟩ : ∃ Wd, W4.drew = Wd := ⟨_, rfl⟩
    have HWd : Hid (Mb w0 g x y Wd) := hide (by rw [← hWd]; exact HW.out.keep (Below.refl _ _).drew)
    have SI : Hid (∀ W, Below Wd.heap.size Wd W → Mb w0 g x y W) := hide (fun W h => HWd.out.keep h)
    have SD : Hid (∀ W, Mb w0 g x y W → W.cell? ⟨g, 0, none⟩ = some (.int .i64 x) ∧ W.cell? ⟨g, 1, none⟩ = some (.int .i64 y)) := hide (fun W h => h.2)
    have SB : Hid (∀ W, Below Wd.heap.size Wd W → Below w0.heap.size w0 W) := hide (fun W h => (HWd.out.keep h).1)
    have SF : Hid (∀ W, Below Wd.heap.size Wd W → Hid (Mb w0 g x y W)) := hide (fun W h => hide (HWd.out.keep h))
    obtain ⟨S0, hS0⟩ : ∃ S : World → Prop, S = Mb w0 g x y := ⟨_, rfl⟩
    have SI : Hid (∀ W, Below Wd.heap.size Wd W → S0 W) := hide (fun W h => by rw [hS0]; exact SI.out W h)
    have SD : Hid (∀ W, S0 W → W.cell? ⟨g, 0, none⟩ = some (.int .i64 x) ∧ W.cell? ⟨g, 1, none⟩ = some (.int .i64 y)) := hide (fun W h => by rw [hS0] at h; exact SD.out W h)
    have HXd := hide (Below.refl Wd.heap.size Wd)
    have hS := SI.out _ HXd.out
    clear hS0
    refine wp_region_held_drew (S := S0) (by kernel_rfl) (by rw [hWd]; exact hS) (fun _ => ?_)
    rw [hWd]
    clear hWd
    refine wpAnyH_take (i := 0) (v := .slice a n c) rfl (by kernel_rfl) (by kernel_rfl) (by kernel_rfl) (fun _ _ _ h => h) (Or.inl ⟨by rfl, fun W' hW => by go_simp⟩) hS ?_
    refine wpAnyH_take (i := 2) (v := .agg #[.int .i64 x, .int .i64 y]) rfl (by kernel_rfl) (by kernel_rfl) (by kernel_rfl) (fun _ _ _ h => h) (Or.inl ⟨by rfl, fun W' hW => by have z0 := SD.out W' hW; go_simp⟩) hS ?_
    refine wpAnyH_take (i := 5) (v := .slice b m d) rfl (by kernel_rfl) (by kernel_rfl) (by kernel_rfl) (fun _ _ _ h => h) (Or.inl ⟨by rfl, fun W' hW => by go_simp⟩) hS ?_
    refine wpAnyH_ready (rs := [1, 3]) (by kernel_rfl) (by simp) ?_
    refine AllReadyH.cons rfl (fun K hK => ?_) (AllReadyH.cons rfl (fun K hK => ?_) AllReadyH.nil)
    · go_simp
      go_at_call 13
      refine (KA.out _ (SB.out _ HXd.out)).mono ?_
      rintro e W1 ⟨ga, ca, rfl, ho, hb⟩
      have HOa := hide ho
      have HXW1 := hide (HXd.out.trans (hb.mono HXd.out.size))
      have HsW1 := hide hb.size
      have HOa := hide (ho.mono (Nat.le_refl _))
      clear ho hb
      go_simp
      refine hK.out _ _ (SI.out _ HXW1.out) (fun _ => ?_)
      clear hK K
      refine wpAnyH_ready (rs := [3]) (by kernel_rfl) (by simp) ?_
      refine AllReadyH.cons rfl (fun K hK => ?_) AllReadyH.nil
      go_simp
      have HXWc : Hid (Below Wd.heap.size Wd (W1.alloc (.cells #[.int .i64 x, .int .i64 y] 23))) := hide (HXW1.out.alloc HXW1.out.size _)
      have HbWc : Hid (Below W1.heap.size W1 (W1.alloc (.cells #[.int .i64 x, .int .i64 y] 23))) := hide ((Below.refl _ _).alloc (Nat.le_refl _) _)
      have HR : Hid (spE.Rd (W1.alloc (.cells #[.int .i64 x, .int .i64 y] 23)) (.slice (some ⟨W1.heap.size, 0, none⟩) 1 1) [(x, y)]) := hide (sp_new W1 _ [(x, y)] rfl (by simp) _ 1 rfl rfl)
      have HOa := hide (HOa.out.keep HbWc.out)
      generalize W1.alloc (.cells #[.int .i64 x, .int .i64 y] 23) = Wc at *
      refine hK.out _ _ (SI.out _ HXWc.out) (fun _ => ?_)
      clear hK K
      refine wpAnyH_ready (rs := [4]) (by kernel_rfl) (by simp) ?_
      refine AllReadyH.cons rfl (fun K hK => ?_) AllReadyH.nil
      refine spE.step (w0 := Wd) HXWc.out rfl _ _ rfl _ _ rfl rfl L [(x, y)] HOa.out HR.out HLa.out ?_
      intro v4' W5 ho _ _ hb
      obtain ⟨a5, c5, e5⟩ := ho.rd.form
      rw [Hl1.out] at e5
      subst e5
      have HXW5 := hide hb
      have HS5 := hide ho.rd
      clear ho hb
      refine hK.out _ _ (SI.out _ HXW5.out) (fun _ => ?_)
      clear hK K
      refine wpAnyH_ready (rs := [6]) (by kernel_rfl) (by simp) ?_
      refine AllReadyH.cons rfl (fun K hK => ?_) AllReadyH.nil
      go_simp
      go_at_call 13
      refine (KB.out _ (SB.out _ HXW5.out)).mono ?_
      rintro e W6 ⟨gb, cb, rfl, ho, hb⟩
      have HOb := hide ho
      have HXW6 := hide (HXW5.out.trans (hb.mono HXW5.out.size))
      have HsW6 := hide hb.size
      have HS6 := hide (HS5.out.keep hb)
      have HG6 := hide ho.rd
      clear ho hb
      go_simp
      refine hK.out _ _ (SI.out _ HXW6.out) (fun _ => ?_)
      clear hK K
      refine wpAnyH_ready (rs := [7]) (by kernel_rfl) (by simp) ?_
      refine AllReadyH.cons rfl (fun K hK => ?_) AllReadyH.nil
      go_simp
      go_at_call 16
      refine (K16a.out _ _ _ _ _ HS6.out HG6.out).mono ?_
      rintro e W7 ⟨v7, rfl, hb⟩
      have HXW7 := hide (HXW6.out.trans (hb.mono HXW6.out.size))
      clear hb
      go_simp
      refine hK.out _ _ (SI.out _ HXW7.out) (fun _ => ?_)
      clear hK K
      refine wpAnyH_ready (rs := [8]) (by kernel_rfl) (by simp) ?_
      refine AllReadyH.cons rfl (fun K hK => ?_) AllReadyH.nil
      go_simp
      refine hK.out _ _ (SI.out _ HXW7.out) (fun _ => ?_)
      clear hK K
      refine wpAnyH_take (i := 9) (v := v7) rfl (by kernel_rfl) (by kernel_rfl) (by kernel_rfl) (fun _ _ _ h => h) (Or.inl ⟨by rfl, fun W' hW => by go_simp⟩) (SI.out _ HXW7.out) ?_
      refine wpAnyH_take (i := 10) (v := .int .i64 n2) rfl (by kernel_rfl) (by kernel_rfl) (by kernel_rfl) (fun _ _ _ h => h) (Or.inl ⟨by rfl, fun W' hW => by go_simp⟩) (SI.out _ HXW7.out) ?_
      refine wpAnyH_take (i := 11) (v := .int .i64 c2) rfl (by kernel_rfl) (by kernel_rfl) (by kernel_rfl) (fun _ _ _ h => h) (Or.inl ⟨by rfl, fun W' hW => by go_simp⟩) (SI.out _ HXW7.out) ?_
      refine wpAnyH_ready (rs := [12]) (by kernel_rfl) (by simp) ?_
      refine AllReadyH.cons rfl (fun K hK => ?_) AllReadyH.nil
      go_simp
      refine hK.out _ _ (SI.out _ HXW7.out) (fun _ => ?_)
      clear hK K
      refine wpAnyH_ready (rs := [13]) (by kernel_rfl) (by simp) ?_
      refine AllReadyH.cons rfl (fun K hK => ?_) AllReadyH.nil
      go_simp
      refine hK.out _ _ (SI.out _ HXW7.out) (fun _ => ?_)
      clear hK K
      refine wpAnyH_ready (rs := [14]) (by kernel_rfl) (by simp) ?_
      refine AllReadyH.cons rfl (fun K hK => ?_) AllReadyH.nil
      go_simp
      refine hK.out _ _ (SI.out _ HXW7.out) (fun _ => ?_)
      clear hK K
      refine wpAnyH_done (by kernel_rfl) ?_ _
      go_wp2_with fail
      go_meet
      exact ⟨rfl, rfl, SF.out _ HXW7.out⟩
    · go_simp
      have HXWc : Hid (Below Wd.heap.size Wd (Wd.alloc (.cells #[.int .i64 x, .int .i64 y] 23))) := hide (HXd.out.alloc HXd.out.size _)
      have HbWc : Hid (Below Wd.heap.size Wd (Wd.alloc (.cells #[.int .i64 x, .int .i64 y] 23))) := hide ((Below.refl _ _).alloc (Nat.le_refl _) _)
      have HR : Hid (spE.Rd (Wd.alloc (.cells #[.int .i64 x, .int .i64 y] 23)) (.slice (some ⟨Wd.heap.size, 0, none⟩) 1 1) [(x, y)]) := hide (sp_new Wd _ [(x, y)] rfl (by simp) _ 1 rfl rfl)
      generalize Wd.alloc (.cells #[.int .i64 x, .int .i64 y] 23) = Wc at *
      refine hK.out _ _ (SI.out _ HXWc.out) (fun _ => ?_)
      clear hK K
      refine wpAnyH_ready (rs := [1]) (by kernel_rfl) (by simp) ?_
      refine AllReadyH.cons rfl (fun K hK => ?_) AllReadyH.nil
      go_simp
      go_at_call 13
      refine (KA.out _ (SB.out _ HXWc.out)).mono ?_
      rintro e W1 ⟨ga, ca, rfl, ho, hb⟩
      have HOa := hide ho
      have HXW1 := hide (HXWc.out.trans (hb.mono HXWc.out.size))
      have HsW1 := hide hb.size
      have HOa := hide (ho.mono HXWc.out.size)
      have HR := hide (HR.out.keep hb)
      clear ho hb
      go_simp
      refine hK.out _ _ (SI.out _ HXW1.out) (fun _ => ?_)
      clear hK K
      refine wpAnyH_ready (rs := [4]) (by kernel_rfl) (by simp) ?_
      refine AllReadyH.cons rfl (fun K hK => ?_) AllReadyH.nil
      refine spE.step (w0 := Wd) HXW1.out rfl _ _ rfl _ _ rfl rfl L [(x, y)] HOa.out HR.out HLa.out ?_
      intro v4' W5 ho _ _ hb
      obtain ⟨a5, c5, e5⟩ := ho.rd.form
      rw [Hl1.out] at e5
      subst e5
      have HXW5 := hide hb
      have HS5 := hide ho.rd
      clear ho hb
      refine hK.out _ _ (SI.out _ HXW5.out) (fun _ => ?_)
      clear hK K
      refine wpAnyH_ready (rs := [6]) (by kernel_rfl) (by simp) ?_
      refine AllReadyH.cons rfl (fun K hK => ?_) AllReadyH.nil
      go_simp
      go_at_call 13
      refine (KB.out _ (SB.out _ HXW5.out)).mono ?_
      rintro e W6 ⟨gb, cb, rfl, ho, hb⟩
      have HOb := hide ho
      have HXW6 := hide (HXW5.out.trans (hb.mono HXW5.out.size))
      have HsW6 := hide hb.size
      have HS6 := hide (HS5.out.keep hb)
      have HG6 := hide ho.rd
      clear ho hb
      go_simp
      refine hK.out _ _ (SI.out _ HXW6.out) (fun _ => ?_)
      clear hK K
      refine wpAnyH_ready (rs := [7]) (by kernel_rfl) (by simp) ?_
      refine AllReadyH.cons rfl (fun K hK => ?_) AllReadyH.nil
      go_simp
      go_at_call 16
      refine (K16a.out _ _ _ _ _ HS6.out HG6.out).mono ?_
      rintro e W7 ⟨v7, rfl, hb⟩
      have HXW7 := hide (HXW6.out.trans (hb.mono HXW6.out.size))
      clear hb
      go_simp
      refine hK.out _ _ (SI.out _ HXW7.out) (fun _ => ?_)
      clear hK K
      refine wpAnyH_ready (rs := [8]) (by kernel_rfl) (by simp) ?_
      refine AllReadyH.cons rfl (fun K hK => ?_) AllReadyH.nil
      go_simp
      refine hK.out _ _ (SI.out _ HXW7.out) (fun _ => ?_)
      clear hK K
      refine wpAnyH_take (i := 9) (v := v7) rfl (by kernel_rfl) (by kernel_rfl) (by kernel_rfl) (fun _ _ _ h => h) (Or.inl ⟨by rfl, fun W' hW => by go_simp⟩) (SI.out _ HXW7.out) ?_
      refine wpAnyH_take (i := 10) (v := .int .i64 n2) rfl (by kernel_rfl) (by kernel_rfl) (by kernel_rfl) (fun _ _ _ h => h) (Or.inl ⟨by rfl, fun W' hW => by go_simp⟩) (SI.out _ HXW7.out) ?_
      refine wpAnyH_take (i := 11) (v := .int .i64 c2) rfl (by kernel_rfl) (by kernel_rfl) (by kernel_rfl) (fun _ _ _ h => h) (Or.inl ⟨by rfl, fun W' hW => by go_simp⟩) (SI.out _ HXW7.out) ?_
      refine wpAnyH_ready (rs := [12]) (by kernel_rfl) (by simp) ?_
      refine AllReadyH.cons rfl (fun K hK => ?_) AllReadyH.nil
      go_simp
      refine hK.out _ _ (SI.out _ HXW7.out) (fun _ => ?_)
      clear hK K
      refine wpAnyH_ready (rs := [13]) (by kernel_rfl) (by simp) ?_
      refine AllReadyH.cons rfl (fun K hK => ?_) AllReadyH.nil
      go_simp
      refine hK.out _ _ (SI.out _ HXW7.out) (fun _ => ?_)
      clear hK K
      refine wpAnyH_ready (rs := [14]) (by kernel_rfl) (by simp) ?_
      refine AllReadyH.cons rfl (fun K hK => ?_) AllReadyH.nil
      go_simp
      refine hK.out _ _ (SI.out _ HXW7.out) (fun _ => ?_)
      clear hK K
      refine wpAnyH_done (by kernel_rfl) ?_ _
      go_wp2_with fail
      go_meet
      exact ⟨rfl, rfl, SF.out _ HXW7.out⟩
  case rest =>
    obtain ⟨rfl, rfl, HW⟩ := hcut
    go_upto_region 5 with fail
    go_cut [13, 14, 15] (fun v13 v14 v15 wy => v14 = .int .i64 n3 ∧ v15 = .int .i64 c3 ∧ Hid (Mb w0 g x y wy))
    case first =>
      obtain ⟨W4, rfl⟩ : ∃ W, W = wc := ⟨_, rfl⟩
      obtain ⟨Wd, hWd⟩ : ∃ Wd, W4.drew = Wd := ⟨_, rfl⟩
      have HWd : Hid (Mb w0 g x y Wd) := hide (by rw [← hWd]; exact HW.out.keep (Below.refl _ _).drew)
      have SI : Hid (∀ W, Below Wd.heap.size Wd W → Mb w0 g x y W) := hide (fun W h => HWd.out.keep h)
      have SD : Hid (∀ W, Mb w0 g x y W → W.cell? ⟨g, 0, none⟩ = some (.int .i64 x) ∧ W.cell? ⟨g, 1, none⟩ = some (.int .i64 y)) := hide (fun W h => h.2)
      have SB : Hid (∀ W, Below Wd.heap.size Wd W → Below w0.heap.size w0 W) := hide (fun W h => (HWd.out.keep h).1)
      have SF : Hid (∀ W, Below Wd.heap.size Wd W → Hid (Mb w0 g x y W)) := hide (fun W h => hide (HWd.out.keep h))
      obtain ⟨S0, hS0⟩ : ∃ S : World → Prop, S = Mb w0 g x y := ⟨_, rfl⟩
      have SI : Hid (∀ W, Below Wd.heap.size Wd W → S0 W) := hide (fun W h => by rw [hS0]; exact SI.out W h)
      have SD : Hid (∀ W, S0 W → W.cell? ⟨g, 0, none⟩ = some (.int .i64 x) ∧ W.cell? ⟨g, 1, none⟩ = some (.int .i64 y)) := hide (fun W h => by rw [hS0] at h; exact SD.out W h)
      have HXd := hide (Below.refl Wd.heap.size Wd)
      have hS := SI.out _ HXd.out
      clear hS0
      refine wp_region_held_drew (S := S0) (by kernel_rfl) (by rw [hWd]; exact hS) (fun _ => ?_)
      rw [hWd]
      clear hWd
      refine wpAnyH_take (i := 0) (v := .slice a n c) rfl (by kernel_rfl) (by kernel_rfl) (by kernel_rfl) (fun _ _ _ h => h) (Or.inl ⟨by rfl, fun W' hW => by go_simp⟩) hS ?_
      refine wpAnyH_take (i := 2) (v := .slice b m d) rfl (by kernel_rfl) (by kernel_rfl) (by kernel_rfl) (fun _ _ _ h => h) (Or.inl ⟨by rfl, fun W' hW => by go_simp⟩) hS ?_
      refine wpAnyH_take (i := 4) (v := .agg #[.int .i64 x, .int .i64 y]) rfl (by kernel_rfl) (by kernel_rfl) (by kernel_rfl) (fun _ _ _ h => h) (Or.inl ⟨by rfl, fun W' hW => by have z0 := SD.out W' hW; go_simp⟩) hS ?_
      refine wpAnyH_ready (rs := [1, 5]) (by kernel_rfl) (by simp) ?_
      refine AllReadyH.cons rfl (fun K hK => ?_) (AllReadyH.cons rfl (fun K hK => ?_) AllReadyH.nil)
      · go_simp
        go_at_call 13
        refine (KA.out _ (SB.out _ HXd.out)).mono ?_
        rintro e W1 ⟨ga, ca, rfl, ho, hb⟩
        have HOa := hide ho
        have HXW1 := hide (HXd.out.trans (hb.mono HXd.out.size))
        have HsW1 := hide hb.size
        have HA1 := hide ho.rd
        clear ho hb
        go_simp
        refine hK.out _ _ (SI.out _ HXW1.out) (fun _ => ?_)
        clear hK K
        refine wpAnyH_ready (rs := [3, 5]) (by kernel_rfl) (by simp) ?_
        refine AllReadyH.cons rfl (fun K hK => ?_) (AllReadyH.cons rfl (fun K hK => ?_) AllReadyH.nil)
        · go_simp
          go_at_call 13
          refine (KB.out _ (SB.out _ HXW1.out)).mono ?_
          rintro e W3 ⟨gb, cb, rfl, ho, hb⟩
          have HOb := hide ho
          have HXW3 := hide (HXW1.out.trans (hb.mono HXW1.out.size))
          have HsW3 := hide hb.size
          have HOb := hide ho
          have Hy3 := hide hb
          clear ho hb
          go_simp
          refine hK.out _ _ (SI.out _ HXW3.out) (fun _ => ?_)
          clear hK K
          refine wpAnyH_ready (rs := [5]) (by kernel_rfl) (by simp) ?_
          refine AllReadyH.cons rfl (fun K hK => ?_) AllReadyH.nil
          go_simp
          have HXWc : Hid (Below Wd.heap.size Wd (W3.alloc (.cells #[.int .i64 x, .int .i64 y] 23))) := hide (HXW3.out.alloc HXW3.out.size _)
          have HbWc : Hid (Below W3.heap.size W3 (W3.alloc (.cells #[.int .i64 x, .int .i64 y] 23))) := hide ((Below.refl _ _).alloc (Nat.le_refl _) _)
          have HR : Hid (spE.Rd (W3.alloc (.cells #[.int .i64 x, .int .i64 y] 23)) (.slice (some ⟨W3.heap.size, 0, none⟩) 1 1) [(x, y)]) := hide (sp_new W3 _ [(x, y)] rfl (by simp) _ 1 rfl rfl)
          have HOb := hide (HOb.out.keep HbWc.out)
          have Hy := hide (Hy3.out.trans (HbWc.out.mono Hy3.out.size))
          generalize W3.alloc (.cells #[.int .i64 x, .int .i64 y] 23) = Wc at *
          refine hK.out _ _ (SI.out _ HXWc.out) (fun _ => ?_)
          clear hK K
          refine wpAnyH_ready (rs := [6]) (by kernel_rfl) (by simp) ?_
          refine AllReadyH.cons rfl (fun K hK => ?_) AllReadyH.nil
          refine spE.step (w0 := W1) Hy.out rfl _ _ rfl _ _ rfl rfl M [(x, y)] HOb.out HR.out HLb.out ?_
          intro v4' W5 ho _ _ hb
          obtain ⟨a5, c5, e5⟩ := ho.rd.form
          rw [Hl2.out] at e5
          subst e5
          have HXW5 := hide (HXW1.out.trans (hb.mono HXW1.out.size))
          have HS5 := hide ho.rd
          have HA5 := hide (HA1.out.keep hb)
          clear ho hb
          refine hK.out _ _ (SI.out _ HXW5.out) (fun _ => ?_)
          clear hK K
          refine wpAnyH_ready (rs := [7]) (by kernel_rfl) (by simp) ?_
          refine AllReadyH.cons rfl (fun K hK => ?_) AllReadyH.nil
          go_simp
          go_at_call 16
          refine (K16b.out _ _ _ _ _ HA5.out HS5.out).mono ?_
          rintro e W7 ⟨v7, rfl, hb⟩
          have HXW7 := hide (HXW5.out.trans (hb.mono HXW5.out.size))
          clear hb
          go_simp
          refine hK.out _ _ (SI.out _ HXW7.out) (fun _ => ?_)
          clear hK K
          refine wpAnyH_ready (rs := [8]) (by kernel_rfl) (by simp) ?_
          refine AllReadyH.cons rfl (fun K hK => ?_) AllReadyH.nil
          go_simp
          refine hK.out _ _ (SI.out _ HXW7.out) (fun _ => ?_)
          clear hK K
          refine wpAnyH_take (i := 9) (v := v7) rfl (by kernel_rfl) (by kernel_rfl) (by kernel_rfl) (fun _ _ _ h => h) (Or.inl ⟨by rfl, fun W' hW => by go_simp⟩) (SI.out _ HXW7.out) ?_
          refine wpAnyH_take (i := 10) (v := .int .i64 n3) rfl (by kernel_rfl) (by kernel_rfl) (by kernel_rfl) (fun _ _ _ h => h) (Or.inl ⟨by rfl, fun W' hW => by go_simp⟩) (SI.out _ HXW7.out) ?_
          refine wpAnyH_take (i := 11) (v := .int .i64 c3) rfl (by kernel_rfl) (by kernel_rfl) (by kernel_rfl) (fun _ _ _ h => h) (Or.inl ⟨by rfl, fun W' hW => by go_simp⟩) (SI.out _ HXW7.out) ?_
          refine wpAnyH_ready (rs := [12]) (by kernel_rfl) (by simp) ?_
          refine AllReadyH.cons rfl (fun K hK => ?_) AllReadyH.nil
          go_simp
          refine hK.out _ _ (SI.out _ HXW7.out) (fun _ => ?_)
          clear hK K
          refine wpAnyH_ready (rs := [13]) (by kernel_rfl) (by simp) ?_
          refine AllReadyH.cons rfl (fun K hK => ?_) AllReadyH.nil
          go_simp
          refine hK.out _ _ (SI.out _ HXW7.out) (fun _ => ?_)
          clear hK K
          refine wpAnyH_ready (rs := [14]) (by kernel_rfl) (by simp) ?_
          refine AllReadyH.cons rfl (fun K hK => ?_) AllReadyH.nil
          go_simp
          refine hK.out _ _ (SI.out _ HXW7.out) (fun _ => ?_)
          clear hK K
          refine wpAnyH_done (by kernel_rfl) ?_ _
          go_wp2_with fail
          go_meet
          exact ⟨rfl, rfl, SF.out _ HXW7.out⟩
        · go_simp
          have HXWc : Hid (Below Wd.heap.size Wd (W1.alloc (.cells #[.int .i64 x, .int .i64 y] 23))) := hide (HXW1.out.alloc HXW1.out.size _)
          have HbWc : Hid (Below W1.heap.size W1 (W1.alloc (.cells #[.int .i64 x, .int .i64 y] 23))) := hide ((Below.refl _ _).alloc (Nat.le_refl _) _)
          have HR : Hid (spE.Rd (W1.alloc (.cells #[.int .i64 x, .int .i64 y] 23)) (.slice (some ⟨W1.heap.size, 0, none⟩) 1 1) [(x, y)]) := hide (sp_new W1 _ [(x, y)] rfl (by simp) _ 1 rfl rfl)
          have Hyc := HbWc
          generalize W1.alloc (.cells #[.int .i64 x, .int .i64 y] 23) = Wc at *
          refine hK.out _ _ (SI.out _ HXWc.out) (fun _ => ?_)
          clear hK K
          refine wpAnyH_ready (rs := [3]) (by kernel_rfl) (by simp) ?_
          refine AllReadyH.cons rfl (fun K hK => ?_) AllReadyH.nil
          go_simp
          go_at_call 13
          refine (KB.out _ (SB.out _ HXWc.out)).mono ?_
          rintro e W3 ⟨gb, cb, rfl, ho, hb⟩
          have HOb := hide ho
          have HXW3 := hide (HXWc.out.trans (hb.mono HXWc.out.size))
          have HsW3 := hide hb.size
          have HOb := hide (ho.mono Hyc.out.size)
          have HR := hide (HR.out.keep hb)
          have Hy := hide (Hyc.out.trans (hb.mono Hyc.out.size))
          clear ho hb
          go_simp
          refine hK.out _ _ (SI.out _ HXW3.out) (fun _ => ?_)
          clear hK K
          refine wpAnyH_ready (rs := [6]) (by kernel_rfl) (by simp) ?_
          refine AllReadyH.cons rfl (fun K hK => ?_) AllReadyH.nil
          refine spE.step (w0 := W1) Hy.out rfl _ _ rfl _ _ rfl rfl M [(x, y)] HOb.out HR.out HLb.out ?_
          intro v4' W5 ho _ _ hb
          obtain ⟨a5, c5, e5⟩ := ho.rd.form
          rw [Hl2.out] at e5
          subst e5
          have HXW5 := hide (HXW1.out.trans (hb.mono HXW1.out.size))
          have HS5 := hide ho.rd
          have HA5 := hide (HA1.out.keep hb)
          clear ho hb
          refine hK.out _ _ (SI.out _ HXW5.out) (fun _ => ?_)
          clear hK K
          refine wpAnyH_ready (rs := [7]) (by kernel_rfl) (by simp) ?_
          refine AllReadyH.cons rfl (fun K hK => ?_) AllReadyH.nil
          go_simp
          go_at_call 16
          refine (K16b.out _ _ _ _ _ HA5.out HS5.out).mono ?_
          rintro e W7 ⟨v7, rfl, hb⟩
          have HXW7 := hide (HXW5.out.trans (hb.mono HXW5.out.size))
          clear hb
          go_simp
          refine hK.out _ _ (SI.out _ HXW7.out) (fun _ => ?_)
          clear hK K
          refine wpAnyH_ready (rs := [8]) (by kernel_rfl) (by simp) ?_
          refine AllReadyH.cons rfl (fun K hK => ?_) AllReadyH.nil
          go_simp
          refine hK.out _ _ (SI.out _ HXW7.out) (fun _ => ?_)
          clear hK K
          refine wpAnyH_take (i := 9) (v := v7) rfl (by kernel_rfl) (by kernel_rfl) (by kernel_rfl) (fun _ _ _ h => h) (Or.inl ⟨by rfl, fun W' hW => by go_simp⟩) (SI.out _ HXW7.out) ?_
          refine wpAnyH_take (i := 10) (v := .int .i64 n3) rfl (by kernel_rfl) (by kernel_rfl) (by kernel_rfl) (fun _ _ _ h => h) (Or.inl ⟨by rfl, fun W' hW => by go_simp⟩) (SI.out _ HXW7.out) ?_
          refine wpAnyH_take (i := 11) (v := .int .i64 c3) rfl (by kernel_rfl) (by kernel_rfl) (by kernel_rfl) (fun _ _ _ h => h) (Or.inl ⟨by rfl, fun W' hW => by go_simp⟩) (SI.out _ HXW7.out) ?_
          refine wpAnyH_ready (rs := [12]) (by kernel_rfl) (by simp) ?_
          refine AllReadyH.cons rfl (fun K hK => ?_) AllReadyH.nil
          go_simp
          refine hK.out _ _ (SI.out _ HXW7.out) (fun _ => ?_)
          clear hK K
          refine wpAnyH_ready (rs := [13]) (by kernel_rfl) (by simp) ?_
          refine AllReadyH.cons rfl (fun K hK => ?_) AllReadyH.nil
          go_simp
          refine hK.out _ _ (SI.out _ HXW7.out) (fun _ => ?_)
          clear hK K
          refine wpAnyH_ready (rs := [14]) (by kernel_rfl) (by simp) ?_
          refine AllReadyH.cons rfl (fun K hK => ?_) AllReadyH.nil
          go_simp
          refine hK.out _ _ (SI.out _ HXW7.out) (fun _ => ?_)
          clear hK K
          refine wpAnyH_done (by kernel_rfl) ?_ _
          go_wp2_with fail
          go_meet
          exact ⟨rfl, rfl, SF.out _ HXW7.out⟩
      · go_simp
        have HXWc : Hid (Below Wd.heap.size Wd (Wd.alloc (.cells #[.int .i64 x, .int .i64 y] 23))) := hide (HXd.out.alloc HXd.out.size _)
        have HbWc : Hid (Below Wd.heap.size Wd (Wd.alloc (.cells #[.int .i64 x, .int .i64 y] 23))) := hide ((Below.refl _ _).alloc (Nat.le_refl _) _)
        have HR : Hid (spE.Rd (Wd.alloc (.cells #[.int .i64 x, .int .i64 y] 23)) (.slice (some ⟨Wd.heap.size, 0, none⟩) 1 1) [(x, y)]) := hide (sp_new Wd _ [(x, y)] rfl (by simp) _ 1 rfl rfl)
        generalize Wd.alloc (.cells #[.int .i64 x, .int .i64 y] 23) = Wc at *
        refine hK.out _ _ (SI.out _ HXWc.out) (fun _ => ?_)
        clear hK K
        refine wpAnyH_ready (rs := [1]) (by kernel_rfl) (by simp) ?_
        refine AllReadyH.cons rfl (fun K hK => ?_) AllReadyH.nil
        go_simp
        go_at_call 13
        refine (KA.out _ (SB.out _ HXWc.out)).mono ?_
        rintro e W1 ⟨ga, ca, rfl, ho, hb⟩
        have HOa := hide ho
        have HXW1 := hide (HXWc.out.trans (hb.mono HXWc.out.size))
        have HsW1 := hide hb.size
        have HA1 := hide ho.rd
        have HR := hide (HR.out.keep hb)
        clear ho hb
        go_simp
        refine hK.out _ _ (SI.out _ HXW1.out) (fun _ => ?_)
        clear hK K
        refine wpAnyH_ready (rs := [3]) (by kernel_rfl) (by simp) ?_
        refine AllReadyH.cons rfl (fun K hK => ?_) AllReadyH.nil
        go_simp
        go_at_call 13
        refine (KB.out _ (SB.out _ HXW1.out)).mono ?_
        rintro e W3 ⟨gb, cb, rfl, ho, hb⟩
        have HOb := hide ho
        have HXW3 := hide (HXW1.out.trans (hb.mono HXW1.out.size))
        have HsW3 := hide hb.size
        have HOb := hide ho
        have HR := hide (HR.out.keep hb)
        have Hy := hide hb
        clear ho hb
        go_simp
        refine hK.out _ _ (SI.out _ HXW3.out) (fun _ => ?_)
        clear hK K
        refine wpAnyH_ready (rs := [6]) (by kernel_rfl) (by simp) ?_
        refine AllReadyH.cons rfl (fun K hK => ?_) AllReadyH.nil
        refine spE.step (w0 := W1) Hy.out rfl _ _ rfl _ _ rfl rfl M [(x, y)] HOb.out HR.out HLb.out ?_
        intro v4' W5 ho _ _ hb
        obtain ⟨a5, c5, e5⟩ := ho.rd.form
        rw [Hl2.out] at e5
        subst e5
        have HXW5 := hide (HXW1.out.trans (hb.mono HXW1.out.size))
        have HS5 := hide ho.rd
        have HA5 := hide (HA1.out.keep hb)
        clear ho hb
        refine hK.out _ _ (SI.out _ HXW5.out) (fun _ => ?_)
        clear hK K
        refine wpAnyH_ready (rs := [7]) (by kernel_rfl) (by simp) ?_
        refine AllReadyH.cons rfl (fun K hK => ?_) AllReadyH.nil
        go_simp
        go_at_call 16
        refine (K16b.out _ _ _ _ _ HA5.out HS5.out).mono ?_
        rintro e W7 ⟨v7, rfl, hb⟩
        have HXW7 := hide (HXW5.out.trans (hb.mono HXW5.out.size))
        clear hb
        go_simp
        refine hK.out _ _ (SI.out _ HXW7.out) (fun _ => ?_)
        clear hK K
        refine wpAnyH_ready (rs := [8]) (by kernel_rfl) (by simp) ?_
        refine AllReadyH.cons rfl (fun K hK => ?_) AllReadyH.nil
        go_simp
        refine hK.out _ _ (SI.out _ HXW7.out) (fun _ => ?_)
        clear hK K
        refine wpAnyH_take (i := 9) (v := v7) rfl (by kernel_rfl) (by kernel_rfl) (by kernel_rfl) (fun _ _ _ h => h) (Or.inl ⟨by rfl, fun W' hW => by go_simp⟩) (SI.out _ HXW7.out) ?_
        refine wpAnyH_take (i := 10) (v := .int .i64 n3) rfl (by kernel_rfl) (by kernel_rfl) (by kernel_rfl) (fun _ _ _ h => h) (Or.inl ⟨by rfl, fun W' hW => by go_simp⟩) (SI.out _ HXW7.out) ?_
        refine wpAnyH_take (i := 11) (v := .int .i64 c3) rfl (by kernel_rfl) (by kernel_rfl) (by kernel_rfl) (fun _ _ _ h => h) (Or.inl ⟨by rfl, fun W' hW => by go_simp⟩) (SI.out _ HXW7.out) ?_
        refine wpAnyH_ready (rs := [12]) (by kernel_rfl) (by simp) ?_
        refine AllReadyH.cons rfl (fun K hK => ?_) AllReadyH.nil
        go_simp
        refine hK.out _ _ (SI.out _ HXW7.out) (fun _ => ?_)
        clear hK K
        refine wpAnyH_ready (rs := [13]) (by kernel_rfl) (by simp) ?_
        refine AllReadyH.cons rfl (fun K hK => ?_) AllReadyH.nil
        go_simp
        refine hK.out _ _ (SI.out _ HXW7.out) (fun _ => ?_)
        clear hK K
        refine wpAnyH_ready (rs := [14]) (by kernel_rfl) (by simp) ?_
        refine AllReadyH.cons rfl (fun K hK => ?_) AllReadyH.nil
        go_simp
        refine hK.out _ _ (SI.out _ HXW7.out) (fun _ => ?_)
        clear hK K
        refine wpAnyH_done (by kernel_rfl) ?_ _
        go_wp2_with fail
        go_meet
        exact ⟨rfl, rfl, SF.out _ HXW7.out⟩
    case rest =>
      obtain ⟨rfl, rfl, HW⟩ := hcut
      obtain ⟨z0, z1⟩ := HW.out.2
      by_cases h1 : c1 = 0
      · subst h1
        obtain ⟨b0, b1⟩ := Hf1.out rfl
        by_cases hin : In (x, y)
        · obtain ⟨s1, s2⟩ := hin.sm
          have K10 := hide (fun W => drive_any 0 0 x y W Sm.zero Sm.zero s1 s2)
          obtain ⟨d0, d1⟩ := dr_bd In.zero hin
          have h2 : c2 = 0 → n1 ≤ n2 ∧ n2 ≤ n1 + 2 * dr (0, 0) (x, y) := fun h => (Hf2.out rfl h).2
          have h3 : c3 = 0 → n1 ≤ n3 ∧ n3 ≤ n1 + 2 * dr (0, 0) (x, y) := fun h => (Hf3.out rfl h).2
          generalize dr (0, 0) (x, y) = dd at *
          have w1 : wrap64 (2 * dd) = 2 * dd := by unfold wrap64; omega
          have w2 : wrap64 (n1 + 2 * dd) = n1 + 2 * dd := by unfold wrap64; omega
          clear s1 s2 hin Hf1 Hf2 Hf3
          by_cases hc2 : c2 = 0
          · obtain ⟨h21, h22⟩ := h2 hc2
            subst hc2
            clear h2
            by_cases hc3 : c3 = 0
            · obtain ⟨h31, h32⟩ := h3 hc3
              subst hc3
              clear h3
              go_wp2_with (go_at_call 10; refine (K10.out _).mono ?_; rintro e W9 ⟨rfl, hb⟩; have HW9 := hide (HW.out.keep hb); clear hb)
              go_ret
              exact ⟨rfl, HW9.out.1⟩
            · have hb3 : (c3 != 0) = true := bne_iff_ne.2 hc3
              clear h3 hc3
              go_wp2_with (go_at_call 10; refine (K10.out _).mono ?_; rintro e W9 ⟨rfl, hb⟩; have HW9 := hide (HW.out.keep hb); clear hb)
              go_ret
              exact ⟨rfl, HW9.out.1⟩
          · have hb2 : (c2 != 0) = true := bne_iff_ne.2 hc2
            clear h2 hc2
            by_cases hc3 : c3 = 0
            · obtain ⟨h31, h32⟩ := h3 hc3
              subst hc3
              clear h3
              go_wp2_with (go_at_call 10; refine (K10.out _).mono ?_; rintro e W9 ⟨rfl, hb⟩; have HW9 := hide (HW.out.keep hb); clear hb)
              go_ret
              exact ⟨rfl, HW9.out.1⟩
            · have hb3 : (c3 != 0) = true := bne_iff_ne.2 hc3
              clear h3 hc3
              go_wp2_with (go_at_call 10; refine (K10.out _).mono ?_; rintro e W9 ⟨rfl, hb⟩; have HW9 := hide (HW.out.keep hb); clear hb)
              go_ret
              exact ⟨rfl, HW9.out.1⟩
        · obtain ⟨zz, kz⟩ := drive_tot 0 0 x y
          have K10 := hide kz
          have hb2 : (c2 != 0) = true := bne_iff_ne.2 (fun h => hin (Hf2.out rfl h).1)
          have hb3 : (c3 != 0) = true := bne_iff_ne.2 (fun h => hin (Hf3.out rfl h).1)
          clear hin Hf1 Hf2 Hf3 kz
          go_wp2_with (go_at_call 10; refine (K10.out _).mono ?_; rintro e W9 ⟨rfl, hb⟩; have HW9 := hide (HW.out.keep hb); clear hb)
          go_ret
          exact ⟨rfl, HW9.out.1⟩
      · have hb1 : (c1 != 0) = true := bne_iff_ne.2 h1
        clear h1 Hf1 Hf2 Hf3
        go_wp2_with fail
        go_ret
        exact ⟨rfl, HW.out.1⟩
end Go.Proofs.Ytochllbnlnammaa
