/- tells: all that the table tells is the document's. -/
import Derived.Test.YtbibegendejnlaaCdp
import Derived.BigRegion
namespace Go.Proofs.Ytbibegendejnlaa
open Go.RowKit
set_option linter.unusedVariables false
variable {pp : Nat → Nat → Prop}

theorem hld_none {t : Int} {h : List Int} (hb : ∀ x ∈ h, 0 ≤ x ∧ x ≤ 30) (ht : 30 < t) : hld t h h.length = [] := by
  cases e : hld t h h.length with
  | nil => rfl
  | cons x l =>
    have := (hld_mem t h x).1 (by rw [e]; simp)
    have h2 := hat_in hb x
    omega
theorem held_eq {h : List Int} (hb : ∀ x ∈ h, 0 ≤ x ∧ x ≤ 30) (t : Int) : heldL t h = heldD t h := by
  unfold heldL heldD toteB
  by_cases h1 : 0 < t
  · rw [if_pos h1]
    by_cases h2 : t ≤ 30
    · rw [if_pos (decide_eq_true ⟨by omega, h2⟩)]
    · rw [if_neg (by simp; omega), hld_none hb (by omega)]
  · rw [if_neg h1, if_neg (by simp; omega)]
theorem wait_cn (U : Tb) : (cn U).q.map (·.tote) = U.q.map (·.tote) := by
  unfold cn
  simp [cnC, Function.comp_def]

set_option maxRecDepth 100000 in
set_option maxHeartbeats 8000000 in
theorem tells_any {w : World} {B g gh : Nat} {b : Nat → Prop} (aH aQ : Option Addr) (cH cQ N M : Nat) (U : Tb) (hP : Tbl w B g gh b (cn U)) (hT : DT pp w aH cH aQ cQ U) (hN : U.hold.length = N) (hM : U.q.length = M) (hw : Wf U) (hN4 : N ≤ 40) :
    Calls Try.prog 20 #[.pointer (some ⟨g, 0, none⟩), .agg #[.slice aH N cH, .slice aQ M cQ]] w fun e w' => e = .returned (.bool true) ∧ Below w.heap.size w w' := by
  obtain ⟨W1, hW1⟩ : ∃ W1, W1 = w.alloc (.cells #[.slice aH N cH, .slice aQ M cQ] 31) := ⟨_, rfl⟩
  have hB1 : Below w.heap.size w W1 := by rw [hW1]; exact (Below.refl _ _).alloc (Nat.le_refl _) _
  have hbox : W1.heap[w.heap.size]? = some (.cells #[.slice aH N cH, .slice aQ M cQ] 31) := by rw [hW1]; exact heap_new _ _
  have HF : Hid (∀ W, Below W1.heap.size W1 W → Below w.heap.size w W) := hide (fun W hb => hB1.trans (hb.mono hB1.size))
  have HC : Hid (∀ W, Below W1.heap.size W1 W → W.cell? ⟨w.heap.size, 0, none⟩ = some (.slice aH N cH) ∧ W.cell? ⟨w.heap.size, 1, none⟩ = some (.slice aQ M cQ)) := hide (fun W hb => ⟨by rw [hb.cell (p := ⟨w.heap.size, 0, none⟩) (heap_lt hbox)]; exact (cells_at hbox 0).1, by rw [hb.cell (p := ⟨w.heap.size, 1, none⟩) (heap_lt hbox)]; exact (cells_at hbox 1).1⟩)
  have HT : Hid (∀ W, Below W1.heap.size W1 W → Tbl W B g gh b (cn U) ∧ DT pp W aH cH aQ cQ U) := hide (fun W hb => ⟨(hP.keep hB1).keep hb, (hT.keep hB1).keep hb⟩)
  have HR1 : Hid (intE.Rd W1 (.slice aH N cH) U.hold) := hide (by have := (hT.keep hB1).hold; rw [hN] at this; exact this)
  have K21 : Hid (∀ n : Int, Calls Try.prog 21 #[.pointer (some ⟨g, 0, none⟩), .int .i64 n] W1 fun e w' => e = .returned (.int .i64 (hat U.hold n)) ∧ w' = W1) := hide (fun n => holder_any (hP.keep hB1) n)
  have K23 : Hid (∀ (t : Int) W, Below W1.heap.size W1 W → Calls Try.prog 23 #[.pointer (some ⟨g, 0, none⟩), .int .i64 t] W fun e w' => (∃ v, e = .returned v ∧ intE.Own w' W.heap.size v (heldL t U.hold)) ∧ Below W.heap.size W w') := hide (fun t W hb => heldL_any (HT.out W hb).1 (by show U.hold.length ≤ 1000; omega) t)
  have K35 : Hid (∀ (t : Int) W, Below W1.heap.size W1 W → Calls Try.prog 35 #[.agg #[.slice aH N cH, .slice aQ M cQ], .int .i64 t] W fun e w' => (∃ v, e = .returned v ∧ intE.Own w' W.heap.size v (heldD t U.hold)) ∧ Below W.heap.size W w') := hide (fun t W hb => by
    have := rheld_any aH aQ cH cQ U t W (HT.out W hb).2 (by omega)
    rw [hN, hM] at this
    exact this)
  have K22 : Hid (∀ W, Below W1.heap.size W1 W → Calls Try.prog 22 #[.pointer (some ⟨g, 0, none⟩)] W fun e w' => (∃ v, e = .returned v ∧ intE.Own w' W.heap.size v (U.q.map (·.tote))) ∧ Below W.heap.size W w') := hide (fun W hb => by
    have := waiting_any (HT.out W hb).1 (by show (U.q.map cnC).length ≤ 1000; rw [List.length_map]; have := hw.qlen; omega)
    rw [wait_cn] at this
    exact this)
  have K36 : Hid (∀ W, Below W1.heap.size W1 W → Calls Try.prog 36 #[.agg #[.slice aH N cH, .slice aQ M cQ]] W fun e w' => (∃ v, e = .returned v ∧ intE.Own w' W.heap.size v (U.q.map (·.tote))) ∧ Below W.heap.size W w') := hide (fun W hb => by
    have := rwaiting_any aH aQ cH cQ U W (HT.out W hb).2 (by have := hw.qlen; omega)
    rw [hN, hM] at this
    exact this)
  have Heq : Hid (∀ t, heldL t U.hold = heldD t U.hold) := hide (fun t => held_eq hw.hold t)
  have HLn : Hid (∀ t, (heldL t U.hold).length ≤ 100000) := hide (fun t => by
    unfold heldL
    split
    · have := hld_len t U.hold U.hold.length; omega
    · simp)
  have HLq : Hid ((U.q.map (·.tote)).length ≤ 100000) := hide (by rw [List.length_map]; have := hw.qlen; omega)
  have HW1 := hide hW1
  have HN := hide hN
  have i0 : (N : Int) ≤ 40 := by omega
  obtain ⟨h0, hh0⟩ : ∃ h0, w.heap.size = h0 := ⟨_, rfl⟩
  rw [hh0] at HC HF ⊢
  clear hT hP hB1 hbox hW1 hN hM hw hN4 HT
  go_enter Try.func20, Try.ntmps20
  go_upto_region 2 with fail
  rw [← HW1.out]
  try rw [hh0]
  clear HW1 hh0
  go_loopw [5] (fun v5 wr => ∃ k : Nat, v5 = .int .i64 ((k : Int) - 1) ∧ k ≤ N + 2 ∧ wr = W1) (fun v5 _ => 100 - (intOf v5 + 1).toNat)
  case atStart => exact ⟨0, rfl, Nat.zero_le _, rfl⟩
  case round =>
    obtain ⟨k, rfl, hk, hw⟩ := hrel
    have hw' := hw.symm
    clear hw
    subst hw'
    obtain ⟨c0, c1⟩ := HC.out W1 (Below.refl _ _)
    have K := hide (K21.out ((k : Int) - 1))
    by_cases hle : (k : Int) - 1 ≤ (N : Int)
    · by_cases hk0 : k = 0
      · subst hk0
        rw [show hat U.hold (((0 : Nat) : Int) - 1) = 0 from hat_out (by omega)] at K
        go_wp2_with (go_at_call 21; refine K.out.mono ?_; rintro e W2 ⟨rfl, hW⟩; have hW' := hW.symm; clear hW; subst hW')
        go_roundw
        case rel => exact ⟨1, by go_num, by omega, trivial⟩
        case measure => simp [intOf]
      · obtain ⟨j, rfl⟩ : ∃ j, k = j + 1 := ⟨k - 1, by omega⟩
        rw [show (((j + 1 : Nat) : Int) - 1) = (j : Int) by omega] at K hle ⊢
        have j0 : (0 : Int) ≤ (j : Int) := by omega
        by_cases hjN : j < N
        · have j1 : (j : Int) < (N : Int) := by omega
          obtain ⟨x, hx⟩ : ∃ x, U.hold[j]? = some x := ⟨_, List.getElem?_eq_getElem (by rw [HN.out]; exact hjN)⟩
          obtain ⟨bb, off, rfl, e0⟩ := int_at HR1.out j x hx
          rw [hat_at hx] at K
          have q1 : (x != x) = false := by simp
          clear hx
          go_wp2_with (go_at_call 21; refine K.out.mono ?_; rintro e W2 ⟨rfl, hW⟩; have hW' := hW.symm; clear hW; subst hW')
          go_roundw
          case rel => exact ⟨j + 2, by go_num, by omega, trivial⟩
          case measure => simp [intOf]; omega
        · have j1 : ¬ (j : Int) < (N : Int) := by omega
          rw [show hat U.hold (j : Int) = 0 from hat_out (by rw [HN.out]; omega)] at K
          go_wp2_with (go_at_call 21; refine K.out.mono ?_; rintro e W2 ⟨rfl, hW⟩; have hW' := hW.symm; clear hW; subst hW')
          go_roundw
          case rel => exact ⟨j + 2, by go_num, by omega, trivial⟩
          case measure => simp [intOf]; omega
    · clear K K21 HR1
      go_upto_region 10 with fail
      clear hle hk c0 c1
      go_loopw [7] (fun v7 wr => ∃ k : Nat, v7 = .int .i64 ((k : Int) - 1) ∧ k ≤ 33 ∧ Hid (Below W1.heap.size W1 wr)) (fun v7 _ => 100 - (intOf v7 + 1).toNat)
      case atStart => exact ⟨0, rfl, Nat.zero_le _, hide (Below.refl _ _)⟩
      case round =>
        obtain ⟨k, rfl, hk, HB⟩ := hrel
        obtain ⟨t, ht⟩ : ∃ t, (k : Int) - 1 = t := ⟨_, rfl⟩
        rw [ht]
        obtain ⟨SS, hSS⟩ : ∃ SS : World → Prop, SS = fun W' => W'.cell? ⟨h0, 0, none⟩ = some (.slice aH N cH) ∧ W'.cell? ⟨h0, 1, none⟩ = some (.slice aQ M cQ) := ⟨_, rfl⟩
        have s1 : ∀ W', SS W' → W'.cell? ⟨h0, 0, none⟩ = some (.slice aH N cH) := fun W' h => by rw [hSS] at h; exact h.1
        have s2 : ∀ W', SS W' → W'.cell? ⟨h0, 1, none⟩ = some (.slice aQ M cQ) := fun W' h => by rw [hSS] at h; exact h.2
        have FS : Hid (∀ W', Below W1.heap.size W1 W' → SS W') := hide (fun W' hW => by rw [hSS]; exact HC.out W' hW)
        clear hSS
        have bD : Below W1.heap.size W1 wr.drew := HB.out.drew
        have hS0 := FS.out _ bD
        by_cases hle : t ≤ 31
        · go_upto_region 12 with fail
          refine wp_region_held_drew (S := SS) (by kernel_rfl) hS0 (fun _ => ?_)
          refine wpAnyH_take (i := 0) (v := .pointer (some ⟨g, 0, none⟩)) rfl (by kernel_rfl) (by kernel_rfl) (by kernel_rfl) (fun _ _ _ h => h) (Or.inl ⟨by rfl, fun W' hW => by go_simp⟩) hS0 ?_
          refine wpAnyH_take (i := 1) (v := .int .i64 t) rfl (by kernel_rfl) (by kernel_rfl) (by kernel_rfl) (fun _ _ _ h => h) (Or.inl ⟨by rfl, fun W' hW => by go_simp⟩) hS0 ?_
          refine wpAnyH_take (i := 3) (v := .agg #[.slice aH N cH, .slice aQ M cQ]) rfl (by kernel_rfl) (by kernel_rfl) (by kernel_rfl) (fun _ _ _ h => h) (Or.inl ⟨by rfl, fun W' hW => by have x1 := s1 W' hW; have x2 := s2 W' hW; go_simp⟩) hS0 ?_
          refine wpAnyH_take (i := 4) (v := .int .i64 t) rfl (by kernel_rfl) (by kernel_rfl) (by kernel_rfl) (fun _ _ _ h => h) (Or.inl ⟨by rfl, fun W' hW => by go_simp⟩) hS0 ?_
          refine wpAnyH_ready (rs := [2]) (by kernel_rfl) (by simp) ?_
          refine AllReadyH.cons rfl (fun K hK => ?_) AllReadyH.nil
          go_simp
          refine (K23.out t _ bD).mono ?_
          rintro e w6 ⟨⟨v6, rfl, O6⟩, B6⟩
          have hB6 : Below W1.heap.size W1 w6 := bD.trans (B6.mono bD.size)
          refine hK.out _ _ (FS.out _ hB6) (fun _ => ?_)
          clear hK K
          refine wpAnyH_ready (rs := [5]) (by kernel_rfl) (by simp) ?_
          refine AllReadyH.cons rfl (fun K hK => ?_) AllReadyH.nil
          go_simp
          refine (K35.out t _ hB6).mono ?_
          rintro e w7 ⟨⟨v7, rfl, O7⟩, B7⟩
          have hB7 : Below W1.heap.size W1 w7 := hB6.trans (B7.mono hB6.size)
          refine hK.out _ _ (FS.out _ hB7) (fun _ => ?_)
          clear hK K
          have R6 := (O6.keep B7).rd
          have R7 := O7.rd
          obtain ⟨a6, c6, h6⟩ := R6.form
          obtain ⟨a7, c7, h7⟩ := R7.form
          obtain ⟨n6, hn6⟩ : ∃ n, List.length (heldL t U.hold) = n := ⟨_, rfl⟩
          obtain ⟨n7, hn7⟩ : ∃ n, List.length (heldD t U.hold) = n := ⟨_, rfl⟩
          rw [hn6] at h6
          rw [hn7] at h7
          subst h6
          subst h7
          have Hi := hide (ints_any a6 a7 c6 c7 n6 n7 (heldL t U.hold) (heldD t U.hold) w7 hn6 hn7 R6 R7 (by rw [← hn6]; exact (HLn.out t)))
          clear hn6 hn7 R6 R7 O6 O7
          refine wpAnyH_ready (rs := [6]) (by kernel_rfl) (by simp) ?_
          refine AllReadyH.cons rfl (fun K hK => ?_) AllReadyH.nil
          go_simp
          refine Hi.out.mono ?_
          rintro e w8 ⟨rfl, n8, rfl⟩
          rw [Heq.out, decide_eq_true rfl]
          have hB8 := drew_below hB7 n8
          refine hK.out _ _ (FS.out _ hB8) (fun _ => ?_)
          clear hK K
          have HB8 := hide hB8
          generalize w7.drewN n8 = W8 at *
          clear Hi B6 B7 hB6 hB7 hB8
          refine wpAnyH_ready (rs := [7]) (by kernel_rfl) (by simp) ?_
          refine AllReadyH.cons rfl (fun K hK => ?_) AllReadyH.nil
          go_simp
          refine hK.out _ _ (FS.out _ HB8.out) (fun _ => ?_)
          clear hK K
          refine wpAnyH_done (by kernel_rfl) ?_ _
          go_wp2_with fail
          go_roundw
          case rel => exact ⟨k + 1, by rw [show ((k + 1 : Nat) : Int) - 1 = t + 1 by omega], by omega, HB8⟩
          case measure => simp [intOf]; omega
        · go_upto_region 14 with fail
          refine wp_region_E SS 5 (by kernel_rfl) ?_
          refine wpAnyE_take (i := 0) (v := .pointer (some ⟨g, 0, none⟩)) rfl (by kernel_rfl) (by kernel_rfl) (by kernel_rfl) (by kernel_rfl) (fun _ _ _ h => h) (Or.inl ⟨by rfl, fun W' hW => by go_simp⟩) hS0 ?_
          refine wpAnyE_take (i := 2) (v := .agg #[.slice aH N cH, .slice aQ M cQ]) rfl (by kernel_rfl) (by kernel_rfl) (by kernel_rfl) (by kernel_rfl) (fun _ _ _ h => h) (Or.inl ⟨by rfl, fun W' hW => by have x1 := s1 W' hW; have x2 := s2 W' hW; go_simp⟩) hS0 ?_
          refine wpAnyE_ready (rs := [1]) (by kernel_rfl) (by simp) ?_
          refine AllReadyE.cons rfl (fun K hK => ?_) AllReadyE.nil
          go_simp
          refine (K22.out _ bD).mono ?_
          rintro e w6 ⟨⟨v6, rfl, O6⟩, B6⟩
          have hB6 : Below W1.heap.size W1 w6 := bD.trans (B6.mono bD.size)
          refine hK.out _ _ (fun _ => FS.out _ hB6) ?_
          clear hK K
          refine wpAnyE_ready (rs := [3]) (by kernel_rfl) (by simp) ?_
          refine AllReadyE.cons rfl (fun K hK => ?_) AllReadyE.nil
          go_simp
          refine (K36.out _ hB6).mono ?_
          rintro e w7 ⟨⟨v7, rfl, O7⟩, B7⟩
          have hB7 : Below W1.heap.size W1 w7 := hB6.trans (B7.mono hB6.size)
          refine hK.out _ _ (fun _ => FS.out _ hB7) ?_
          clear hK K
          have R6 := (O6.keep B7).rd
          have R7 := O7.rd
          obtain ⟨a6, c6, h6⟩ := R6.form
          obtain ⟨a7, c7, h7⟩ := R7.form
          obtain ⟨n6, hn6⟩ : ∃ n, List.length (U.q.map (·.tote)) = n := ⟨_, rfl⟩
          obtain ⟨n7, hn7⟩ : ∃ n, List.length (U.q.map (·.tote)) = n := ⟨_, rfl⟩
          rw [hn6] at h6
          rw [hn7] at h7
          subst h6
          subst h7
          have Hi := hide (ints_any a6 a7 c6 c7 n6 n7 (U.q.map (·.tote)) (U.q.map (·.tote)) w7 hn6 hn7 R6 R7 (by rw [← hn6]; exact HLq.out))
          clear hn6 hn7 R6 R7 O6 O7
          refine wpAnyE_ready (rs := [4]) (by kernel_rfl) (by simp) ?_
          refine AllReadyE.cons rfl (fun K hK => ?_) AllReadyE.nil
          go_simp
          refine Hi.out.mono ?_
          rintro e w8 ⟨rfl, n8, rfl⟩
          rw [decide_eq_true rfl]
          have hB8 := drew_below hB7 n8
          refine hK.out _ _ (fun _ => FS.out _ hB8) ?_
          clear hK K
          have HB8 := hide hB8
          generalize w7.drewN n8 = W8 at *
          clear Hi B6 B7 hB6 hB7 hB8
          refine wpAnyE_ready (rs := [5]) (by kernel_rfl) (by simp) ?_
          refine AllReadyE.cons rfl (fun K hK => ?_) AllReadyE.nil
          go_simp
          refine hK.out _ _ (fun h => absurd rfl h) ?_
          clear hK K
          refine wpAnyE_done (by kernel_rfl) ?_ _
          go_wp2_with fail
          go_ret
          exact ⟨rfl, HF.out _ HB8.out⟩
end Go.Proofs.Ytbibegendejnlaa
