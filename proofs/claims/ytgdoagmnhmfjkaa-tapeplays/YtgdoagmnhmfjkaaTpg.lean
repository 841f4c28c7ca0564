/- Repair, Compact, Crash. -/
import Derived.Test.YtgdoagmnhmfjkaaTpf
namespace Go.Proofs.Ytgdoagmnhmfjkaa
open Go.RowKit
set_option linter.unusedVariables false

section
variable {w0 w : World} {g : Nat} {H : Bool → Value} {T : Tp} {l : List It}
theorem cut_code (T : Tp) (s : Bool) (n : Nat) : (T.cut s n).1 = 0 ∨ (T.cut s n).1 = 190 := by
  unfold Tp.cut
  split
  · exact .inl rfl
  · split
    · exact .inl rfl
    · exact .inr rfl
theorem put_code (T : Tp) (s : Bool) (bs : List Int) : (T.put s bs).1 = 0 ∨ (T.put s bs).1 = 190 := by
  unfold Tp.put
  split
  · exact .inl rfl
  · exact .inr rfl
theorem turn_code (T : Tp) (s : Bool) : (T.turn s).1 = 0 ∨ (T.turn s).1 = 190 := by
  unfold Tp.turn
  split
  · exact .inl rfl
  · exact .inr rfl
theorem cut0_empty {T : Tp} {s : Bool} (h : (T.cut s 0).1 = 0) : (T.cut s 0).2.A s = [] := by
  unfold Tp.cut at h ⊢
  split
  · rename_i q
    exact List.eq_nil_of_length_eq_zero q
  · rename_i q
    rw [if_neg q] at h
    split
    · rw [setA_at]; simp
    · rename_i q2
      rw [if_neg q2] at h
      cases h

set_option maxRecDepth 100000 in
set_option maxHeartbeats 2000000 in
theorem repairS (h : Its w0 (.tape w0.heap.size g H T :: l) w) {got : List Nt} {r : List Int} (hr : Rds T.now got r) :
    Calls Try.prog 18 #[.pointer (some ⟨g, 0, none⟩)] w fun e w' => e = .returned (.tuple #[.int .i64 (T.rep r).1, .int .i64 (T.rep r).2.1]) ∧ ∃ H', Its w0 (.tape w0.heap.size g H' (T.rep r).2.2 :: l) w' := by
  have d5 := (tp_cells h.one).2.2.2.2.2
  have hok := tp_ok h.one
  have HI := hide h
  obtain ⟨PR, hPR⟩ : ∃ PR, T.rep r = PR := ⟨_, rfl⟩
  have HP := hide hPR
  rw [hPR]
  clear hPR
  cases hd : T.dd with
  | true =>
    have hp := HP.out
    unfold Tp.rep at hp
    rw [if_pos hd] at hp
    have HP2 := hide hp
    rw [hd] at d5
    clear h hd hok hr hp
    go_enter Try.func18, Try.ntmps18
    go_wp2_with fail
    go_ret2
    rw [← HP2.out]
    exact ⟨rfl, H, HI.out⟩
  | false =>
    rw [hd] at d5
    have hp := HP.out
    unfold Tp.rep at hp
    rw [if_neg (by rw [hd]; decide)] at hp
    have hgl := rds_len hr
    have hnow : T.now.length ≤ 65536 := hok.len T.cn
    rw [show T.now.length - r.length = tot got by omega] at hp
    have hcc := cut_code T T.cn (tot got)
    have KG : Hid (∀ W, Its w0 (.tape w0.heap.size g H T :: l) W → Calls Try.prog 27 #[.pointer (some ⟨g, 0, none⟩)] W fun e w' => e = .returned (.int .i64 (tot got : Int)) ∧ Its w0 (.tape w0.heap.size g H T :: l) w') := hide (fun W hW => goodS hW hr)
    have KZ : Hid (∀ W, Its w0 (.tape w0.heap.size g H T :: l) W → Calls Try.prog 25 #[.pointer (some ⟨g, 0, none⟩)] W fun e w' => e = .returned (.int .i64 (T.now.length : Int)) ∧ Its w0 (.tape w0.heap.size g H T :: l) w') := hide (fun W hW => sizeS hW)
    have KT : Hid (∀ W, Its w0 (.tape w0.heap.size g H T :: l) W → Calls Try.prog 33 #[.pointer (some ⟨g, 0, none⟩), .int .i64 (bi T.cn), .int .i64 (tot got : Int)] W fun e w' => e = .returned (.int .i64 (T.cut T.cn (tot got)).1) ∧ ∃ H', Its w0 (.tape w0.heap.size g H' (T.cut T.cn (tot got)).2 :: l) w') := hide (fun W hW => cutS hW T.cn (tot got) (by show tot got ≤ T.now.length; omega))
    have KC : Hid (∀ W, Its w0 (.tape w0.heap.size g H T :: l) W → W.cell? ⟨g, 1 + 1, none⟩ = some (.int .i64 (bi T.cn))) := hide (fun W hW => (tp_cells hW.one).2.2.1)
    generalize T.cut T.cn (tot got) = CP at *
    obtain ⟨G, hG⟩ : ∃ G, tot got = G := ⟨_, rfl⟩
    obtain ⟨Z, hZ⟩ : ∃ Z, T.now.length = Z := ⟨_, rfl⟩
    obtain ⟨R, hR⟩ : ∃ R, r.length = R := ⟨_, rfl⟩
    rw [hG] at KG KT
    rw [hZ] at KZ hnow
    rw [hG, hZ, hR] at hgl
    rw [hR] at hp
    generalize bi T.cn = bc at *
    have j1 : wrap64 ((Z : Int) - (G : Int)) = (R : Int) := by unfold wrap64; omega
    have Hd := hide hd
    clear h hd hok hr hG hZ hR
    obtain ⟨CC, T1⟩ := CP
    simp only at hcc hp KT
    rcases hcc with rfl | rfl
    · rw [if_pos rfl] at hp
      have HP2 := hide hp
      clear hp hgl
      go_enter Try.func18, Try.ntmps18
      go_upto_region 5 with (first
        | (go_at_call 27; refine (KG.out _ HI.out).mono ?_; rintro e w2 ⟨rfl, h2⟩; have HI := hide h2; clear h2)
        | (go_at_call 25; refine (KZ.out _ HI.out).mono ?_; rintro e w3 ⟨rfl, h3⟩; have HI := hide h3; clear h3))
      have d2 := KC.out _ HI.out
      go_wp2_with (go_at_call 33; refine (KT.out _ HI.out).mono ?_; rintro e w5 ⟨rfl, H5, h5⟩; have HI := hide h5; clear h5)
      go_ret2
      rw [← HP2.out]
      exact ⟨rfl, H5, HI.out⟩
    · rw [if_neg (by decide)] at hp
      have HP2 := hide hp
      clear hp hgl
      go_enter Try.func18, Try.ntmps18
      go_upto_region 5 with (first
        | (go_at_call 27; refine (KG.out _ HI.out).mono ?_; rintro e w2 ⟨rfl, h2⟩; have HI := hide h2; clear h2)
        | (go_at_call 25; refine (KZ.out _ HI.out).mono ?_; rintro e w3 ⟨rfl, h3⟩; have HI := hide h3; clear h3))
      have d2 := KC.out _ HI.out
      go_wp2_with (go_at_call 33; refine (KT.out _ HI.out).mono ?_; rintro e w5 ⟨rfl, H5, h5⟩; have HI := hide h5; clear h5)
      go_ret2
      rw [← HP2.out]
      exact ⟨rfl, H5, HI.out⟩

/-- what Crash leaves -/
def CraV (w0 : World) (e : Ending) (T : Tp) (l : List It) (w' : World) : Prop := ∃ g' H', e = .returned (.pointer (some ⟨g', 0, none⟩)) ∧ Its w0 (.tape w0.heap.size g' H' T.crash :: l) w'
set_option maxRecDepth 100000 in
set_option maxHeartbeats 2000000 in
theorem crashS (h : Its w0 (.tape w0.heap.size g H T :: l) w) : Calls Try.prog 20 #[.pointer (some ⟨g, 0, none⟩)] w fun e w' => CraV w0 e T (.tape w0.heap.size g H T :: l) w' := by
  have hok := tp_ok h.one
  have hb0 := tp_box h.one
  have HI := hide h
  obtain ⟨SS, hSS⟩ : ∃ SS : World → Prop, SS = fun W => W.heap[g]? = some (.cells (tcells H T) 60) := ⟨_, rfl⟩
  obtain ⟨v0, hv0⟩ : ∃ v, H false = v := ⟨_, rfl⟩
  obtain ⟨v1, hv1⟩ : ∃ v, H true = v := ⟨_, rfl⟩
  obtain ⟨bc, hbc⟩ : ∃ x, bi T.cn = x := ⟨_, rfl⟩
  have s0 : ∀ W, SS W → W.cell? ⟨g, 0, none⟩ = some v0 := fun W hW => by rw [hSS] at hW; rw [← hv0]; exact (cells_at hW 0).1
  have s1 : ∀ W, SS W → W.cell? ⟨g, 1, none⟩ = some v1 := fun W hW => by rw [hSS] at hW; rw [← hv1]; exact (cells_at hW 1).1
  have s2 : ∀ W, SS W → W.cell? ⟨g, 2, none⟩ = some (.int .i64 bc) := fun W hW => by rw [hSS] at hW; rw [← hbc]; exact (cells_at hW 2).1
  have hS0 : SS w.drew := by rw [hSS]; exact hb0
  have HS : Hid (∀ W, ∀ l', Its w0 (.tape w0.heap.size g H T :: l') W → SS W) := hide (fun W l' hW => by rw [hSS]; exact tp_box hW.one)
  have HK : Hid (∀ W l', Its w0 (.tape w0.heap.size g H T :: l') W → Calls Try.prog 36 #[v0] W fun e w' => ∃ a n c, e = .returned (.slice a n c) ∧ Its w0 (.area w0.heap.size (.slice a n c) (T.A false) :: .tape w0.heap.size g H T :: l') w') := hide (fun W l' hW => by
    have := clone_any (tp_ar hW.one false).rd (hok.len false)
    rw [hv0] at this
    exact this.mono (by
      rintro e w' ⟨u, rfl, ho, hb⟩
      obtain ⟨a, c, rfl, _⟩ := Sl.own ho
      exact ⟨a, _, c, rfl, hW.new (x := .area w0.heap.size (.slice a _ c) (T.A false)) (.inl (ho.mono hW.size)) (fun k hk => ho.ge k hk) hb⟩))
  have HK1 : Hid (∀ W l', Its w0 (.tape w0.heap.size g H T :: l') W → Calls Try.prog 36 #[v1] W fun e w' => ∃ a n c, e = .returned (.slice a n c) ∧ Its w0 (.area w0.heap.size (.slice a n c) (T.A true) :: .tape w0.heap.size g H T :: l') w') := hide (fun W l' hW => by
    have := clone_any (tp_ar hW.one true).rd (hok.len true)
    rw [hv1] at this
    exact this.mono (by
      rintro e w' ⟨u, rfl, ho, hb⟩
      obtain ⟨a, c, rfl, _⟩ := Sl.own ho
      exact ⟨a, _, c, rfl, hW.new (x := .area w0.heap.size (.slice a _ c) (T.A true)) (.inl (ho.mono hW.size)) (fun k hk => ho.ge k hk) hb⟩))
  have HE : Hid (∀ W u0 u1, Its w0 (.area w0.heap.size u0 (T.A false) :: .area w0.heap.size u1 (T.A true) :: .tape w0.heap.size g H T :: l) W → Its w0 (.tape w0.heap.size W.heap.size (fun s => if s = true then u1 else u0) T.crash :: .tape w0.heap.size g H T :: l) (W.alloc (.cells #[u0, u1, .int .i64 bc, .bool false, .int .i64 0, .bool false] 60))) := hide (fun W u0 u1 hW => by
    have := Its.tnew (H := fun s => if s = true then u1 else u0) (T := T.crash) hW.tail.tail hW hok.crash
    rw [← hbc]
    exact this)
  clear h hok hb0 hv0 hv1 hbc hSS
  go_enter Try.func20, Try.ntmps20
  go_upto_region 1 with fail
  refine wp_region_held_drew (S := SS) (by kernel_rfl) hS0 (fun hS => ?_)
  refine wpAnyH_take (i := 0) (v := .pointer (some ⟨g, 0, none⟩)) rfl (by kernel_rfl) (by kernel_rfl) (by kernel_rfl) (fun _ _ _ h => h) (Or.inl ⟨by kernel_rfl, fun W' hW => by go_simp⟩) hS ?_
  refine wpAnyH_take (i := 1) (v := .pointer (some ⟨g, 0, none⟩)) rfl (by kernel_rfl) (by kernel_rfl) (by kernel_rfl) (fun _ _ _ h => h) (Or.inl ⟨by kernel_rfl, fun W' hW => by go_simp⟩) hS ?_
  refine wpAnyH_take (i := 2) (v := .pointer (some ⟨g, 0, none⟩)) rfl (by kernel_rfl) (by kernel_rfl) (by kernel_rfl) (fun _ _ _ h => h) (Or.inl ⟨by kernel_rfl, fun W' hW => by go_simp⟩) hS ?_
  refine wpAnyH_take (i := 3) (v := .pointer (some ⟨g, 0, none⟩)) rfl (by kernel_rfl) (by kernel_rfl) (by kernel_rfl) (fun _ _ _ h => h) (Or.inl ⟨by kernel_rfl, fun W' hW => by go_simp⟩) hS ?_
  refine wpAnyH_take (i := 4) (v := v0) rfl (by kernel_rfl) (by kernel_rfl) (by kernel_rfl) (fun _ _ _ h => h) (Or.inl ⟨by kernel_rfl, fun W' hW => by have z0 := s0 W' hW; go_simp⟩) hS ?_
  refine wpAnyH_take (i := 6) (v := .pointer (some ⟨g, 0, none⟩)) rfl (by kernel_rfl) (by kernel_rfl) (by kernel_rfl) (fun _ _ _ h => h) (Or.inl ⟨by kernel_rfl, fun W' hW => by go_simp⟩) hS ?_
  refine wpAnyH_take (i := 7) (v := .pointer (some ⟨g, 0, none⟩)) rfl (by kernel_rfl) (by kernel_rfl) (by kernel_rfl) (fun _ _ _ h => h) (Or.inl ⟨by kernel_rfl, fun W' hW => by go_simp⟩) hS ?_
  refine wpAnyH_take (i := 8) (v := .pointer (some ⟨g, 0, none⟩)) rfl (by kernel_rfl) (by kernel_rfl) (by kernel_rfl) (fun _ _ _ h => h) (Or.inl ⟨by kernel_rfl, fun W' hW => by go_simp⟩) hS ?_
  refine wpAnyH_take (i := 9) (v := .pointer (some ⟨g, 1, none⟩)) rfl (by kernel_rfl) (by kernel_rfl) (by kernel_rfl) (fun _ _ _ h => h) (Or.inl ⟨by kernel_rfl, fun W' hW => by go_simp⟩) hS ?_
  refine wpAnyH_take (i := 10) (v := v1) rfl (by kernel_rfl) (by kernel_rfl) (by kernel_rfl) (fun _ _ _ h => h) (Or.inl ⟨by kernel_rfl, fun W' hW => by have z0 := s1 W' hW; go_simp⟩) hS ?_
  refine wpAnyH_take (i := 13) (v := .pointer (some ⟨g, 0, none⟩)) rfl (by kernel_rfl) (by kernel_rfl) (by kernel_rfl) (fun _ _ _ h => h) (Or.inl ⟨by kernel_rfl, fun W' hW => by go_simp⟩) hS ?_
  refine wpAnyH_take (i := 14) (v := .pointer (some ⟨g, 0, none⟩)) rfl (by kernel_rfl) (by kernel_rfl) (by kernel_rfl) (fun _ _ _ h => h) (Or.inl ⟨by kernel_rfl, fun W' hW => by go_simp⟩) hS ?_
  refine wpAnyH_take (i := 15) (v := .pointer (some ⟨g, 2, none⟩)) rfl (by kernel_rfl) (by kernel_rfl) (by kernel_rfl) (fun _ _ _ h => h) (Or.inl ⟨by kernel_rfl, fun W' hW => by go_simp⟩) hS ?_
  refine wpAnyH_take (i := 16) (v := .int .i64 bc) rfl (by kernel_rfl) (by kernel_rfl) (by kernel_rfl) (fun _ _ _ h => h) (Or.inl ⟨by kernel_rfl, fun W' hW => by have z0 := s2 W' hW; go_simp⟩) hS ?_
  refine wpAnyH_ready (rs := [5]) (by kernel_rfl) (by simp) ?_
  refine AllReadyH.cons rfl (fun K hK => ?_) AllReadyH.nil
  go_simp
  go_at_call 36
  refine (HK.out _ _ (HI.out.drew 1)).mono ?_
  rintro e W1 ⟨a0, n0, c0, rfl, h1⟩
  have hS1 := HS.out _ _ h1.swap
  go_simp
  refine hK.out _ _ hS1 (fun _ => ?_)
  clear hK K
  refine wpAnyH_ready (rs := [11]) (by kernel_rfl) (by simp) ?_
  refine AllReadyH.cons rfl (fun K hK => ?_) AllReadyH.nil
  go_simp
  go_at_call 36
  refine (HK1.out _ _ h1.swap).mono ?_
  rintro e W2 ⟨a1, n1, c1, rfl, h2⟩
  have hS2 := HS.out _ _ h2.swap
  have h4 := HE.out _ _ _ h2.rot3
  have hS3 := HS.out _ _ h4.swap
  have H4 := hide h4
  clear h1 h2 h4
  go_simp
  refine hK.out _ _ hS2 (fun _ => ?_)
  clear hK K
  refine wpAnyH_ready (rs := [12]) (by kernel_rfl) (by simp) ?_
  refine AllReadyH.cons rfl (fun K hK => ?_) AllReadyH.nil
  go_simp
  refine hK.out _ _ hS2 (fun _ => ?_)
  clear hK K
  refine wpAnyH_ready (rs := [17]) (by kernel_rfl) (by simp) ?_
  refine AllReadyH.cons rfl (fun K hK => ?_) AllReadyH.nil
  go_simp
  refine hK.out _ _ hS2 (fun _ => ?_)
  clear hK K
  refine wpAnyH_ready (rs := [18]) (by kernel_rfl) (by simp) ?_
  refine AllReadyH.cons rfl (fun K hK => ?_) AllReadyH.nil
  go_simp
  refine hK.out _ _ hS3 (fun _ => ?_)
  clear hK K
  refine wpAnyH_ready (rs := [19]) (by kernel_rfl) (by simp) ?_
  refine AllReadyH.cons rfl (fun K hK => ?_) AllReadyH.nil
  go_simp
  refine hK.out _ _ hS3 (fun _ => ?_)
  clear hK K
  refine wpAnyH_done (by kernel_rfl) ?_ _
  go_wp2_with fail
  go_ret
  exact ⟨_, _, rfl, H4.out⟩
end
end Go.Proofs.Ytgdoagmnhmfjkaa
