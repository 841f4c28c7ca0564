import Derived.Deep.LoopGhost
import Derived.Test.YtocmngpoemfpkabGreatDoorControlSendsAJ
set_option linter.unusedVariables false
namespace Go.Proofs.YtocmngpoemfpkabGreatDoor
open Go.RowKit
theorem note_alive {c : Ct} {x : Nt} (h : (c.note x).1 = 0) : (c.note x).2.dead = c.dead ∧ (c.note x).2.K = ndK c.K x ∧ ndC c.S c.K x = 0 := by
  unfold Ct.note at h ⊢
  split
  · rename_i q; rw [if_pos q] at h; exact absurd h q
  · rename_i q
    rw [if_neg q] at h
    split
    · exact ⟨rfl, rfl, by omega⟩
    · rename_i q2; rw [if_neg q2] at h; exact absurd h q2
theorem se_few {K : Bk} (hk : K.Ok) {y : Int} {r : Rq} (hr : r ∈ ops K.all) (hy : r.id = y) (h : K.seC y = 0) : (ops (K.se y).all).length < (ops K.all).length := by
  rw [Bk.se_yes h]
  show (ops (setE K.all y 2)).length < _
  rw [ops_set hk.nd y 2 (by decide)]
  have : ∀ (l : List Rq), r ∈ l → (l.filter (fun r => r.id != y)).length < l.length := by
    intro l
    induction l with
    | nil => intro h; cases h
    | cons a l ih =>
      intro hm
      rcases List.mem_cons.1 hm with rfl | q
      · rw [List.filter_cons_of_neg (by simp [hy])]
        exact Nat.lt_succ_of_le (List.length_filter_le _ _)
      · have := ih q
        by_cases e : (a.id != y) = true
        · rw [List.filter_cons_of_pos (p := fun r : Rq => r.id != y) e]; simp only [List.length_cons]; omega
        · rw [List.filter_cons_of_neg (p := fun r : Rq => r.id != y) e]; simp only [List.length_cons]; omega
  exact this _ hr
theorem serve_none {k : Nat} {c : Ct} (h : ∀ r ∈ ops c.K.all, c.srv r = false) : Ct.serve (k + 1) c = (0, c) := by
  unfold Ct.serve
  rw [List.find?_eq_none.2 (fun r hr => by rw [h r hr]; simp)]
theorem serve_some {k i : Nat} {c : Ct} {r : Rq} (hr : (ops c.K.all)[i]? = some r) (hs : c.srv r = true) (h : ∀ x ∈ (ops c.K.all).take i, c.srv x = false) : Ct.serve (k + 1) c = if (c.note ⟨6, r.id, 0, 0⟩).1 = 0 then Ct.serve k (c.note ⟨6, r.id, 0, 0⟩).2 else c.note ⟨6, r.id, 0, 0⟩ := by
  have hf : (ops c.K.all).find? c.srv = some r := by
    have hi := idx_lt hr
    have e : ops c.K.all = (ops c.K.all).take i ++ r :: (ops c.K.all).drop (i + 1) := by
      obtain ⟨hi', hr'⟩ := List.getElem?_eq_some_iff.1 hr
      rw [← hr', List.getElem_cons_drop, List.take_append_drop]
    rw [e, List.find?_append, List.find?_eq_none.2 (fun x hx => by rw [h x hx]; simp), List.find?_cons_of_pos hs]
    rfl
  conv => lhs; unfold Ct.serve
  rw [hf]
section
set_option maxRecDepth 100000
set_option maxHeartbeats 4000000
variable {w0 w : World} {l : List It} {B g n m : Nat} {E : Ev} {P : Kp} {c : Ct}
theorem kserveS (h : Its w0 (.ctl w0.heap.size g E n m P c :: l) w) (hv : Liv P c) (hd : c.dead = false) {kk : Nat} (hg : Gd c kk) (hk : kk ≤ 6000) :
    Calls Tryz.prog 52 #[.pointer (some ⟨g, 0, none⟩)] w (CodeP w0 l g E n m (Ct.serve ((ops c.K.all).length + 1) c)) := by
  have hok := (bk_lie (kt_b h.one)).1
  have hfew := hok.few
  rw [(hv hd).2] at hfew
  have HI := hide h
  have HG := hide hg
  have HL : Hid (P.S = c.S ∧ P.K = c.K ∧ c.dead = false) := hide ⟨(hv hd).1, (hv hd).2, hd⟩
  obtain ⟨FU, hFU⟩ : ∃ FU, (ops c.K.all).length + 1 = FU := ⟨_, rfl⟩
  have HF0 := hide (show (ops c.K.all).length < FU by omega)
  have HF1 := hide (show FU ≤ 31 by omega)
  rw [hFU]
  generalize hR : CodeP w0 l g E n m (Ct.serve FU c) = R
  have HR0 : Hid (∀ p e w', p = Ct.serve FU c → CodeP w0 l g E n m p e w' → R e w') := hide (fun p e w' hp h => by rw [← hR, ← hp]; exact h)
  clear hR h hv hd hg hok hfew hFU
  go_enter Tryz.func52, Tryz.ntmps52
  go_wp2_with fail
  go_step3
  go_wp2_with fail
  go_step3
  go_wp2_with fail
  go_loopg [] FU (fun go wx => ∃ (P' : Kp) (ck : Ct), Hid (P'.S = ck.S ∧ P'.K = ck.K ∧ ck.dead = false) ∧ Hid (Gd ck (kk + (FU - go))) ∧ Hid ((ops ck.K.all).length < go ∧ go ≤ FU) ∧ Hid (Ct.serve go ck = Ct.serve FU c) ∧ Hid (Its w0 (.ctl w0.heap.size g E n m P' ck :: l) wx))
  case atStart => exact ⟨P, c, HL, hide (by have := HG.out; rwa [Nat.sub_self]), hide ⟨HF0.out, Nat.le_refl _⟩, hide rfl, HI⟩
  case round =>
    obtain ⟨P', ck, HP, HGk, HF, HS, HR⟩ := hrel
    cases gk with
    | zero => exact absurd HF.out.1 (by omega)
    | succ go =>
      obtain ⟨rs, hrs⟩ : ∃ rs, ops ck.K.all = rs := ⟨_, rfl⟩
      obtain ⟨N, hN⟩ : ∃ N, rs.length = N := ⟨_, rfl⟩
      have KB := hide (bopen_any (kt_b HR.out.one))
      rw [HP.out.2.1, hrs, hN] at KB
      have hok := (bk_lie (kt_b HR.out.one)).1
      rw [HP.out.2.1] at hok
      have HOK := hide hok
      have hrg : Hid (∀ r ∈ rs, (1 ≤ r.tt ∧ r.tt ≤ 30) ∧ I64 r.id) := hide (fun r hr => by
        rw [← hrs] at hr
        obtain ⟨e, he, _, rfl⟩ := ops_mem.1 hr
        have h1 := hok.rg e he
        have h2 := h1.1
        unfold rng at h2
        exact ⟨by omega, h1.2⟩)
      have i0 : (N : Int) ≤ 30 := by have := hok.few; rw [hrs, hN] at this; omega
      have HRS := hide hrs
      have HN := hide hN
      obtain ⟨_, _, _, _, _, c5, _, _⟩ := kt_c HR.out.one
      clear hok hrs hN
      go_wp2_with (go_at_call 120; refine KB.out.mono ?_; rintro e w1 ⟨a1, p1, rfl, q2, q3⟩; have HS1 := hide ((HR.out.fresh q2 q3).swap); clear q2 q3)
      clear c5
      go_loopg [12] N (fun g2 s12 wy => ∃ k : Nat, k + g2 = N ∧ s12 = .int .i64 k ∧ Hid (∀ x ∈ rs.take k, ck.srv x = false) ∧ Hid (Its w0 (.ctl w0.heap.size g E n m P' ck :: .row rqE w0.heap.size (.slice a1 N p1) rs :: l) wy))
      case atStart => exact ⟨0, by omega, rfl, hide (fun x hx => by simp at hx), HS1⟩
      case round =>
        obtain ⟨k, hkg, rfl, HNo, HW⟩ := hrel
        cases gk with
        | zero =>
          obtain rfl : k = N := by omega
          have j1 : ¬ (k : Int) < (k : Int) := by omega
          have HE := hide (serve_none (k := go) (c := ck) (fun x hx => HNo.out x (by rw [List.take_of_length_le (by rw [HN.out]; omega), ← HRS.out]; exact hx)))
          have HZ := hide (HR0.out (0, ck) _ _ (HE.out.symm.trans HS.out) ⟨rfl, P', fun _ => ⟨HP.out.1, HP.out.2.1⟩, HW.out.swap.tail⟩)
          go_wp2_with fail
          exact HZ.out
        | succ g2 =>
          obtain ⟨r, hr⟩ : ∃ r, rs[k]? = some r := ⟨_, List.getElem?_eq_getElem (by rw [HN.out]; omega)⟩
          obtain ⟨b, off, rfl, d0, d1, d2⟩ := rq_at HW.out.two.rd k r hr
          have j0 : (0 : Int) ≤ (k : Int) := by omega
          have j1 : (k : Int) < (N : Int) := by omega
          have j2 : wrap64 ((k : Int) + 1) = (k : Int) + 1 := by unfold wrap64; omega
          have Hrt := hide (hrg.out r (List.mem_of_getElem? hr))
          have HRk := hide hr
          have HN1' : Hid (ck.srv r = false → ∀ x ∈ rs.take (k + 1), ck.srv x = false) := hide (fun h0 x hx => by
            rw [List.take_add_one, hr] at hx
            rcases List.mem_append.1 hx with q | q
            · exact HNo.out x q
            · obtain rfl : x = r := by simpa using q
              exact h0)
          obtain ⟨ri, rs', rt⟩ := r
          dsimp only at *
          obtain ⟨l2, hl2⟩ : ∃ l2, It.box wr.heap.size #[.int .i64 ri, .int .i64 rs', .int .i64 rt] 53 :: It.row rqE w0.heap.size (.slice (some ⟨b, off, none⟩) N p1) rs :: l = l2 := ⟨_, rfl⟩
          have HX2 : Hid (Its w0 (.ctl w0.heap.size g E n m P' ck :: l2) (wr.alloc (.cells #[.int .i64 ri, .int .i64 rs', .int .i64 rt] 53))) := hide (by rw [← hl2]; exact (HW.out.boxN #[.int .i64 ri, .int .i64 rs', .int .i64 rt] 53 rfl).swap)
          have SB : Hid (∀ W, Its w0 (.ctl w0.heap.size g E n m P' ck :: l2) W → W.cell? ⟨wr.heap.size, 0, none⟩ = some (.int .i64 ri) ∧ W.cell? ⟨wr.heap.size, 1, none⟩ = some (.int .i64 rs') ∧ W.cell? ⟨wr.heap.size, 2, none⟩ = some (.int .i64 rt) ∧ W.cell? ⟨g, 4, none⟩ = some (.pointer (some ⟨P'.gm, 0, none⟩))) := hide (fun W hW => by
            subst hl2
            have hbx := hW.two
            obtain ⟨_, _, _, _, c4, _, _, _⟩ := kt_c hW.one
            exact ⟨(cells_at hbx 0).1, (cells_at hbx 1).1, (cells_at hbx 2).1, c4⟩)
          have drop : Hid (∀ W P2 c2, Its w0 (.ctl w0.heap.size g E n m P2 c2 :: l2) W → Its w0 (.ctl w0.heap.size g E n m P2 c2 :: .row rqE w0.heap.size (.slice (some ⟨b, off, none⟩) N p1) rs :: l) W) := hide (fun W P2 c2 hW => by subst hl2; exact hW.swap.tail)
          have KF : Hid (∀ W, Its w0 (.ctl w0.heap.size g E n m P' ck :: l2) W → Calls Tryz.prog 121 #[.pointer (some ⟨g, 0, none⟩), .agg #[.int .i64 ri, .int .i64 rs', .int .i64 rt]] W fun e w' => e = .returned (.bool (ck.isF ⟨ri, rs', rt⟩)) ∧ Its w0 (.ctl w0.heap.size g E n m P' ck :: l2) w') := hide (fun W hW => by
            have := isFirst_any hW.one ⟨ri, rs', rt⟩ (by have := Hrt.out.1; simp only; omega)
            rw [HP.out.2.1] at this
            refine this.mono ?_
            rintro e w' ⟨rfl, q⟩
            exact ⟨rfl, hW.keep q⟩)
          have KR : Hid (∀ W, Its w0 (.ctl w0.heap.size g E n m P' ck :: l2) W → Calls Tryz.prog 122 #[.pointer (some ⟨g, 0, none⟩), .int .i64 rt] W fun e w' => e = .returned (.bool (ck.rests rt)) ∧ Its w0 (.ctl w0.heap.size g E n m P' ck :: l2) w') := hide (fun W hW => by
            have := rests_any hW.one rt Hrt.out.1
            rw [HP.out.1] at this
            refine this.mono ?_
            rintro e w' ⟨rfl, q, rfl⟩
            exact ⟨rfl, hW.drew q⟩)
          have KW : Hid (∀ W, Its w0 (.ctl w0.heap.size g E n m P' ck :: l2) W → Calls Tryz.prog 47 #[.pointer (some ⟨P'.gm, 0, none⟩), .int .i64 rt] W fun e w' => e = .returned (.int .i64 (ck.S.whr rt)) ∧ Its w0 (.ctl w0.heap.size g E n m P' ck :: l2) w') := hide (fun W hW => by
            have := where_m (kt_m hW.one) rt
            rw [HP.out.1] at this
            refine this.mono ?_
            rintro e w' ⟨rfl, rfl⟩
            exact ⟨rfl, hW⟩)
          have HSr : Hid (ck.srv ⟨ri, rs', rt⟩ = (ck.isF ⟨ri, rs', rt⟩ && (ck.rests rt && decide (ck.S.whr rt = rs')))) := hide rfl
          have KN : Hid (∀ W, Its w0 (.ctl w0.heap.size g E n m P' ck :: l2) W → Calls Tryz.prog 49 #[.pointer (some ⟨g, 0, none⟩), .agg #[.int .i64 6, .int .i64 ri, .int .i64 0, .int .i64 0]] W (CodeP w0 l2 g E n m (ck.note ⟨6, ri, 0, 0⟩))) := hide (fun W hW => knote_any hW (fun _ => ⟨HP.out.1, HP.out.2.1⟩) HP.out.2.2 HGk.out (by have := HF1.out; omega) ⟨6, ri, 0, 0⟩ Hrt.out.2)
          have hbx := ((HW.out.boxN #[.int .i64 ri, .int .i64 rs', .int .i64 rt] 53 rfl)).one
          have b0 := (cells_at hbx 0).1
          have b1 := (cells_at hbx 1).1
          have b2 := (cells_at hbx 2).1
          clear hbx hr hl2
          generalize ck.isF ⟨ri, rs', rt⟩ = f at *
          generalize ck.rests rt = rr at *
          generalize ck.S.whr rt = wh at *
          cases f with
          | false =>
            have HN1 := hide (HN1'.out (by rw [HSr.out]; rfl))
            clear KR KW KN HSr HN1'
            go_upto_region 4 with fail
            clear b0 b1 b2
            refine wp_region_held_drew (S := (fun W => W.cell? ⟨wr.heap.size, 0, none⟩ = some (.int .i64 ri) ∧ W.cell? ⟨wr.heap.size, 1, none⟩ = some (.int .i64 rs') ∧ W.cell? ⟨wr.heap.size, 2, none⟩ = some (.int .i64 rt) ∧ W.cell? ⟨g, 4, none⟩ = some (.pointer (some ⟨P'.gm, 0, none⟩)))) (by kernel_rfl) (by first | exact SB.out _ HX2.out | exact SB.out _ (HX2.out.hp rfl rfl rfl rfl)) (fun hS => ?_)
            refine wpAnyH_take (i := 0) (v := .pointer (some ⟨g, 0, none⟩)) rfl (by kernel_rfl) (by kernel_rfl) (by kernel_rfl) (fun _ _ _ h => h) (Or.inl ⟨by kernel_rfl, fun W' hW => by obtain ⟨s0, s1, s2, s3⟩ := hW; go_simp⟩) hS ?_
            refine wpAnyH_take (i := 1) (v := .agg #[.int .i64 ri, .int .i64 rs', .int .i64 rt]) rfl (by kernel_rfl) (by kernel_rfl) (by kernel_rfl) (fun _ _ _ h => h) (Or.inl ⟨by kernel_rfl, fun W' hW => by obtain ⟨s0, s1, s2, s3⟩ := hW; go_simp⟩) hS ?_
            refine wpAnyH_ready (rs := [2]) (by kernel_rfl) (by simp) ?_
            refine AllReadyH.cons rfl (fun K hK => ?_) AllReadyH.nil
            go_simp
            go_at_call 121
            refine (KF.out _ ?_).mono ?_
            exact HX2.out.hp rfl rfl rfl rfl
            rintro e w3 ⟨rfl, q9⟩
            have HY3 := hide q9
            clear q9
            go_simp
            refine hK.out _ _ (SB.out _ HY3.out) (fun _ => ?_)
            clear hK K
            refine wpAnyH_take (i := 3) (v := .bool true) rfl (by kernel_rfl) (by kernel_rfl) (by kernel_rfl) (fun _ _ _ h => h) (Or.inl ⟨by kernel_rfl, fun W' hW => by obtain ⟨s0, s1, s2, s3⟩ := hW; go_simp⟩) (SB.out _ HY3.out) ?_
            refine wpAnyH_take (i := 4) (v := .bool true) rfl (by kernel_rfl) (by kernel_rfl) (by kernel_rfl) (fun _ _ _ h => h) (Or.inl ⟨by kernel_rfl, fun W' hW => by obtain ⟨s0, s1, s2, s3⟩ := hW; go_simp⟩) (SB.out _ HY3.out) ?_
            refine wpAnyH_take (i := 5) (v := undef) rfl (by kernel_rfl) (by kernel_rfl) (by kernel_rfl) (fun _ _ _ h => h) (Or.inr ⟨by kernel_rfl, rfl⟩) (SB.out _ HY3.out) ?_
            refine wpAnyH_take (i := 6) (v := undef) rfl (by kernel_rfl) (by kernel_rfl) (by kernel_rfl) (fun _ _ _ h => h) (Or.inr ⟨by kernel_rfl, rfl⟩) (SB.out _ HY3.out) ?_
            refine wpAnyH_take (i := 7) (v := undef) rfl (by kernel_rfl) (by kernel_rfl) (by kernel_rfl) (fun _ _ _ h => h) (Or.inr ⟨by kernel_rfl, rfl⟩) (SB.out _ HY3.out) ?_
            refine wpAnyH_take (i := 8) (v := undef) rfl (by kernel_rfl) (by kernel_rfl) (by kernel_rfl) (fun _ _ _ h => h) (Or.inr ⟨by kernel_rfl, rfl⟩) (SB.out _ HY3.out) ?_
            refine wpAnyH_take (i := 9) (v := undef) rfl (by kernel_rfl) (by kernel_rfl) (by kernel_rfl) (fun _ _ _ h => h) (Or.inr ⟨by kernel_rfl, rfl⟩) (SB.out _ HY3.out) ?_
            refine wpAnyH_take (i := 10) (v := .bool true) rfl (by kernel_rfl) (by kernel_rfl) (by kernel_rfl) (fun _ _ _ h => h) (Or.inl ⟨by kernel_rfl, fun W' hW => by obtain ⟨s0, s1, s2, s3⟩ := hW; go_simp⟩) (SB.out _ HY3.out) ?_
            refine wpAnyH_take (i := 11) (v := .bool true) rfl (by kernel_rfl) (by kernel_rfl) (by kernel_rfl) (fun _ _ _ h => h) (Or.inl ⟨by kernel_rfl, fun W' hW => by obtain ⟨s0, s1, s2, s3⟩ := hW; go_simp⟩) (SB.out _ HY3.out) ?_
            refine wpAnyH_take (i := 12) (v := undef) rfl (by kernel_rfl) (by kernel_rfl) (by kernel_rfl) (fun _ _ _ h => h) (Or.inr ⟨by kernel_rfl, rfl⟩) (SB.out _ HY3.out) ?_
            refine wpAnyH_take (i := 13) (v := undef) rfl (by kernel_rfl) (by kernel_rfl) (by kernel_rfl) (fun _ _ _ h => h) (Or.inr ⟨by kernel_rfl, rfl⟩) (SB.out _ HY3.out) ?_
            refine wpAnyH_take (i := 14) (v := undef) rfl (by kernel_rfl) (by kernel_rfl) (by kernel_rfl) (fun _ _ _ h => h) (Or.inr ⟨by kernel_rfl, rfl⟩) (SB.out _ HY3.out) ?_
            refine wpAnyH_take (i := 15) (v := undef) rfl (by kernel_rfl) (by kernel_rfl) (by kernel_rfl) (fun _ _ _ h => h) (Or.inr ⟨by kernel_rfl, rfl⟩) (SB.out _ HY3.out) ?_
            refine wpAnyH_take (i := 16) (v := undef) rfl (by kernel_rfl) (by kernel_rfl) (by kernel_rfl) (fun _ _ _ h => h) (Or.inr ⟨by kernel_rfl, rfl⟩) (SB.out _ HY3.out) ?_
            refine wpAnyH_take (i := 17) (v := undef) rfl (by kernel_rfl) (by kernel_rfl) (by kernel_rfl) (fun _ _ _ h => h) (Or.inr ⟨by kernel_rfl, rfl⟩) (SB.out _ HY3.out) ?_
            refine wpAnyH_take (i := 18) (v := undef) rfl (by kernel_rfl) (by kernel_rfl) (by kernel_rfl) (fun _ _ _ h => h) (Or.inr ⟨by kernel_rfl, rfl⟩) (SB.out _ HY3.out) ?_
            refine wpAnyH_take (i := 19) (v := undef) rfl (by kernel_rfl) (by kernel_rfl) (by kernel_rfl) (fun _ _ _ h => h) (Or.inr ⟨by kernel_rfl, rfl⟩) (SB.out _ HY3.out) ?_
            refine wpAnyH_take (i := 20) (v := undef) rfl (by kernel_rfl) (by kernel_rfl) (by kernel_rfl) (fun _ _ _ h => h) (Or.inr ⟨by kernel_rfl, rfl⟩) (SB.out _ HY3.out) ?_
            refine wpAnyH_take (i := 21) (v := undef) rfl (by kernel_rfl) (by kernel_rfl) (by kernel_rfl) (fun _ _ _ h => h) (Or.inr ⟨by kernel_rfl, rfl⟩) (SB.out _ HY3.out) ?_
            refine wpAnyH_ready (rs := [22]) (by kernel_rfl) (by simp) ?_
            refine AllReadyH.cons rfl (fun K hK => ?_) AllReadyH.nil
            go_simp
            refine hK.out _ _ (SB.out _ HY3.out) (fun _ => ?_)
            clear hK K
            refine wpAnyH_done (by kernel_rfl) ?_ _
            go_wp2_with fail
            go_roundg g2
            case measure => omega
            case rel => exact ⟨k + 1, by omega, by go_num, HN1, hide (drop.out _ _ _ (HY3.out.hp rfl rfl rfl rfl))⟩
          | true =>
          cases rr with
          | false =>
            have HN1 := hide (HN1'.out (by rw [HSr.out]; rfl))
            clear KW KN HSr HN1'
            go_upto_region 4 with fail
            clear b0 b1 b2
            refine wp_region_held_drew (S := (fun W => W.cell? ⟨wr.heap.size, 0, none⟩ = some (.int .i64 ri) ∧ W.cell? ⟨wr.heap.size, 1, none⟩ = some (.int .i64 rs') ∧ W.cell? ⟨wr.heap.size, 2, none⟩ = some (.int .i64 rt) ∧ W.cell? ⟨g, 4, none⟩ = some (.pointer (some ⟨P'.gm, 0, none⟩)))) (by kernel_rfl) (by first | exact SB.out _ HX2.out | exact SB.out _ (HX2.out.hp rfl rfl rfl rfl)) (fun hS => ?_)
            refine wpAnyH_take (i := 0) (v := .pointer (some ⟨g, 0, none⟩)) rfl (by kernel_rfl) (by kernel_rfl) (by kernel_rfl) (fun _ _ _ h => h) (Or.inl ⟨by kernel_rfl, fun W' hW => by obtain ⟨s0, s1, s2, s3⟩ := hW; go_simp⟩) hS ?_
            refine wpAnyH_take (i := 1) (v := .agg #[.int .i64 ri, .int .i64 rs', .int .i64 rt]) rfl (by kernel_rfl) (by kernel_rfl) (by kernel_rfl) (fun _ _ _ h => h) (Or.inl ⟨by kernel_rfl, fun W' hW => by obtain ⟨s0, s1, s2, s3⟩ := hW; go_simp⟩) hS ?_
            refine wpAnyH_ready (rs := [2]) (by kernel_rfl) (by simp) ?_
            refine AllReadyH.cons rfl (fun K hK => ?_) AllReadyH.nil
            go_simp
            go_at_call 121
            refine (KF.out _ ?_).mono ?_
            exact HX2.out.hp rfl rfl rfl rfl
            rintro e w3 ⟨rfl, q9⟩
            have HY3 := hide q9
            clear q9
            go_simp
            refine hK.out _ _ (SB.out _ HY3.out) (fun _ => ?_)
            clear hK K
            refine wpAnyH_take (i := 3) (v := .bool false) rfl (by kernel_rfl) (by kernel_rfl) (by kernel_rfl) (fun _ _ _ h => h) (Or.inl ⟨by kernel_rfl, fun W' hW => by obtain ⟨s0, s1, s2, s3⟩ := hW; go_simp⟩) (SB.out _ HY3.out) ?_
            refine wpAnyH_take (i := 4) (v := .bool false) rfl (by kernel_rfl) (by kernel_rfl) (by kernel_rfl) (fun _ _ _ h => h) (Or.inl ⟨by kernel_rfl, fun W' hW => by obtain ⟨s0, s1, s2, s3⟩ := hW; go_simp⟩) (SB.out _ HY3.out) ?_
            refine wpAnyH_take (i := 5) (v := .pointer (some ⟨g, 0, none⟩)) rfl (by kernel_rfl) (by kernel_rfl) (by kernel_rfl) (fun _ _ _ h => h) (Or.inl ⟨by kernel_rfl, fun W' hW => by obtain ⟨s0, s1, s2, s3⟩ := hW; go_simp⟩) (SB.out _ HY3.out) ?_
            refine wpAnyH_take (i := 6) (v := .pointer (some ⟨wr.heap.size, 2, none⟩)) rfl (by kernel_rfl) (by kernel_rfl) (by kernel_rfl) (fun _ _ _ h => h) (Or.inl ⟨by kernel_rfl, fun W' hW => by obtain ⟨s0, s1, s2, s3⟩ := hW; go_simp⟩) (SB.out _ HY3.out) ?_
            refine wpAnyH_take (i := 7) (v := .int .i64 rt) rfl (by kernel_rfl) (by kernel_rfl) (by kernel_rfl) (fun _ _ _ h => h) (Or.inl ⟨by kernel_rfl, fun W' hW => by obtain ⟨s0, s1, s2, s3⟩ := hW; go_simp⟩) (SB.out _ HY3.out) ?_
            refine wpAnyH_ready (rs := [8]) (by kernel_rfl) (by simp) ?_
            refine AllReadyH.cons rfl (fun K hK => ?_) AllReadyH.nil
            go_simp
            go_at_call 122
            refine (KR.out _ ?_).mono ?_
            exact HY3.out.hp rfl rfl rfl rfl
            rintro e w4 ⟨rfl, q9⟩
            have HY4 := hide q9
            clear q9
            go_simp
            refine hK.out _ _ (SB.out _ HY4.out) (fun _ => ?_)
            clear hK K
            refine wpAnyH_take (i := 9) (v := .bool true) rfl (by kernel_rfl) (by kernel_rfl) (by kernel_rfl) (fun _ _ _ h => h) (Or.inl ⟨by kernel_rfl, fun W' hW => by obtain ⟨s0, s1, s2, s3⟩ := hW; go_simp⟩) (SB.out _ HY4.out) ?_
            refine wpAnyH_take (i := 10) (v := .bool true) rfl (by kernel_rfl) (by kernel_rfl) (by kernel_rfl) (fun _ _ _ h => h) (Or.inl ⟨by kernel_rfl, fun W' hW => by obtain ⟨s0, s1, s2, s3⟩ := hW; go_simp⟩) (SB.out _ HY4.out) ?_
            refine wpAnyH_take (i := 11) (v := .bool true) rfl (by kernel_rfl) (by kernel_rfl) (by kernel_rfl) (fun _ _ _ h => h) (Or.inl ⟨by kernel_rfl, fun W' hW => by obtain ⟨s0, s1, s2, s3⟩ := hW; go_simp⟩) (SB.out _ HY4.out) ?_
            refine wpAnyH_take (i := 12) (v := undef) rfl (by kernel_rfl) (by kernel_rfl) (by kernel_rfl) (fun _ _ _ h => h) (Or.inr ⟨by kernel_rfl, rfl⟩) (SB.out _ HY4.out) ?_
            refine wpAnyH_take (i := 13) (v := undef) rfl (by kernel_rfl) (by kernel_rfl) (by kernel_rfl) (fun _ _ _ h => h) (Or.inr ⟨by kernel_rfl, rfl⟩) (SB.out _ HY4.out) ?_
            refine wpAnyH_take (i := 14) (v := undef) rfl (by kernel_rfl) (by kernel_rfl) (by kernel_rfl) (fun _ _ _ h => h) (Or.inr ⟨by kernel_rfl, rfl⟩) (SB.out _ HY4.out) ?_
            refine wpAnyH_take (i := 15) (v := undef) rfl (by kernel_rfl) (by kernel_rfl) (by kernel_rfl) (fun _ _ _ h => h) (Or.inr ⟨by kernel_rfl, rfl⟩) (SB.out _ HY4.out) ?_
            refine wpAnyH_take (i := 16) (v := undef) rfl (by kernel_rfl) (by kernel_rfl) (by kernel_rfl) (fun _ _ _ h => h) (Or.inr ⟨by kernel_rfl, rfl⟩) (SB.out _ HY4.out) ?_
            refine wpAnyH_take (i := 17) (v := undef) rfl (by kernel_rfl) (by kernel_rfl) (by kernel_rfl) (fun _ _ _ h => h) (Or.inr ⟨by kernel_rfl, rfl⟩) (SB.out _ HY4.out) ?_
            refine wpAnyH_take (i := 18) (v := undef) rfl (by kernel_rfl) (by kernel_rfl) (by kernel_rfl) (fun _ _ _ h => h) (Or.inr ⟨by kernel_rfl, rfl⟩) (SB.out _ HY4.out) ?_
            refine wpAnyH_take (i := 19) (v := undef) rfl (by kernel_rfl) (by kernel_rfl) (by kernel_rfl) (fun _ _ _ h => h) (Or.inr ⟨by kernel_rfl, rfl⟩) (SB.out _ HY4.out) ?_
            refine wpAnyH_take (i := 20) (v := undef) rfl (by kernel_rfl) (by kernel_rfl) (by kernel_rfl) (fun _ _ _ h => h) (Or.inr ⟨by kernel_rfl, rfl⟩) (SB.out _ HY4.out) ?_
            refine wpAnyH_take (i := 21) (v := undef) rfl (by kernel_rfl) (by kernel_rfl) (by kernel_rfl) (fun _ _ _ h => h) (Or.inr ⟨by kernel_rfl, rfl⟩) (SB.out _ HY4.out) ?_
            refine wpAnyH_ready (rs := [22]) (by kernel_rfl) (by simp) ?_
            refine AllReadyH.cons rfl (fun K hK => ?_) AllReadyH.nil
            go_simp
            refine hK.out _ _ (SB.out _ HY4.out) (fun _ => ?_)
            clear hK K
            refine wpAnyH_done (by kernel_rfl) ?_ _
            go_wp2_with fail
            go_roundg g2
            case measure => omega
            case rel => exact ⟨k + 1, by omega, by go_num, HN1, hide (drop.out _ _ _ (HY4.out.hp rfl rfl rfl rfl))⟩
          | true =>
          by_cases q1 : wh = rs'
          case neg =>
            have q1' : (wh == rs') = false := beq_eq_false_iff_ne.2 q1
            have HN1 := hide (HN1'.out (by rw [HSr.out]; simp [q1]))
            clear KN HSr HN1'
            go_upto_region 4 with fail
            clear b0 b1 b2
            refine wp_region_held_drew (S := (fun W => W.cell? ⟨wr.heap.size, 0, none⟩ = some (.int .i64 ri) ∧ W.cell? ⟨wr.heap.size, 1, none⟩ = some (.int .i64 rs') ∧ W.cell? ⟨wr.heap.size, 2, none⟩ = some (.int .i64 rt) ∧ W.cell? ⟨g, 4, none⟩ = some (.pointer (some ⟨P'.gm, 0, none⟩)))) (by kernel_rfl) (by first | exact SB.out _ HX2.out | exact SB.out _ (HX2.out.hp rfl rfl rfl rfl)) (fun hS => ?_)
            refine wpAnyH_take (i := 0) (v := .pointer (some ⟨g, 0, none⟩)) rfl (by kernel_rfl) (by kernel_rfl) (by kernel_rfl) (fun _ _ _ h => h) (Or.inl ⟨by kernel_rfl, fun W' hW => by obtain ⟨s0, s1, s2, s3⟩ := hW; go_simp⟩) hS ?_
            refine wpAnyH_take (i := 1) (v := .agg #[.int .i64 ri, .int .i64 rs', .int .i64 rt]) rfl (by kernel_rfl) (by kernel_rfl) (by kernel_rfl) (fun _ _ _ h => h) (Or.inl ⟨by kernel_rfl, fun W' hW => by obtain ⟨s0, s1, s2, s3⟩ := hW; go_simp⟩) hS ?_
            refine wpAnyH_ready (rs := [2]) (by kernel_rfl) (by simp) ?_
            refine AllReadyH.cons rfl (fun K hK => ?_) AllReadyH.nil
            go_simp
            go_at_call 121
            refine (KF.out _ ?_).mono ?_
            exact HX2.out.hp rfl rfl rfl rfl
            rintro e w3 ⟨rfl, q9⟩
            have HY3 := hide q9
            clear q9
            go_simp
            refine hK.out _ _ (SB.out _ HY3.out) (fun _ => ?_)
            clear hK K
            refine wpAnyH_take (i := 3) (v := .bool false) rfl (by kernel_rfl) (by kernel_rfl) (by kernel_rfl) (fun _ _ _ h => h) (Or.inl ⟨by kernel_rfl, fun W' hW => by obtain ⟨s0, s1, s2, s3⟩ := hW; go_simp⟩) (SB.out _ HY3.out) ?_
            refine wpAnyH_take (i := 4) (v := .bool false) rfl (by kernel_rfl) (by kernel_rfl) (by kernel_rfl) (fun _ _ _ h => h) (Or.inl ⟨by kernel_rfl, fun W' hW => by obtain ⟨s0, s1, s2, s3⟩ := hW; go_simp⟩) (SB.out _ HY3.out) ?_
            refine wpAnyH_take (i := 5) (v := .pointer (some ⟨g, 0, none⟩)) rfl (by kernel_rfl) (by kernel_rfl) (by kernel_rfl) (fun _ _ _ h => h) (Or.inl ⟨by kernel_rfl, fun W' hW => by obtain ⟨s0, s1, s2, s3⟩ := hW; go_simp⟩) (SB.out _ HY3.out) ?_
            refine wpAnyH_take (i := 6) (v := .pointer (some ⟨wr.heap.size, 2, none⟩)) rfl (by kernel_rfl) (by kernel_rfl) (by kernel_rfl) (fun _ _ _ h => h) (Or.inl ⟨by kernel_rfl, fun W' hW => by obtain ⟨s0, s1, s2, s3⟩ := hW; go_simp⟩) (SB.out _ HY3.out) ?_
            refine wpAnyH_take (i := 7) (v := .int .i64 rt) rfl (by kernel_rfl) (by kernel_rfl) (by kernel_rfl) (fun _ _ _ h => h) (Or.inl ⟨by kernel_rfl, fun W' hW => by obtain ⟨s0, s1, s2, s3⟩ := hW; go_simp⟩) (SB.out _ HY3.out) ?_
            refine wpAnyH_ready (rs := [8]) (by kernel_rfl) (by simp) ?_
            refine AllReadyH.cons rfl (fun K hK => ?_) AllReadyH.nil
            go_simp
            go_at_call 122
            refine (KR.out _ ?_).mono ?_
            exact HY3.out.hp rfl rfl rfl rfl
            rintro e w4 ⟨rfl, q9⟩
            have HY4 := hide q9
            clear q9
            go_simp
            refine hK.out _ _ (SB.out _ HY4.out) (fun _ => ?_)
            clear hK K
            refine wpAnyH_take (i := 9) (v := .bool false) rfl (by kernel_rfl) (by kernel_rfl) (by kernel_rfl) (fun _ _ _ h => h) (Or.inl ⟨by kernel_rfl, fun W' hW => by obtain ⟨s0, s1, s2, s3⟩ := hW; go_simp⟩) (SB.out _ HY4.out) ?_
            refine wpAnyH_take (i := 10) (v := .bool false) rfl (by kernel_rfl) (by kernel_rfl) (by kernel_rfl) (fun _ _ _ h => h) (Or.inl ⟨by kernel_rfl, fun W' hW => by obtain ⟨s0, s1, s2, s3⟩ := hW; go_simp⟩) (SB.out _ HY4.out) ?_
            refine wpAnyH_take (i := 11) (v := .bool false) rfl (by kernel_rfl) (by kernel_rfl) (by kernel_rfl) (fun _ _ _ h => h) (Or.inl ⟨by kernel_rfl, fun W' hW => by obtain ⟨s0, s1, s2, s3⟩ := hW; go_simp⟩) (SB.out _ HY4.out) ?_
            refine wpAnyH_take (i := 12) (v := .pointer (some ⟨g, 0, none⟩)) rfl (by kernel_rfl) (by kernel_rfl) (by kernel_rfl) (fun _ _ _ h => h) (Or.inl ⟨by kernel_rfl, fun W' hW => by obtain ⟨s0, s1, s2, s3⟩ := hW; go_simp⟩) (SB.out _ HY4.out) ?_
            refine wpAnyH_take (i := 13) (v := .pointer (some ⟨g, 0, none⟩)) rfl (by kernel_rfl) (by kernel_rfl) (by kernel_rfl) (fun _ _ _ h => h) (Or.inl ⟨by kernel_rfl, fun W' hW => by obtain ⟨s0, s1, s2, s3⟩ := hW; go_simp⟩) (SB.out _ HY4.out) ?_
            refine wpAnyH_take (i := 14) (v := .pointer (some ⟨g, 4, none⟩)) rfl (by kernel_rfl) (by kernel_rfl) (by kernel_rfl) (fun _ _ _ h => h) (Or.inl ⟨by kernel_rfl, fun W' hW => by obtain ⟨s0, s1, s2, s3⟩ := hW; go_simp⟩) (SB.out _ HY4.out) ?_
            refine wpAnyH_take (i := 15) (v := .pointer (some ⟨P'.gm, 0, none⟩)) rfl (by kernel_rfl) (by kernel_rfl) (by kernel_rfl) (fun _ _ _ h => h) (Or.inl ⟨by kernel_rfl, fun W' hW => by obtain ⟨s0, s1, s2, s3⟩ := hW; go_simp⟩) (SB.out _ HY4.out) ?_
            refine wpAnyH_take (i := 16) (v := .pointer (some ⟨wr.heap.size, 2, none⟩)) rfl (by kernel_rfl) (by kernel_rfl) (by kernel_rfl) (fun _ _ _ h => h) (Or.inl ⟨by kernel_rfl, fun W' hW => by obtain ⟨s0, s1, s2, s3⟩ := hW; go_simp⟩) (SB.out _ HY4.out) ?_
            refine wpAnyH_take (i := 17) (v := .int .i64 rt) rfl (by kernel_rfl) (by kernel_rfl) (by kernel_rfl) (fun _ _ _ h => h) (Or.inl ⟨by kernel_rfl, fun W' hW => by obtain ⟨s0, s1, s2, s3⟩ := hW; go_simp⟩) (SB.out _ HY4.out) ?_
            refine wpAnyH_take (i := 19) (v := .pointer (some ⟨wr.heap.size, 1, none⟩)) rfl (by kernel_rfl) (by kernel_rfl) (by kernel_rfl) (fun _ _ _ h => h) (Or.inl ⟨by kernel_rfl, fun W' hW => by obtain ⟨s0, s1, s2, s3⟩ := hW; go_simp⟩) (SB.out _ HY4.out) ?_
            refine wpAnyH_take (i := 20) (v := .int .i64 rs') rfl (by kernel_rfl) (by kernel_rfl) (by kernel_rfl) (fun _ _ _ h => h) (Or.inl ⟨by kernel_rfl, fun W' hW => by obtain ⟨s0, s1, s2, s3⟩ := hW; go_simp⟩) (SB.out _ HY4.out) ?_
            refine wpAnyH_ready (rs := [18]) (by kernel_rfl) (by simp) ?_
            refine AllReadyH.cons rfl (fun K hK => ?_) AllReadyH.nil
            go_simp
            go_at_call 47
            refine (KW.out _ ?_).mono ?_
            exact HY4.out.hp rfl rfl rfl rfl
            rintro e w5 ⟨rfl, q9⟩
            have HY5 := hide q9
            clear q9
            go_simp
            refine hK.out _ _ (SB.out _ HY5.out) (fun _ => ?_)
            clear hK K
            refine wpAnyH_take (i := 21) (v := .bool true) rfl (by kernel_rfl) (by kernel_rfl) (by kernel_rfl) (fun _ _ _ h => h) (Or.inl ⟨by kernel_rfl, fun W' hW => by obtain ⟨s0, s1, s2, s3⟩ := hW; go_simp⟩) (SB.out _ HY5.out) ?_
            refine wpAnyH_ready (rs := [22]) (by kernel_rfl) (by simp) ?_
            refine AllReadyH.cons rfl (fun K hK => ?_) AllReadyH.nil
            go_simp
            refine hK.out _ _ (SB.out _ HY5.out) (fun _ => ?_)
            clear hK K
            refine wpAnyH_done (by kernel_rfl) ?_ _
            go_wp2_with fail
            go_roundg g2
            case measure => omega
            case rel => exact ⟨k + 1, by omega, by go_num, HN1, hide (drop.out _ _ _ (HY5.out.hp rfl rfl rfl rfl))⟩
          case pos =>
            subst q1
            have hs := HSr.out
            simp only [decide_true, Bool.and_true] at hs
            have HE := hide (serve_some (k := go) (c := ck) (i := k) (r := ⟨ri, wh, rt⟩) (by rw [HRS.out]; exact HRk.out) hs (fun x hx => HNo.out x (by rw [← HRS.out]; exact hx)))
            have HA := hide (note_alive (c := ck) (x := ⟨6, ri, 0, 0⟩))
            have HG9 := hide (HGk.out.note ⟨6, ri, 0, 0⟩)
            have HFew : Hid ((ck.note ⟨6, ri, 0, 0⟩).1 = 0 → (ops (ck.note ⟨6, ri, 0, 0⟩).2.K.all).length < (ops ck.K.all).length) := hide (fun h0 => by
              obtain ⟨_, q2, q3⟩ := HA.out h0
              rw [q2]
              exact se_few HOK.out (r := ⟨ri, wh, rt⟩) (by rw [HRS.out]; exact List.mem_of_getElem? HRk.out) rfl q3)
            dsimp only at HE
            generalize ck.note ⟨6, ri, 0, 0⟩ = np at *
            obtain ⟨cd, c9⟩ := np
            dsimp only at *
            clear hs HSr HN1'
            by_cases q2 : cd = 0
            · subst q2
              have HA1 := hide (HA.out rfl)
              have HFew1 := hide (HFew.out rfl)
              have HE1 : Hid (Ct.serve (go + 1) ck = Ct.serve go c9) := hide (by have := HE.out; rw [if_pos rfl] at this; exact this)
              clear HA HFew HE
              go_upto_region 4 with fail
              clear b0 b1 b2
              refine wp_region_held_drew (S := (fun W => W.cell? ⟨wr.heap.size, 0, none⟩ = some (.int .i64 ri) ∧ W.cell? ⟨wr.heap.size, 1, none⟩ = some (.int .i64 wh) ∧ W.cell? ⟨wr.heap.size, 2, none⟩ = some (.int .i64 rt) ∧ W.cell? ⟨g, 4, none⟩ = some (.pointer (some ⟨P'.gm, 0, none⟩)))) (by kernel_rfl) (by first | exact SB.out _ HX2.out | exact SB.out _ (HX2.out.hp rfl rfl rfl rfl)) (fun hS => ?_)
              refine wpAnyH_take (i := 0) (v := .pointer (some ⟨g, 0, none⟩)) rfl (by kernel_rfl) (by kernel_rfl) (by kernel_rfl) (fun _ _ _ h => h) (Or.inl ⟨by kernel_rfl, fun W' hW => by obtain ⟨s0, s1, s2, s3⟩ := hW; go_simp⟩) hS ?_
              refine wpAnyH_take (i := 1) (v := .agg #[.int .i64 ri, .int .i64 wh, .int .i64 rt]) rfl (by kernel_rfl) (by kernel_rfl) (by kernel_rfl) (fun _ _ _ h => h) (Or.inl ⟨by kernel_rfl, fun W' hW => by obtain ⟨s0, s1, s2, s3⟩ := hW; go_simp⟩) hS ?_
              refine wpAnyH_ready (rs := [2]) (by kernel_rfl) (by simp) ?_
              refine AllReadyH.cons rfl (fun K hK => ?_) AllReadyH.nil
              go_simp
              go_at_call 121
              refine (KF.out _ ?_).mono ?_
              exact HX2.out.hp rfl rfl rfl rfl
              rintro e w3 ⟨rfl, q9⟩
              have HY3 := hide q9
              clear q9
              go_simp
              refine hK.out _ _ (SB.out _ HY3.out) (fun _ => ?_)
              clear hK K
              refine wpAnyH_take (i := 3) (v := .bool false) rfl (by kernel_rfl) (by kernel_rfl) (by kernel_rfl) (fun _ _ _ h => h) (Or.inl ⟨by kernel_rfl, fun W' hW => by obtain ⟨s0, s1, s2, s3⟩ := hW; go_simp⟩) (SB.out _ HY3.out) ?_
              refine wpAnyH_take (i := 4) (v := .bool false) rfl (by kernel_rfl) (by kernel_rfl) (by kernel_rfl) (fun _ _ _ h => h) (Or.inl ⟨by kernel_rfl, fun W' hW => by obtain ⟨s0, s1, s2, s3⟩ := hW; go_simp⟩) (SB.out _ HY3.out) ?_
              refine wpAnyH_take (i := 5) (v := .pointer (some ⟨g, 0, none⟩)) rfl (by kernel_rfl) (by kernel_rfl) (by kernel_rfl) (fun _ _ _ h => h) (Or.inl ⟨by kernel_rfl, fun W' hW => by obtain ⟨s0, s1, s2, s3⟩ := hW; go_simp⟩) (SB.out _ HY3.out) ?_
              refine wpAnyH_take (i := 6) (v := .pointer (some ⟨wr.heap.size, 2, none⟩)) rfl (by kernel_rfl) (by kernel_rfl) (by kernel_rfl) (fun _ _ _ h => h) (Or.inl ⟨by kernel_rfl, fun W' hW => by obtain ⟨s0, s1, s2, s3⟩ := hW; go_simp⟩) (SB.out _ HY3.out) ?_
              refine wpAnyH_take (i := 7) (v := .int .i64 rt) rfl (by kernel_rfl) (by kernel_rfl) (by kernel_rfl) (fun _ _ _ h => h) (Or.inl ⟨by kernel_rfl, fun W' hW => by obtain ⟨s0, s1, s2, s3⟩ := hW; go_simp⟩) (SB.out _ HY3.out) ?_
              refine wpAnyH_ready (rs := [8]) (by kernel_rfl) (by simp) ?_
              refine AllReadyH.cons rfl (fun K hK => ?_) AllReadyH.nil
              go_simp
              go_at_call 122
              refine (KR.out _ ?_).mono ?_
              exact HY3.out.hp rfl rfl rfl rfl
              rintro e w4 ⟨rfl, q9⟩
              have HY4 := hide q9
              clear q9
              go_simp
              refine hK.out _ _ (SB.out _ HY4.out) (fun _ => ?_)
              clear hK K
              refine wpAnyH_take (i := 9) (v := .bool false) rfl (by kernel_rfl) (by kernel_rfl) (by kernel_rfl) (fun _ _ _ h => h) (Or.inl ⟨by kernel_rfl, fun W' hW => by obtain ⟨s0, s1, s2, s3⟩ := hW; go_simp⟩) (SB.out _ HY4.out) ?_
              refine wpAnyH_take (i := 10) (v := .bool false) rfl (by kernel_rfl) (by kernel_rfl) (by kernel_rfl) (fun _ _ _ h => h) (Or.inl ⟨by kernel_rfl, fun W' hW => by obtain ⟨s0, s1, s2, s3⟩ := hW; go_simp⟩) (SB.out _ HY4.out) ?_
              refine wpAnyH_take (i := 11) (v := .bool false) rfl (by kernel_rfl) (by kernel_rfl) (by kernel_rfl) (fun _ _ _ h => h) (Or.inl ⟨by kernel_rfl, fun W' hW => by obtain ⟨s0, s1, s2, s3⟩ := hW; go_simp⟩) (SB.out _ HY4.out) ?_
              refine wpAnyH_take (i := 12) (v := .pointer (some ⟨g, 0, none⟩)) rfl (by kernel_rfl) (by kernel_rfl) (by kernel_rfl) (fun _ _ _ h => h) (Or.inl ⟨by kernel_rfl, fun W' hW => by obtain ⟨s0, s1, s2, s3⟩ := hW; go_simp⟩) (SB.out _ HY4.out) ?_
              refine wpAnyH_take (i := 13) (v := .pointer (some ⟨g, 0, none⟩)) rfl (by kernel_rfl) (by kernel_rfl) (by kernel_rfl) (fun _ _ _ h => h) (Or.inl ⟨by kernel_rfl, fun W' hW => by obtain ⟨s0, s1, s2, s3⟩ := hW; go_simp⟩) (SB.out _ HY4.out) ?_
              refine wpAnyH_take (i := 14) (v := .pointer (some ⟨g, 4, none⟩)) rfl (by kernel_rfl) (by kernel_rfl) (by kernel_rfl) (fun _ _ _ h => h) (Or.inl ⟨by kernel_rfl, fun W' hW => by obtain ⟨s0, s1, s2, s3⟩ := hW; go_simp⟩) (SB.out _ HY4.out) ?_
              refine wpAnyH_take (i := 15) (v := .pointer (some ⟨P'.gm, 0, none⟩)) rfl (by kernel_rfl) (by kernel_rfl) (by kernel_rfl) (fun _ _ _ h => h) (Or.inl ⟨by kernel_rfl, fun W' hW => by obtain ⟨s0, s1, s2, s3⟩ := hW; go_simp⟩) (SB.out _ HY4.out) ?_
              refine wpAnyH_take (i := 16) (v := .pointer (some ⟨wr.heap.size, 2, none⟩)) rfl (by kernel_rfl) (by kernel_rfl) (by kernel_rfl) (fun _ _ _ h => h) (Or.inl ⟨by kernel_rfl, fun W' hW => by obtain ⟨s0, s1, s2, s3⟩ := hW; go_simp⟩) (SB.out _ HY4.out) ?_
              refine wpAnyH_take (i := 17) (v := .int .i64 rt) rfl (by kernel_rfl) (by kernel_rfl) (by kernel_rfl) (fun _ _ _ h => h) (Or.inl ⟨by kernel_rfl, fun W' hW => by obtain ⟨s0, s1, s2, s3⟩ := hW; go_simp⟩) (SB.out _ HY4.out) ?_
              refine wpAnyH_take (i := 19) (v := .pointer (some ⟨wr.heap.size, 1, none⟩)) rfl (by kernel_rfl) (by kernel_rfl) (by kernel_rfl) (fun _ _ _ h => h) (Or.inl ⟨by kernel_rfl, fun W' hW => by obtain ⟨s0, s1, s2, s3⟩ := hW; go_simp⟩) (SB.out _ HY4.out) ?_
              refine wpAnyH_take (i := 20) (v := .int .i64 wh) rfl (by kernel_rfl) (by kernel_rfl) (by kernel_rfl) (fun _ _ _ h => h) (Or.inl ⟨by kernel_rfl, fun W' hW => by obtain ⟨s0, s1, s2, s3⟩ := hW; go_simp⟩) (SB.out _ HY4.out) ?_
              refine wpAnyH_ready (rs := [18]) (by kernel_rfl) (by simp) ?_
              refine AllReadyH.cons rfl (fun K hK => ?_) AllReadyH.nil
              go_simp
              go_at_call 47
              refine (KW.out _ ?_).mono ?_
              exact HY4.out.hp rfl rfl rfl rfl
              rintro e w5 ⟨rfl, q9⟩
              have HY5 := hide q9
              clear q9
              go_simp
              refine hK.out _ _ (SB.out _ HY5.out) (fun _ => ?_)
              clear hK K
              refine wpAnyH_take (i := 21) (v := .bool false) rfl (by kernel_rfl) (by kernel_rfl) (by kernel_rfl) (fun _ _ _ h => h) (Or.inl ⟨by kernel_rfl, fun W' hW => by obtain ⟨s0, s1, s2, s3⟩ := hW; go_simp⟩) (SB.out _ HY5.out) ?_
              refine wpAnyH_ready (rs := [22]) (by kernel_rfl) (by simp) ?_
              refine AllReadyH.cons rfl (fun K hK => ?_) AllReadyH.nil
              go_simp
              refine hK.out _ _ (SB.out _ HY5.out) (fun _ => ?_)
              clear hK K
              refine wpAnyH_done (by kernel_rfl) ?_ _
              go_wp2_with (go_at_call 49; refine (KN.out _ ?_).mono ?_; exact HY5.out.hp rfl rfl rfl rfl; rintro e w6 ⟨rfl, P9, hv9, q9⟩; have HV9 := hide hv9; have HQ := hide q9; clear hv9 q9)
              go_roundg go
              case measure => omega
              case rel => exact ⟨P9, c9, hide ⟨(HV9.out ((HA1.out.1).trans HP.out.2.2)).1, (HV9.out ((HA1.out.1).trans HP.out.2.2)).2, (HA1.out.1).trans HP.out.2.2⟩, hide (HG9.out.up (by have := HF.out.2; omega)), hide ⟨by have := HF.out.1; have := HFew1.out; omega, by have := HF.out.2; omega⟩, hide (HE1.out.symm.trans HS.out), hide ((drop.out _ _ _ HQ.out).swap.tail)⟩
            · have q2' : (cd == 0) = false := beq_eq_false_iff_ne.2 q2
              have HE2 : Hid (Ct.serve (go + 1) ck = (cd, c9)) := hide (by have := HE.out; rw [if_neg q2] at this; exact this)
              clear HE HA HFew
              go_upto_region 4 with fail
              clear b0 b1 b2
              refine wp_region_held_drew (S := (fun W => W.cell? ⟨wr.heap.size, 0, none⟩ = some (.int .i64 ri) ∧ W.cell? ⟨wr.heap.size, 1, none⟩ = some (.int .i64 wh) ∧ W.cell? ⟨wr.heap.size, 2, none⟩ = some (.int .i64 rt) ∧ W.cell? ⟨g, 4, none⟩ = some (.pointer (some ⟨P'.gm, 0, none⟩)))) (by kernel_rfl) (by first | exact SB.out _ HX2.out | exact SB.out _ (HX2.out.hp rfl rfl rfl rfl)) (fun hS => ?_)
              refine wpAnyH_take (i := 0) (v := .pointer (some ⟨g, 0, none⟩)) rfl (by kernel_rfl) (by kernel_rfl) (by kernel_rfl) (fun _ _ _ h => h) (Or.inl ⟨by kernel_rfl, fun W' hW => by obtain ⟨s0, s1, s2, s3⟩ := hW; go_simp⟩) hS ?_
              refine wpAnyH_take (i := 1) (v := .agg #[.int .i64 ri, .int .i64 wh, .int .i64 rt]) rfl (by kernel_rfl) (by kernel_rfl) (by kernel_rfl) (fun _ _ _ h => h) (Or.inl ⟨by kernel_rfl, fun W' hW => by obtain ⟨s0, s1, s2, s3⟩ := hW; go_simp⟩) hS ?_
              refine wpAnyH_ready (rs := [2]) (by kernel_rfl) (by simp) ?_
              refine AllReadyH.cons rfl (fun K hK => ?_) AllReadyH.nil
              go_simp
              go_at_call 121
              refine (KF.out _ ?_).mono ?_
              exact HX2.out.hp rfl rfl rfl rfl
              rintro e w3 ⟨rfl, q9⟩
              have HY3 := hide q9
              clear q9
              go_simp
              refine hK.out _ _ (SB.out _ HY3.out) (fun _ => ?_)
              clear hK K
              refine wpAnyH_take (i := 3) (v := .bool false) rfl (by kernel_rfl) (by kernel_rfl) (by kernel_rfl) (fun _ _ _ h => h) (Or.inl ⟨by kernel_rfl, fun W' hW => by obtain ⟨s0, s1, s2, s3⟩ := hW; go_simp⟩) (SB.out _ HY3.out) ?_
              refine wpAnyH_take (i := 4) (v := .bool false) rfl (by kernel_rfl) (by kernel_rfl) (by kernel_rfl) (fun _ _ _ h => h) (Or.inl ⟨by kernel_rfl, fun W' hW => by obtain ⟨s0, s1, s2, s3⟩ := hW; go_simp⟩) (SB.out _ HY3.out) ?_
              refine wpAnyH_take (i := 5) (v := .pointer (some ⟨g, 0, none⟩)) rfl (by kernel_rfl) (by kernel_rfl) (by kernel_rfl) (fun _ _ _ h => h) (Or.inl ⟨by kernel_rfl, fun W' hW => by obtain ⟨s0, s1, s2, s3⟩ := hW; go_simp⟩) (SB.out _ HY3.out) ?_
              refine wpAnyH_take (i := 6) (v := .pointer (some ⟨wr.heap.size, 2, none⟩)) rfl (by kernel_rfl) (by kernel_rfl) (by kernel_rfl) (fun _ _ _ h => h) (Or.inl ⟨by kernel_rfl, fun W' hW => by obtain ⟨s0, s1, s2, s3⟩ := hW; go_simp⟩) (SB.out _ HY3.out) ?_
              refine wpAnyH_take (i := 7) (v := .int .i64 rt) rfl (by kernel_rfl) (by kernel_rfl) (by kernel_rfl) (fun _ _ _ h => h) (Or.inl ⟨by kernel_rfl, fun W' hW => by obtain ⟨s0, s1, s2, s3⟩ := hW; go_simp⟩) (SB.out _ HY3.out) ?_
              refine wpAnyH_ready (rs := [8]) (by kernel_rfl) (by simp) ?_
              refine AllReadyH.cons rfl (fun K hK => ?_) AllReadyH.nil
              go_simp
              go_at_call 122
              refine (KR.out _ ?_).mono ?_
              exact HY3.out.hp rfl rfl rfl rfl
              rintro e w4 ⟨rfl, q9⟩
              have HY4 := hide q9
              clear q9
              go_simp
              refine hK.out _ _ (SB.out _ HY4.out) (fun _ => ?_)
              clear hK K
              refine wpAnyH_take (i := 9) (v := .bool false) rfl (by kernel_rfl) (by kernel_rfl) (by kernel_rfl) (fun _ _ _ h => h) (Or.inl ⟨by kernel_rfl, fun W' hW => by obtain ⟨s0, s1, s2, s3⟩ := hW; go_simp⟩) (SB.out _ HY4.out) ?_
              refine wpAnyH_take (i := 10) (v := .bool false) rfl (by kernel_rfl) (by kernel_rfl) (by kernel_rfl) (fun _ _ _ h => h) (Or.inl ⟨by kernel_rfl, fun W' hW => by obtain ⟨s0, s1, s2, s3⟩ := hW; go_simp⟩) (SB.out _ HY4.out) ?_
              refine wpAnyH_take (i := 11) (v := .bool false) rfl (by kernel_rfl) (by kernel_rfl) (by kernel_rfl) (fun _ _ _ h => h) (Or.inl ⟨by kernel_rfl, fun W' hW => by obtain ⟨s0, s1, s2, s3⟩ := hW; go_simp⟩) (SB.out _ HY4.out) ?_
              refine wpAnyH_take (i := 12) (v := .pointer (some ⟨g, 0, none⟩)) rfl (by kernel_rfl) (by kernel_rfl) (by kernel_rfl) (fun _ _ _ h => h) (Or.inl ⟨by kernel_rfl, fun W' hW => by obtain ⟨s0, s1, s2, s3⟩ := hW; go_simp⟩) (SB.out _ HY4.out) ?_
              refine wpAnyH_take (i := 13) (v := .pointer (some ⟨g, 0, none⟩)) rfl (by kernel_rfl) (by kernel_rfl) (by kernel_rfl) (fun _ _ _ h => h) (Or.inl ⟨by kernel_rfl, fun W' hW => by obtain ⟨s0, s1, s2, s3⟩ := hW; go_simp⟩) (SB.out _ HY4.out) ?_
              refine wpAnyH_take (i := 14) (v := .pointer (some ⟨g, 4, none⟩)) rfl (by kernel_rfl) (by kernel_rfl) (by kernel_rfl) (fun _ _ _ h => h) (Or.inl ⟨by kernel_rfl, fun W' hW => by obtain ⟨s0, s1, s2, s3⟩ := hW; go_simp⟩) (SB.out _ HY4.out) ?_
              refine wpAnyH_take (i := 15) (v := .pointer (some ⟨P'.gm, 0, none⟩)) rfl (by kernel_rfl) (by kernel_rfl) (by kernel_rfl) (fun _ _ _ h => h) (Or.inl ⟨by kernel_rfl, fun W' hW => by obtain ⟨s0, s1, s2, s3⟩ := hW; go_simp⟩) (SB.out _ HY4.out) ?_
              refine wpAnyH_take (i := 16) (v := .pointer (some ⟨wr.heap.size, 2, none⟩)) rfl (by kernel_rfl) (by kernel_rfl) (by kernel_rfl) (fun _ _ _ h => h) (Or.inl ⟨by kernel_rfl, fun W' hW => by obtain ⟨s0, s1, s2, s3⟩ := hW; go_simp⟩) (SB.out _ HY4.out) ?_
              refine wpAnyH_take (i := 17) (v := .int .i64 rt) rfl (by kernel_rfl) (by kernel_rfl) (by kernel_rfl) (fun _ _ _ h => h) (Or.inl ⟨by kernel_rfl, fun W' hW => by obtain ⟨s0, s1, s2, s3⟩ := hW; go_simp⟩) (SB.out _ HY4.out) ?_
              refine wpAnyH_take (i := 19) (v := .pointer (some ⟨wr.heap.size, 1, none⟩)) rfl (by kernel_rfl) (by kernel_rfl) (by kernel_rfl) (fun _ _ _ h => h) (Or.inl ⟨by kernel_rfl, fun W' hW => by obtain ⟨s0, s1, s2, s3⟩ := hW; go_simp⟩) (SB.out _ HY4.out) ?_
              refine wpAnyH_take (i := 20) (v := .int .i64 wh) rfl (by kernel_rfl) (by kernel_rfl) (by kernel_rfl) (fun _ _ _ h => h) (Or.inl ⟨by kernel_rfl, fun W' hW => by obtain ⟨s0, s1, s2, s3⟩ := hW; go_simp⟩) (SB.out _ HY4.out) ?_
              refine wpAnyH_ready (rs := [18]) (by kernel_rfl) (by simp) ?_
              refine AllReadyH.cons rfl (fun K hK => ?_) AllReadyH.nil
              go_simp
              go_at_call 47
              refine (KW.out _ ?_).mono ?_
              exact HY4.out.hp rfl rfl rfl rfl
              rintro e w5 ⟨rfl, q9⟩
              have HY5 := hide q9
              clear q9
              go_simp
              refine hK.out _ _ (SB.out _ HY5.out) (fun _ => ?_)
              clear hK K
              refine wpAnyH_take (i := 21) (v := .bool false) rfl (by kernel_rfl) (by kernel_rfl) (by kernel_rfl) (fun _ _ _ h => h) (Or.inl ⟨by kernel_rfl, fun W' hW => by obtain ⟨s0, s1, s2, s3⟩ := hW; go_simp⟩) (SB.out _ HY5.out) ?_
              refine wpAnyH_ready (rs := [22]) (by kernel_rfl) (by simp) ?_
              refine AllReadyH.cons rfl (fun K hK => ?_) AllReadyH.nil
              go_simp
              refine hK.out _ _ (SB.out _ HY5.out) (fun _ => ?_)
              clear hK K
              refine wpAnyH_done (by kernel_rfl) ?_ _
              go_wp2_with (go_at_call 49; refine (KN.out _ ?_).mono ?_; exact HY5.out.hp rfl rfl rfl rfl; rintro e w6 ⟨rfl, P9, hv9, q9⟩; have HV9 := hide hv9; have HQ := hide q9; clear hv9 q9)
              exact HR0.out (cd, c9) _ _ (HE2.out.symm.trans HS.out) ⟨rfl, P9, HV9.out, (drop.out _ _ _ HQ.out).swap.tail⟩
end
end Go.Proofs.YtocmngpoemfpkabGreatDoor

namespace Go.Proofs.YtocmngpoemfpkabGreatDoor
open Go.RowKit
section
set_option maxRecDepth 100000
set_option maxHeartbeats 4000000
variable {w0 w : World} {l : List It} {B g n m : Nat} {E : Ev} {P : Kp} {c : Ct}
theorem Its.ktick (h : Its w0 (.ctl w0.heap.size g E n m P c :: l) w) (d : Nat) (x : Int) :
    Its w0 (.ctl w0.heap.size g E n m P (c.setK (d : Int) x) :: l) (w.setCell ⟨P.kg, d, none⟩ (.int .i64 x)) := by
  have hf := kt_f h.one
  have h1 := (h.kopen.1.pick 3 rfl).tset d x
  refine Its.kshut (c := c.setK (d : Int) x) (Its.back (l := kparts w0.heap.size g E n m P c ++ l) 3 (by simp [kparts]) h1) ⟨hf.gd, hf.hn, hf.hm, hf.hs, hf.gq, hf.pa, ?_, hf.jo, hf.jd⟩
  show (c.tk.set _ x).length = m + 1
  rw [List.length_set]; exact hf.tk
theorem kt_tick (h : (It.ctl B g E n m P c).P w) (d : Nat) (hd : d ≤ m) : w.cell? ⟨P.kg, d, none⟩ = some (.int .i64 (c.tkAt (d : Int))) ∧ w.frozen? ⟨P.kg, d, none⟩ = false := by
  have hf := kt_f h
  have ho := kt_tk h
  obtain ⟨x, hx⟩ : ∃ x, c.tk[d]? = some x := ⟨_, List.getElem?_eq_getElem (by rw [hf.tk]; omega)⟩
  have e : c.tkAt (d : Int) = x := by unfold Ct.tkAt; rw [show ((d : Int)).toNat = d by omega, hx]; rfl
  rw [e]
  rcases ho.2 with ⟨q, _⟩ | ⟨g', cap, cur, q, _, hg, hn, hm, _, ht⟩
  · cases q
  · simp only [Value.slice.injEq, Option.some.injEq, Addr.mk.injEq] at q
    obtain ⟨⟨rfl, _, _⟩, _, rfl⟩ := q
    have hfl : intE.fl c.tk = c.tk.map (Value.int .i64) := fl_map intE (Value.int .i64) (fun _ => rfl) c.tk
    rw [hfl] at ht
    have hlen := hf.tk
    have ht' : (cur.toList.take (c.tk.length * 1))[d]? = some (.int .i64 x) := by
      show (cur.toList.take (c.tk.length * intE.k))[d]? = _
      rw [ht, List.getElem?_map, hx]; rfl
    rw [List.getElem?_take_of_lt (by omega), Array.getElem?_toList] at ht'
    exact ⟨by rw [(cells_at hg d).1]; exact ht', (cells_at hg d).2⟩
theorem Gd.setK {k : Nat} (h : Gd c k) (d x : Int) : Gd (c.setK d x) k := ⟨h.jl, h.nt⟩
end
end Go.Proofs.YtocmngpoemfpkabGreatDoor

namespace Go.Proofs.YtocmngpoemfpkabGreatDoor
open Go.RowKit
def Tko (c : Ct) : Prop := ∀ d : Int, 0 ≤ c.tkAt d ∧ c.tkAt d ≤ 1000
theorem Tko.setK {c : Ct} (h : Tko c) (d : Nat) {x : Int} (hx : 0 ≤ x ∧ x ≤ 1000) : Tko (c.setK (d : Int) x) := fun e => by
  show 0 ≤ ((c.tk.set _ x)[e.toNat]?).getD 0 ∧ ((c.tk.set _ x)[e.toNat]?).getD 0 ≤ 1000
  rw [List.getElem?_set]
  split
  · split
    · exact hx
    · simp
  · exact h e
theorem due_succ (pause : Int) (now : List Int) (c : Ct) (k : Nat) : Ct.due pause now c (k + 1) = Ct.due1 pause now (Ct.due pause now c k) ((k : Int) + 1) := by
  unfold Ct.due
  rw [List.range_succ, List.map_append, List.foldl_append]
  rfl
theorem due1_S (pause : Int) (now : List Int) (p : Ct × List Int) (d : Int) : (Ct.due1 pause now p d).1.S = p.1.S ∧ (Ct.due1 pause now p d).1.K = p.1.K ∧ (Ct.due1 pause now p d).1.dead = p.1.dead := by
  unfold Ct.due1
  split
  · exact ⟨rfl, rfl, rfl⟩
  · split
    · exact ⟨rfl, rfl, rfl⟩
    · split
      · exact ⟨rfl, rfl, rfl⟩
      · exact ⟨rfl, rfl, rfl⟩
theorem due1_len (pause : Int) (now : List Int) (p : Ct × List Int) (d : Int) : (Ct.due1 pause now p d).2.length ≤ p.2.length + 1 := by
  unfold Ct.due1
  split
  · exact Nat.le_succ _
  · split
    · simp
    · split
      · exact Nat.le_succ _
      · simp
section
set_option maxRecDepth 100000
set_option maxHeartbeats 4000000
variable {w0 w : World} {l : List It} {B g n m : Nat} {E : Ev} {P : Kp} {c : Ct}
def DueP (w0 : World) (l : List It) (g : Nat) (E : Ev) (n m : Nat) (P : Kp) (p : Ct × List Int) (e : Ending) (w' : World) : Prop := ∃ a q r, e = .returned (.slice a q r) ∧ p.2.length = q ∧ Its w0 (.ints w0.heap.size (.slice a q r) p.2 :: .ctl w0.heap.size g E n m P p.1 :: l) w'
theorem kdueS {now : List Int} {aN : Option Addr} {nN pN : Nat} (h : Its w0 (.ctl w0.heap.size g E n m P c :: .ints w0.heap.size (.slice aN nN pN) now :: l) w) (eS : P.S = c.S) (ht : Tko c) (hnl : now.length = nN) (hn1 : nN ≤ 1000) :
    Calls Tryz.prog 57 #[.pointer (some ⟨g, 0, none⟩), .slice aN nN pN] w (DueP w0 (.ints w0.heap.size (.slice aN nN pN) now :: l) g E n m P (Ct.due E.pause now c m)) := by
  have hm4 := (kt_ly h.one).m4
  have hpa := (kt_f h.one).pa
  have hml := (mr_len (kt_m h.one)).2.1
  obtain ⟨F, hF⟩ : ∃ F : Nat → Ct × List Int, F = Ct.due E.pause now c := ⟨_, rfl⟩
  have F0 : Hid (F 0 = (c, [])) := hide (by rw [hF]; rfl)
  have FS : Hid (∀ k, F (k + 1) = Ct.due1 E.pause now (F k) ((k : Int) + 1)) := hide (fun k => by rw [hF]; exact due_succ _ _ _ _)
  rw [← hF]
  clear hF
  obtain ⟨l1, hl1⟩ : ∃ l1, It.ints w0.heap.size (.slice aN nN pN) now :: l = l1 := ⟨_, rfl⟩
  have KC : Hid (∀ W c2 x y, Its w0 (x :: .ctl w0.heap.size g E n m P c2 :: l1) W → Calls Tryz.prog 130 #[.slice aN nN pN, .int .i64 y] W fun e w' => e = .returned (.bool (decide (y ∈ now))) ∧ w' = W) := hide (fun W c2 x y hW => by subst hl1; exact contains_k aN pN nN now y W hnl hW.three.rd (by omega))
  have KT : Hid (∀ W c2 x (d : Nat), Its w0 (x :: .ctl w0.heap.size g E n m P c2 :: l1) W → 1 ≤ d → d ≤ m → ∃ a b, Calls Tryz.prog 58 #[.pointer (some ⟨P.gm, 0, none⟩), .int .i64 (d : Int)] W fun e w' => e = .returned (.tuple #[.int .i64 a, .int .i64 b, .bool (decide ((P.S.dev (d : Int)).tt ≠ 0))]) ∧ ∃ q, w' = W.drewN q) := hide (fun W c2 x d hW h1 h2 => by
    refine ⟨(P.S.told (d : Int)).1, (P.S.told (d : Int)).2.1, (told_m (kt_m hW.two) (d : Int)).mono ?_⟩
    rintro e w' ⟨rfl, q⟩
    refine ⟨?_, q⟩
    obtain ⟨j, rfl⟩ : ∃ j, d = j + 1 := ⟨d - 1, by omega⟩
    obtain ⟨D, hD⟩ : ∃ D, P.S.ds[j]? = some D := ⟨_, List.getElem?_eq_getElem (by omega)⟩
    obtain ⟨e1, e2⟩ := Mr.dev_nat hD
    have ed : (((j + 1 : Nat) : Int)) = (j : Int) + 1 := by omega
    rw [ed]
    have : (P.S.told ((j : Int) + 1)).2.2 = decide ((P.S.dev ((j : Int) + 1)).tt ≠ 0) := by
      unfold Mr.told
      by_cases q : (P.S.dev ((j : Int) + 1)).tt ≠ 0
      · rw [if_pos ⟨e2, q⟩, decide_eq_true q]
      · rw [if_neg (fun r => q r.2), decide_eq_false q]
    rw [this])
  have CC : Hid (∀ W c2 x, Its w0 (x :: .ctl w0.heap.size g E n m P c2 :: l1) W → W.cell? ⟨g, 1, none⟩ = some (.slice P.lb m P.le) ∧ W.cell? ⟨g, 2, none⟩ = some (.int .i64 E.pause) ∧ W.cell? ⟨g, 4, none⟩ = some (.pointer (some ⟨P.gm, 0, none⟩)) ∧ W.cell? ⟨g, 37, none⟩ = some (.slice (some ⟨P.kg, 0, none⟩) (m + 1) (m + 1))) := hide (fun W c2 x hW => by
    obtain ⟨c0, c1, c2, c3, c4, c5, c37, c38⟩ := kt_c hW.two
    exact ⟨c1, c2, c4, c37⟩)
  have CT : Hid (∀ W c2 x (d : Nat), Its w0 (x :: .ctl w0.heap.size g E n m P c2 :: l1) W → d ≤ m → W.cell? ⟨P.kg, d, none⟩ = some (.int .i64 (c2.tkAt (d : Int))) ∧ W.frozen? ⟨P.kg, d, none⟩ = false) := hide (fun W c2 x d hW hd => kt_tick hW.two d hd)
  have HI := hide (h.empty intE)
  have HT := hide ht
  have HP : Hid (c.S = P.S) := hide eS.symm
  have i0 : (m : Int) ≤ 1000 := by omega
  have i1 : (1 : Int) ≤ E.pause := hpa.1
  have i2 : E.pause ≤ 1000 := hpa.2
  rw [hl1] at HI ⊢
  generalize E.pause = pz at *
  clear h eS ht hnl hn1 hl1 hm4 hpa hml
  go_enter Tryz.func57, Tryz.ntmps57
  go_wp2_with fail
  go_loopw [5, 6] (fun v5 v6 wr => ∃ (d : Nat) (a : Option Addr) (q p : Nat) (ck : Ct) (dl : List Int), v6 = .int .i64 d ∧ v5 = .slice a q p ∧ 1 ≤ d ∧ d ≤ m + 1 ∧ Hid (F (d - 1) = (ck, dl)) ∧ Hid (dl.length = q ∧ q < d) ∧ Hid (ck.S = P.S) ∧ Hid (Tko ck) ∧ Hid (Its w0 (.ints w0.heap.size (.slice a q p) dl :: .ctl w0.heap.size g E n m P ck :: l1) wr)) (fun _ v6 _ => m + 1 - (intOf v6).toNat)
  case atStart => exact ⟨1, none, 0, 0, c, [], rfl, rfl, Nat.le_refl _, by omega, F0, hide ⟨rfl, by omega⟩, HP, HT, HI⟩
  case round =>
    obtain ⟨d, a, q, p, ck, dl, rfl, rfl, hd1, hd2, HF, HQ, HS, HK, HR⟩ := hrel
    obtain ⟨c1, c2, c4, c37⟩ := CC.out _ _ _ HR.out
    by_cases hlt : d ≤ m
    · have j0 : (0 : Int) ≤ (d : Int) := by omega
      have j1 : (d : Int) ≤ (m : Int) := by omega
      have j3 : (d : Int) < (m : Int) + 1 := by omega
      have j2 : wrap64 ((d : Int) + 1) = (d : Int) + 1 := by unfold wrap64; omega
      obtain ⟨xa, xb, K78⟩ := KT.out _ _ _ d HR.out hd1 hlt
      have K78 := hide K78
      have HN : Hid (F d = Ct.due1 pz now (ck, dl) (d : Int)) := hide (by
        have := FS.out (d - 1)
        rw [show d - 1 + 1 = d by omega, HF.out, show ((d - 1 : Nat) : Int) + 1 = (d : Int) by omega] at this
        exact this)
      have HD : Hid (ck.S.dev (d : Int) = P.S.dev (d : Int)) := hide (by rw [HS.out])
      by_cases q1 : (P.S.dev (d : Int)).tt = 0
      · rw [show decide ((P.S.dev (d : Int)).tt ≠ 0) = false by simp [q1]] at K78
        have HN1 : Hid (F (d + 1 - 1) = (ck, dl)) := hide (by
          have := HN.out
          unfold Ct.due1 at this
          rw [if_pos (by show (ck.S.dev (d : Int)).tt = 0; rw [HD.out]; exact q1)] at this
          exact this)
        clear q1 HN HD
        go_wp2_with (go_at_call 58; refine K78.out.mono ?_; rintro e w2 ⟨rfl, q9, rfl⟩)
        go_roundw
        case rel => exact ⟨d + 1, a, q, p, ck, dl, by go_num, rfl, by omega, by omega, HN1, hide ⟨HQ.out.1, by have := HQ.out.2; omega⟩, HS, HK, hide (HR.out.hp rfl rfl rfl rfl)⟩
        case measure => simp [intOf]; omega
      · rw [show decide ((P.S.dev (d : Int)).tt ≠ 0) = true by simp [q1]] at K78
        have Hle : Hid (dl.length + [(d : Int)].length ≤ 1000000) := hide (by have := HQ.out; simp only [List.length_singleton]; omega)
        by_cases q2 : (d : Int) ∈ now
        · have K165 := hide (fun W (hW : Its w0 (.ints w0.heap.size (.slice a q p) dl :: .ctl w0.heap.size g E n m P ck :: l1) W) => KC.out W ck _ (d : Int) hW)
          rw [decide_eq_true q2] at K165
          have HN1 : Hid (F (d + 1 - 1) = (ck, dl ++ [(d : Int)])) := hide (by
            have := HN.out
            unfold Ct.due1 at this
            rw [if_neg (by show ¬ (ck.S.dev (d : Int)).tt = 0; rw [HD.out]; exact q1), if_pos q2] at this
            exact this)
          clear q1 q2 HN HD
          go_wp2_with (first
            | (go_at_call 58; refine K78.out.mono ?_; rintro e w2 ⟨rfl, q9, rfl⟩)
            | (go_at_call 130; refine (K165.out _ ?_).mono ?_; exact HR.out.hp rfl rfl rfl rfl; rintro e w3 ⟨rfl, rfl⟩; have HX := hide ((HR.out.drew q9).alloc (.cells #[.int .i64 (d : Int)] 3)); have HSX : Hid (intE.Rd ((wr.drewN q9).alloc (.cells #[.int .i64 (d : Int)] 3)) (.slice (some ⟨(wr.drewN q9).heap.size, 0, none⟩) 1 1) [(d : Int)]) := hide (int_new _ _ _ rfl))
            | (at_builtin; refine intE.wpB (B := w0.heap.size) HX.out.size (by rfl) _ _ rfl _ _ rfl rfl dl [(d : Int)] HX.out.one HSX.out Hle.out ?_; intro v4 W4 ho hg hs; obtain ⟨a4, p4, hf4⟩ := ho.rd.form; obtain ⟨n4, hn4⟩ : ∃ n4, (dl ++ [(d : Int)]).length = n4 := ⟨_, rfl⟩; rw [hn4] at hf4; subst hf4; have HI4 := hide (HX.out.grow ho hg hs); have Hn4 := hide hn4; clear ho hg hs hn4))
          go_roundw
          case rel => exact ⟨d + 1, a4, n4, p4, ck, _, by go_num, rfl, by omega, by omega, HN1, hide ⟨Hn4.out, by have := HQ.out; have := Hn4.out; rw [List.length_append, List.length_singleton] at this; omega⟩, HS, HK, HI4⟩
          case measure => simp [intOf]; omega
        · have K165 := hide (fun W (hW : Its w0 (.ints w0.heap.size (.slice a q p) dl :: .ctl w0.heap.size g E n m P ck :: l1) W) => KC.out W ck _ (d : Int) hW)
          rw [decide_eq_false q2] at K165
          obtain ⟨ct, zt⟩ := CT.out _ _ _ d HR.out hlt
          have htk := HK.out (d : Int)
          have HTS : Hid (∀ x, (ck.setK (d : Int) x).tkAt (d : Int) = x) := hide (fun x => by
            show ((ck.tk.set _ x)[((d : Int)).toNat]?).getD 0 = x
            have := (kt_f HR.out.two).tk
            rw [List.getElem?_set, if_pos rfl, if_pos (by omega)]; rfl)
          have HSS : Hid (∀ x y, (ck.setK (d : Int) x).setK (d : Int) y = ck.setK (d : Int) y) := hide (fun x y => by unfold Ct.setK; simp [List.set_set])
          have HKs : Hid (∀ x, 0 ≤ x ∧ x ≤ 1000 → Tko (ck.setK (d : Int) x)) := hide (fun x hx => HK.out.setK d hx)
          have HN2 : Hid (F d = if ck.tkAt (d : Int) + 1 < pz then (ck.setK (d : Int) (ck.tkAt (d : Int) + 1), dl) else (ck.setK (d : Int) 0, dl ++ [(d : Int)])) := hide (by
            have := HN.out
            unfold Ct.due1 at this
            rw [if_neg (by show ¬ (ck.S.dev (d : Int)).tt = 0; rw [HD.out]; exact q1), if_neg q2] at this
            exact this)
          clear q1 q2 HN HD
          generalize ck.tkAt (d : Int) = tv at *
          have v1 : wrap64 (tv + 1) = tv + 1 := by unfold wrap64; omega
          by_cases q3 : tv + 1 < pz
          · have HN1 : Hid (F (d + 1 - 1) = (ck.setK (d : Int) (tv + 1), dl)) := hide (by have := HN2.out; rw [if_pos q3] at this; exact this)
            clear HN2
            go_upto_region 9 with (first
              | (go_at_call 58; refine K78.out.mono ?_; rintro e w2 ⟨rfl, q9, rfl⟩)
              | (go_at_call 130; refine (K165.out _ ?_).mono ?_; exact HR.out.hp rfl rfl rfl rfl; rintro e w3 ⟨rfl, rfl⟩))
            have R1 := hide (((HR.out.drew q9).swap.ktick d (tv + 1)).swap)
            obtain ⟨f1, f2, f4, f37⟩ := CC.out _ _ _ R1.out
            obtain ⟨t1, z1⟩ := CT.out _ _ _ d R1.out hlt
            rw [HTS.out] at t1
            generalize (wr.drewN q9).setCell ⟨P.kg, d, none⟩ (.int .i64 (tv + 1)) = W1 at *
            clear c1 c2 c4 c37 ct zt
            go_quiet (fail)
            go_wp2_with fail
            go_roundw
            case rel => exact ⟨d + 1, a, q, p, _, dl, by go_num, rfl, by omega, by omega, HN1, hide ⟨HQ.out.1, by have := HQ.out.2; omega⟩, hide HS.out, hide (HKs.out _ (by omega)), hide (R1.out.hp rfl rfl rfl rfl)⟩
            case measure => simp [intOf]; omega
          · have HN1 : Hid (F (d + 1 - 1) = (ck.setK (d : Int) 0, dl ++ [(d : Int)])) := hide (by have := HN2.out; rw [if_neg q3] at this; exact this)
            clear HN2
            go_upto_region 9 with (first
              | (go_at_call 58; refine K78.out.mono ?_; rintro e w2 ⟨rfl, q9, rfl⟩)
              | (go_at_call 130; refine (K165.out _ ?_).mono ?_; exact HR.out.hp rfl rfl rfl rfl; rintro e w3 ⟨rfl, rfl⟩))
            have R1 := hide (((HR.out.drew q9).swap.ktick d (tv + 1)).swap)
            obtain ⟨f1, f2, f4, f37⟩ := CC.out _ _ _ R1.out
            obtain ⟨t1, z1⟩ := CT.out _ _ _ d R1.out hlt
            rw [HTS.out] at t1
            generalize (wr.drewN q9).setCell ⟨P.kg, d, none⟩ (.int .i64 (tv + 1)) = W1 at *
            clear c1 c2 c4 c37 ct zt
            go_quiet (fail)
            go_upto_region 11 with fail
            have R2 := ((R1.out.drew nq).swap.ktick d 0).swap
            rw [HSS.out] at R2
            have R2 := hide R2
            generalize (W1.drewN nq).setCell ⟨P.kg, d, none⟩ (.int .i64 0) = W2 at *
            have HX := hide (R2.out.alloc (.cells #[.int .i64 (d : Int)] 3)); have HSX : Hid (intE.Rd ((W2).alloc (.cells #[.int .i64 (d : Int)] 3)) (.slice (some ⟨(W2).heap.size, 0, none⟩) 1 1) [(d : Int)]) := hide (int_new _ _ _ rfl)
            clear f1 f2 f4 f37 t1 z1
            go_wp2_with (first
              | (at_builtin; refine intE.wpB (B := w0.heap.size) HX.out.size (by rfl) _ _ rfl _ _ rfl rfl dl [(d : Int)] HX.out.one HSX.out Hle.out ?_; intro v4 W4 ho hg hs; obtain ⟨a4, p4, hf4⟩ := ho.rd.form; obtain ⟨n4, hn4⟩ : ∃ n4, (dl ++ [(d : Int)]).length = n4 := ⟨_, rfl⟩; rw [hn4] at hf4; subst hf4; have HI4 := hide (HX.out.grow ho hg hs); have Hn4 := hide hn4; clear ho hg hs hn4)
              | fail)
            go_roundw
            case rel => exact ⟨d + 1, a4, n4, p4, _, _, by go_num, rfl, by omega, by omega, HN1, hide ⟨Hn4.out, by have := HQ.out; have := Hn4.out; rw [List.length_append, List.length_singleton] at this; omega⟩, hide HS.out, hide (HKs.out _ (by omega)), HI4⟩
            case measure => simp [intOf]; omega
    · obtain rfl : d = m + 1 := by omega
      have j1 : ¬ ((m + 1 : Nat) : Int) ≤ (m : Int) := by omega
      have j1' : ¬ (m : Int) + 1 ≤ (m : Int) := by omega
      have HF1 : Hid (F m = (ck, dl)) := HF
      have HZ := hide (show DueP w0 l1 g E n m P (F m) (.returned (.slice a q p)) wr from ⟨a, q, p, rfl, by rw [HF1.out]; exact HQ.out.1, by rw [HF1.out]; exact HR.out⟩)
      go_wp2_with fail
      go_ret
      exact HZ.out
end
end Go.Proofs.YtocmngpoemfpkabGreatDoor

namespace Go.Proofs.YtocmngpoemfpkabGreatDoor
open Go.RowKit
section
variable {w0 w : World} {l : List It} {B g n m : Nat} {E : Ev} {P : Kp} {c : Ct}
def CodeN (w0 : World) (l : List It) (g : Nat) (E : Ev) (n m : Nat) (P : Kp) (p : Int × Ct) (e : Ending) (w' : World) : Prop := e = .returned (.int .i64 p.1) ∧ ∃ P', Liv P' p.2 ∧ (p.1 = 0 → P'.vJ = P.vJ) ∧ Its w0 (.ctl w0.heap.size g E n m P' p.2 :: l) w'
set_option maxRecDepth 100000 in
set_option maxHeartbeats 4000000 in
theorem knoteN (h : Its w0 (.ctl w0.heap.size g E n m P c :: l) w) (hv : Liv P c) (hd : c.dead = false) {got : List Nt} (hr : NRds c.T.now got []) (hN : got.length ≤ 7000) (x : Nt) (hx : I64 x.a) (hb : c.K.all.length ≤ 8000 ∧ c.K.done.length ≤ 8000) :
    Calls Tryz.prog 49 #[.pointer (some ⟨g, 0, none⟩), .agg #[.int .i64 x.kind, .int .i64 x.a, .int .i64 x.b, .int .i64 x.c]] w (CodeN w0 l g E n m P (c.note x)) := by
  obtain ⟨eS, eK⟩ := hv hd
  obtain ⟨got2, r2, hr2, hN2⟩ := wr_rds (x := x) hr
  obtain ⟨l', hl'⟩ : ∃ l', It.box w.heap.size #[.int .i64 x.kind, .int .i64 x.a, .int .i64 x.b, .int .i64 x.c] 101 :: l = l' := ⟨_, rfl⟩
  obtain ⟨w1, hw1⟩ : ∃ w1, w.alloc (.cells #[.int .i64 x.kind, .int .i64 x.a, .int .i64 x.b, .int .i64 x.c] 101) = w1 := ⟨_, rfl⟩
  have h1 : Its w0 (.ctl w0.heap.size g E n m P c :: l') w1 := by
    rw [← hw1, ← hl']
    exact (h.new (x := .box w.heap.size _ 101) (heap_new w _) (fun k hk => by cases hk; exact Nat.le_refl _) (below_new w _)).swap
  have SX : Hid (∀ W P' c', P'.gt = P.gt → Its w0 (.ctl w0.heap.size g E n m P' c' :: l') W → (W.cell? ⟨w.heap.size, 0, none⟩ = some (.int .i64 x.kind) ∧ W.cell? ⟨w.heap.size, 1, none⟩ = some (.int .i64 x.a) ∧ W.cell? ⟨w.heap.size, 2, none⟩ = some (.int .i64 x.b) ∧ W.cell? ⟨w.heap.size, 3, none⟩ = some (.int .i64 x.c)) ∧ W.cell? ⟨g, 3, none⟩ = some (.pointer (some ⟨P.gt, 0, none⟩)) ∧ W.frozen? ⟨g, 38, none⟩ = false ∧ W.cell? ⟨g, 38, none⟩ = some (.bool c'.dead)) := hide (fun W P' c' e hW => by
    subst hl'
    obtain ⟨c0, c1, c2, c3, c4, c5, c37, c38⟩ := kt_c hW.one
    have hz := kt_z hW.one 38
    have hb := hW.two
    rw [e] at c3
    exact ⟨⟨(cells_at hb 0).1, (cells_at hb 1).1, (cells_at hb 2).1, (cells_at hb 3).1⟩, c3, hz, c38⟩)
  have drop : Hid (∀ W P' c', Its w0 (.ctl w0.heap.size g E n m P' c' :: l') W → Its w0 (.ctl w0.heap.size g E n m P' c' :: l) W) := hide (fun W P' c' hW => by subst hl'; exact hW.swap.tail)
  obtain ⟨P1, hP1⟩ : ∃ P1 : Kp, P1 = { P with S := ndS c.S x, K := ndK c.K x } := ⟨_, rfl⟩
  have KD : Hid (Calls Tryz.prog 74 #[.pointer (some ⟨g, 0, none⟩), .agg #[.int .i64 x.kind, .int .i64 x.a, .int .i64 x.b, .int .i64 x.c]] w1 fun e w' => e = .returned (.tuple #[.bool (ndY c.K x), .int .i64 (ndC c.S c.K x)]) ∧ ∃ P2 : Kp, (P2.S = ndS c.S x ∧ P2.K = ndK c.K x ∧ P2.gt = P.gt ∧ P2.vJ = P.vJ) ∧ Its w0 (.ctl w0.heap.size g E n m P2 c :: l') w') := hide (by
    refine (kdoS h1 x hx (by rw [eK]; omega)).mono ?_
    rintro e w' ⟨rfl, H, q⟩
    rw [eS, eK] at q
    exact ⟨by rw [eS, eK], { P with Hk := H, S := ndS c.S x, K := ndK c.K x }, ⟨rfl, rfl, rfl, rfl⟩, q⟩)
  have KA : Hid (∀ (W : World) (P2 : Kp), P2.gt = P.gt → Its w0 (.ctl w0.heap.size g E n m P2 c :: l') W → ∀ (a : Option Addr) (cp : Nat), ntE.Rd W (.slice a 1 cp) [x] → Calls Tryz.prog 116 #[.pointer (some ⟨P.gt, 0, none⟩), .slice a 1 cp] W fun e w' => e = .returned (.int .i64 (c.wr x).1) ∧ ∃ P3 : Kp, (P3.S = P2.S ∧ P3.K = P2.K ∧ P3.gt = P.gt ∧ P3.vJ = P2.vJ) ∧ Its w0 (.ctl w0.heap.size g E n m P3 ⟨c.S, c.K, (c.wr x).2, c.J, c.tk, c.dead⟩ :: l') w') := hide (fun W P2 e hW a cp hn => by
    have hf := kt_f hW.one
    have e0 := e
    rw [← e0]
    refine (appendS hW.ktape hn rfl (by omega) hr).mono ?_
    rintro q w' ⟨rfl, H', hq⟩
    exact ⟨rfl, { P2 with Ht := H' }, ⟨rfl, rfl, rfl, rfl⟩, Its.ktapeB hf hq⟩)
  have KR : Hid (∀ (W : World) (P2 : Kp), Its w0 (.ctl w0.heap.size g E n m P2 ⟨c.S, c.K, (c.wr x).2, c.J, c.tk, true⟩ :: l') W → Calls Tryz.prog 26 #[.pointer (some ⟨g, 0, none⟩)] W fun e w' => (∃ v, e = .returned (.int .i64 v)) ∧ ∃ P3, Its w0 (.ctl w0.heap.size g E n m P3 ⟨c.S, c.K, (c.wr x).2, c.J, c.tk, true⟩ :: l') w') := hide (fun W P2 hW => by
    refine (krecall hW hr2 (by omega)).mono ?_
    rintro e w' ⟨P3, q, ⟨rfl, _⟩ | ⟨rfl, _⟩⟩
    · exact ⟨⟨_, rfl⟩, P3, q⟩
    · exact ⟨⟨_, rfl⟩, P3, q⟩)
  have HI := hide h1
  have hsame := hide (nd_same (S := c.S) (K := c.K) (x := x))
  have hno := hide (note_no (c := c) (x := x))
  have hok := hide (note_ok (c := c) (x := x))
  have hdi := hide (note_die (c := c) (x := x))
  generalize hnp : c.note x = np at *
  clear hnp
  generalize hz : ndC c.S c.K x = z at *
  generalize hy : ndY c.K x = y at *
  generalize hwp : c.wr x = wp at *
  clear hz hy hwp hP1
  obtain ⟨T1, T2⟩ := wp
  have HD := hide hd
  clear h h1 hl' hv hr hN hb hx eS eK hr2 hN2 hd
  obtain ⟨kd, xa, xb, xc⟩ := x
  dsimp only at *
  subst hw1
  by_cases hz : z = 0
  · subst hz
    have NP : Hid (T1 ≠ 0 → np = (T1, ⟨c.S, c.K, T2, c.J, c.tk, true⟩)) := hide (fun h => hdi.out rfl h)
    have NO : Hid (T1 = 0 → np = (0, ⟨ndS c.S ⟨kd, xa, xb, xc⟩, ndK c.K ⟨kd, xa, xb, xc⟩, T2, c.J, c.tk, c.dead⟩)) := hide (fun h => hok.out rfl h)
    clear hno hok hdi hsame
    go_enter Tryz.func49, Tryz.ntmps49
    obtain ⟨⟨a0, a1, a2, a3⟩, _⟩ := SX.out _ _ _ rfl HI.out
    go_upto_region 4 with (go_at_call 74; refine KD.out.mono ?_; rintro e w2 ⟨rfl, P2, ⟨p1, p2, p3, p4⟩, q⟩; have HQ := hide q; have hp1 := hide p1; have hp2 := hide p2; have hp3 := hide p3; have hp4 := hide p4; clear q p1 p2 p3 p4)
    obtain ⟨⟨b0, b1, b2, b3⟩, b4, b5, b6⟩ := SX.out _ _ _ hp3.out HQ.out
    have sA : ∀ o, (w2.alloc o).cell? ⟨g, 3, none⟩ = some (.pointer (some ⟨P.gt, 0, none⟩)) ∧ (w2.alloc o).cell? ⟨w.heap.size, 0, none⟩ = some (.int .i64 kd) ∧ (w2.alloc o).cell? ⟨w.heap.size, 1, none⟩ = some (.int .i64 xa) ∧ (w2.alloc o).cell? ⟨w.heap.size, 2, none⟩ = some (.int .i64 xb) ∧ (w2.alloc o).cell? ⟨w.heap.size, 3, none⟩ = some (.int .i64 xc) := fun o => by
      obtain ⟨⟨b0, b1, b2, b3⟩, b4, b5, b6⟩ := SX.out _ _ _ hp3.out (HQ.out.alloc o)
      exact ⟨b4, b0, b1, b2, b3⟩
    have HQA := hide (HQ.out.alloc (.cells #[.int .i64 kd, .int .i64 xa, .int .i64 xb, .int .i64 xc] 101))
    have HN1 := hide (nt_new w2 ⟨kd, xa, xb, xc⟩ _ rfl)
    go_region_held3 (fun W => W.cell? ⟨g, 3, none⟩ = some (.pointer (some ⟨P.gt, 0, none⟩)) ∧ W.cell? ⟨w.heap.size, 0, none⟩ = some (.int .i64 kd) ∧ W.cell? ⟨w.heap.size, 1, none⟩ = some (.int .i64 xa) ∧ W.cell? ⟨w.heap.size, 2, none⟩ = some (.int .i64 xb) ∧ W.cell? ⟨w.heap.size, 3, none⟩ = some (.int .i64 xc)) (first | exact s3 | exact ⟨b4, b0, b1, b2, b3⟩ | exact sA _)
      (first
        | (go_at_call 116; refine (KA.out _ P2 hp3.out ?_ _ _ ?_).mono ?_; first | exact HQA.out | exact HQA.out.drew 1; exact HN1.out; rintro e w3 ⟨rfl, P3, ⟨p1, p2, p3, p4⟩, q⟩; have HQ3 := hide q; have hq1 := hide p1; have hq2 := hide p2; have hq3 := hide p3; have hq4 := hide p4; clear q p1 p2 p3 p4; have s3 := (fun (z : _ ∧ _ ∧ _ ∧ _) => (⟨z.2.1, z.1.1, z.1.2.1, z.1.2.2.1, z.1.2.2.2⟩ : _ ∧ _ ∧ _ ∧ _ ∧ _)) (SX.out _ _ _ hq3.out HQ3.out))
        | fail)
    obtain ⟨_, _, d5, d6⟩ := SX.out _ _ _ hq3.out HQ3.out
    by_cases ht : T1 = 0
    · subst ht
      have NF := hide (NO.out rfl)
      clear NO NP
      go_wp2_with fail
      go_ret
      rw [NF.out]
      exact ⟨rfl, P3, fun _ => ⟨by rw [hq1.out, hp1.out], by rw [hq2.out, hp2.out]⟩, (fun _ => hq4.out.trans hp4.out), (drop.out _ _ _ HQ3.out).kany⟩
    · have ht' : (T1 == 0) = false := beq_eq_false_iff_ne.2 ht
      have NF := hide (NP.out ht)
      clear NO NP
      have HQ4 := hide HQ3.out.kdie
      go_wp2_with (go_at_call 26; refine (KR.out _ _ HQ4.out).mono ?_; rintro e w4 ⟨⟨v, rfl⟩, P4, q⟩; have HQ5 := hide q; clear q)
      go_ret
      rw [NF.out]
      exact ⟨rfl, P4, (fun h => by cases h), (fun h => absurd h ht), drop.out _ _ _ HQ5.out⟩
  · have hz' : (z == 0) = false := beq_eq_false_iff_ne.2 hz
    have NN : Hid (np = (z, c)) := hide (hno.out hz)
    obtain ⟨sS, sK⟩ := hsame.out hz
    have sS := hide sS
    have sK := hide sK
    clear hno hok hdi hsame KA KR
    go_enter Tryz.func49, Tryz.ntmps49
    obtain ⟨⟨a0, a1, a2, a3⟩, _⟩ := SX.out _ _ _ rfl HI.out
    go_wp2_with (go_at_call 74; refine KD.out.mono ?_; rintro e w2 ⟨rfl, P2, ⟨p1, p2, p3, p4⟩, q⟩; have HQ := hide q; have hp1 := hide p1; have hp2 := hide p2; have hp3 := hide p3; have hp4 := hide p4; clear q p1 p2 p3 p4)
    go_ret
    rw [NN.out]
    exact ⟨rfl, P2, fun _ => ⟨by rw [hp1.out, sS.out], by rw [hp2.out, sK.out]⟩, (fun _ => hp4.out), drop.out _ _ _ HQ.out⟩
theorem knote_n {w0 w : World} {l : List It} {g n m : Nat} {E : Ev} {P : Kp} {c : Ct} (h : Its w0 (.ctl w0.heap.size g E n m P c :: l) w) (hv : Liv P c) (hd : c.dead = false) {k : Nat} (hg : Gd c k) (hk : k ≤ 7000) (x : Nt) (hx : I64 x.a) :
    Calls Tryz.prog 49 #[.pointer (some ⟨g, 0, none⟩), .agg #[.int .i64 x.kind, .int .i64 x.a, .int .i64 x.b, .int .i64 x.c]] w (CodeN w0 l g E n m P (c.note x)) := by
  obtain ⟨got, h1, h2, h3, h4⟩ := hg.nt hd
  exact knoteN h hv hd h1 (by omega) x hx (by omega)
end
end Go.Proofs.YtocmngpoemfpkabGreatDoor

namespace Go.Proofs.YtocmngpoemfpkabGreatDoor
open Go.RowKit
def Sqo (S : Mr) : Prop := ∀ D ∈ S.ds, 0 ≤ D.sq ∧ D.sq ≤ 65535
theorem Sqo.dev {S : Mr} (h : Sqo S) (d : Int) : 0 ≤ (S.dev d).sq ∧ (S.dev d).sq ≤ 65535 := by
  unfold Mr.dev
  cases e : S.ds[(d - 1).toNat]? with
  | none => show 0 ≤ (default : Dv).sq ∧ (default : Dv).sq ≤ 65535; decide
  | some D => exact h D (List.mem_of_getElem? e)
theorem Sqo.set {S : Mr} (h : Sqo S) (ts : List Int) (i : Nat) {D : Dv} (hD : 0 ≤ D.sq ∧ D.sq ≤ 65535) : Sqo { S with ts := ts, ds := S.ds.set i D } := fun x hx => by
  rcases List.mem_or_eq_of_mem_set hx with q | rfl
  · exact h x q
  · exact hD
theorem Sqo.last {S : Mr} (h : Sqo S) (d : Int) : 0 ≤ (S.last d).1 ∧ (S.last d).1 ≤ 65535 := by
  unfold Mr.last
  split
  · exact h.dev d
  · exact ⟨by decide, by decide⟩
theorem Sqo.nd {S : Mr} (h : Sqo S) (x : Nt) : Sqo (ndS S x) := by
  unfold ndS
  split
  · exact h
  · split
    · exact h
    · split
      · exact h
      · unfold Mr.app
        split
        · rcases put_cases S x.a x.b with ⟨_, q⟩ | ⟨_, q, _⟩
          · rw [q]; exact h
          · rw [q]; exact h
        · split
          · rcases snd_cases S x.a x.b x.c with ⟨_, q⟩ | ⟨_, q, _, _, hq, _⟩
            · rw [q]; exact h
            · rw [q]
              have : 0 ≤ x.c ∧ x.c ≤ 65535 := by unfold isQ at hq; simpa using hq
              exact h.set S.ts _ this
          · split
            · rcases mov_cases S x.a x.b with ⟨_, q⟩ | ⟨_, q, _⟩
              · rw [q]; exact h
              · rw [q]; exact h.set _ _ (h.dev x.a)
            · split
              · rcases drp_cases S x.a with ⟨_, q⟩ | ⟨_, q, _⟩
                · rw [q]; exact h
                · rw [q]; exact h.set S.ts _ (h.dev x.a)
              · split
                · rcases msk_cases S x.a (decide (x.b = 1)) with ⟨_, q⟩ | ⟨_, q, _⟩
                  · rw [q]; exact h
                  · rw [q]; exact h.set S.ts _ (h.dev x.a)
                · exact h
theorem tell_succ (c : Ct) (k : Nat) : Ct.tell c (k + 1) = Ct.tell1 (Ct.tell c k) (k : Int) := by
  unfold Ct.tell
  rw [List.range_succ, List.map_append, List.foldl_append]
  rfl
theorem tell_stay (c : Ct) (k j : Nat) (h : (Ct.tell c k).1 ≠ 0) : Ct.tell c (k + j) = Ct.tell c k := by
  induction j with
  | zero => rfl
  | succ j ih =>
    rw [← Nat.add_assoc, tell_succ, ih]
    unfold Ct.tell1
    rw [if_pos h]
theorem note_S {c : Ct} {x : Nt} (h : (c.note x).1 = 0) : (c.note x).2.S = ndS c.S x ∧ (c.note x).2.tk = c.tk := by
  unfold Ct.note at h ⊢
  split
  · rename_i q; rw [if_pos q] at h; exact absurd h q
  · rename_i q
    rw [if_neg q] at h
    split
    · exact ⟨rfl, rfl⟩
    · rename_i q2; rw [if_neg q2] at h; exact absurd h q2
def TellP (w0 : World) (l : List It) (g : Nat) (E : Ev) (n m : Nat) (p : Int × Ct × List Int) (e : Ending) (w' : World) : Prop :=
  (p.1 = 0 ∧ ∃ a q r P', e = .returned (.tuple #[.slice a q r, .int .i64 0]) ∧ p.2.2.length = q ∧ q ≤ 31 ∧ (P'.S = p.2.1.S ∧ P'.K = p.2.1.K ∧ p.2.1.dead = false) ∧ (Gd p.2.1 7000 ∧ Tko p.2.1 ∧ Sqo p.2.1.S) ∧ Its w0 (.ints w0.heap.size (.slice a q r) p.2.2 :: .ctl w0.heap.size g E n m P' p.2.1 :: l) w') ∨
  (p.1 ≠ 0 ∧ ∃ P', e = .returned (.tuple #[.slice none 0 0, .int .i64 p.1]) ∧ Liv P' p.2.1 ∧ Its w0 (.ctl w0.heap.size g E n m P' p.2.1 :: l) w')
section
set_option maxRecDepth 100000
set_option maxHeartbeats 4000000
variable {w0 w : World} {l : List It} {B g n m : Nat} {E : Ev} {P : Kp} {c : Ct}
theorem ktellS (h : Its w0 (.ctl w0.heap.size g E n m P c :: l) w) (hv : P.S = c.S ∧ P.K = c.K ∧ c.dead = false) {kk : Nat} (hg : Gd c kk) (hk : kk ≤ 6000) (ht : Tko c) (hs : Sqo c.S) :
    Calls Tryz.prog 55 #[.pointer (some ⟨g, 0, none⟩)] w (TellP w0 l g E n m (Ct.tell c 31)) := by
  have Hrg := kt_rng h.one
  have HJ : Hid (∀ t : Nat, t < 31 → ∃ a cc, P.vJ t = .slice a (c.J (t : Int)).length cc) := hide (fun t ht => by
    obtain ⟨a, cc, e, _⟩ := (kt_j h.one t ht).form
    exact ⟨a, cc, e⟩)
  have HI : Hid (∀ k : Nat, k < 31 → ∀ W, (Instr.index 88 (.agg (jl P).toArray) (.int .i64 (k : Int))).run Tryz.prog W = .ok (P.vJ k) W) := hide (fun k hk W => index31 P k hk W)
  have hjl := jl_len P
  have HJo := hide (kt_f h.one).jo
  obtain ⟨F, hF⟩ : ∃ F : Nat → Int × Ct × List Int, F = Ct.tell c := ⟨_, rfl⟩
  have F0 : Hid (F 0 = (0, c, [])) := hide (by rw [hF]; rfl)
  have FS : Hid (∀ k, F (k + 1) = Ct.tell1 (F k) (k : Int)) := hide (fun k => by rw [hF]; exact tell_succ c k)
  have FE : Hid (∀ k, k ≤ 31 → (F k).1 ≠ 0 → F 31 = F k) := hide (fun k hk h => by
    rw [hF] at h ⊢
    have := tell_stay c k (31 - k) h
    rw [show k + (31 - k) = 31 by omega] at this
    exact this)
  rw [← hF]
  have HV := hide hv
  have HG := hide hg
  have HT := hide ht
  have HSq := hide hs
  have HX := hide (h.empty intE)
  generalize jl P = js at *
  clear h hv hg ht hs hF
  go_enter Tryz.func55, Tryz.ntmps55
  go_wp2_with (refine wpList_load_mid rfl 88 (.tmp 11) rfl g 6 rfl _ _ Hrg Tryz.underlying88 rfl (by rw [hjl]; kernel_rfl) ?_)
  clear Hrg
  go_loopw [4, 13] (fun v4 v13 wr => ∃ (k : Nat) (a : Option Addr) (q p : Nat) (P' : Kp) (ck : Ct) (tl : List Int), v13 = .int .i64 k ∧ v4 = .slice a q p ∧ k ≤ 31 ∧ Hid (F k = (0, ck, tl)) ∧ Hid (tl.length = q ∧ q ≤ k) ∧ Hid (P'.S = ck.S ∧ P'.K = ck.K ∧ ck.dead = false) ∧ Hid (∀ t : Nat, k ≤ t → t < 31 → P'.vJ t = P.vJ t ∧ ck.J (t : Int) = c.J (t : Int)) ∧ Hid (Gd ck (kk + k) ∧ Tko ck ∧ Sqo ck.S) ∧ Hid (Its w0 (.ints w0.heap.size (.slice a q p) tl :: .ctl w0.heap.size g E n m P' ck :: l) wr)) (fun _ v13 _ => 31 - (intOf v13).toNat)
  case atStart => exact ⟨0, none, 0, 0, P, c, [], rfl, rfl, by omega, F0, hide ⟨rfl, by omega⟩, HV, hide (fun t _ _ => ⟨rfl, rfl⟩), hide ⟨HG.out, HT.out, HSq.out⟩, HX⟩
  case round =>
    obtain ⟨k, a, q, p, P', ck, tl, rfl, rfl, hk1, HF, HQ, HP, HO, HK, HR⟩ := hrel
    by_cases hlt : k < 31
    · obtain ⟨aj, cj, ej⟩ := HJ.out k hlt
      have hix : ∀ W, (Instr.index 88 (.agg js.toArray) (.int .i64 (k : Int))).run Tryz.prog W = .ok (.slice aj (c.J (k : Int)).length cj) W := fun W => by rw [HI.out k hlt W, ej]
      have j0 : (0 : Int) ≤ (k : Int) := by omega
      have j1 : (k : Int) < 31 := by omega
      have j2 : wrap64 ((k : Int) + 1) = (k : Int) + 1 := by unfold wrap64; omega
      have HN : Hid (F (k + 1) = Ct.tell1 (0, ck, tl) (k : Int)) := hide (by rw [FS.out, HF.out])
      have HJk := hide (HO.out k (Nat.le_refl _) hlt)
      have HO1 : Hid (∀ t : Nat, k + 1 ≤ t → t < 31 → P'.vJ t = P.vJ t ∧ ck.J (t : Int) = c.J (t : Int)) := hide (fun t h1 h2 => HO.out t (by omega) h2)
      have HJo1 := hide (HJo.out (k : Int))
      cases hJ : c.J (k : Int) with
      | nil =>
        rw [hJ] at hix
        have HN1 : Hid (F (k + 1) = (0, ck, tl)) := hide (by
          rw [HN.out]; unfold Ct.tell1
          rw [if_neg (by simp), if_pos (.inl (by rw [HJk.out.2, hJ]))])
        clear hJ ej HN
        simp only [List.length_nil] at hix
        go_wp2_with fail
        go_roundw
        case rel => exact ⟨k + 1, a, q, p, P', ck, tl, by go_num, rfl, by omega, HN1, hide ⟨HQ.out.1, by have := HQ.out.2; omega⟩, HP, HO1, hide ⟨HK.out.1.up (by omega), HK.out.2⟩, HR⟩
        case measure => simp [intOf]; omega
      | cons dv jr =>
        have hk30 : 1 ≤ k ∧ k ≤ 30 := by
          have := HJo1.out
          rw [hJ] at this
          refine ⟨?_, by omega⟩
          by_cases h0 : 1 ≤ k
          · exact h0
          · exact absurd (this (by omega)) (by simp)
        have hjr := kt_j HR.out.two k hlt
        rw [HJk.out.1, HJk.out.2, hJ] at hjr
        rw [hJ] at hix ej
        obtain ⟨N, hN⟩ : ∃ N, (dv :: jr).length = N := ⟨_, rfl⟩
        have hN1 : 1 ≤ N := by rw [← hN]; simp
        rw [hN] at hix ej
        have hcell : ∃ b o, aj = some ⟨b, o, none⟩ ∧ wr.cell? ⟨b, o, none⟩ = some (.int .i64 dv) := by
          rw [ej] at hjr
          rcases hjr with ⟨_, q⟩ | ⟨b, o, cv, L, q, q1, q2, q3⟩
          · cases q
          · simp only [Value.slice.injEq] at q
            exact ⟨b, o, q.1, by rw [(cells_at q1 o).1]; exact q3 0 dv rfl⟩
        obtain ⟨bj, oj, rfl, cj0⟩ := hcell
        have Hdv := hide ((kt_f HR.out.two).jd (k : Int) dv (by rw [HJk.out.2, hJ]; simp))
        have n2 : ¬ (N : Int) = 0 := by omega
        have n3 : ((N : Int) == 0) = false := beq_eq_false_iff_ne.2 n2
        have n0 : (0 : Int) < (N : Int) := by omega
        have KM : Hid (Calls Tryz.prog 126 #[.pointer (some ⟨g, 0, none⟩), .int .i64 (k : Int)] wr fun e w' => e = .returned (.bool (ck.S.way (k : Int))) ∧ ∃ q, w' = wr.drewN q) := hide (by
          have := isMoving_any HR.out.two (k : Int) (by omega)
          rw [HP.out.1] at this
          exact this)
        cases hw : ck.S.way (k : Int) with
        | true =>
          rw [hw] at KM
          have HN1 : Hid (F (k + 1) = (0, ck, tl)) := hide (by
            rw [HN.out]; unfold Ct.tell1
            rw [if_neg (by simp), if_pos (.inr hw)])
          clear hJ ej HN hw hjr hN
          go_wp2_with (go_at_call 126; refine KM.out.mono ?_; rintro e w2 ⟨rfl, q9, rfl⟩)
          go_roundw
          case rel => exact ⟨k + 1, a, q, p, P', ck, tl, by go_num, rfl, by omega, HN1, hide ⟨HQ.out.1, by have := HQ.out.2; omega⟩, HP, HO1, hide ⟨HK.out.1.up (by omega), HK.out.2⟩, hide (HR.out.hp rfl rfl rfl rfl)⟩
          case measure => simp [intOf]; omega
        | false =>
          rw [hw] at KM
          obtain ⟨kd, rfl⟩ : ∃ kd : Nat, dv = (kd : Int) := ⟨dv.toNat, by have := Hdv.out; omega⟩
          have hisD : P'.S.isD (kd : Int) = true := by
            have := (mr_len (kt_m HR.out.two)).2.1
            exact Mr.isD_iff.2 (by have := Hdv.out; omega)
          have KD : Hid (∀ W, Its w0 (.ints w0.heap.size (.slice a q p) tl :: .ctl w0.heap.size g E n m P' ck :: l) W → Calls Tryz.prog 127 #[.pointer (some ⟨g, 0, none⟩), .int .i64 (kd : Int)] W fun e w' => e = .returned (.bool (ck.S.dev (kd : Int)).dn) ∧ Below W.heap.size W w') := hide (fun W hW => by
            have := isDown_any hW.two (kd : Int)
            have e : decide ((kd : Int) ∈ P'.S.down) = (ck.S.dev (kd : Int)).dn := by
              rw [← HP.out.1]
              cases e2 : (P'.S.dev (kd : Int)).dn with
              | true => exact decide_eq_true ((down_mem hisD).2 e2)
              | false => exact decide_eq_false (fun r => by rw [(down_mem hisD).1 r] at e2; cases e2)
            rw [e] at this
            exact this)
          have HN2 : Hid (F (k + 1) = if (ck.S.dev (kd : Int)).dn = true then (0, ck.setJ (k : Int) [], tl) else if (ck.note ⟨4, (kd : Int), (k : Int), ck.nextQ (kd : Int)⟩).1 = 0 then (0, (ck.note ⟨4, (kd : Int), (k : Int), ck.nextQ (kd : Int)⟩).2.setK (kd : Int) 0, tl ++ [(kd : Int)]) else ((ck.note ⟨4, (kd : Int), (k : Int), ck.nextQ (kd : Int)⟩).1, (ck.note ⟨4, (kd : Int), (k : Int), ck.nextQ (kd : Int)⟩).2, tl)) := hide (by
            have e : ck.J (k : Int) = (kd : Int) :: jr := by rw [HJk.out.2, hJ]
            rw [HN.out]; unfold Ct.tell1
            rw [if_neg (by simp), if_neg (by
              show ¬ (ck.J (k : Int) = [] ∨ ck.S.way (k : Int) = true)
              rw [e, hw]; simp)]
            show (if (ck.S.dev ((ck.J (k : Int)).headD 0)).dn = true then _ else _) = _
            rw [e]
            rfl)
          cases hdn : (ck.S.dev (kd : Int)).dn with
          | true =>
            rw [hdn] at KD
            have HN1 : Hid (F (k + 1) = (0, ck.setJ (k : Int) [], tl)) := hide (by have := HN2.out; rw [if_pos hdn] at this; exact this)
            clear hJ ej HN HN2 hw hjr hN hdn hisD
            go_upto_region 8 with (first
              | (go_at_call 126; refine KM.out.mono ?_; rintro e w2 ⟨rfl, q9, rfl⟩)
              | (go_at_call 127; refine (KD.out _ ?_).mono ?_; exact HR.out.hp rfl rfl rfl rfl; rintro e w3 ⟨rfl, q8⟩; have HR3 := hide ((HR.out.drew q9).keep q8); clear q8))
            have f1 := kt_vj HR3.out.two k hlt
            have f2 := kt_z HR3.out.two (6 + k)
            have HR4 := hide ((HR3.out.swap.kjob k hk30 (JRd.nil _) (fun k' hk' => by cases hk') (fun d hd => by cases hd)).swap)
            have HO2 : Hid (∀ t : Nat, k + 1 ≤ t → t < 31 → updJ P'.vJ k (.slice none 0 0) t = P.vJ t ∧ (ck.setJ (k : Int) []).J (t : Int) = c.J (t : Int)) := hide (fun t h1 h2 => by
              obtain ⟨e1, e2⟩ := HO1.out t h1 h2
              refine ⟨by unfold updJ; rw [if_neg (by omega)]; exact e1, ?_⟩
              show (if (t : Int) = (k : Int) then [] else ck.J (t : Int)) = _
              rw [if_neg (by omega)]; exact e2)
            go_wp2_with fail
            go_roundw
            case rel => exact ⟨k + 1, a, q, p, { P' with vJ := updJ P'.vJ k (.slice none 0 0) }, ck.setJ (k : Int) [], tl, by go_num, rfl, by omega, HN1, hide ⟨HQ.out.1, by have := HQ.out.2; omega⟩, hide HP.out, hide HO2.out, hide ⟨(HK.out.1.setJ _ (by simp)).up (by omega), HK.out.2.1, HK.out.2.2⟩, hide (HR4.out.hp rfl rfl rfl rfl)⟩
            case measure => simp [intOf]; omega
          | false =>
            rw [hdn] at KD
            have HN3 := hide (by have := HN2.out; rw [if_neg (by rw [hdn]; simp)] at this; exact this)
            have KQ : Hid (∀ W, Its w0 (.ints w0.heap.size (.slice a q p) tl :: .ctl w0.heap.size g E n m P' ck :: l) W → Calls Tryz.prog 128 #[.pointer (some ⟨g, 0, none⟩), .int .i64 (kd : Int)] W fun e w' => e = .returned (.int .i64 (ck.nextQ (kd : Int))) ∧ ∃ q, w' = W.drewN q) := hide (fun W hW => by
              have := nextQ_any hW.two (kd : Int) (by rw [HP.out.1]; exact HK.out.2.2.last _)
              rw [HP.out.1] at this
              exact this)
            have KN : Hid (∀ W, Its w0 (.ints w0.heap.size (.slice a q p) tl :: .ctl w0.heap.size g E n m P' ck :: l) W → Calls Tryz.prog 49 #[.pointer (some ⟨g, 0, none⟩), .agg #[.int .i64 4, .int .i64 (kd : Int), .int .i64 (k : Int), .int .i64 (ck.nextQ (kd : Int))]] W (CodeN w0 (.ints w0.heap.size (.slice a q p) tl :: l) g E n m P' (ck.note ⟨4, (kd : Int), (k : Int), ck.nextQ (kd : Int)⟩))) := hide (fun W hW => knote_n hW.swap (fun _ => ⟨HP.out.1, HP.out.2.1⟩) HP.out.2.2 HK.out.1 (by omega) ⟨4, (kd : Int), (k : Int), ck.nextQ (kd : Int)⟩ (by unfold I64; have := Hdv.out; have := (kt_ly hW.two).m4; simp only; omega))
            have HA := hide (note_alive (c := ck) (x := ⟨4, (kd : Int), (k : Int), ck.nextQ (kd : Int)⟩))
            have HB := hide (note_S (c := ck) (x := ⟨4, (kd : Int), (k : Int), ck.nextQ (kd : Int)⟩))
            have HJ9 := hide (note_J (c := ck) ⟨4, (kd : Int), (k : Int), ck.nextQ (kd : Int)⟩)
            have HG9 := hide (HK.out.1.note ⟨4, (kd : Int), (k : Int), ck.nextQ (kd : Int)⟩)
            have HS9 := hide (HK.out.2.2.nd ⟨4, (kd : Int), (k : Int), ck.nextQ (kd : Int)⟩)
            generalize ck.nextQ (kd : Int) = nx at *
            generalize ck.note ⟨4, (kd : Int), (k : Int), nx⟩ = np at *
            obtain ⟨cd, c9⟩ := np
            dsimp only at *
            clear hJ ej HN HN2 hw hjr hN hdn hisD
            by_cases hc : cd = 0
            case neg =>
              have hc' : (cd == 0) = false := beq_eq_false_iff_ne.2 hc
              have HN1 : Hid (F (k + 1) = (cd, c9, tl)) := hide (by have := HN3.out; rw [if_neg hc] at this; exact this)
              have HFE : Hid (F 31 = (cd, c9, tl)) := hide (by rw [FE.out (k + 1) (by omega) (by rw [HN1.out]; exact hc), HN1.out])
              have HZ : Hid (∀ W P9, Liv P9 c9 → Its w0 (.ctl w0.heap.size g E n m P9 c9 :: .ints w0.heap.size (.slice a q p) tl :: l) W → TellP w0 l g E n m (F 31) (.returned (.tuple #[.slice none 0 0, .int .i64 cd])) W) := hide (fun W P9 h1 h2 => .inr ⟨by rw [HFE.out]; exact hc, P9, by rw [HFE.out], by rw [HFE.out]; exact h1, by rw [HFE.out]; exact h2.swap.tail⟩)
              clear HN3 HA HB HJ9
              go_wp2_with (first
                | (go_at_call 126; refine KM.out.mono ?_; rintro e w2 ⟨rfl, q9, rfl⟩)
                | (go_at_call 127; refine (KD.out _ ?_).mono ?_; exact HR.out.hp rfl rfl rfl rfl; rintro e w3 ⟨rfl, q8⟩; have HR3 := hide ((HR.out.drew q9).keep q8); clear q8)
                | (go_at_call 128; refine (KQ.out _ HR3.out).mono ?_; rintro e w4 ⟨rfl, q7, rfl⟩)
                | (go_at_call 49; refine (KN.out _ ?_).mono ?_; exact HR3.out.hp rfl rfl rfl rfl; rintro e w5 ⟨rfl, P9, hv9, _, q6⟩; have HV9 := hide hv9; have HR5 := hide q6; clear hv9 q6))
              go_ret2
              exact HZ.out _ P9 HV9.out HR5.out
            case pos =>
              subst hc
              have HN1 : Hid (F (k + 1) = (0, c9.setK (kd : Int) 0, tl ++ [(kd : Int)])) := hide (by have := HN3.out; rw [if_pos rfl] at this; exact this)
              have HA1 := hide (HA.out rfl)
              have HB1 := hide (HB.out rfl)
              clear HN3 HA HB
              have Hle : Hid (tl.length + [(kd : Int)].length ≤ 1000000) := hide (by have := HQ.out; simp only [List.length_singleton]; omega)
              have d0 : (0 : Int) ≤ (kd : Int) := by omega
              have d1 : (kd : Int) < (m : Int) + 1 := by have := Hdv.out; omega
              go_upto_region 12 with (first
                | (go_at_call 126; refine KM.out.mono ?_; rintro e w2 ⟨rfl, q9, rfl⟩)
                | (go_at_call 127; refine (KD.out _ ?_).mono ?_; exact HR.out.hp rfl rfl rfl rfl; rintro e w3 ⟨rfl, q8⟩; have HR3 := hide ((HR.out.drew q9).keep q8); clear q8)
                | (go_at_call 128; refine (KQ.out _ HR3.out).mono ?_; rintro e w4 ⟨rfl, q7, rfl⟩)
                | (go_at_call 49; refine (KN.out _ ?_).mono ?_; exact HR3.out.hp rfl rfl rfl rfl; rintro e w5 ⟨rfl, P9, hv9, hvj, q6⟩; have HV9 := hide hv9; have HR5 := hide q6; have HVJ := hide (hvj rfl); clear hv9 q6 hvj))
              obtain ⟨_, _, _, _, _, _, f37, _⟩ := kt_c HR5.out.one
              obtain ⟨t1, z1⟩ := kt_tick HR5.out.one kd (by have := Hdv.out; omega)
              have R6 := hide (HR5.out.ktick kd 0).swap
              have HL9 := hide (HV9.out ((HA1.out.1).trans HP.out.2.2))
              go_upto_region 13 with fail
              generalize w5.setCell ⟨P9.kg, kd, none⟩ (.int .i64 0) = W2 at *
              clear f37 t1 z1
              have HX7 := hide (R6.out.alloc (.cells #[.int .i64 (kd : Int)] 3))
              have HSX : Hid (intE.Rd (W2.alloc (.cells #[.int .i64 (kd : Int)] 3)) (.slice (some ⟨W2.heap.size, 0, none⟩) 1 1) [(kd : Int)]) := hide (int_new _ _ _ rfl)
              go_wp2_with (first
                | (at_builtin; refine intE.wpB (B := w0.heap.size) HX7.out.size (by rfl) _ _ rfl _ _ rfl rfl tl [(kd : Int)] HX7.out.one HSX.out Hle.out ?_; intro v4 W4 ho hg hs; obtain ⟨a4, p4, hf4⟩ := ho.rd.form; obtain ⟨n4, hn4⟩ : ∃ n4, (tl ++ [(kd : Int)]).length = n4 := ⟨_, rfl⟩; rw [hn4] at hf4; subst hf4; have HI4 := hide (HX7.out.grow ho hg hs); have Hn4 := hide hn4; clear ho hg hs hn4)
                | fail)
              go_roundw
              case rel => exact ⟨k + 1, a4, n4, p4, P9, c9.setK (kd : Int) 0, _, by go_num, rfl, by omega, HN1, hide ⟨Hn4.out, by have := HQ.out; have := Hn4.out; rw [List.length_append, List.length_singleton] at this; omega⟩, hide ⟨HL9.out.1, HL9.out.2, (HA1.out.1).trans HP.out.2.2⟩, hide (fun t h1 h2 => ⟨by rw [HVJ.out]; exact (HO1.out t h1 h2).1, by show c9.J (t : Int) = _; rw [HJ9.out]; exact (HO1.out t h1 h2).2⟩), hide ⟨(HG9.out.setK _ _).up (by omega), Tko.setK (fun e => by have := HK.out.2.1 e; unfold Ct.tkAt at this ⊢; rw [HB1.out.2]; exact this) kd (by decide), by show Sqo c9.S; rw [HB1.out.1]; exact HS9.out⟩, HI4⟩
              case measure => simp [intOf]; omega
    · obtain rfl : k = 31 := by omega
      have j1 : ¬ ((31 : Nat) : Int) < 31 := by omega
      have HZ := hide (show TellP w0 l g E n m (F 31) (.returned (.tuple #[.slice a q p, .int .i64 0])) wr from .inl ⟨by rw [HF.out], a, q, p, P', rfl, by rw [HF.out]; exact HQ.out.1, HQ.out.2, by rw [HF.out]; exact HP.out, by rw [HF.out]; exact ⟨HK.out.1.up (by omega), HK.out.2⟩, by rw [HF.out]; exact HR.out⟩)
      go_wp2_with fail
      go_ret2
      exact HZ.out
end
end Go.Proofs.YtocmngpoemfpkabGreatDoor
