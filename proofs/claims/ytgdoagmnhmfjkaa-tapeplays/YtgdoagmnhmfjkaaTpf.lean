/- Append, Repair, Compact, Crash. -/
import Derived.Test.YtgdoagmnhmfjkaaTpe
namespace Go.Proofs.Ytgdoagmnhmfjkaa
open Go.RowKit
set_option linter.unusedVariables false

theorem all_ok {ns : List Nt} (h : ∀ n ∈ ns, n.ok = true) : ns.all Nt.ok = true := List.all_eq_true.2 h
theorem all_no {ns : List Nt} (h : ∃ n ∈ ns, n.ok = false) : ns.all Nt.ok = false := by
  obtain ⟨n, hn, h⟩ := h
  cases e : ns.all Nt.ok with
  | false => rfl
  | true => rw [List.all_eq_true.1 e n hn] at h; cases h
theorem rds_len {l r : List Int} {ns : List Nt} (h : Rds l ns r) : l.length = tot ns + r.length := by
  have := congrArg List.length h.eq
  rw [List.length_append] at this
  exact this
section
variable {w0 w : World} {g : Nat} {H : Bool → Value} {T : Tp} {l : List It}
theorem app_dead (h : T.dd = true) (r : List Int) (ns : List Nt) : T.app r ns = (190, T) := by unfold Tp.app; rw [if_pos h]
theorem app_note (h : T.dd = false) (r : List Int) {ns : List Nt} (h1 : ns.all Nt.ok = false) : T.app r ns = (180, T) := by unfold Tp.app; rw [if_neg (by rw [h]; decide), if_pos h1]
theorem app_state (h : T.dd = false) {r : List Int} {ns : List Nt} (h1 : ns.all Nt.ok = true) (h2 : r ≠ []) : T.app r ns = (140, T) := by unfold Tp.app; rw [if_neg (by rw [h]; decide), if_neg (by rw [h1]; decide), if_pos h2]
theorem app_full (h : T.dd = false) {ns : List Nt} (h1 : ns.all Nt.ok = true) (h3 : 65536 < T.now.length + tot ns) : T.app [] ns = (5, T) := by unfold Tp.app; rw [if_neg (by rw [h]; decide), if_neg (by rw [h1]; decide), if_neg (by simp), if_pos h3]
theorem app_put (h : T.dd = false) {ns : List Nt} (h1 : ns.all Nt.ok = true) (h3 : ¬ 65536 < T.now.length + tot ns) : T.app [] ns = T.put T.cn (ns.flatMap Nt.bts) := by unfold Tp.app; rw [if_neg (by rw [h]; decide), if_neg (by rw [h1]; decide), if_neg (by simp), if_neg h3]

set_option maxRecDepth 100000 in
set_option maxHeartbeats 2000000 in
theorem appendS (h : Its w0 (.tape w0.heap.size g H T :: l) w) {a : Option Addr} {N c : Nat} {ns : List Nt} (hn : ntE.Rd w (.slice a N c) ns) (hl : ns.length = N) (hN : N ≤ 10000) {got : List Nt} {r : List Int} (hr : Rds T.now got r) :
    Calls Try.prog 14 #[.pointer (some ⟨g, 0, none⟩), .slice a N c] w fun e w' => e = .returned (.int .i64 (T.app r ns).1) ∧ ∃ H', Its w0 (.tape w0.heap.size g H' (T.app r ns).2 :: l) w' := by
  have d5 := (tp_cells h.one).2.2.2.2.2
  have hok := tp_ok h.one
  have HI := hide h
  obtain ⟨PR, hPR⟩ : ∃ PR, T.app r ns = PR := ⟨_, rfl⟩
  have HP := hide hPR
  rw [hPR]
  clear hPR
  cases hd : T.dd with
  | true =>
    have hp := HP.out
    rw [app_dead hd] at hp
    have HP2 := hide hp
    rw [hd] at d5
    clear h hd hok hr hn hl hN hp
    go_enter Try.func14, Try.ntmps14
    go_wp2_with fail
    go_ret
    rw [← HP2.out]
    exact ⟨rfl, H, HI.out⟩
  | false =>
    rw [hd] at d5
    have K26 := hide (write_any hn hl hN)
    have Hd := hide hd
    have Hr := hide hr
    have Hok := hide hok
    have hnow : T.now.length ≤ 65536 := hok.len T.cn
    have hnl : ns.length ≤ 10000 := by omega
    clear h hd hok hr hn hl
    go_enter Try.func14, Try.ntmps14
    go_upto_region 4 with (go_at_call 26; refine K26.out.mono ?_; rintro e w1 ⟨v, cc, rfl, hw, hb⟩)
    clear d5
    rcases hw with ⟨hk, rfl, ho⟩ | ⟨hk, rfl, rfl⟩
    · have I1 := (HI.out.fresh ho hb).swap
      have hk1 := all_ok hk
      have hin := flat_bts_in hk
      have hlen := flat_bts_len hk
      obtain ⟨a1, c1, rfl, _⟩ := Sl.own ho
      have HI := hide I1
      have KG : Hid (∀ W, Its w0 (.tape w0.heap.size g H T :: .row byE w0.heap.size (.slice a1 (ns.flatMap Nt.bts).length c1) (ns.flatMap Nt.bts) :: l) W → Calls Try.prog 27 #[.pointer (some ⟨g, 0, none⟩)] W fun e w' => e = .returned (.int .i64 (tot got : Int)) ∧ Its w0 (.tape w0.heap.size g H T :: .row byE w0.heap.size (.slice a1 (ns.flatMap Nt.bts).length c1) (ns.flatMap Nt.bts) :: l) w') := hide (fun W hW => goodS hW Hr.out)
      have KZ : Hid (∀ W, Its w0 (.tape w0.heap.size g H T :: .row byE w0.heap.size (.slice a1 (ns.flatMap Nt.bts).length c1) (ns.flatMap Nt.bts) :: l) W → Calls Try.prog 25 #[.pointer (some ⟨g, 0, none⟩)] W fun e w' => e = .returned (.int .i64 (T.now.length : Int)) ∧ Its w0 (.tape w0.heap.size g H T :: .row byE w0.heap.size (.slice a1 (ns.flatMap Nt.bts).length c1) (ns.flatMap Nt.bts) :: l) w') := hide (fun W hW => sizeS hW)
      have KP : Hid (∀ W, Its w0 (.tape w0.heap.size g H T :: .row byE w0.heap.size (.slice a1 (ns.flatMap Nt.bts).length c1) (ns.flatMap Nt.bts) :: l) W → ¬ 65536 < T.now.length + tot ns → Calls Try.prog 28 #[.pointer (some ⟨g, 0, none⟩), .int .i64 (bi T.cn), .slice a1 (ns.flatMap Nt.bts).length c1] W fun e w' => e = .returned (.int .i64 (T.put T.cn (ns.flatMap Nt.bts)).1) ∧ ∃ H', Its w0 (.tape w0.heap.size g H' (T.put T.cn (ns.flatMap Nt.bts)).2 :: .row byE w0.heap.size (.slice a1 (ns.flatMap Nt.bts).length c1) (ns.flatMap Nt.bts) :: l) w') := hide (fun W hW hx => putS hW rfl hin T.cn (by
        have e1 : T.A T.cn = T.now := rfl
        have e2 : tot ns = (ns.flatMap Nt.bts).length := rfl
        rw [e1]; omega))
      have KC : Hid (∀ W, Its w0 (.tape w0.heap.size g H T :: .row byE w0.heap.size (.slice a1 (ns.flatMap Nt.bts).length c1) (ns.flatMap Nt.bts) :: l) W → W.cell? ⟨g, 1 + 1, none⟩ = some (.int .i64 (bi T.cn))) := hide (fun W hW => (tp_cells hW.one).2.2.1)
      have hgl := rds_len Hr.out
      have et : tot ns = (ns.flatMap Nt.bts).length := rfl
      have Hk1 := hide hk1
      have hpo : r ≠ [] → PR = (140, T) := fun h2 => by rw [← HP.out]; exact app_state Hd.out hk1 h2
      have hp5 : r = [] → 65536 < T.now.length + tot ns → PR = (5, T) := fun h2 h3 => by rw [← HP.out, h2]; exact app_full Hd.out hk1 h3
      have hpp : r = [] → ¬ 65536 < T.now.length + tot ns → PR = T.put T.cn (ns.flatMap Nt.bts) := fun h2 h3 => by rw [← HP.out, h2]; exact app_put Hd.out hk1 h3
      have Hpo := hide hpo
      have Hp5 := hide hp5
      have Hpp := hide hpp
      clear hpo hp5 hpp hk hk1 ho I1 hb K26 HP Hok hin
      obtain ⟨M, hM⟩ : ∃ M, (ns.flatMap Nt.bts).length = M := ⟨_, rfl⟩
      obtain ⟨G, hG⟩ : ∃ G, tot got = G := ⟨_, rfl⟩
      obtain ⟨Z, hZ⟩ : ∃ Z, T.now.length = Z := ⟨_, rfl⟩
      obtain ⟨R, hR⟩ : ∃ R, r.length = R := ⟨_, rfl⟩
      have HR : Hid (r = [] ↔ R = 0) := hide (by rw [← hR]; exact List.length_eq_zero_iff.symm)
      rw [et, hM] at KP Hp5 Hpp
      rw [hM] at HI KG KZ KC hlen ⊢
      rw [hG] at KG
      rw [hZ] at KZ KP Hp5 Hpp hnow
      rw [hG, hZ, hR] at hgl
      generalize bi T.cn = bc at *
      clear et hM hG hZ hR
      by_cases hr0 : R = 0
      · have j0 : ¬ ((G : Int) < (Z : Int)) := by omega
        obtain ⟨x, hx⟩ : ∃ x : Int, (Z : Int) + (M : Int) = x := ⟨_, rfl⟩
        have j1 : wrap64 x = x := by unfold wrap64; omega
        by_cases h5 : 65536 < Z + M
        · have hp := Hp5.out (HR.out.2 hr0) h5
          have j2 : 65536 < x := by omega
          have HP2 := hide hp
          have Hx := hide hx
          clear hp h5 hr0 hgl hx
          go_upto_region 8 with (first
            | (go_at_call 27; refine (KG.out _ HI.out).mono ?_; rintro e w2 ⟨rfl, h2⟩; have HI := hide h2; clear h2)
            | (go_at_call 25; refine (KZ.out _ HI.out).mono ?_; rintro e w3 ⟨rfl, h3⟩; have HI := hide h3; clear h3))
          have hx := Hx.out
          go_wp2_with (go_at_call 25; refine (KZ.out _ HI.out).mono ?_; rintro e w4 ⟨rfl, h4⟩; have HI := hide h4; clear h4)
          go_ret
          rw [HP2.out]
          exact ⟨rfl, H, HI.out.swap.tail⟩
        · have hp := Hpp.out (HR.out.2 hr0) h5
          have j2 : ¬ (65536 < x) := by omega
          have HP2 := hide hp
          have H5 := hide h5
          have Hx := hide hx
          clear hp h5 hr0 hgl hx
          go_upto_region 8 with (first
            | (go_at_call 27; refine (KG.out _ HI.out).mono ?_; rintro e w2 ⟨rfl, h2⟩; have HI := hide h2; clear h2)
            | (go_at_call 25; refine (KZ.out _ HI.out).mono ?_; rintro e w3 ⟨rfl, h3⟩; have HI := hide h3; clear h3))
          have hx := Hx.out
          go_upto_region 10 with (go_at_call 25; refine (KZ.out _ HI.out).mono ?_; rintro e w4 ⟨rfl, h4⟩; have HI := hide h4; clear h4)
          have d2 := KC.out _ HI.out
          go_wp2_with (go_at_call 28; refine (KP.out _ HI.out H5.out).mono ?_; rintro e w5 ⟨rfl, H5, h5⟩; have HI := hide h5; clear h5)
          go_ret
          rw [HP2.out]
          exact ⟨rfl, H5, HI.out.swap.tail⟩
      · have j0 : (G : Int) < (Z : Int) := by omega
        have hp := Hpo.out (fun e => hr0 (HR.out.1 e))
        have HP2 := hide hp
        clear hp hr0 hgl
        go_wp2_with (first
          | (go_at_call 27; refine (KG.out _ HI.out).mono ?_; rintro e w2 ⟨rfl, h2⟩; have HI := hide h2; clear h2)
          | (go_at_call 25; refine (KZ.out _ HI.out).mono ?_; rintro e w3 ⟨rfl, h3⟩; have HI := hide h3; clear h3))
        go_ret
        rw [HP2.out]
        exact ⟨rfl, H, HI.out.swap.tail⟩
    · have I1 := hide (HI.out.keep hb)
      have hp := HP.out
      rw [app_note Hd.out r (all_no hk)] at hp
      have HP2 := hide hp
      clear hp hk hb K26
      go_wp2_with fail
      go_ret
      rw [← HP2.out]
      exact ⟨rfl, H, I1.out⟩
end
end Go.Proofs.Ytgdoagmnhmfjkaa
