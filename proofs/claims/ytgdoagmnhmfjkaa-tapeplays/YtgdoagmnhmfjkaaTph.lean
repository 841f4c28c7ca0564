/- Compact. -/
import Derived.Test.YtgdoagmnhmfjkaaTpg
namespace Go.Proofs.Ytgdoagmnhmfjkaa
open Go.RowKit
set_option linter.unusedVariables false

section
variable {w0 w : World} {g : Nat} {H : Bool → Value} {T : Tp} {l : List It}
theorem turn_any (s : Bool) {p7 p2 : Nat} (h : Its w0 (.tape w0.heap.size g H T :: .box p7 #[.int .i64 (bi s)] 3 :: .box p2 #[.pointer (some ⟨g, 0, none⟩)] 23 :: l) w) : Calls Try.prog 34 #[.pointer (some ⟨g, 0, none⟩), .func (.func 35) #[] #[.pointer (some ⟨p7, 0, none⟩), .pointer (some ⟨p2, 0, none⟩)]] w fun e w' => e = .returned (.int .i64 (T.turn s).1) ∧ ∃ H', Its w0 (.tape w0.heap.size g H' (T.turn s).2 :: .box p7 #[.int .i64 (bi s)] 3 :: .box p2 #[.pointer (some ⟨g, 0, none⟩)] 23 :: l) w' := by
  cases hc : T.can 1 with
  | false =>
    have e : T.turn s = (190, T.die) := by unfold Tp.turn; rw [if_neg (by rw [hc]; decide)]
    rw [e]
    exact (work_no h hc _).mono (by rintro e w' ⟨rfl, h1⟩; exact ⟨rfl, H, h1⟩)
  | true =>
    have e : T.turn s = (0, (T.use 1).to s) := by unfold Tp.turn; rw [if_pos hc]; rfl
    rw [e]
    exact work_yes35 h hc (fun W hW => unit_turn s hW)
theorem cmp_dead (h : T.dd = true) (ns : List Nt) : T.cmp ns = (190, T) := by unfold Tp.cmp; rw [if_pos h]
theorem cmp_note (h : T.dd = false) {ns : List Nt} (h1 : ns.all Nt.ok = false) : T.cmp ns = (180, T) := by unfold Tp.cmp; rw [if_neg (by rw [h]; decide), if_pos h1]
theorem cmp_full (h : T.dd = false) {ns : List Nt} (h1 : ns.all Nt.ok = true) (h3 : 65536 < tot ns) : T.cmp ns = (5, T) := by unfold Tp.cmp; rw [if_neg (by rw [h]; decide), if_neg (by rw [h1]; decide), if_pos h3]
theorem cmp_go (h : T.dd = false) {ns : List Nt} (h1 : ns.all Nt.ok = true) (h3 : ¬ 65536 < tot ns) : T.cmp ns = T.cmp2 (!T.cn) ns (T.cut (!T.cn) 0) := by unfold Tp.cmp; rw [if_neg (by rw [h]; decide), if_neg (by rw [h1]; decide), if_neg h3]
theorem bi_not (s : Bool) : wrap64 (1 - bi s) = bi (!s) := by
  cases s <;> (unfold wrap64 bi; decide)

set_option maxRecDepth 100000 in
set_option maxHeartbeats 2000000 in
theorem compactS (h : Its w0 (.tape w0.heap.size g H T :: l) w) {a : Option Addr} {N c : Nat} {ns : List Nt} (hn : ntE.Rd w (.slice a N c) ns) (hl : ns.length = N) (hN : N ≤ 10000) :
    Calls Try.prog 16 #[.pointer (some ⟨g, 0, none⟩), .slice a N c] w fun e w' => e = .returned (.int .i64 (T.cmp ns).1) ∧ ∃ H', Its w0 (.tape w0.heap.size g H' (T.cmp ns).2 :: l) w' := by
  have I0 : Its w0 (.tape w0.heap.size g H T :: .box w.heap.size #[.pointer (some ⟨g, 0, none⟩)] 23 :: l) (w.alloc (.cells #[.pointer (some ⟨g, 0, none⟩)] 23)) := (h.box1 #[.pointer (some ⟨g, 0, none⟩)] 23).swap
  have d5 : (w.alloc (.cells #[.pointer (some ⟨g, 0, none⟩)] 23)).cell? ⟨g, 5, none⟩ = some (.bool T.dd) := (tp_cells I0.one).2.2.2.2.2
  have d2 : (w.alloc (.cells #[.pointer (some ⟨g, 0, none⟩)] 23)).cell? ⟨w.heap.size, 0, none⟩ = some (.pointer (some ⟨g, 0, none⟩)) := (cells_at I0.two 0).1
  have hok := tp_ok h.one
  have HI := hide I0
  have hn0 := hn.keep (below_new w (.cells #[.pointer (some ⟨g, 0, none⟩)] 23))
  obtain ⟨PR, hPR⟩ : ∃ PR, T.cmp ns = PR := ⟨_, rfl⟩
  have HP := hide hPR
  rw [hPR]
  clear hPR h
  cases hd : T.dd with
  | true =>
    have hp := HP.out
    rw [cmp_dead hd] at hp
    have HP2 := hide hp
    rw [hd] at d5
    clear hd hok hn hn0 hl hN hp I0
    go_enter Try.func16, Try.ntmps16
    go_wp2_with fail
    go_ret
    rw [← HP2.out]
    exact ⟨rfl, H, HI.out.swap.tail⟩
  | false =>
    rw [hd] at d5
    have K26 := hide (write_any hn0 hl hN)
    have Hd := hide hd
    have hnl : ns.length ≤ 10000 := by omega
    clear hd hn hn0 hl I0
    go_enter Try.func16, Try.ntmps16
    go_upto_region 3 with fail
    generalize w.alloc (.cells #[.pointer (some ⟨g, 0, none⟩)] 23) = W0 at *
    generalize w.heap.size = p2 at *
    clear d5 d2
    go_upto_region 4 with (go_at_call 26; refine K26.out.mono ?_; rintro e w1 ⟨v, cc, rfl, hw, hb⟩)
    rcases hw with ⟨hk, rfl, ho⟩ | ⟨hk, rfl, rfl⟩
    · have I1 := (HI.out.fresh ho hb).swap
      have hk1 := all_ok hk
      have hin := flat_bts_in hk
      have hlen := flat_bts_len hk
      obtain ⟨a1, c1, rfl, _⟩ := Sl.own ho
      have HI := hide I1
      have et : tot ns = (ns.flatMap Nt.bts).length := rfl
      have hp5 : 65536 < tot ns → PR = (5, T) := fun h3 => by rw [← HP.out]; exact cmp_full Hd.out hk1 h3
      have hpp : ¬ 65536 < tot ns → PR = T.cmp2 (!T.cn) ns (T.cut (!T.cn) 0) := fun h3 => by rw [← HP.out]; exact cmp_go Hd.out hk1 h3
      have Hp5 := hide hp5
      have Hpp := hide hpp
      have Hin := hide hin
      clear hp5 hpp hk hk1 ho I1 hb K26 HP hin
      by_cases h5 : 65536 < tot ns
      · have HP2 := hide (Hp5.out h5)
        have j2 : (65536 : Int) < ((ns.flatMap Nt.bts).length : Int) := by omega
        clear h5 et hlen
        generalize (ns.flatMap Nt.bts).length = M at *
        go_wp2_with fail
        go_ret
        rw [HP2.out]
        exact ⟨rfl, H, HI.out.swap.tail.swap.tail⟩
      · have HP2 := hide (Hpp.out h5)
        have j2 : ¬ ((65536 : Int) < ((ns.flatMap Nt.bts).length : Int)) := by omega
        have HM : Hid ((ns.flatMap Nt.bts).length ≤ 65536) := hide (by omega)
        clear h5 et hlen Hp5 Hpp
        have c2 : w1.cell? ⟨p2, 0, none⟩ = some (.pointer (some ⟨g, 0, none⟩)) := (cells_at HI.out.three 0).1
        have d2 := (tp_cells HI.out.one).2.2.1
        have ebi := bi_not T.cn
        obtain ⟨s, hs⟩ : ∃ s, (!T.cn) = s := ⟨_, rfl⟩
        rw [hs] at ebi HP2
        obtain ⟨y, hy⟩ : ∃ y, bi s = y := ⟨_, rfl⟩
        rw [hy] at ebi
        have I2 : Hid (Its w0 (.tape w0.heap.size g H T :: .row byE w0.heap.size (.slice a1 (ns.flatMap Nt.bts).length c1) (ns.flatMap Nt.bts) :: .box w1.heap.size #[.int .i64 y] 3 :: .box p2 #[.pointer (some ⟨g, 0, none⟩)] 23 :: l) (w1.alloc (.cells #[.int .i64 y] 3))) := hide ((HI.out.box1 _ _).rot3')
        have KT : Hid (∀ W p7, Its w0 (.tape w0.heap.size g H T :: .row byE w0.heap.size (.slice a1 (ns.flatMap Nt.bts).length c1) (ns.flatMap Nt.bts) :: .box p7 #[.int .i64 y] 3 :: .box p2 #[.pointer (some ⟨g, 0, none⟩)] 23 :: l) W → Calls Try.prog 33 #[.pointer (some ⟨g, 0, none⟩), .int .i64 y, .int .i64 0] W fun e w' => e = .returned (.int .i64 (T.cut s 0).1) ∧ ∃ H', Its w0 (.tape w0.heap.size g H' (T.cut s 0).2 :: .row byE w0.heap.size (.slice a1 (ns.flatMap Nt.bts).length c1) (ns.flatMap Nt.bts) :: .box p7 #[.int .i64 y] 3 :: .box p2 #[.pointer (some ⟨g, 0, none⟩)] 23 :: l) w') := hide (fun W p7 hW => by rw [← hy]; exact cutS (by rw [hy]; exact hW) s 0 (Nat.zero_le _))
        have KP : Hid (∀ W p7 H T, (T.A s) = [] → Its w0 (.tape w0.heap.size g H T :: .row byE w0.heap.size (.slice a1 (ns.flatMap Nt.bts).length c1) (ns.flatMap Nt.bts) :: .box p7 #[.int .i64 y] 3 :: .box p2 #[.pointer (some ⟨g, 0, none⟩)] 23 :: l) W → Calls Try.prog 28 #[.pointer (some ⟨g, 0, none⟩), .int .i64 y, .slice a1 (ns.flatMap Nt.bts).length c1] W fun e w' => e = .returned (.int .i64 (T.put s (ns.flatMap Nt.bts)).1) ∧ ∃ H', Its w0 (.tape w0.heap.size g H' (T.put s (ns.flatMap Nt.bts)).2 :: .row byE w0.heap.size (.slice a1 (ns.flatMap Nt.bts).length c1) (ns.flatMap Nt.bts) :: .box p7 #[.int .i64 y] 3 :: .box p2 #[.pointer (some ⟨g, 0, none⟩)] 23 :: l) w') := hide (fun W p7 H T hA hW => by
          rw [← hy]
          exact putS (by rw [hy]; exact hW) rfl Hin.out s (by rw [hA]; simpa using HM.out))
        have KU : Hid (∀ W p7 H T, Its w0 (.tape w0.heap.size g H T :: .row byE w0.heap.size (.slice a1 (ns.flatMap Nt.bts).length c1) (ns.flatMap Nt.bts) :: .box p7 #[.int .i64 y] 3 :: .box p2 #[.pointer (some ⟨g, 0, none⟩)] 23 :: l) W → Calls Try.prog 34 #[.pointer (some ⟨g, 0, none⟩), .func (.func 35) #[] #[.pointer (some ⟨p7, 0, none⟩), .pointer (some ⟨p2, 0, none⟩)]] W fun e w' => e = .returned (.int .i64 (T.turn s).1) ∧ ∃ H', Its w0 (.tape w0.heap.size g H' (T.turn s).2 :: .box p7 #[.int .i64 y] 3 :: .box p2 #[.pointer (some ⟨g, 0, none⟩)] 23 :: l) w') := hide (fun W p7 H T hW => by
          rw [← hy]
          exact turn_any s (by rw [hy]; exact hW.swap.tail))
        have HA : Hid ((T.cut s 0).1 = 0 → (T.cut s 0).2.A s = []) := hide cut0_empty
        have hcc := cut_code T s 0
        generalize T.cut s 0 = CP at *
        obtain ⟨CC, T1⟩ := CP
        simp only at hcc HA KT
        have hmf : ∀ (fn : Fn) (first cap : Array Value) (w : World), (Instr.makeFunc fn first cap).run Try.prog w = .ok (.func fn first cap) w := fun _ _ _ _ => rfl
        generalize bi T.cn = bc at *
        generalize (ns.flatMap Nt.bts).length = M at *
        clear hs hy Hin HI
        go_upto_region 9 with fail
        generalize w1.alloc (.cells #[.int .i64 y] 3) = W2 at *
        generalize w1.heap.size = p7 at *
        have c3 : W2.cell? ⟨p2, 0, none⟩ = some (.pointer (some ⟨g, 0, none⟩)) := (cells_at I2.out.four 0).1
        have c7 : W2.cell? ⟨p7, 0, none⟩ = some (.int .i64 y) := (cells_at I2.out.three 0).1
        clear c2 d2
        rcases hcc with rfl | rfl
        · go_upto_region 12 with (go_at_call 33; refine (KT.out _ _ I2.out).mono ?_; rintro e w3 ⟨rfl, H3, h3⟩)
          have I3 := hide h3
          clear h3 c3 c7
          have c3 : w3.cell? ⟨p2, 0, none⟩ = some (.pointer (some ⟨g, 0, none⟩)) := (cells_at I3.out.four 0).1
          have c7 : w3.cell? ⟨p7, 0, none⟩ = some (.int .i64 y) := (cells_at I3.out.three 0).1
          have hcp := put_code T1 s (ns.flatMap Nt.bts)
          have hp := HP2.out
          unfold Tp.cmp2 at hp
          rw [if_pos rfl] at hp
          simp only at hp
          have KP1 := hide (KP.out _ _ H3 T1 (HA.out (by first | rfl | trivial)) I3.out)
          clear KP
          generalize T1.put s (ns.flatMap Nt.bts) = QP at *
          obtain ⟨QC, T2⟩ := QP
          simp only at hcp KP1
          unfold Tp.cmp3 at hp
          rcases hcp with rfl | rfl
          · rw [if_pos rfl] at hp
            simp only at hp
            have HP3 := hide hp
            clear hp
            go_upto_region 15 with (go_at_call 28; refine KP1.out.mono ?_; rintro e w4 ⟨rfl, H4, h4⟩)
            have I4 := hide h4
            clear h4 c3 c7
            have c3 : w4.cell? ⟨p2, 0, none⟩ = some (.pointer (some ⟨g, 0, none⟩)) := (cells_at I4.out.four 0).1
            go_wp2_with (go_at_call 34; refine (KU.out _ _ _ _ I4.out).mono ?_; rintro e w5 ⟨rfl, H5, h5⟩)
            go_ret
            rw [HP3.out]
            exact ⟨rfl, H5, h5.drop2⟩
          · rw [if_neg (show ¬ ((190 : Int) = 0) by decide)] at hp
            have HP3 := hide hp
            clear hp
            go_wp2_with (go_at_call 28; refine KP1.out.mono ?_; rintro e w4 ⟨rfl, H4, h4⟩)
            go_ret
            rw [HP3.out]
            exact ⟨rfl, H4, h4.swap.tail.drop2⟩
        · have hp := HP2.out
          unfold Tp.cmp2 at hp
          rw [if_neg (show ¬ ((190 : Int) = 0) by decide)] at hp
          have HP3 := hide hp
          clear hp
          go_wp2_with (go_at_call 33; refine (KT.out _ _ I2.out).mono ?_; rintro e w3 ⟨rfl, H3, h3⟩)
          go_ret
          rw [HP3.out]
          exact ⟨rfl, H3, h3.swap.tail.drop2⟩
    · have I1 := hide (HI.out.keep hb)
      have hp := HP.out
      rw [cmp_note Hd.out (all_no hk)] at hp
      have HP2 := hide hp
      clear hp hk hb K26
      go_wp2_with fail
      go_ret
      rw [← HP2.out]
      exact ⟨rfl, H, I1.out.swap.tail⟩
end
end Go.Proofs.Ytgdoagmnhmfjkaa
