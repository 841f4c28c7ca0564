/- GateOrder, the walk. -/
import Derived.Test.YtdnkgfljkdbckaaGom
import Derived.Test.YtdnkgfljkdbckaaGcm
namespace Go.Proofs.Ytdnkgfljkdbckaa
open Go.RowKit
set_option linter.unusedVariables false

set_option maxRecDepth 100000 in
set_option maxHeartbeats 8000000 in
theorem order_walk (n0 : Int) (a : Option Addr) (m cp : Nat) (zs : List Op) (w : World) (hm : zs.length = m) (hv : Ops w (.slice a m cp) zs) : Calls Try.prog 4 #[.int .i64 n0, .slice a m cp] w fun e w' => e = .returned (.bool true) ∧ Below w.heap.size w w' := by
  obtain ⟨w0, rfl⟩ : ∃ w0, w0 = w := ⟨_, rfl⟩
  have KA := hide awake_any
  obtain ⟨k, hk, hk20⟩ := few n0 16 (by omega)
  obtain ⟨N, hN⟩ : ∃ N : Nat, (k : Int) + 1 = (N : Int) := ⟨k + 1, by omega⟩
  have hN1 : 1 ≤ N := by omega
  have hN2 : N ≤ 16 := by omega
  have KN : Hid (∀ W, Its w0 [] W → Calls Try.prog 10 #[.int .i64 N] W fun e w' => ∃ g c, e = .returned (.tuple #[.pointer (some ⟨g, 0, none⟩), .int .i64 0]) ∧ Its w0 [.gate w0.heap.size g c (.slice none 0 0) ⟨N, [], []⟩] w') := hide (fun W h => new_ok N w0 W [] hN1 hN2 h)
  have Hm := hide hm
  have HV := hide hv
  have i16 : (N : Int) ≤ 16 := by omega
  clear hm hv
  go_enter Try.func4, Try.ntmps4
  go_upto_region 4 with (go_at_call 9; refine (KA.out _).mono ?_; rintro e W1 ⟨rfl, hb1⟩; have HB := hide hb1; clear hb1)
  try rw [hN]
  have HI0 : Hid (Its w0 [] W1) := hide ⟨HB.out, by simp, by simp, .nil⟩
  generalize wrap64 ((IntKind.u64.wrap n0).tmod 16) = y1 at *
  generalize (IntKind.u64.wrap n0).tmod 16 = y2 at *
  generalize IntKind.u64.wrap n0 = y3 at *
  clear hk hk20 hN KA HB hN1 hN2
  go_upto_region 9 with (go_at_call 10; refine (KN.out _ HI0.out).mono ?_; rintro e WA ⟨g, c, rfl, hg⟩; have HG0 := hide hg; clear hg)
  clear KN HI0
  go_loopw [7, 8, 9, 10] (fun v7 v8 v9 v10 wr => ∃ (i : Nat) (vw : Value) (S : Gt) (al wn lf : List Int) (a7 : Option Addr) (n7 p7 : Nat) (a8 : Option Addr) (n8 p8 : Nat) (a9 : Option Addr) (n9 p9 : Nat), v7 = .slice a7 n7 p7 ∧ v8 = .slice a8 n8 p8 ∧ v9 = .slice a9 n9 p9 ∧ v10 = .int .i64 i ∧ i ≤ m ∧ i ≤ 250 ∧ Hid (Od S N al wn lf n7 n8 n9 i) ∧ Hid (Its w0 [.gate w0.heap.size g c vw S, .ints w0.heap.size (.slice a7 n7 p7) al, .ints w0.heap.size (.slice a8 n8 p8) wn, .ints w0.heap.size (.slice a9 n9 p9) lf] wr)) (fun _ _ _ v10 _ => 250 - (intOf v10).toNat)
  case atStart => exact ⟨0, _, ⟨N, [], []⟩, [], [], [], none, 0, 0, none, 0, 0, none, 0, 0, rfl, rfl, rfl, rfl, Nat.zero_le _, by omega, hide Od.zero, hide ((((HG0.out.empty intE).empty intE).empty intE).rot4)⟩
  case round =>
    obtain ⟨i, vw, S, al, wn, lf, a7, n7, p7, a8, n8, p8, a9, n9, p9, rfl, rfl, rfl, rfl, him, hi2, HD, HI⟩ := hrel
    by_cases hlt : i < m
    · by_cases hlt2 : i < 250
      · have q0 : (i : Int) < (m : Int) := by omega
        have q1 : (i : Int) < 250 := by omega
        have q2 : (0 : Int) ≤ (i : Int) := by omega
        obtain ⟨o, ho⟩ : ∃ o, zs[i]? = some o := ⟨_, List.getElem?_eq_getElem (by rw [Hm.out]; exact hlt)⟩
        obtain ⟨b, off, rfl, z0', z1'⟩ := HV.out.at i o ho
        obtain ⟨kd, x⟩ := o
        simp only at z0' z1'
        have z0 : wr.cell? ⟨b, off + i * 2, none⟩ = some (.int .i64 kd) := by rw [HI.out.bel.cell (p := ⟨b, off + i * 2, none⟩) (cell_lt z0')]; exact z0'
        have z1 : wr.cell? ⟨b, off + i * 2 + 1, none⟩ = some (.int .i64 x) := by rw [HI.out.bel.cell (p := ⟨b, off + i * 2 + 1, none⟩) (cell_lt z1')]; exact z1'
        clear z0' z1' ho hlt hlt2
        go_upto_region 12 with fail
        obtain ⟨bo, hbo⟩ : ∃ bo, wr.heap.size = bo := ⟨_, rfl⟩
        have HI1 : Hid (Its w0 [.gate w0.heap.size g c vw S, .box bo #[.int .i64 kd, .int .i64 x] 32, .ints w0.heap.size (.slice a7 n7 p7) al, .ints w0.heap.size (.slice a8 n8 p8) wn, .ints w0.heap.size (.slice a9 n9 p9) lf] (wr.alloc (.cells #[.int .i64 kd, .int .i64 x] 32))) := hide (by rw [← hbo]; exact (HI.out.new (x := .box wr.heap.size #[.int .i64 kd, .int .i64 x] 32) (heap_new wr _) (fun k hk => by cases hk; exact Nat.le_refl _) (below_new wr _)).swap)
        rw [hbo]
        generalize wr.alloc (.cells #[.int .i64 kd, .int .i64 x] 32) = W1 at *
        clear hbo z0 z1 HI
        have z0 : W1.cell? ⟨bo, 0, none⟩ = some (.int .i64 kd) := (cells_at HI1.out.two 0).1
        have z1 : W1.cell? ⟨bo, 1, none⟩ = some (.int .i64 x) := (cells_at HI1.out.two 1).1
        have HZ : Hid (∀ W vw' S' l, Its w0 (.gate w0.heap.size g c vw' S' :: .box bo #[.int .i64 kd, .int .i64 x] 32 :: l) W → W.cell? ⟨bo, 1, none⟩ = some (.int .i64 x)) := hide (fun W vw' S' l h => (cells_at h.two 1).1)
        have HR : Hid (∀ (W : World) (y : Int), intE.Rd (W.alloc (.cells #[.int .i64 y] 3)) (.slice (some ⟨W.heap.size, 0, none⟩) 1 1) [y]) := hide (fun W y => int_new W y _ rfl)
        have HLe : Hid (al.length ≤ 250 ∧ wn.length ≤ 250 ∧ lf.length ≤ 250) := hide (by
          have h1 := HD.out.ends HI1.out.one.ok.il
          have h2 := HD.out.le
          rw [HD.out.l7, HD.out.l8, HD.out.l9]
          omega)
        have s7 : (n7 : Int) ≤ 250 := by have := HLe.out; have := HD.out.l7; omega
        have s8 : (n8 : Int) ≤ 250 := by have := HLe.out; have := HD.out.l8; omega
        have s9 : (n9 : Int) ≤ 250 := by have := HLe.out; have := HD.out.l9; omega
        go_upto_block 2 with fail
        go_cut [7, 8, 9] (fun v7 v8 v9 wx => ∃ (vw : Value) (S : Gt) (al wn lf : List Int) (a7 : Option Addr) (n7 p7 : Nat) (a8 : Option Addr) (n8 p8 : Nat) (a9 : Option Addr) (n9 p9 : Nat), v7 = .slice a7 n7 p7 ∧ v8 = .slice a8 n8 p8 ∧ v9 = .slice a9 n9 p9 ∧ Hid (Od S N al wn lf n7 n8 n9 (i + 1)) ∧ Hid (Its w0 [.gate w0.heap.size g c vw S, .ints w0.heap.size (.slice a7 n7 p7) al, .ints w0.heap.size (.slice a8 n8 p8) wn, .ints w0.heap.size (.slice a9 n9 p9) lf] wx))
        case first =>
          by_cases k1 : kd = 1
          · subst k1
            by_cases hc : Gt.acC S x = 0
            · have H11 := hide (acceptS x HI1.out hc (Gt.ac_yes hc))
              have HLn : Hid (al.length + [x].length ≤ 1000000) := hide (by have := HLe.out; simp; omega)
              clear hc
              go_wp2_with (first
                | (at_builtin; refine intE.wpB (B := w0.heap.size) HX2.out.size (by rfl) _ _ rfl _ _ rfl rfl (al) [x] HX2.out.one HR2.out HLn.out ?_; intro v4 W4 ho hg hs; obtain ⟨a4, p4, hf4⟩ := ho.rd.form; obtain ⟨n4, hn4⟩ : ∃ n4, (al ++ [x]).length = n4 := ⟨_, rfl⟩; rw [hn4] at hf4; subst hf4; have HI4 := hide (HX2.out.grow ho hg hs); have Hn4 := hide hn4; clear ho hg hs hn4)
                | (go_at_call 11; refine H11.out.mono ?_; rintro e W2 ⟨rfl, vw2, hg⟩; have HX2 := hide (hg.rot3.alloc (.cells #[.int .i64 x] 3)); have HR2 := hide (HR.out W2 x); have z2 := HZ.out W2 _ _ _ hg; clear hg))
              go_meet
              exact ⟨vw2, _, al ++ [x], wn, lf, a4, n4, p4, a8, n8, p8, a9, n9, p9, rfl, rfl, rfl, hide (HD.out.ac Hn4.out), hide HI4.out.rot3'.swap.tail⟩
            · have H11 := hide (acceptS x HI1.out rfl (Gt.ac_no hc))
              obtain ⟨y, hy⟩ : ∃ y, Gt.acC S x = y := ⟨_, rfl⟩
              rw [hy] at H11 hc
              have hyb : (y == 0) = false := beq_eq_false_iff_ne.2 hc
              clear hc hy
              go_wp2_with (go_at_call 11; refine H11.out.mono ?_; rintro e W2 ⟨rfl, vw2, hg⟩; have HI2 := hide hg; clear hg)
              go_meet
              exact ⟨_, S, al, wn, lf, a7, n7, p7, a8, n8, p8, a9, n9, p9, rfl, rfl, rfl, hide HD.out.same, hide HI2.out.swap.tail⟩
          · have k1' : (kd == 1) = false := beq_eq_false_iff_ne.2 k1
            by_cases k2 : kd = 2
            · subst k2
              clear k1
              by_cases hc : x ∈ S.wt
              · have Hc := hide hc
                have H13 := hide (cancelS (e := 0) x HI1.out (if_pos hc) rfl)
                have HP0 := hide (HD.out.place hc)
                have HU0 : Hid (∀ k : Nat, n8 ≤ k → al[k]? = some x → k = n8 + S.wt.idxOf x) := hide (fun k h1 h2 => HD.out.only HI1.out.one.ok.ndw hc h1 h2)
                obtain ⟨at1, hat⟩ : ∃ at1, n8 + S.wt.idxOf x = at1 := ⟨_, rfl⟩
                rw [hat] at HP0 HU0
                have hge : n8 ≤ at1 := by omega
                have hj := HP0.out.1
                obtain ⟨gb, c3, hv, hle, hmx⟩ := El.Own.some HI1.out.three (fun e => by have := HP0.out.2.1; rw [e] at this; simp at this)
                simp only [Value.slice.injEq] at hv
                obtain ⟨rfl, hn7, rfl⟩ := hv
                rw [← hn7] at hle
                have hm7 : n7 ≤ 250 := by omega
                have hm8 : n8 ≤ 250 := by omega
                unfold maxLen at hmx
                clear hn7 hat hc
                go_upto_region 19 with (go_at_call 13; refine H13.out.mono ?_; rintro e W2 ⟨rfl, vw2, hg⟩; have HI2 := hide hg; clear hg)
                have z2 := (cells_at HI2.out.two 1).1
                have HC : Hid (∀ (k : Nat) (p : Int), al[k]? = some p → W2.cell? ⟨gb, k, none⟩ = some (.int .i64 p)) := hide (fun k p hp => (El.Own.at1 (Value.int .i64) (fun _ => rfl) rfl HI2.out.three k p hp).1)
                go_wp2_with fail
                go_loopw [12, 13] (fun v12 v13 wr => ∃ (k q : Nat) (r : Int), v13 = .int .i64 k ∧ n8 ≤ k ∧ k ≤ n7 ∧ v12 = .int .i64 r ∧ wr = W2.drewN q ∧ Hid (r = if at1 < k then (at1 : Int) else -1)) (fun _ v13 _ => n7 - (intOf v13).toNat)
                case atStart => exact ⟨n8, 0, -1, rfl, Nat.le_refl _, by omega, rfl, rfl, hide (by rw [if_neg (by omega)])⟩
                case round =>
                  obtain ⟨k, q, r, rfl, hk0, hk1, rfl, rfl, Hr⟩ := hrel
                  by_cases hkn : k < n7
                  · obtain ⟨p, hp⟩ : ∃ p, al[k]? = some p := ⟨_, List.getElem?_eq_getElem (by rw [HD.out.l7]; exact hkn)⟩
                    have zk := HC.out k p hp
                    have j0 : (0 : Int) ≤ (k : Int) := by omega
                    have j1 : (k : Int) < (n7 : Int) := by omega
                    by_cases hpx : p = x
                    · have e1 := HU0.out k hk0 (by rw [hp, hpx])
                      have hbe : (p == x) = true := beq_iff_eq.2 hpx
                      have Hr1 : Hid ((k : Int) = if at1 < k + 1 then (at1 : Int) else -1) := hide (by rw [e1, if_pos (by omega)])
                      clear hp hpx e1
                      go_upto_region 22 with fail
                      go_quiet (fail)
                      go_wp2_with fail
                      go_roundw
                      case rel => exact ⟨k + 1, _, _, by go_num, by omega, by omega, rfl, rfl, Hr1⟩
                      case measure => simp [intOf]; omega
                    · have hbe : (p == x) = false := beq_eq_false_iff_ne.2 hpx
                      have Hr1 : Hid (r = if at1 < k + 1 then (at1 : Int) else -1) := hide (by
                        have hne : k ≠ at1 := fun e => hpx (by
                          have h2 := HP0.out.2.1
                          rw [← e, hp] at h2
                          exact Option.some.inj h2)
                        rw [Hr.out]
                        by_cases h : at1 < k
                        · rw [if_pos h, if_pos (by omega)]
                        · rw [if_neg h, if_neg (by omega)])
                      clear hp hpx
                      go_upto_region 22 with fail
                      go_quiet (fail)
                      go_wp2_with fail
                      go_roundw
                      case rel => exact ⟨k + 1, _, _, by go_num, by omega, by omega, rfl, rfl, Hr1⟩
                      case measure => simp [intOf]; omega
                  · have hkk : k = n7 := by omega
                    have j1 : ¬ (k : Int) < (n7 : Int) := by omega
                    have er : r = (at1 : Int) := by rw [Hr.out, if_pos (by omega)]
                    subst er
                    have HIc := hide (HI2.out.drew q)
                    generalize W2.drewN q = wz at *
                    clear Hr hkk hkn HC z2 HI2
                    obtain ⟨nx, hnx⟩ : ∃ nx, ([] ++ al.take at1 ++ al.drop (at1 + 1)).length = nx := ⟨_, rfl⟩
                    have HLn3 := hide hnx
                    have t0 : ¬ (at1 : Int) < 0 := by omega
                    clear hnx
                    have t1 : (0 : Int) ≤ (at1 : Int) := by omega
                    have t2 : (at1 : Int) < (n7 : Int) := by omega
                    have t3 : (at1 : Int) ≤ (p7 : Int) := by omega
                    have t4 : (at1 : Int) + 1 ≤ (n7 : Int) := by omega
                    have t5 : (n7 : Int) ≤ (p7 : Int) := by omega
                    have t6 : IntKind.i64.wrap ((at1 : Int) + 1) = (at1 : Int) + 1 := by simp [IntKind.wrap, IntKind.bits, IntKind.signed]; omega
                    have t7 : (0 : Int) ≤ (at1 : Int) + 1 := by omega
                    obtain ⟨pv, hpv⟩ : ∃ pv : Option Addr, (if p7 = at1 + 1 then some ⟨gb, 0, none⟩ else some ⟨gb, at1 + 1, none⟩) = pv := ⟨_, rfl⟩
                    have HRd1 : Hid (∀ W, intE.Rd W (.slice (some ⟨gb, 0, none⟩) n7 p7) al → intE.Rd W (.slice (some ⟨gb, 0, none⟩) at1 p7) (al.take at1) ∧ intE.Rd W (.slice pv (n7 - (at1 + 1)) (p7 - (at1 + 1))) (al.drop (at1 + 1))) := hide (fun W ho => by
                      refine ⟨ho.take at1 (by rw [HD.out.l7]; omega), ?_⟩
                      by_cases e : p7 = at1 + 1
                      · rw [if_pos e] at hpv
                        subst hpv
                        have e2 : al.drop (at1 + 1) = [] := List.drop_eq_nil_of_le (by rw [HD.out.l7]; omega)
                        rw [e2]
                        exact .inr ⟨_, _, by rw [show n7 - (at1 + 1) = ([] : List Int).length by simp; omega], fun q hq => by simp at hq⟩
                      · rw [if_neg e] at hpv
                        subst hpv
                        have := El.Rd.drop (cap' := p7 - (at1 + 1)) ho (at1 + 1) (n7 - (at1 + 1)) (by rw [HD.out.l7]) (by rw [HD.out.l7]; omega)
                        simpa [intE] using this)
                    have HLn1 : Hid (([] : List Int).length + (al.take at1).length ≤ 1000000) := hide (by simp; rw [HD.out.l7]; omega)
                    have HLn2 : Hid (([] ++ al.take at1).length + (al.drop (at1 + 1)).length ≤ 1000000) := hide (by simp; rw [HD.out.l7]; omega)
                    go_upto_region 26 with fail
                    have HIn : Hid (Its w0 _ (wz.alloc (.cells #[] 3)).drew) := hide ((HIc.out.fresh (El.Own.new intE wz wz.heap.size (Nat.le_refl _) #[] [] rfl (by simp) wz.heap.size 0 0 rfl rfl rfl) (below_new wz _)).drew 1)
                    refine wp_region_held_drew (S := fun _ => True) (by kernel_rfl) trivial (fun hS0 => ?_)
                    refine wpAnyH_take (i := 1) (v := .slice (some ⟨gb, 0, none⟩) n7 p7) rfl (by kernel_rfl) (by kernel_rfl) (by kernel_rfl) (fun _ _ _ h => h) (Or.inl ⟨by rfl, fun W' hW => by go_simp⟩) trivial ?_
                    refine wpAnyH_take (i := 2) (v := .int .i64 at1) rfl (by kernel_rfl) (by kernel_rfl) (by kernel_rfl) (fun _ _ _ h => h) (Or.inl ⟨by rfl, fun W' hW => by go_simp⟩) trivial ?_
                    refine wpAnyH_take (i := 3) (v := .slice (some ⟨gb, 0, none⟩) at1 p7) rfl (by kernel_rfl) (by kernel_rfl) (by kernel_rfl) (fun _ _ _ h => h) (Or.inl ⟨by rfl, fun W' hW => by go_simp⟩) trivial ?_
                    refine wpAnyH_take (i := 5) (v := .slice (some ⟨gb, 0, none⟩) n7 p7) rfl (by kernel_rfl) (by kernel_rfl) (by kernel_rfl) (fun _ _ _ h => h) (Or.inl ⟨by rfl, fun W' hW => by go_simp⟩) trivial ?_
                    refine wpAnyH_take (i := 6) (v := .int .i64 at1) rfl (by kernel_rfl) (by kernel_rfl) (by kernel_rfl) (fun _ _ _ h => h) (Or.inl ⟨by rfl, fun W' hW => by go_simp⟩) trivial ?_
                    refine wpAnyH_take (i := 7) (v := .int .i64 ((at1 : Int) + 1)) rfl (by kernel_rfl) (by kernel_rfl) (by kernel_rfl) (fun _ _ _ h => h) (Or.inl ⟨by rfl, fun W' hW => by go_simp⟩) trivial ?_
                    refine wpAnyH_take (i := 8) (v := .slice pv (n7 - (at1 + 1)) (p7 - (at1 + 1))) rfl (by kernel_rfl) (by kernel_rfl) (by kernel_rfl) (fun _ _ _ h => h) (Or.inl ⟨by rfl, fun W' hW => by go_simp⟩) trivial ?_
                    refine wpAnyH_ready (rs := [0]) (by kernel_rfl) (by simp) ?_
                    refine AllReadyH.cons rfl (fun K hK => ?_) AllReadyH.nil
                    go_simp
                    refine hK.out _ _ trivial (fun _ => ?_)
                    clear hK K
                    refine wpAnyH_ready (rs := [4]) (by kernel_rfl) (by simp) ?_
                    refine AllReadyH.cons rfl (fun K hK => ?_) AllReadyH.nil
                    refine intE.step (w0 := w0) HIn.out.bel rfl _ _ rfl _ _ rfl rfl [] (al.take at1) HIn.out.one (HRd1.out _ (El.Own.rd HIn.out.four)).1 HLn1.out ?_
                    intro vz4 Wz4 ho4 hg4 hs4 hb4
                    have HIz4 := hide (HIn.out.grow ho4 hg4 hs4)
                    refine hK.out _ _ trivial (fun _ => ?_)
                    clear hK K ho4 hg4 hs4 hb4
                    refine wpAnyH_ready (rs := [9]) (by kernel_rfl) (by simp) ?_
                    refine AllReadyH.cons rfl (fun K hK => ?_) AllReadyH.nil
                    refine intE.step (w0 := w0) HIz4.out.bel rfl _ _ rfl _ _ rfl rfl ([] ++ al.take at1) (al.drop (at1 + 1)) HIz4.out.one (HRd1.out _ (El.Own.rd HIz4.out.four)).2 HLn2.out ?_
                    intro vz5 Wz5 ho5 hg5 hs5 hb5
                    have HIz5 := hide (HIz4.out.grow ho5 hg5 hs5)
                    obtain ⟨az5, cz5, e5⟩ := ho5.rd.form
                    rw [HLn3.out] at e5
                    subst e5
                    refine hK.out _ _ trivial (fun _ => ?_)
                    clear hK K ho5 hg5 hs5 hb5
                    refine wpAnyH_ready (rs := [10]) (by kernel_rfl) (by simp) ?_
                    refine AllReadyH.cons rfl (fun K hK => ?_) AllReadyH.nil
                    go_simp
                    refine hK.out _ _ trivial (fun _ => ?_)
                    clear hK K
                    refine wpAnyH_done (by kernel_rfl) ?_ _
                    have HE : Hid (Its w0 [.gate w0.heap.size g c vw2 (S.ca x), .ints w0.heap.size (.slice az5 nx cz5) (wn ++ S.wt.erase x), .ints w0.heap.size (.slice a8 n8 p8) wn, .ints w0.heap.size (.slice a9 n9 p9) lf] Wz5) := hide (by have := HIz5.out; rw [List.nil_append, HP0.out.2.2] at this; exact this.rot3.tail.rot3.tail.swap)
                    have HDe : Hid (Od (S.ca x) N (wn ++ S.wt.erase x) wn lf nx n8 n9 (i + 1)) := hide (HD.out.ca (by have := HLn3.out; rw [List.nil_append, HP0.out.2.2] at this; exact this) Hc.out)
                    clear HIz4 HIz5 HIn HIc
                    go_wp2_with fail
                    go_meet
                    exact ⟨vw2, _, wn ++ S.wt.erase x, wn, lf, az5, nx, cz5, a8, n8, p8, a9, n9, p9, rfl, rfl, rfl, HDe, HE⟩
              · have H13 := hide (cancelS (S' := S) x HI1.out rfl (Gt.ca_no hc))
                obtain ⟨y, hy, hy0⟩ : ∃ y, Gt.fc S x = y ∧ y ≠ 0 := by
                  refine ⟨_, rfl, ?_⟩
                  unfold Gt.fc
                  rw [if_neg hc]
                  by_cases hi : x ∈ S.ins
                  · rw [if_pos hi]; decide
                  · rw [if_neg hi]; decide
                rw [hy] at H13
                have hyb : (y == 0) = false := beq_eq_false_iff_ne.2 hy0
                clear hc hy hy0
                go_wp2_with (go_at_call 13; refine H13.out.mono ?_; rintro e W2 ⟨rfl, vw2, hg⟩; have HI2 := hide hg; clear hg)
                go_meet
                exact ⟨_, S, al, wn, lf, a7, n7, p7, a8, n8, p8, a9, n9, p9, rfl, rfl, rfl, hide HD.out.same, hide HI2.out.swap.tail⟩
            · have k2' : (kd == 2) = false := beq_eq_false_iff_ne.2 k2
              by_cases k3 : kd = 3
              · subst k3
                clear k1 k2
                by_cases hc : Gt.arC S x = 0
                · obtain ⟨⟨r, hr⟩, _⟩ := Gt.arC_zero hc
                  have Hr := hide hr
                  have H15 := hide (arriveS x HI1.out hc (Gt.ar_yes hc))
                  have HLn : Hid (wn.length + [x].length ≤ 1000000) := hide (by have := HLe.out; simp; omega)
                  clear hc hr
                  go_wp2_with (first
                    | (at_builtin; refine intE.wpB (B := w0.heap.size) HX2.out.size (by rfl) _ _ rfl _ _ rfl rfl (wn) [x] HX2.out.one HR2.out HLn.out ?_; intro v4 W4 ho hg hs; obtain ⟨a4, p4, hf4⟩ := ho.rd.form; obtain ⟨n4, hn4⟩ : ∃ n4, (wn ++ [x]).length = n4 := ⟨_, rfl⟩; rw [hn4] at hf4; subst hf4; have HI4 := hide (HX2.out.grow ho hg hs); have Hn4 := hide hn4; clear ho hg hs hn4)
                    | (go_at_call 15; refine H15.out.mono ?_; rintro e W2 ⟨rfl, vw2, hg⟩; have HX2 := hide (hg.rot4.alloc (.cells #[.int .i64 x] 3)); have HR2 := hide (HR.out W2 x); have z2 := HZ.out W2 _ _ _ hg; clear hg))
                  go_meet
                  exact ⟨vw2, _, al, wn ++ [x], lf, a7, n7, p7, a4, n4, p4, a9, n9, p9, rfl, rfl, rfl, hide (HD.out.ar Hr.out Hn4.out), hide HI4.out.rot4'.swap.tail⟩
                · have H15 := hide (arriveS x HI1.out rfl (Gt.ar_no hc))
                  obtain ⟨y, hy⟩ : ∃ y, Gt.arC S x = y := ⟨_, rfl⟩
                  rw [hy] at H15 hc
                  have hyb : (y == 0) = false := beq_eq_false_iff_ne.2 hc
                  clear hc hy
                  go_wp2_with (go_at_call 15; refine H15.out.mono ?_; rintro e W2 ⟨rfl, vw2, hg⟩; have HI2 := hide hg; clear hg)
                  go_meet
                  exact ⟨_, S, al, wn, lf, a7, n7, p7, a8, n8, p8, a9, n9, p9, rfl, rfl, rfl, hide HD.out.same, hide HI2.out.swap.tail⟩
              · have k3' : (kd == 3) = false := beq_eq_false_iff_ne.2 k3
                by_cases k4 : kd = 4
                · subst k4
                  clear k1 k2 k3
                  cases hi : S.ins with
                  | nil =>
                    have e3 : S.le = S := by
                      obtain ⟨cr, wt, ins⟩ := S
                      simp only at hi
                      subst hi
                      rfl
                    have H17 := hide (leaveS (v := 0) (e := 4) HI1.out ⟨by unfold Gt.leV; rw [hi]; rfl, if_pos hi⟩ e3)
                    clear hi e3
                    go_wp2_with (go_at_call 17; refine H17.out.mono ?_; rintro e W2 ⟨rfl, vw2, hg⟩; have HI2 := hide hg; clear hg)
                    go_meet
                    exact ⟨_, S, al, wn, lf, a7, n7, p7, a8, n8, p8, a9, n9, p9, rfl, rfl, rfl, hide HD.out.same, hide HI2.out.swap.tail⟩
                  | cons y q =>
                    have Hi := hide hi
                    have H17 := hide (leaveS (v := y) (e := 0) HI1.out ⟨by unfold Gt.leV; rw [hi]; rfl, if_neg (by rw [hi]; simp)⟩ rfl)
                    have HLn : Hid (lf.length + [y].length ≤ 1000000) := hide (by have := HLe.out; simp; omega)
                    clear hi
                    go_wp2_with (first
                      | (at_builtin; refine intE.wpB (B := w0.heap.size) HX2.out.size (by rfl) _ _ rfl _ _ rfl rfl (lf) [y] HX2.out.one HR2.out HLn.out ?_; intro v4 W4 ho hg hs; obtain ⟨a4, p4, hf4⟩ := ho.rd.form; obtain ⟨n4, hn4⟩ : ∃ n4, (lf ++ [y]).length = n4 := ⟨_, rfl⟩; rw [hn4] at hf4; subst hf4; have HI4 := hide (HX2.out.grow ho hg hs); have Hn4 := hide hn4; clear ho hg hs hn4)
                      | (go_at_call 17; refine H17.out.mono ?_; rintro e W2 ⟨rfl, vw2, hg⟩; have HX2 := hide (hg.rot5.alloc (.cells #[.int .i64 y] 3)); have HR2 := hide (HR.out W2 y); clear hg))
                    go_meet
                    exact ⟨vw2, _, al, wn, lf ++ [y], a7, n7, p7, a8, n8, p8, a4, n4, p4, rfl, rfl, rfl, hide (HD.out.le' Hi.out Hn4.out), hide HI4.out.rot5'.swap.tail⟩
                · have k4' : (kd == 4) = false := beq_eq_false_iff_ne.2 k4
                  clear k1 k2 k3 k4
                  go_wp2_with fail
                  go_meet
                  exact ⟨_, S, al, wn, lf, a7, n7, p7, a8, n8, p8, a9, n9, p9, rfl, rfl, rfl, hide HD.out.same, hide HI1.out.swap.tail⟩
        case rest =>
          obtain ⟨vw3, S3, al3, wn3, lf3, a7, n7, p7, a8, n8, p8, a9, n9, p9, rfl, rfl, rfl, HD3, HI3⟩ := hcut
          obtain ⟨e1, e2, e3, e4, e5⟩ := HD3.out.ends HI3.out.one.ok.il
          have h7 := Own.cap HI3.out.two
          have h8 := Own.cap HI3.out.three
          have h9 := HD3.out.le
          have H22 : Hid (∀ W, Its w0 [.gate w0.heap.size g c vw3 S3, .ints w0.heap.size (.slice a7 n7 p7) al3, .ints w0.heap.size (.slice a8 n8 p8) wn3, .ints w0.heap.size (.slice a9 n9 p9) lf3] W → Calls Try.prog 22 #[.slice a8 n8 p8, .slice a7 n8 p7] W fun e w' => e = .returned (.bool true) ∧ ∃ q, w' = W.drewN q) := hide (fun W h => ints_eq a8 a7 p8 p7 n8 wn3 W HD3.out.l8 (El.Own.rd h.three) (by have := (El.Own.rd h.two).take n8 (by rw [HD3.out.l7]; exact e1); rw [e4] at this; exact this) (by omega))
          have H22b : Hid (∀ W, Its w0 [.gate w0.heap.size g c vw3 S3, .ints w0.heap.size (.slice a7 n7 p7) al3, .ints w0.heap.size (.slice a8 n8 p8) wn3, .ints w0.heap.size (.slice a9 n9 p9) lf3] W → Calls Try.prog 22 #[.slice a9 n9 p9, .slice a8 n9 p8] W fun e w' => e = .returned (.bool true) ∧ ∃ q, w' = W.drewN q) := hide (fun W h => ints_eq a9 a8 p9 p8 n9 lf3 W HD3.out.l9 (El.Own.rd h.four) (by have := (El.Own.rd h.three).take n9 (by rw [HD3.out.l8]; exact e2); rw [e5] at this; exact this) (by omega))
          have f1 : ¬ (n8 : Int) > (n7 : Int) := by omega
          have f2 : ¬ (n9 : Int) > (n8 : Int) := by omega
          have f3 : ¬ (n8 : Int) - (n9 : Int) > (N : Int) := by omega
          have f4 : (n8 : Int) ≤ (p7 : Int) := by have := h7.1; have := HD3.out.l7; omega
          have f5 : (n9 : Int) ≤ (p8 : Int) := by have := h8.1; have := HD3.out.l8; omega
          have f6 : n8 ≤ p7 := by omega
          have f7 : n9 ≤ p8 := by omega
          have f8 : (n8 : Int) ≤ 250 := by omega
          have f9 : (n9 : Int) ≤ 250 := by omega
          clear e1 e2 e3 e4 e5 h7 h8 h9
          go_wp2_with (first
            | (go_at_call 22; refine (H22b.out _ HJ.out).mono ?_; rintro e W6 ⟨rfl, qq2, rfl⟩; have HJ2 := hide (HI3.out.drew (qq1 + qq2)))
            | (go_at_call 22; refine (H22.out _ HI3.out).mono ?_; rintro e W5 ⟨rfl, qq1, rfl⟩; have HJ := hide (HI3.out.drew qq1)))
          go_roundw
          case rel => exact ⟨i + 1, vw3, S3, al3, wn3, lf3, a7, n7, p7, a8, n8, p8, a9, n9, p9, rfl, rfl, rfl, by go_num, by omega, by omega, HD3, HJ2⟩
          case measure => simp [intOf]; omega
      · have q0 : (i : Int) < (m : Int) := by omega
        have q1 : ¬ (i : Int) < 250 := by omega
        go_wp2_with fail
        go_ret
        exact ⟨rfl, HI.out.bel⟩
    · have q0 : ¬ (i : Int) < (m : Int) := by omega
      go_wp2_with fail
      go_ret
      exact ⟨rfl, HI.out.bel⟩
end Go.Proofs.Ytdnkgfljkdbckaa
