/- GatePlays, the walk. -/
import Derived.Test.YtdnkgfljkdbckaaGrb
import Derived.Test.YtdnkgfljkdbckaaGom
namespace Go.Proofs.Ytdnkgfljkdbckaa
open Go.RowKit
set_option linter.unusedVariables false

theorem Gt.ac_cr (S : Gt) (x : Int) : (S.ac x).cr = S.cr := by
  by_cases h : S.acC x = 0
  · rw [Gt.ac_yes h]
  · rw [Gt.ac_no h]
theorem Gt.ar_cr (S : Gt) (x : Int) : (S.ar x).cr = S.cr := by
  by_cases h : S.arC x = 0
  · rw [Gt.ar_yes h]
  · rw [Gt.ar_no h]
theorem Its.three3 {w0 w : World} {b : Nat} {p q r : Value} {t : TypeId} {l : List It} (h : Its w0 (.box b #[p, q, r] t :: l) w) : w.cell? ⟨b, 0, none⟩ = some p ∧ w.cell? ⟨b, 1, none⟩ = some q ∧ w.cell? ⟨b, 2, none⟩ = some r ∧ (∀ i, w.frozen? ⟨b, i, none⟩ = false) :=
  ⟨(cells_at h.one 0).1, (cells_at h.one 1).1, (cells_at h.one 2).1, fun i => (cells_at h.one i).2⟩
/-- a number of a list of the call's own is written -/
theorem Its.setI {w0 w : World} {g n c : Nat} {xs : List Int} {l : List It} (h : Its w0 (.ints w0.heap.size (.slice (some ⟨g, 0, none⟩) n c) xs :: l) w) (i : Nat) (z : Int) : Its w0 (.ints w0.heap.size (.slice (some ⟨g, 0, none⟩) n c) (xs.set i z) :: l) (w.setCell ⟨g, i, none⟩ (.int .i64 z)) :=
  h.chg (x' := .ints w0.heap.size (.slice (some ⟨g, 0, none⟩) n c) (xs.set i z)) (El.Own.set (Value.int .i64) (fun _ => rfl) rfl h.one i z) (fun k hk => .inl hk) ((Frm.set w g i _).mono fun k _ e => by show Option.some g = some k; rw [e])

set_option maxRecDepth 100000 in
set_option maxHeartbeats 8000000 in
theorem plays_walk (n0 : Int) (a : Option Addr) (m cp : Nat) (zs : List Op) (w : World) (hm : zs.length = m) (hv : Ops w (.slice a m cp) zs) : Calls Try.prog 3 #[.int .i64 n0, .slice a m cp] w fun e w' => e = .returned (.bool true) ∧ Below w.heap.size w w' := by
  obtain ⟨w0, rfl⟩ : ∃ w0, w0 = w := ⟨_, rfl⟩
  have KA := hide awake_any
  by_cases hout : n0 < 1 ∨ 16 < n0
  · have KN := hide (fun W => new_no n0 W hout)
    rcases hout with h | h
    · clear hm hv
      go_enter Try.func3, Try.ntmps3
      go_wp2_with (first
        | (go_at_call 9; refine (KA.out _).mono ?_; rintro e W1 ⟨rfl, hb1⟩; have HB := hide hb1; clear hb1)
        | (go_at_call 10; refine (KN.out _).mono ?_; rintro e W2 ⟨rfl, rfl⟩))
      go_ret
      exact ⟨rfl, HB.out⟩
    · have h1 : ¬ n0 < 1 := by omega
      clear hm hv
      go_enter Try.func3, Try.ntmps3
      go_wp2_with (first
        | (go_at_call 9; refine (KA.out _).mono ?_; rintro e W1 ⟨rfl, hb1⟩; have HB := hide hb1; clear hb1)
        | (go_at_call 10; refine (KN.out _).mono ?_; rintro e W2 ⟨rfl, rfl⟩))
      go_ret
      exact ⟨rfl, HB.out⟩
  obtain ⟨N, rfl⟩ : ∃ N : Nat, (N : Int) = n0 := ⟨n0.toNat, by omega⟩
  have hN1 : 1 ≤ N := by omega
  have hN2 : N ≤ 16 := by omega
  have KN : Hid (∀ W, Its w0 [] W → Calls Try.prog 10 #[.int .i64 (N : Int)] W fun e w' => ∃ g c, e = .returned (.tuple #[.pointer (some ⟨g, 0, none⟩), .int .i64 0]) ∧ Its w0 [.gate w0.heap.size g c (.slice none 0 0) ⟨N, [], []⟩] w') := hide (fun W h => new_ok N w0 W [] hN1 hN2 h)
  have Hm := hide hm
  have HV := hide hv
  have i1 : (1 : Int) ≤ (N : Int) := by omega
  have i16 : (N : Int) ≤ 16 := by omega
  have i1' : ¬ (N : Int) < 1 := by omega
  have i16' : ¬ (N : Int) > 16 := by omega
  clear hm hv hout hN1 hN2
  go_enter Try.func3, Try.ntmps3
  go_upto_region 3 with (go_at_call 9; refine (KA.out _).mono ?_; rintro e W1 ⟨rfl, hb1⟩; have HB := hide hb1; clear hb1)
  have HI0 : Hid (Its w0 [] W1) := hide ⟨HB.out, by simp, by simp, .nil⟩
  go_upto_region 8 with (go_at_call 10; refine (KN.out _ HI0.out).mono ?_; rintro e WA ⟨g, c, rfl, hg⟩; have HG0 := hide hg; clear hg)
  clear KN HI0 KA HB
  obtain ⟨bm, hbm⟩ : ∃ bm, WA.heap.size = bm := ⟨_, rfl⟩
  have HI1 : Hid (Its w0 [.gate w0.heap.size g c (.slice none 0 0) ⟨N, [], []⟩, .box bm #[.int .i64 (N : Int), .slice none 0 0, .slice none 0 0] 30, .ints w0.heap.size (.slice none 0 0) [], .ints w0.heap.size (.slice none 0 0) []] (WA.alloc (.cells #[.int .i64 (N : Int), .slice none 0 0, .slice none 0 0] 30))) := hide (by
    rw [← hbm]
    exact (((HG0.out.new (x := .box WA.heap.size #[.int .i64 (N : Int), .slice none 0 0, .slice none 0 0] 30) (heap_new WA _) (fun k hk => by cases hk; exact Nat.le_refl _) (below_new WA _)).swap.empty intE).empty intE).rot3.rot4.swap)
  go_upto_region 10 with fail
  try rw [hbm]
  generalize WA.alloc (.cells #[.int .i64 (N : Int), .slice none 0 0, .slice none 0 0] 30) = WB at *
  clear hbm HG0
  go_loopw [8] (fun v8 wr => ∃ (i : Nat) (vw : Value) (S : Gt) (au : Option Addr) (nu pu : Nat) (av : Option Addr) (nv pv : Nat), v8 = .int .i64 i ∧ i ≤ m ∧ i ≤ 250 ∧ Hid (S.wt.length = nu ∧ S.ins.length = nv ∧ S.cr = N) ∧ Hid (Its w0 [.gate w0.heap.size g c vw S, .box bm #[.int .i64 (N : Int), .slice au nu pu, .slice av nv pv] 30, .ints w0.heap.size (.slice au nu pu) S.wt, .ints w0.heap.size (.slice av nv pv) S.ins] wr)) (fun v8 _ => 250 - (intOf v8).toNat)
  case atStart => exact ⟨0, _, ⟨N, [], []⟩, none, 0, 0, none, 0, 0, rfl, Nat.zero_le _, by omega, hide ⟨rfl, rfl, rfl⟩, HI1⟩
  case round =>
    obtain ⟨i, vw, S, au, nu, pu, av, nv, pv, rfl, him, hi2, HF, HI⟩ := hrel
    by_cases hlt : i < m
    · by_cases hlt2 : i < 250
      · have q0 : (i : Int) < (m : Int) := by omega
        have q1 : (i : Int) < 250 := by omega
        have q2 : (0 : Int) ≤ (i : Int) := by omega
        obtain ⟨o, ho⟩ : ∃ o, zs[i]? = some o := ⟨_, List.getElem?_eq_getElem (by rw [Hm.out]; exact hlt)⟩
        obtain ⟨b, off, rfl, z0', z1'⟩ := HV.out.at i o ho
        obtain ⟨kd, x⟩ := o
        simp only at z0' z1'
        have z0 : wr.cell? ⟨b, off + i * 2, none⟩ = some (.int .i64 kd) := by rw [HI.out.bel.cell (p := ⟨b, off + i * 2, none⟩) (cell_lt z0')]; exact z0'
        have z1 : wr.cell? ⟨b, off + i * 2 + 1, none⟩ = some (.int .i64 x) := by rw [HI.out.bel.cell (p := ⟨b, off + i * 2 + 1, none⟩) (cell_lt z1')]; exact z1'
        have HOk := hide HI.out.one.ok
        clear z0' z1' ho hlt hlt2
        go_upto_region 13 with fail
        obtain ⟨bo, hbo⟩ : ∃ bo, wr.heap.size = bo := ⟨_, rfl⟩
        have HI1 : Hid (Its w0 [.gate w0.heap.size g c vw S, .box bo #[.int .i64 kd, .int .i64 x] 32, .box bm #[.int .i64 (N : Int), .slice au nu pu, .slice av nv pv] 30, .ints w0.heap.size (.slice au nu pu) S.wt, .ints w0.heap.size (.slice av nv pv) S.ins] (wr.alloc (.cells #[.int .i64 kd, .int .i64 x] 32))) := hide (by rw [← hbo]; exact (HI.out.new (x := .box wr.heap.size #[.int .i64 kd, .int .i64 x] 32) (heap_new wr _) (fun k hk => by cases hk; exact Nat.le_refl _) (below_new wr _)).swap)
        try rw [hbo]
        generalize wr.alloc (.cells #[.int .i64 kd, .int .i64 x] 32) = W1 at *
        clear hbo z0 z1 HI
        have z0 : W1.cell? ⟨bo, 0, none⟩ = some (.int .i64 kd) := (cells_at HI1.out.two 0).1
        have z1 : W1.cell? ⟨bo, 1, none⟩ = some (.int .i64 x) := (cells_at HI1.out.two 1).1
        have HZ : Hid (∀ W vw' S' l, Its w0 (.gate w0.heap.size g c vw' S' :: .box bo #[.int .i64 kd, .int .i64 x] 32 :: l) W → W.cell? ⟨bo, 1, none⟩ = some (.int .i64 x)) := hide (fun W vw' S' l h => (cells_at h.two 1).1)
        have HM : Hid (∀ W vw' S' l, Its w0 (.gate w0.heap.size g c vw' S' :: .box bo #[.int .i64 kd, .int .i64 x] 32 :: .box bm #[.int .i64 (N : Int), .slice au nu pu, .slice av nv pv] 30 :: l) W → W.cell? ⟨bm, 0, none⟩ = some (.int .i64 (N : Int)) ∧ W.cell? ⟨bm, 1, none⟩ = some (.slice au nu pu) ∧ W.cell? ⟨bm, 2, none⟩ = some (.slice av nv pv) ∧ (∀ i, W.frozen? ⟨bm, i, none⟩ = false)) := hide (fun W vw' S' l h => ⟨(cells_at h.three 0).1, (cells_at h.three 1).1, (cells_at h.three 2).1, fun i => (cells_at h.three i).2⟩)
        go_upto_block 2 with fail
        go_cut [10, 11] (fun v10 v11 wx => ∃ (cd : Int) (vw : Value) (S : Gt) (au : Option Addr) (nu pu : Nat) (av : Option Addr) (nv pv : Nat), v10 = .int .i64 cd ∧ v11 = .int .i64 cd ∧ Hid (S.wt.length = nu ∧ S.ins.length = nv ∧ S.cr = N) ∧ Hid (Its w0 [.gate w0.heap.size g c vw S, .box bm #[.int .i64 (N : Int), .slice au nu pu, .slice av nv pv] 30, .ints w0.heap.size (.slice au nu pu) S.wt, .ints w0.heap.size (.slice av nv pv) S.ins] wx))
        case first =>
          by_cases k1 : kd = 1
          · subst k1
            have HP := hide (acceptS x HI1.out rfl rfl)
            have HQ : Hid (∀ W vw', Its w0 [.gate w0.heap.size g c vw' (S.ac x), .box bo #[.int .i64 1, .int .i64 x] 32, .box bm #[.int .i64 (N : Int), .slice au nu pu, .slice av nv pv] 30, .ints w0.heap.size (.slice au nu pu) S.wt, .ints w0.heap.size (.slice av nv pv) S.ins] W → Calls Try.prog 12 #[.agg #[.int .i64 (N : Int), .slice au nu pu, .slice av nv pv], .int .i64 x] W fun e w' => RG w0 [.gate w0.heap.size g c vw' (S.ac x), .box bo #[.int .i64 1, .int .i64 x] 32, .box bm #[.int .i64 (N : Int), .slice au nu pu, .slice av nv pv] 30] N (S.ac x) (S.acC x) e w') := hide (fun W vw' h => by
              have := racc_any (l := [.gate w0.heap.size g c vw' (S.ac x), .box bo #[.int .i64 1, .int .i64 x] 32, .box bm #[.int .i64 (N : Int), .slice au nu pu, .slice av nv pv] 30]) x h.rot5.rot5 HF.out.1 HF.out.2.1 HOk.out
              rw [HF.out.2.2] at this
              exact this)
            have HCr : Hid ((S.ac x).cr = N) := hide ((Gt.ac_cr S x).trans HF.out.2.2)
            obtain ⟨cd, hcd⟩ : ∃ cd, S.acC x = cd := ⟨_, rfl⟩
            rw [hcd] at HP HQ
            clear hcd
            go_wp2_with (first
              | (go_at_call 12; refine (HQ.out _ _ HI2.out).mono ?_; rintro e W3 ⟨au3, nu3, pu3, av3, nv3, pv3, rfl, hl1, hl2, hg⟩; have HL3 := hide (And.intro hl1 hl2); have HI3 := hide hg.rot5; clear hg hl1 hl2; obtain ⟨k0, k1, k2, kf⟩ := HI3.out.three3)
              | (go_at_call 11; refine HP.out.mono ?_; rintro e W2 ⟨rfl, vw2, hg⟩; have HI2 := hide hg; have z2 := HZ.out W2 _ _ _ hg; obtain ⟨m0, m1, m2, mf⟩ := HM.out W2 _ _ _ hg; clear hg))
            go_meet
            exact ⟨cd, vw2, S.ac x, au3, nu3, pu3, av3, nv3, pv3, rfl, rfl, hide ⟨HL3.out.1, HL3.out.2, HCr.out⟩, hide ((HI3.out.out3 _ _ _).rot5.tail.rot4)⟩
          · have k1' : (kd == 1) = false := beq_eq_false_iff_ne.2 k1
            by_cases k2 : kd = 2
            · subst k2
              clear k1
              have HP := hide (cancelS x HI1.out rfl rfl)
              have HQ : Hid (∀ W vw', Its w0 [.gate w0.heap.size g c vw' (S.ca x), .box bo #[.int .i64 2, .int .i64 x] 32, .box bm #[.int .i64 (N : Int), .slice au nu pu, .slice av nv pv] 30, .ints w0.heap.size (.slice au nu pu) S.wt, .ints w0.heap.size (.slice av nv pv) S.ins] W → Calls Try.prog 14 #[.agg #[.int .i64 (N : Int), .slice au nu pu, .slice av nv pv], .int .i64 x] W fun e w' => RG w0 [.gate w0.heap.size g c vw' (S.ca x), .box bo #[.int .i64 2, .int .i64 x] 32, .box bm #[.int .i64 (N : Int), .slice au nu pu, .slice av nv pv] 30] N (S.ca x) (S.fc x) e w') := hide (fun W vw' h => by
                have := rcan_any (l := [.gate w0.heap.size g c vw' (S.ca x), .box bo #[.int .i64 2, .int .i64 x] 32, .box bm #[.int .i64 (N : Int), .slice au nu pu, .slice av nv pv] 30]) x h.rot5.rot5 HF.out.1 HF.out.2.1 HOk.out
                rw [HF.out.2.2] at this
                exact this)
              have HCr : Hid ((S.ca x).cr = N) := hide (HF.out.2.2)
              obtain ⟨cd, hcd⟩ : ∃ cd, S.fc x = cd := ⟨_, rfl⟩
              rw [hcd] at HP HQ
              clear hcd
              go_wp2_with (first
                | (go_at_call 14; refine (HQ.out _ _ HI2.out).mono ?_; rintro e W3 ⟨au3, nu3, pu3, av3, nv3, pv3, rfl, hl1, hl2, hg⟩; have HL3 := hide (And.intro hl1 hl2); have HI3 := hide hg.rot5; clear hg hl1 hl2; obtain ⟨k0, k1, k2, kf⟩ := HI3.out.three3)
                | (go_at_call 13; refine HP.out.mono ?_; rintro e W2 ⟨rfl, vw2, hg⟩; have HI2 := hide hg; have z2 := HZ.out W2 _ _ _ hg; obtain ⟨m0, m1, m2, mf⟩ := HM.out W2 _ _ _ hg; clear hg))
              go_meet
              exact ⟨cd, vw2, S.ca x, au3, nu3, pu3, av3, nv3, pv3, rfl, rfl, hide ⟨HL3.out.1, HL3.out.2, HCr.out⟩, hide ((HI3.out.out3 _ _ _).rot5.tail.rot4)⟩
            · have k2' : (kd == 2) = false := beq_eq_false_iff_ne.2 k2
              by_cases k3 : kd = 3
              · subst k3
                clear k1 k2
                have HP := hide (arriveS x HI1.out rfl rfl)
                have HQ : Hid (∀ W vw', Its w0 [.gate w0.heap.size g c vw' (S.ar x), .box bo #[.int .i64 3, .int .i64 x] 32, .box bm #[.int .i64 (N : Int), .slice au nu pu, .slice av nv pv] 30, .ints w0.heap.size (.slice au nu pu) S.wt, .ints w0.heap.size (.slice av nv pv) S.ins] W → Calls Try.prog 16 #[.agg #[.int .i64 (N : Int), .slice au nu pu, .slice av nv pv], .int .i64 x] W fun e w' => RG w0 [.gate w0.heap.size g c vw' (S.ar x), .box bo #[.int .i64 3, .int .i64 x] 32, .box bm #[.int .i64 (N : Int), .slice au nu pu, .slice av nv pv] 30] N (S.ar x) (S.arC x) e w') := hide (fun W vw' h => by
                  have := rarr_any (l := [.gate w0.heap.size g c vw' (S.ar x), .box bo #[.int .i64 3, .int .i64 x] 32, .box bm #[.int .i64 (N : Int), .slice au nu pu, .slice av nv pv] 30]) x h.rot5.rot5 HF.out.1 HF.out.2.1 HOk.out
                  rw [HF.out.2.2] at this
                  exact this)
                have HCr : Hid ((S.ar x).cr = N) := hide ((Gt.ar_cr S x).trans HF.out.2.2)
                obtain ⟨cd, hcd⟩ : ∃ cd, S.arC x = cd := ⟨_, rfl⟩
                rw [hcd] at HP HQ
                clear hcd
                go_wp2_with (first
                  | (go_at_call 16; refine (HQ.out _ _ HI2.out).mono ?_; rintro e W3 ⟨au3, nu3, pu3, av3, nv3, pv3, rfl, hl1, hl2, hg⟩; have HL3 := hide (And.intro hl1 hl2); have HI3 := hide hg.rot5; clear hg hl1 hl2; obtain ⟨k0, k1, k2, kf⟩ := HI3.out.three3)
                  | (go_at_call 15; refine HP.out.mono ?_; rintro e W2 ⟨rfl, vw2, hg⟩; have HI2 := hide hg; have z2 := HZ.out W2 _ _ _ hg; obtain ⟨m0, m1, m2, mf⟩ := HM.out W2 _ _ _ hg; clear hg))
                go_meet
                exact ⟨cd, vw2, S.ar x, au3, nu3, pu3, av3, nv3, pv3, rfl, rfl, hide ⟨HL3.out.1, HL3.out.2, HCr.out⟩, hide ((HI3.out.out3 _ _ _).rot5.tail.rot4)⟩
              · have k3' : (kd == 3) = false := beq_eq_false_iff_ne.2 k3
                by_cases k4 : kd = 4
                · subst k4
                  clear k1 k2 k3
                  have HP := hide (leaveS HI1.out ⟨rfl, rfl⟩ rfl)
                  have HQ : Hid (∀ W vw', Its w0 [.gate w0.heap.size g c vw' (S.le), .box bo #[.int .i64 4, .int .i64 x] 32, .box bm #[.int .i64 (N : Int), .slice au nu pu, .slice av nv pv] 30, .ints w0.heap.size (.slice au nu pu) S.wt, .ints w0.heap.size (.slice av nv pv) S.ins] W → Calls Try.prog 18 #[.agg #[.int .i64 (N : Int), .slice au nu pu, .slice av nv pv]] W fun e w' => RL w0 [.gate w0.heap.size g c vw' (S.le), .box bo #[.int .i64 4, .int .i64 x] 32, .box bm #[.int .i64 (N : Int), .slice au nu pu, .slice av nv pv] 30] N (S.le) S.leV (S.leC) e w') := hide (fun W vw' h => by
                    have := rlea_any (l := [.gate w0.heap.size g c vw' S.le, .box bo #[.int .i64 4, .int .i64 x] 32, .box bm #[.int .i64 (N : Int), .slice au nu pu, .slice av nv pv] 30]) h.rot5.rot5 HF.out.1 HF.out.2.1 HOk.out
                    rw [HF.out.2.2] at this
                    exact this)
                  have HCr : Hid ((S.le).cr = N) := hide (HF.out.2.2)
                  obtain ⟨cd, hcd⟩ : ∃ cd, S.leC = cd := ⟨_, rfl⟩
                  rw [hcd] at HP HQ
                  clear hcd
                  obtain ⟨lv, hlv⟩ : ∃ lv, S.leV = lv := ⟨_, rfl⟩
                  rw [hlv] at HP HQ
                  clear hlv
                  have hlb : (lv != lv) = false := bne_self_eq_false _
                  go_wp2_with (first
                    | (go_at_call 18; refine (HQ.out _ _ HI2.out).mono ?_; rintro e W3 ⟨au3, nu3, pu3, av3, nv3, pv3, rfl, hl1, hl2, hg⟩; have HL3 := hide (And.intro hl1 hl2); have HI3 := hide hg.rot5; clear hg hl1 hl2; obtain ⟨k0, k1, k2, kf⟩ := HI3.out.three3)
                    | (go_at_call 17; refine HP.out.mono ?_; rintro e W2 ⟨rfl, vw2, hg⟩; have HI2 := hide hg; obtain ⟨m0, m1, m2, mf⟩ := HM.out W2 _ _ _ hg; clear hg))
                  go_meet
                  exact ⟨cd, vw2, S.le, au3, nu3, pu3, av3, nv3, pv3, rfl, rfl, hide ⟨HL3.out.1, HL3.out.2, HCr.out⟩, hide ((HI3.out.out3 _ _ _).rot5.tail.rot4)⟩
                · have k4' : (kd == 4) = false := beq_eq_false_iff_ne.2 k4
                  clear k1 k2 k3 k4
                  go_wp2_with fail
                  go_meet
                  exact ⟨0, vw, S, au, nu, pu, av, nv, pv, rfl, rfl, HF, hide HI1.out.swap.tail⟩
        case rest =>
          clear HZ HM HI1 z0 z1 HF HOk
          obtain ⟨cd, vw3, S3, au, nu, pu, av, nv, pv, rfl, rfl, HF, HI3⟩ := hcut
          have hml := HI3.out.one.ok.ml
          have hil := HI3.out.one.ok.il
          rw [HF.out.1, HF.out.2.1] at hml
          rw [HF.out.2.1, HF.out.2.2] at hil
          have s1 : (nu : Int) ≤ 64 := by omega
          have s2 : (nv : Int) ≤ 64 := by omega
          have H19 := hide (waitingS HI3.out HF.out.1)
          have H20 : Hid (∀ W l, Its w0 (.gate w0.heap.size g c vw3 S3 :: l) W → _) := hide (fun W l h => insideS h HF.out.2.1)
          go_upto_region 32 with (first
            | (go_at_call 20; refine (H20.out _ _ HI5.out).mono ?_; rintro e W6 ⟨a16, p16, rfl, hg⟩; have HI6 := hide hg; clear hg)
            | (go_at_call 19; refine H19.out.mono ?_; rintro e W5 ⟨a15, p15, rfl, hg⟩; have HI5 := hide hg.swap; clear hg))
          clear H19 H20
          obtain ⟨cv, hcv⟩ : ∃ cv, (N : Int) - (nv : Int) = cv := ⟨_, rfl⟩
          have K21 : Hid (∀ q, Calls Try.prog 21 #[.pointer (some ⟨g, 0, none⟩)] (W6.drewN q) fun e w' => e = .returned (.int .i64 cv) ∧ ∃ m, w' = (W6.drewN q).drewN m) := hide (fun q => by
            have := credits_any (HI6.out.drew q).two
            rw [HF.out.2.1, HF.out.2.2, hcv] at this
            exact this)
          have K22w : Hid (∀ q, Calls Try.prog 22 #[.slice a15 nu p15, .slice au nu pu] (W6.drewN q) fun e w' => e = .returned (.bool true) ∧ ∃ m, w' = (W6.drewN q).drewN m) := hide (fun q => ints_eq a15 au p15 pu nu S3.wt _ HF.out.1 (El.Own.rd (HI6.out.drew q).three) (El.Own.rd (HI6.out.drew q).tail.four) (by omega))
          have K22i : Hid (∀ q, Calls Try.prog 22 #[.slice a16 nv p16, .slice av nv pv] (W6.drewN q) fun e w' => e = .returned (.bool true) ∧ ∃ m, w' = (W6.drewN q).drewN m) := hide (fun q => ints_eq a16 av p16 pv nv S3.ins _ HF.out.2.1 (El.Own.rd (HI6.out.drew q).one) (El.Own.rd (HI6.out.drew q).tail.tail.four) (by omega))
          have w1 : IntKind.i64.wrap ((N : Int) - (nv : Int)) = cv := by rw [← hcv]; simp [IntKind.wrap, IntKind.bits, IntKind.signed]; omega
          have w2 : wrap64 ((N : Int) - (nv : Int)) = cv := by rw [← hcv]; unfold wrap64; omega
          have b1 : (cd != cd) = false := bne_self_eq_false _
          have b2 : (cv != cv) = false := bne_self_eq_false _
          have m1 : W6.cell? ⟨bm, 1, none⟩ = some (.slice au nu pu) := (cells_at HI6.out.four 1).1
          have m2 : W6.cell? ⟨bm, 2, none⟩ = some (.slice av nv pv) := (cells_at HI6.out.four 2).1
          clear HI3 HI5 hml hil
          go_quiet (first
            | (go_at_call 21; exact Calls.quiet_of (K21.out _))
            | (go_at_call_of 22 (Value.slice a15 nu p15); exact Calls.quiet_of (K22w.out _))
            | (go_at_call_of 22 (Value.slice a16 nv p16); exact Calls.quiet_of (K22i.out _)))
          have HIw := hide (HI6.out.drew nq).rot3
          generalize W6.drewN nq = W7 at *
          clear K21 K22w K22i HI6 m1 m2 w1 w2 hcv
          go_wp2_with fail
          obtain ⟨wA, rfl⟩ : ∃ W, W = wr := ⟨_, rfl⟩
          go_loopw [151] (fun v wr => ∃ (k : Nat) (xs : List Int), v = .int .i64 k ∧ k ≤ nu ∧ Hid (xs.length = nu) ∧ Hid (Its w0 (.ints w0.heap.size (.slice a15 nu p15) xs :: .ints w0.heap.size (.slice a16 nv p16) S3.ins :: [.gate w0.heap.size g c vw3 S3, .box bm #[.int .i64 (N : Int), .slice au nu pu, .slice av nv pv] 30, .ints w0.heap.size (.slice au nu pu) S3.wt, .ints w0.heap.size (.slice av nv pv) S3.ins]) wr)) (fun v _ => nu - (intOf v).toNat)
          case atStart => exact ⟨0, _, rfl, Nat.zero_le _, hide HF.out.1, HIw⟩
          case round =>
            obtain ⟨k, xs, rfl, hk, Hl, HX⟩ := hrel
            by_cases hkn : k < nu
            · obtain ⟨y, hy⟩ : ∃ y, xs[k]? = some y := ⟨_, List.getElem?_eq_getElem (by rw [Hl.out]; exact hkn)⟩
              obtain ⟨gb, c3, hv, _, _⟩ := El.Own.some HX.out.one (fun e => by rw [e] at hy; simp at hy)
              simp only [Value.slice.injEq] at hv
              obtain ⟨rfl, hh1, hh2⟩ := hv
              clear hh1 hh2
              obtain ⟨zc, zf⟩ := El.Own.at1 (Value.int .i64) (fun _ => rfl) rfl HX.out.one k y hy
              have j0 : (0 : Int) ≤ (k : Int) := by omega
              have j1 : (k : Int) < (nu : Int) := by omega
              have HS : Hid (∀ z, Its w0 (.ints w0.heap.size (.slice (some ⟨gb, 0, none⟩) nu p15) (xs.set k z) :: .ints w0.heap.size (.slice a16 nv p16) S3.ins :: [.gate w0.heap.size g c vw3 S3, .box bm #[.int .i64 (N : Int), .slice au nu pu, .slice av nv pv] 30, .ints w0.heap.size (.slice au nu pu) S3.wt, .ints w0.heap.size (.slice av nv pv) S3.ins]) (wr.setCell ⟨gb, k, none⟩ (.int .i64 z))) := hide (fun z => HX.out.setI k z)
              clear hy hkn
              go_wp2_with fail
              go_roundw
              case rel => exact ⟨k + 1, xs.set k _, by go_num, by omega, hide (by rw [List.length_set]; exact Hl.out), hide (HS.out _)⟩
              case measure => simp [intOf]; omega
            · have hkk : k = nu := by omega
              have j1 : ¬ (k : Int) < (nu : Int) := by omega
              clear hkk
              have HXt := hide HX.out.tail
              clear HX Hl
              go_wp2_with fail
              obtain ⟨wAA, rfl⟩ : ∃ W, W = wr := ⟨_, rfl⟩
              obtain ⟨kk, rfl⟩ : ∃ kk, kk = k := ⟨_, rfl⟩
              go_loopw [163] (fun v wr => ∃ (k : Nat) (xs : List Int), v = .int .i64 k ∧ k ≤ nv ∧ Hid (xs.length = nv) ∧ Hid (Its w0 (.ints w0.heap.size (.slice a16 nv p16) xs :: [.gate w0.heap.size g c vw3 S3, .box bm #[.int .i64 (N : Int), .slice au nu pu, .slice av nv pv] 30, .ints w0.heap.size (.slice au nu pu) S3.wt, .ints w0.heap.size (.slice av nv pv) S3.ins]) wr)) (fun v _ => nv - (intOf v).toNat)
              case atStart => exact ⟨0, _, rfl, Nat.zero_le _, hide HF.out.2.1, HXt⟩
              case round =>
                obtain ⟨k, xs, rfl, hk, Hl, HX⟩ := hrel
                by_cases hkn : k < nv
                · obtain ⟨y, hy⟩ : ∃ y, xs[k]? = some y := ⟨_, List.getElem?_eq_getElem (by rw [Hl.out]; exact hkn)⟩
                  obtain ⟨gb, c3, hv, _, _⟩ := El.Own.some HX.out.one (fun e => by rw [e] at hy; simp at hy)
                  simp only [Value.slice.injEq] at hv
                  obtain ⟨rfl, hh1, hh2⟩ := hv
                  clear hh1 hh2
                  obtain ⟨zc, zf⟩ := El.Own.at1 (Value.int .i64) (fun _ => rfl) rfl HX.out.one k y hy
                  have j0 : (0 : Int) ≤ (k : Int) := by omega
                  have j1 : (k : Int) < (nv : Int) := by omega
                  have HS : Hid (∀ z, Its w0 (.ints w0.heap.size (.slice (some ⟨gb, 0, none⟩) nv p16) (xs.set k z) :: [.gate w0.heap.size g c vw3 S3, .box bm #[.int .i64 (N : Int), .slice au nu pu, .slice av nv pv] 30, .ints w0.heap.size (.slice au nu pu) S3.wt, .ints w0.heap.size (.slice av nv pv) S3.ins]) (wr.setCell ⟨gb, k, none⟩ (.int .i64 z))) := hide (fun z => HX.out.setI k z)
                  clear hy hkn
                  go_wp2_with fail
                  go_roundw
                  case rel => exact ⟨k + 1, xs.set k _, by go_num, by omega, hide (by rw [List.length_set]; exact Hl.out), hide (HS.out _)⟩
                  case measure => simp [intOf]; omega
                · have hkk : k = nv := by omega
                  have j1 : ¬ (k : Int) < (nv : Int) := by omega
                  clear hkk
                  have HE := hide HX.out.tail
                  go_wp2_with fail
                  go_roundw
                  case rel => exact ⟨i + 1, vw3, S3, au, nu, pu, av, nv, pv, by go_num, by omega, by omega, HF, HE⟩
                  case measure => simp [intOf]; omega
      · have q0 : (i : Int) < (m : Int) := by omega
        have q1 : ¬ (i : Int) < 250 := by omega
        go_wp2_with fail
        go_ret
        exact ⟨rfl, HI.out.bel⟩
    · have q0 : ¬ (i : Int) < (m : Int) := by omega
      go_wp2_with fail
      go_ret
      exact ⟨rfl, HI.out.bel⟩
end Go.Proofs.Ytdnkgfljkdbckaa
