/- GridOut, the walk. -/
import Derived.Test.YtddcjkbdgneklaaGom
import Derived.Test.YtddcjkbdgneklaaGag
import Derived.Test.YtddcjkbdgneklaaGew
import Derived.Deep.CutBlock
namespace Go.Proofs.Ytddcjkbdgneklaa
open Go.RowKit
set_option linter.unusedVariables false

set_option maxRecDepth 100000 in
set_option maxHeartbeats 16000000 in
theorem out_walk (x0 x1 : Int) (a b : Option Addr) (m pm c d : Nat) (ts ps : List Int) (w : World) (hm : ts.length = m) (hv : intE.Rd w (.slice a m c) ts) (hm9 : m ≤ 9223372036854775807) (hp : ps.length = pm) (hu : intE.Rd w (.slice b pm d) ps) :
    Calls Try.prog 7 #[.agg #[.int .i64 x0, .int .i64 x1], .slice a m c, .slice b pm d] w fun e w' => e = .returned (.bool true) ∧ Below w.heap.size w w' := by
  obtain ⟨w0, rfl⟩ : ∃ w0, w0 = w := ⟨_, rfl⟩
  have KA := hide awake_any
  obtain ⟨k0, hk0, hk0'⟩ := few x0 6 (by omega)
  obtain ⟨k1, hk1, hk1'⟩ := few x1 6 (by omega)
  obtain ⟨N, hN⟩ : ∃ N : Nat, (k0 : Int) + 2 = (N : Int) := ⟨k0 + 2, by omega⟩
  obtain ⟨D, hD⟩ : ∃ D : Nat, (k1 : Int) + 1 = (D : Int) := ⟨k1 + 1, by omega⟩
  have hN1 : 2 ≤ N := by omega
  have hN2 : N ≤ 7 := by omega
  have hD1 : 1 ≤ D := by omega
  have hD2 : D ≤ 6 := by omega
  have Hm := hide hm
  have HV := hide hv
  have Hp := hide hp
  have HU := hide hu
  obtain ⟨g3, hg3⟩ : ∃ g, w0.heap.size = g := ⟨_, rfl⟩
  have HC : Hid (∀ W, Below (w0.alloc (.cells #[.int .i64 x0, .int .i64 x1] 64)).heap.size (w0.alloc (.cells #[.int .i64 x0, .int .i64 x1] 64)) W → W.cell? ⟨g3, 0, none⟩ = some (.int .i64 x0) ∧ W.cell? ⟨g3, 1, none⟩ = some (.int .i64 x1) ∧ Below w0.heap.size w0 W) := hide (fun W hb => by
    have hn := heap_new w0 (.cells #[.int .i64 x0, .int .i64 x1] 64)
    have hb0 : Below w0.heap.size w0 (w0.alloc (.cells #[.int .i64 x0, .int .i64 x1] 64)) := (Below.refl _ _).alloc (Nat.le_refl _) _
    rw [← hb.block _ (heap_lt hn), hg3] at hn
    exact ⟨(cells_at hn 0).1, (cells_at hn 1).1, hb0.trans (hb.mono hb0.size)⟩)
  clear hm hv hp hu
  go_enter Try.func7, Try.ntmps7
  go_upto_region 3 with (go_at_call 9; refine (KA.out _).mono ?_; rintro e W1 ⟨rfl, hb1⟩; obtain ⟨z0, z1, hb⟩ := HC.out _ hb1; have HB0 := hide hb; clear hb1 hb)
  clear HC KA
  go_quiet (fail)
  have HB : Hid (Below w0.heap.size w0 (W1.drewN nq)) := hide (HB0.out.trans ((below_drewN W1 nq).mono HB0.out.size))
  generalize W1.drewN nq = W2 at *
  generalize wrap64 ((IntKind.u64.wrap x0).tmod 6) = y1 at *
  generalize (IntKind.u64.wrap x0).tmod 6 = y2 at *
  generalize IntKind.u64.wrap x0 = y3 at *
  generalize wrap64 ((IntKind.u64.wrap x1).tmod 6) = y4 at *
  generalize (IntKind.u64.wrap x1).tmod 6 = y5 at *
  generalize IntKind.u64.wrap x1 = y6 at *
  clear hk0 hk0' hk1 hk1' hN hD hg3 z0 z1 HB0
  obtain ⟨g, hg⟩ : ∃ g, W2.heap.size = g := ⟨_, rfl⟩
  obtain ⟨WM, hrun, hown, hbm, hlt⟩ := made_ints W2 N (by omega)
  rw [hg] at hrun hown hbm hlt
  have HO0 : Hid (intE.Own WM w0.heap.size (.slice (some ⟨g, 0, none⟩) N N) (List.replicate 0 (D : Int) ++ List.replicate (N - 0) 0)) := hide (by
    have := HB.out.size
    exact hown.mono (by omega))
  have HB0 : Hid (Below w0.heap.size w0 WM) := hide (HB.out.trans (hbm.mono (by have := HB.out.size; omega)))
  have Hg : Hid (w0.heap.size ≤ g) := hide (by have := HB.out.size; omega)
  clear hown hbm hlt hg
  have i0 : (N : Int) ≤ 7 := by omega
  have i1 : (0 : Int) ≤ (N : Int) := by omega
  go_wp2_with fail
  go_loopw [43] (fun v43 wr => ∃ k : Nat, v43 = .int .i64 k ∧ k ≤ N ∧ Hid (Below w0.heap.size w0 wr) ∧ Hid (intE.Own wr w0.heap.size (.slice (some ⟨g, 0, none⟩) N N) (List.replicate k (D : Int) ++ List.replicate (N - k) 0))) (fun v43 _ => N - (intOf v43).toNat)
  case atStart => exact ⟨0, rfl, Nat.zero_le _, HB0, HO0⟩
  case round =>
    obtain ⟨k, rfl, hk, HB1, HO1⟩ := hrel
    by_cases hlt : k < N
    · obtain ⟨c1, f1⟩ := HO1.out.at1 (Value.int .i64) (fun _ => rfl) rfl k 0 (rep_at N k D hlt)
      have j0 : (0 : Int) ≤ (k : Int) := by omega
      have j1 : (k : Int) < (N : Int) := by omega
      have HO2 : Hid (intE.Own (wr.setCell ⟨g, k, none⟩ (.int .i64 D)) w0.heap.size (.slice (some ⟨g, 0, none⟩) N N) (List.replicate (k + 1) (D : Int) ++ List.replicate (N - (k + 1)) 0)) := hide (by
        have := El.Own.set (Value.int .i64) (fun _ => rfl) rfl HO1.out k (D : Int)
        rwa [rep_set N k D hlt] at this)
      have HB2 : Hid (Below w0.heap.size w0 (wr.setCell ⟨g, k, none⟩ (.int .i64 D))) := hide (HB1.out.setCell Hg.out _)
      go_wp2_with fail
      go_roundw
      case rel => exact ⟨k + 1, by go_num, by omega, HB2, HO2⟩
      case measure => simp [intOf]; omega
    · obtain rfl : k = N := by omega
      have j1 : ¬ (k : Int) < (k : Int) := by omega
      have HV1 : Hid (intE.Rd wr (.slice (some ⟨g, 0, none⟩) k k) (List.replicate k (D : Int))) := hide (by
        have := HO1.out.rd
        rwa [Nat.sub_self, List.replicate_zero, List.append_nil] at this)
      have hokd : Okd (List.replicate k (D : Int)) := ⟨by rw [List.length_replicate]; omega, fun d hd => by rw [List.eq_of_mem_replicate hd]; omega⟩
      have K10 : Hid (Calls Try.prog 10 #[.slice (some ⟨g, 0, none⟩) k k] wr fun e w' => ∃ r a c gs, e = .returned (.tuple #[.pointer (some ⟨r, 0, none⟩), .int .i64 0]) ∧ RW w0 wr.heap.size r a c gs (mk (List.replicate k (D : Int))) w') := hide ((new_rw (w0 := w0) _ _ _ (List.replicate k (D : Int)) wr HB1.out (by simp) HV1.out).mono (by
        rintro e w' ⟨h1, ⟨h2, _⟩ | ⟨_, h2⟩⟩
        · exact absurd hokd h2
        · exact h2))
      clear hlt hokd hrun
      go_upto_region 13 with (go_at_call 10; refine K10.out.mono ?_; rintro e W3 ⟨r, a2, c2, gs, rfl, hr⟩; have HR := hide hr; clear hr)
      obtain ⟨BB, hBB⟩ : ∃ b, wr.heap.size = b := ⟨_, rfl⟩
      rw [hBB] at HR
      obtain ⟨T, hT⟩ : ∃ T, k * D = T := ⟨_, rfl⟩
      obtain ⟨M, hM⟩ : ∃ M, (k - 1) * D = M := ⟨_, rfl⟩
      have hTM : T = M + D := by
        rw [← hT, ← hM]
        obtain ⟨k', rfl⟩ : ∃ k', k = k' + 1 := ⟨k - 1, by omega⟩
        rw [Nat.add_sub_cancel, Nat.succ_mul]
      have eM : ((k : Int) - 1) * (D : Int) = (M : Int) := by
        rw [← hM]
        have : ((k - 1 : Nat) : Int) = (k : Int) - 1 := by omega
        rw [Int.natCast_mul, this]
      have eT : (k : Int) * (D : Int) = (T : Int) := by rw [← hT, Int.natCast_mul]
      have hT42 : T ≤ 42 := by rw [← hT]; exact Nat.mul_le_mul hN2 hD2
      have HG0 : Hid (GI T M D [] (mk (List.replicate k (D : Int)))) := hide (by rw [← hT]; exact gi_mk)
      generalize mk (List.replicate k (D : Int)) = R0 at *
      clear hBB hT hM HV1 HO1 HB1 HO0 HB0 Hg K10 HB
      have o0 : (T : Int) ≤ 42 := by omega
      have o1 : (M : Int) ≤ 42 := by omega
      go_wp2_with fail
      go_loopw [13, 14] (fun v13 v14 wx => ∃ (i il : Nat) (ins : List Int) (R : Rack) (a3 : Option Addr) (c3 : Nat), v14 = .int .i64 i ∧ i ≤ m ∧ v13 = .slice a3 il c3 ∧ Hid (ins.length = il) ∧ Hid (intE.Own wx w0.heap.size (.slice a3 il c3) ins) ∧ Hid (RW w0 BB r a2 c2 gs R wx) ∧ Hid (GI T M D ins R)) (fun v13 v14 _ => m - (intOf v14).toNat)
      case atStart => exact ⟨0, 0, [], R0, none, 0, rfl, Nat.zero_le _, rfl, hide rfl, hide (El.Own.nil _ _ _), HR, HG0⟩
      case round =>
        obtain ⟨i, il, ins, R, a3, c3, rfl, hi, rfl, Hil, HOi, HRi, HGi⟩ := hrel
        obtain ⟨wx, hwx⟩ : ∃ W, W = wr := ⟨_, rfl⟩
        rw [← hwx] at HOi HRi ⊢
        clear hwx
        have hilM : il ≤ M := by rw [← Hil.out]; exact HGi.out.le
        by_cases h1 : i < m ∧ il < M
        · obtain ⟨h1, h2⟩ := h1
          obtain ⟨x, hx⟩ : ∃ x, ts[i]? = some x := ⟨_, List.getElem?_eq_getElem (by rw [Hm.out]; exact h1)⟩
          obtain ⟨b', off, rfl, z0⟩ := int_at (HV.out.keep HRi.out.bel) i x hx
          obtain ⟨y, hy, hy30⟩ := few x 30 (by omega)
          have q0 : (i : Int) < (m : Int) := by omega
          have q1 : (il : Int) < (M : Int) := by omega
          have q2 : (0 : Int) ≤ (i : Int) := by omega
          have q3 : (y : Int) ≤ 30 := by omega
          have q4 : (i : Int) < 9223372036854775807 := by omega
          have K13 := hide (HRi.out.put ((y : Int) + 1))
          have hg1 := HGi.out.put ((y : Int) + 1)
          generalize putN R ((y : Int) + 1) = pn at *
          rcases hg1 with ⟨h3, h4⟩ | ⟨h3, h4⟩
          · rw [h4] at K13
            generalize putC R ((y : Int) + 1) = pc at *
            have q5 : (pc == 0) = false := beq_eq_false_iff_ne.2 h3
            clear hx h1 h2 hy30 h3 h4
            go_wp2_with (go_at_call 13; refine K13.out.mono ?_; rintro e W4 ⟨rfl, hr, hf⟩; have HR4 := hide hr; have HO4 := hide (own_fr HOi.out hf (by decide)); clear hr hf)
            go_roundw
            case rel => exact ⟨i + 1, il, ins, R, a3, c3, by go_num, by omega, rfl, Hil, HO4, HR4, HGi⟩
            case measure => simp [intOf]; omega
          · rw [h3] at K13
            have HG4 := hide (h4 (by rw [Hil.out]; exact h2))
            generalize putR R ((y : Int) + 1) = R4 at *
            have Hil4 : Hid ((ins ++ [(y : Int) + 1]).length = il + 1) := hide (by rw [List.length_append, Hil.out]; rfl)
            have HLn : Hid (ins.length + [(y : Int) + 1].length ≤ 1000000) := hide (by rw [Hil.out]; simp; omega)
            clear hx h1 h2 hy30 h3 h4
            go_upto_region 20 with (go_at_call 13; refine K13.out.mono ?_; rintro e W4 ⟨rfl, hr, hf⟩; have HR4 := hide hr; have HO4 := hide (own_fr HOi.out hf (by decide)); clear hr hf)
            have HBa : Hid (∀ o, Below W4.heap.size W4 (W4.alloc o)) := hide (fun o => (Below.refl _ _).alloc (Nat.le_refl _) o)
            have HNw : Hid (intE.Rd (W4.alloc (.cells #[.int .i64 ((y : Int) + 1)] 3)) (.slice (some ⟨W4.heap.size, 0, none⟩) 1 1) [(y : Int) + 1]) := hide (int_new _ _ _ rfl)
            have HB5 : Hid (Below w0.heap.size w0 (W4.alloc (.cells #[.int .i64 ((y : Int) + 1)] 3))) := hide ((HR4.out.keep (HBa.out _)).bel)
            have HR5 := hide (HR4.out.keep (HBa.out (.cells #[.int .i64 ((y : Int) + 1)] 3)))
            have HO5 := hide (HO4.out.keep (HBa.out (.cells #[.int .i64 ((y : Int) + 1)] 3)))
            go_wp2_with (at_builtin; refine intE.wp (w0 := w0) HB5.out (by rfl) _ _ rfl _ _ rfl rfl _ [(y : Int) + 1] HO5.out HNw.out HLn.out ?_; intro v' w' ho hg hs hb; obtain ⟨a6, c6, rfl⟩ := ho.rd.form; have HR6 := hide (HR5.out.grow HO5.out (by decide) hg); have HO6 := hide ho; clear ho hg hs hb)
            simp only [List.length_append, List.length_singleton, Hil.out] at HO6 ⊢
            go_roundw
            case rel => exact ⟨i + 1, il + 1, ins ++ [(y : Int) + 1], R4, a6, c6, by go_num, by omega, rfl, Hil4, HO6, HR6, HG4⟩
            case measure => simp [intOf]; omega
        · have h12 : ¬ (i : Int) < (m : Int) ∨ (i : Int) < (m : Int) ∧ ¬ (il : Int) < (M : Int) := by omega
          clear h1 HR HG0
          rcases h12 with q0 | ⟨q0, q1⟩
          all_goals
            go_upto_region 21 with fail
            go_wp2_with fail
            go_loopw [13, 18] (fun v13 v18 wx => ∃ (kq il : Nat) (ins : List Int) (R : Rack) (a3 : Option Addr) (c3 : Nat), v18 = .int .i64 kq ∧ v13 = .slice a3 il c3 ∧ kq + il ≤ 42 ∧ Hid (ins.length = il) ∧ Hid (intE.Own wx w0.heap.size (.slice a3 il c3) ins) ∧ Hid (RW w0 BB r a2 c2 gs R wx) ∧ Hid (GI T M D ins R)) (fun v13 v18 _ => 43 - (intOf v18).toNat)
            case atStart => exact ⟨0, il, ins, R, a3, c3, rfl, rfl, by omega, Hil, HOi, HRi, HGi⟩
            case round =>
              clear Hil HOi HRi HGi hilM q0 hi
              obtain ⟨kq, il, ins, R, a3, c3, rfl, rfl, hkq, Hil, HOi, HRi, HGi⟩ := hrel
              obtain ⟨wx, hwx⟩ : ∃ W, W = wr := ⟨_, rfl⟩
              rw [← hwx] at HOi HRi ⊢
              clear hwx
              by_cases hil0 : il = 0
              · subst hil0
                have K24 := hide HRi.out.room
                have hr := HGi.out.rm
                rw [Hil.out, Nat.add_zero] at hr
                rw [hr] at K24
                have t0 : ¬ (((0 : Nat) : Int)) > 0 := by omega
                have t1 : ((T : Int) == (T : Int)) = true := beq_self_eq_true _
                clear hr
                go_wp2_with (go_at_call 24; refine K24.out.mono ?_; rintro e W4 ⟨rfl, hr, _⟩; have HR4 := hide hr; clear hr)
                go_ret
                exact ⟨rfl, HR4.out.bel⟩
              · have t0 : (il : Int) > 0 := by omega
                have hilp : 0 < il := by omega
                have t9 : (il : Int) ≤ 42 := by omega
                have t8 : (kq : Int) ≤ 42 := by omega
                obtain ⟨gb, c3', e3, hcap, hmx⟩ := HOi.out.some (fun e => by rw [e] at Hil; exact hil0 Hil.out.symm)
                simp only [Value.slice.injEq] at e3
                obtain ⟨rfl, e3b, rfl⟩ := e3
                clear e3b
                rw [Hil.out] at hcap
                go_upto_if 104 with fail
                go_cut [19] (fun v19 wy => ∃ j : Nat, v19 = .int .i64 j ∧ j < il ∧ wy = wx)
                case first =>
                  by_cases hpm : 0 < pm
                  · have t1 : (pm : Int) > 0 := by omega
                    obtain ⟨e, he⟩ : ∃ e : Nat, (kq : Int).tmod (pm : Int) = (e : Int) := ⟨kq % pm, by rw [Int.ofNat_tmod]⟩
                    have hepm : e < pm := by
                      have : (kq : Int).tmod (pm : Int) < (pm : Int) := Int.tmod_lt_of_pos _ t1
                      omega
                    obtain ⟨z, hz⟩ : ∃ z, ps[e]? = some z := ⟨_, List.getElem?_eq_getElem (by rw [Hp.out]; exact hepm)⟩
                    obtain ⟨bp, offp, rfl, z1⟩ := int_at (HU.out.keep HRi.out.bel) e z hz
                    obtain ⟨j, hj, hjl⟩ := few z il (by omega)
                    have t2 : (0 : Int) ≤ (e : Int) := by omega
                    have t3 : (e : Int) < (pm : Int) := by omega
                    have t4 : IntKind.u64.wrap (il : Int) = (il : Int) := by simp [IntKind.wrap, IntKind.bits, IntKind.signed]; omega
                    have t5 : ((pm : Int) == 0) = false := beq_eq_false_iff_ne.2 (by omega)
                    have t6 : ((il : Int) == 0) = false := beq_eq_false_iff_ne.2 (by omega)
                    have t7 : ¬ (pm : Int) = 0 := by omega
                    have t10 : ¬ (il : Int) = 0 := by omega
                    have t11 : ¬ pm = 0 := by omega
                    clear hz
                    go_wp2_with fail
                    go_meet
                    exact ⟨j, by first | rfl | rw [hj], by omega, rfl⟩
                  · have t1 : ¬ (pm : Int) > 0 := by omega
                    go_wp2_with fail
                    go_meet
                    exact ⟨0, rfl, by omega, rfl⟩
                case rest =>
                  obtain ⟨j, rfl, hj, hwc⟩ := hcut
                  subst hwc
                  obtain ⟨x, hx⟩ : ∃ x, ins[j]? = some x := ⟨_, List.getElem?_eq_getElem (by rw [Hil.out]; exact hj)⟩
                  obtain ⟨z0, _⟩ := HOi.out.at1 (Value.int .i64) (fun _ => rfl) rfl j x hx
                  have t1 : (0 : Int) ≤ (j : Int) := by omega
                  have t2 : (j : Int) < (il : Int) := by omega
                  have t3 : (j : Int) ≤ (c3 : Int) := by omega
                  have t4 : (j : Int) + 1 ≤ (il : Int) := by omega
                  have t5 : (il : Int) ≤ (c3 : Int) := by omega
                  have t6 : IntKind.i64.wrap ((j : Int) + 1) = (j : Int) + 1 := by simp [IntKind.wrap, IntKind.bits, IntKind.signed]; omega
                  have t7 : (0 : Int) ≤ (j : Int) + 1 := by omega
                  obtain ⟨pv, hpv⟩ : ∃ pv : Option Addr, (if c3 = j + 1 then some ⟨gb, 0, none⟩ else some ⟨gb, j + 1, none⟩) = pv := ⟨_, rfl⟩
                  have HRd1 : Hid (∀ W, intE.Own W w0.heap.size (.slice (some ⟨gb, 0, none⟩) il c3) ins → intE.Rd W (.slice (some ⟨gb, 0, none⟩) j c3) (ins.take j) ∧ intE.Rd W (.slice pv (il - (j + 1)) (c3 - (j + 1))) (ins.drop (j + 1))) := hide (fun W ho => by
                    refine ⟨ho.rd.take j (by rw [Hil.out]; omega), ?_⟩
                    by_cases e : c3 = j + 1
                    · rw [if_pos e] at hpv
                      subst hpv
                      have e2 : ins.drop (j + 1) = [] := List.drop_eq_nil_of_le (by rw [Hil.out]; omega)
                      rw [e2]
                      exact .inr ⟨_, _, by rw [show il - (j + 1) = ([] : List Int).length by simp; omega], fun q hq => by simp at hq⟩
                    · rw [if_neg e] at hpv
                      subst hpv
                      have := El.Rd.drop (cap' := c3 - (j + 1)) ho.rd (j + 1) (il - (j + 1)) (by rw [Hil.out]) (by rw [Hil.out]; omega)
                      simpa [intE] using this)
                  go_upto_region 28 with fail
                  have HBn : Hid (Below wc.heap.size wc (wc.alloc (.cells #[] 3)).drew) := hide ((Below.refl _ _).alloc (Nat.le_refl _) _).drew
                  have HRn := hide (HRi.out.keep HBn.out)
                  have HOn : Hid (intE.Own (wc.alloc (.cells #[] 3)).drew w0.heap.size (.slice (some ⟨wc.heap.size, 0, none⟩) 0 0) []) := hide (El.Own.keep (El.Own.new intE wc w0.heap.size HRi.out.bel.size _ [] rfl (by simp) _ _ _ rfl rfl rfl) (Below.refl _ _).drew)
                  have HOm := hide (HOi.out.keep HBn.out)
                  have HKp : Hid (∀ W', (wc.alloc (.cells #[] 3)).drew.grownBy W' (some wc.heap.size) → intE.Own W' w0.heap.size (.slice (some ⟨gb, 0, none⟩) il c3) ins) := hide (fun W' hg => own_stay HOm.out fun q hq hlt => hg.block q hlt fun e => by
                    have h1 := HOi.out.lt q hq
                    cases e
                    omega)
                  have HLn1 : Hid (([] : List Int).length + (ins.take j).length ≤ 1000000) := hide (by simp; rw [Hil.out]; omega)
                  have HLn2 : Hid (([] ++ ins.take j).length + (ins.drop (j + 1)).length ≤ 1000000) := hide (by simp; rw [Hil.out]; omega)
                  have HLn3 : Hid (([] ++ ins.take j ++ ins.drop (j + 1)).length = il - 1) := hide (by simp; rw [Hil.out]; omega)
                  refine wp_region_held_drew (S := fun _ => True) (by kernel_rfl) trivial (fun hS0 => ?_)
                  refine wpAnyH_take (i := 1) (v := .slice (some ⟨gb, 0, none⟩) il c3) rfl (by kernel_rfl) (by kernel_rfl) (by kernel_rfl) (fun _ _ _ h => h) (Or.inl ⟨by rfl, fun W' hW => by go_simp⟩) trivial ?_
                  refine wpAnyH_take (i := 2) (v := .int .i64 j) rfl (by kernel_rfl) (by kernel_rfl) (by kernel_rfl) (fun _ _ _ h => h) (Or.inl ⟨by rfl, fun W' hW => by go_simp⟩) trivial ?_
                  refine wpAnyH_take (i := 3) (v := .slice (some ⟨gb, 0, none⟩) j c3) rfl (by kernel_rfl) (by kernel_rfl) (by kernel_rfl) (fun _ _ _ h => h) (Or.inl ⟨by rfl, fun W' hW => by go_simp⟩) trivial ?_
                  refine wpAnyH_take (i := 5) (v := .slice (some ⟨gb, 0, none⟩) il c3) rfl (by kernel_rfl) (by kernel_rfl) (by kernel_rfl) (fun _ _ _ h => h) (Or.inl ⟨by rfl, fun W' hW => by go_simp⟩) trivial ?_
                  refine wpAnyH_take (i := 6) (v := .int .i64 j) rfl (by kernel_rfl) (by kernel_rfl) (by kernel_rfl) (fun _ _ _ h => h) (Or.inl ⟨by rfl, fun W' hW => by go_simp⟩) trivial ?_
                  refine wpAnyH_take (i := 7) (v := .int .i64 ((j : Int) + 1)) rfl (by kernel_rfl) (by kernel_rfl) (by kernel_rfl) (fun _ _ _ h => h) (Or.inl ⟨by rfl, fun W' hW => by go_simp⟩) trivial ?_
                  refine wpAnyH_take (i := 8) (v := .slice pv (il - (j + 1)) (c3 - (j + 1))) rfl (by kernel_rfl) (by kernel_rfl) (by kernel_rfl) (fun _ _ _ h => h) (Or.inl ⟨by rfl, fun W' hW => by go_simp⟩) trivial ?_
                  refine wpAnyH_ready (rs := [0]) (by kernel_rfl) (by simp) ?_
                  refine AllReadyH.cons rfl (fun K hK => ?_) AllReadyH.nil
                  go_simp
                  refine hK.out _ _ trivial (fun _ => ?_)
                  clear hK K
                  refine wpAnyH_ready (rs := [4]) (by kernel_rfl) (by simp) ?_
                  refine AllReadyH.cons rfl (fun K hK => ?_) AllReadyH.nil
                  refine intE.step (w0 := w0) HRn.out.bel rfl _ _ rfl _ _ rfl rfl [] (ins.take j) HOn.out (HRd1.out _ HOm.out).1 HLn1.out ?_
                  intro v4 W4 ho4 hg4 hs4 hb4
                  have HR4 := hide (HRn.out.grow HOn.out (by decide) hg4)
                  have HOs := hide (HKp.out _ hg4)
                  have HO4 := hide ho4
                  refine hK.out _ _ trivial (fun _ => ?_)
                  clear hK K ho4 hg4 hs4 hb4
                  refine wpAnyH_ready (rs := [9]) (by kernel_rfl) (by simp) ?_
                  refine AllReadyH.cons rfl (fun K hK => ?_) AllReadyH.nil
                  refine intE.step (w0 := w0) HR4.out.bel rfl _ _ rfl _ _ rfl rfl ([] ++ ins.take j) (ins.drop (j + 1)) HO4.out (HRd1.out _ HOs.out).2 HLn2.out ?_
                  intro v5 W5 ho5 hg5 hs5 hb5
                  have HR5 := hide (HR4.out.grow HO4.out (by decide) hg5)
                  obtain ⟨a5, c5, e5⟩ := ho5.rd.form
                  rw [HLn3.out] at e5
                  subst e5
                  have HO5 : Hid (intE.Own W5 w0.heap.size (.slice a5 (il - 1) c5) (ins.take j ++ ins.drop (j + 1))) := hide ho5
                  refine hK.out _ _ trivial (fun _ => ?_)
                  clear hK K ho5 hg5 hs5 hb5
                  refine wpAnyH_ready (rs := [10]) (by kernel_rfl) (by simp) ?_
                  refine AllReadyH.cons rfl (fun K hK => ?_) AllReadyH.nil
                  go_simp
                  refine hK.out _ _ trivial (fun _ => ?_)
                  clear hK K
                  refine wpAnyH_done (by kernel_rfl) ?_ _
                  clear HO4 HOs HRn HOn HOm HKp HR4 hpv HRd1
                  obtain ⟨ip, hwh, hpc, hml⟩ := HGi.out.plan hTM HRi.out.wf HRi.out.fit (List.mem_of_getElem? hx)
                  have HPst := hide (pst_start HRi.out.fit hwh hpc)
                  have HGo : Hid (∀ R', Pst R x ip R' [] → GI T M D (ins.take j ++ ins.drop (j + 1)) R') := hide (fun R' h => HGi.out.out hx h)
                  have K15 := hide (HR5.out.plan x)
                  rw [hpc] at K15
                  obtain ⟨ms, hms⟩ : ∃ ms, planM R x = ms := ⟨_, rfl⟩
                  rw [hms] at K15 hml HPst
                  obtain ⟨mn, hmn⟩ : ∃ mn, ms.length = mn := ⟨_, rfl⟩
                  rw [hmn] at K15 hml
                  have Hmn := hide hmn
                  have HIn : Hid (¬ On R x → False) := hide (fun h => h ((HGi.out.on x).1 (List.mem_of_getElem? hx)))
                  clear hwh hpc hms hmn z0 hx
                  go_upto_region 32 with (go_at_call 15; refine K15.out.mono ?_; rintro e W6 ⟨a6, c6, rfl, ho, hr, hb⟩; have HM6 := hide (ho.mono HR5.out.bel.size); have HR6 := hide hr; have HO6 := hide (HO5.out.keep hb); clear ho hr hb)
                  clear K15 HR5 HO5 HOi HRi
                  go_wp2_with fail
                  go_loopw [142] (fun v142 wr => ∃ (k2 : Nat) (R2 : Rack), v142 = .int .i64 k2 ∧ k2 ≤ mn ∧ Hid (RW w0 BB r a2 c2 gs R2 wr) ∧ Hid (Pst R x ip R2 (ms.drop k2)) ∧ Hid (intE.Own wr w0.heap.size (.slice a5 (il - 1) c5) (ins.take j ++ ins.drop (j + 1))) ∧ Hid (mvE.Own wr w0.heap.size (.slice a6 mn c6) ms)) (fun v142 _ => mn - (intOf v142).toNat)
                  case atStart => exact ⟨0, R, rfl, Nat.zero_le _, HR6, hide (by rw [List.drop_zero]; exact HPst.out), HO6, HM6⟩
                  case round =>
                    obtain ⟨k2, R2, rfl, hk2, HR2, HP2, HO2, HM2⟩ := hrel
                    by_cases hlt : k2 < mn
                    · obtain ⟨mv, hmv⟩ : ∃ mv, ms[k2]? = some mv := ⟨_, List.getElem?_eq_getElem (by rw [Hmn.out]; exact hlt)⟩
                      have hdr : ms.drop k2 = mv :: ms.drop (k2 + 1) := by
                        rw [List.drop_eq_getElem_cons (idx_lt hmv)]
                        rw [List.getElem?_eq_getElem (idx_lt hmv)] at hmv
                        rw [Option.some.inj hmv]
                      have hP := HP2.out
                      rw [hdr] at hP
                      obtain ⟨hc, hP3⟩ := hP.step HR2.out.wf
                      obtain ⟨b4, off4, rfl, z0, z1, z2⟩ := mv_at HM2.out.rd k2 mv hmv
                      obtain ⟨mt, mf, mo⟩ := mv
                      simp only at z0 z1 z2
                      have u1 : (0 : Int) ≤ (k2 : Int) := by omega
                      have u2 : (k2 : Int) < (mn : Int) := by omega
                      have u3 : (k2 : Int) ≤ 8 := by omega
                      have HP3 := hide hP3
                      have HBa : Hid (∀ o, Below wr.heap.size wr (wr.alloc o)) := hide (fun o => (Below.refl _ _).alloc (Nat.le_refl _) o)
                      have K18 : Hid (∀ o, Calls Try.prog 18 #[.pointer (some ⟨r, 0, none⟩), .agg #[.int .i64 mt, .int .i64 mf, .int .i64 mo]] (wr.alloc o) fun e w' => e = .returned (.int .i64 0) ∧ RW w0 BB r a2 c2 gs (doR R2 ⟨mt, mf, mo⟩) w' ∧ intE.Own w' w0.heap.size (.slice a5 (il - 1) c5) (ins.take j ++ ins.drop (j + 1)) ∧ mvE.Own w' w0.heap.size (.slice (some ⟨b4, off4, none⟩) mn c6) ms) := hide (fun o => ((HR2.out.keep (HBa.out o)).do mt mf mo).mono (by
                        rintro e w' ⟨rfl, h1, h2⟩
                        exact ⟨by rw [hc], h1, own_fr (HO2.out.keep (HBa.out o)) h2 (by decide), own_fr (HM2.out.keep (HBa.out o)) h2 (by decide)⟩))
                      generalize doR R2 ⟨mt, mf, mo⟩ = R3 at *
                      clear hmv hdr hP hc hP3
                      go_wp2_with (go_at_call 18; refine (K18.out _).mono ?_; rintro e W9 ⟨rfl, h1, h2, h3⟩; have HR9 := hide h1; have HO9 := hide h2; have HM9 := hide h3; clear h1 h2 h3)
                      go_roundw
                      case rel => exact ⟨k2 + 1, R3, by go_num, by omega, HR9, HP3, HO9, HM9⟩
                      case measure => simp [intOf]; omega
                    · obtain rfl : k2 = mn := by omega
                      have u1 : ¬ (k2 : Int) < (k2 : Int) := by omega
                      have hP := HP2.out
                      rw [← Hmn.out, List.drop_length] at hP
                      have HG9 := hide (HGo.out R2 hP)
                      have K22 := hide (HR2.out.whr x)
                      have hon : ¬ On R2 x := by
                        obtain ⟨_, ⟨h, _⟩ | ⟨_, h, _⟩⟩ := hP
                        · exact absurd rfl h
                        · exact fun h' => ((h x).1 h').2 rfl
                      have hw1 : whr R2 x = -1 := by
                        rcases whr_on R2 x with ⟨h, _⟩ | ⟨_, _, h⟩
                        · exact h
                        · exact absurd h hon
                      rw [hw1] at K22
                      have Hil9 : Hid ((ins.take j ++ ins.drop (j + 1)).length = il - 1) := hide (by simp; rw [Hil.out]; omega)
                      clear hP hon hw1 hlt
                      go_wp2_with (go_at_call 22; refine K22.out.mono ?_; rintro e W9 ⟨rfl, hr, hb⟩; have HR9 := hide hr; have HO9 := hide (HO2.out.keep hb); clear hr hb)
                      go_roundw
                      case rel => exact ⟨kq + 1, il - 1, ins.take j ++ ins.drop (j + 1), R2, a5, c5, by go_num, rfl, by omega, Hil9, HO9, HR9, HG9⟩
                      case measure => simp [intOf]; omega
end Go.Proofs.Ytddcjkbdgneklaa
