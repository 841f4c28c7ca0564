/- GridPlays, the walk. -/
import Derived.Test.YtddcjkbdgneklaaGys
import Derived.Deep.CutBlock
namespace Go.Proofs.Ytddcjkbdgneklaa
open Go.RowKit
set_option linter.unusedVariables false

set_option maxRecDepth 100000 in
set_option maxHeartbeats 16000000 in
theorem plays_walk (a b : Option Addr) (n m c d : Nat) (ds : List Int) (os : List Op) (w : World) (hn : ds.length = n) (hv : intE.Rd w (.slice a n c) ds) (h8 : n * 8 ≤ 140737488351232) (hm : os.length = m) (hu : Ops w (.slice b m d) os) :
    Calls Try.prog 3 #[.slice a n c, .slice b m d] w fun e w' => e = .returned (.bool true) ∧ Below w.heap.size w w' := by
  obtain ⟨w0, rfl⟩ : ∃ w0, w0 = w := ⟨_, rfl⟩
  have KA := hide awake_any
  have Hn := hide hn
  have HV := hide hv
  have Hm := hide hm
  have HU := hide hu
  have hn17 : n ≤ 17592186043904 := by omega
  have i0 : (n : Int) ≤ 17592186043904 := by omega
  have HL1 : Hid (([] : List Int).length + ds.length ≤ maxLen) := hide (by rw [hn]; unfold maxLen; simp; omega)
  have HL2 : Hid ((([] : List Int).length + ds.length) * intE.by' ≤ 140737488355328) := hide (by rw [hn]; show (0 + n) * 8 ≤ _; omega)
  have K10 : Hid (∀ (W : World) (a5 : Option Addr) (c5 : Nat), Below w0.heap.size w0 W → intE.Rd W (.slice a5 n c5) ds → _) := hide (fun W a5 c5 hb hr => new_rw (w0 := w0) a5 n c5 ds W hb hn hr)
  have K11 : Hid (∀ W : World, Below w0.heap.size w0 W → Calls Try.prog 11 #[.slice a n c] W (NewD W.heap.size W ds)) := hide (fun W hb => rnew_any a n c ds W hn (hv.keep hb))
  have K12 : Hid (∀ (W : World) (a5 : Option Addr) (c5 : Nat), Below w0.heap.size w0 W → intE.Rd W (.slice a5 n c5) ds → Calls Try.prog 12 #[.slice a5 n c5, .slice a n c] W fun e w' => e = .returned (.bool true) ∧ ∃ q, w' = W.drewN q) := hide (fun W a5 c5 hb hr => ints_same a5 a c5 c n ds W hn hr (hv.keep hb) (by omega))
  have Hba : Hid (∀ (V : World) (o : Obj), Below V.heap.size V (V.alloc o)) := hide (fun V o => (Below.refl _ _).alloc (Nat.le_refl _) o)
  by_cases hk : Okd ds
  · have K10' : Hid (∀ (W : World) (a5 : Option Addr) (c5 : Nat), Below w0.heap.size w0 W → intE.Rd W (.slice a5 n c5) ds → Calls Try.prog 10 #[.slice a5 n c5] W fun e w' => ∃ r a1 c1 gs, e = .returned (.tuple #[.pointer (some ⟨r, 0, none⟩), .int .i64 0]) ∧ RW w0 W.heap.size r a1 c1 gs (mk ds) w' ∧ Below W.heap.size W w') := hide (fun W a5 c5 hb hr => (K10.out W a5 c5 hb hr).mono (by
      rintro e w' ⟨h1, ⟨h2, _⟩ | ⟨_, r, a1, c1, gs, h2, h3⟩⟩
      · exact absurd hk h2
      · exact ⟨r, a1, c1, gs, h2, h3, h1⟩))
    have K11' : Hid (∀ W : World, Below w0.heap.size w0 W → Calls Try.prog 11 #[.slice a n c] W fun e w' => ∃ a' c', e = .returned (.tuple #[.agg #[.slice a' n c'], .int .i64 0]) ∧ lnE.Own w' w0.heap.size (.slice a' n c') (mkE ds) ∧ Below W.heap.size W w') := hide (fun W hb => (K11.out W hb).mono (by
      rintro e w' ⟨h1, ⟨h2, _⟩ | ⟨_, a', c', h2, h3⟩⟩
      · exact absurd hk h2
      · rw [hn] at h2 h3
        exact ⟨a', c', h2, h3.mono hb.size, h1⟩))
    have HK := hide hk
    clear hk hn hv hm hu K10 K11 h8
    go_enter Try.func3, Try.ntmps3
    go_upto_region 3 with (go_at_call 9; refine (KA.out _).mono ?_; rintro e W1 ⟨rfl, hb1⟩; have HB1 := hide hb1; clear hb1)
    have HBe : Hid (Below w0.heap.size w0 (W1.alloc (.cells #[] 3))) := hide (HB1.out.trans ((Hba.out W1 (.cells #[] 3)).mono HB1.out.size))
    have HOe : Hid (intE.Own (W1.alloc (.cells #[] 3)) w0.heap.size (.slice (some ⟨W1.heap.size, 0, none⟩) 0 0) []) := hide (El.Own.new intE W1 w0.heap.size HB1.out.size #[] [] rfl (by simp) _ _ _ rfl rfl rfl)
    have HRe : Hid (intE.Rd (W1.alloc (.cells #[] 3)) (.slice a n c) ds) := hide (HV.out.keep HBe.out)
    go_upto_region 4 with (at_builtin; refine intE.wp2 (B := w0.heap.size) HBe.out.size (by rfl) _ _ rfl _ _ rfl rfl [] ds HOe.out HRe.out HL1.out HL2.out ?_; intro v5 W3 ho hg hs; have HB3 := hide (HBe.out.grown hg HBe.out.size (fun k hk => HOe.out.ge k hk)); have ho2 : intE.Own W3 w0.heap.size v5 ds := ho; obtain ⟨a5, c5, e5⟩ := ho2.rd.form; rw [Hn.out] at e5; subst e5; have HO3 := hide ho2; clear ho ho2 hg hs)
    clear HBe HOe HRe HB1
    go_upto_region 5 with (go_at_call 10; refine (K10'.out _ _ _ HB3.out HO3.out.rd).mono ?_; rintro e W4 ⟨r, a1, c1, gs, rfl, hr, hb⟩; have HR4 := hide hr; have HO4 := hide (HO3.out.keep hb); clear hb hr)
    obtain ⟨BB, hBB⟩ : ∃ bb, W3.heap.size = bb := ⟨_, rfl⟩
    rw [hBB] at HR4
    clear hBB
    go_upto_region 6 with (go_at_call 11; refine (K11'.out _ HR4.out.bel).mono ?_; rintro e W5 ⟨a2, c2, rfl, hd, hb⟩; have HR5 := hide ((HR4.out.keep hb).keep (Hba.out W5 (.cells #[.slice a2 n c2] 31))); have HO5 := hide ((HO4.out.keep hb).keep (Hba.out W5 (.cells #[.slice a2 n c2] 31))); have HD5 := hide (hd.keep (Hba.out W5 (.cells #[.slice a2 n c2] 31))); have HX5 := hide (heap_new W5 (.cells #[.slice a2 n c2] 31)); have Hg8 : Hid (w0.heap.size ≤ W5.heap.size) := hide (Nat.le_trans HR4.out.bel.size hb.size); clear hb hd)
    generalize W5.alloc (.cells #[.slice a2 n c2] 31) = W6 at *
    generalize W5.heap.size = g8 at *
    go_upto_region 8 with (go_at_call 12; refine (K12.out _ _ _ HR5.out.bel HO5.out.rd).mono ?_; rintro e W7 ⟨rfl, q7, rfl⟩)
    have HO6 := hide (HO5.out.keep (below_drewN W6 q7))
    have HZ6 : Hid ((fun V : World => RW w0 BB r a1 c1 gs (mk ds) V ∧ lnE.Own V w0.heap.size (.slice a2 n c2) (mkE ds) ∧ V.heap[g8]? = some (.cells #[.slice a2 n c2] 31) ∧ w0.heap.size ≤ g8) (W6.drewN q7)) := hide ⟨HR5.out.keep (below_drewN W6 q7), HD5.out.keep (below_drewN W6 q7), ((below_drewN W6 q7).block _ (heap_lt HX5.out)).trans HX5.out, Hg8.out⟩
    have HZset : Hid (∀ (W : World) (g5 k n5 c5 : Nat) (xs : List Int), (fun V : World => RW w0 BB r a1 c1 gs (mk ds) V ∧ lnE.Own V w0.heap.size (.slice a2 n c2) (mkE ds) ∧ V.heap[g8]? = some (.cells #[.slice a2 n c2] 31) ∧ w0.heap.size ≤ g8) W → intE.Own W w0.heap.size (.slice (some ⟨g5, 0, none⟩) n5 c5) xs → (fun V : World => RW w0 BB r a1 c1 gs (mk ds) V ∧ lnE.Own V w0.heap.size (.slice a2 n c2) (mkE ds) ∧ V.heap[g8]? = some (.cells #[.slice a2 n c2] 31) ∧ w0.heap.size ≤ g8) (W.setCell ⟨g5, k, none⟩ (.int .i64 1))) := hide (fun W g5 k n5 c5 xs z ho => by
      obtain ⟨cur, hc⟩ := own_type ho g5 rfl
      have hc : W.heap[g5]? = some (.cells cur 3) := hc
      refine ⟨z.1.cell hc (by decide) (ho.ge g5 rfl), own_set_other z.2.1 (zown_ne z.2.1 hc (by decide)), ?_, z.2.2.2⟩
      rw [Below.heap_setCell _ _ _ _ (fun e => by
        have h1 := z.2.2.1
        rw [show g8 = g5 from e, hc] at h1
        simp at h1)]
      exact z.2.2.1)
    generalize W6.drewN q7 = W7 at *
    clear HR4 HR5 HO5 HD5 HX5 Hg8 HO4 HO3 HB3
    go_wp2_with fail
    go_loopw [53] (fun v53 wr => ∃ (k : Nat) (xs : List Int), v53 = .int .i64 k ∧ k ≤ n ∧ Hid (xs.length = n) ∧ Hid (intE.Own wr w0.heap.size (.slice a5 n c5) xs) ∧ Hid ((fun V : World => RW w0 BB r a1 c1 gs (mk ds) V ∧ lnE.Own V w0.heap.size (.slice a2 n c2) (mkE ds) ∧ V.heap[g8]? = some (.cells #[.slice a2 n c2] 31) ∧ w0.heap.size ≤ g8) wr)) (fun v53 _ => n - (intOf v53).toNat)
    case atStart => exact ⟨0, ds, rfl, Nat.zero_le _, Hn, HO6, HZ6⟩
    case round =>
      obtain ⟨k, xs, rfl, hk, Hxl, HOx, HZx⟩ := hrel
      by_cases hlt : k < n
      · obtain ⟨g5, c5', e5, _⟩ := HOx.out.some (fun e => by have := Hxl.out; rw [e] at this; simp at this; omega)
        rw [Hxl.out] at e5
        simp only [Value.slice.injEq] at e5
        obtain ⟨rfl, e5b, rfl⟩ := e5
        clear e5b
        obtain ⟨z, hz⟩ : ∃ z, xs[k]? = some z := ⟨_, List.getElem?_eq_getElem (by rw [Hxl.out]; exact hlt)⟩
        obtain ⟨y0, y1⟩ := HOx.out.at1 (Value.int .i64) (fun _ => rfl) rfl k z hz
        have HOs := hide (El.Own.set (Value.int .i64) (fun _ => rfl) rfl HOx.out k 1)
        have HZs := hide (HZset.out wr g5 k n c5 xs HZx.out HOx.out)
        have Hxs : Hid ((xs.set k 1).length = n) := hide (by rw [List.length_set]; exact Hxl.out)
        have q0 : (0 : Int) ≤ (k : Int) := by omega
        have q1 : (k : Int) < (n : Int) := by omega
        clear hz
        go_wp2_with fail
        go_roundw
        case rel => exact ⟨k + 1, xs.set k 1, by go_num, by omega, Hxs, HOs, HZs⟩
        case measure => simp [intOf]; omega
      · obtain rfl : k = n := by omega
        have q1 : ¬ (k : Int) < (k : Int) := by omega
        clear hlt
        have HP0 : Hid (LP w0 BB r a1 c1 gs (mk ds) (mk ds) k g8 a2 c2 (mkE ds) wr) := hide ⟨HZx.out.1, by have hx := Hn.out; subst hx; exact dr_mk HK.out HZx.out.2.1, HZx.out.2.2.1, HZx.out.2.2.2⟩
        clear HZx HOx HZset HZ6 HO6
        go_upto_region 13 with fail
        generalize mk ds = R0 at *
        generalize mkE ds = es0 at *
        go_wp2_with fail
        go_loopw [11] (fun v11 wx => ∃ (i : Nat) (R : Rack) (a2 : Option Addr) (c2 : Nat) (es : List LnV), v11 = .int .i64 i ∧ i ≤ 100 ∧ Hid (LP w0 BB r a1 c1 gs R R k g8 a2 c2 es wx)) (fun v11 _ => 100 - (intOf v11).toNat)
        case atStart => exact ⟨0, R0, a2, c2, es0, rfl, by omega, HP0⟩
        case round =>
          clear HP0
          obtain ⟨i, R, a3, c3, es3, rfl, hi, HP⟩ := hrel
          obtain ⟨wx, hwx⟩ : ∃ W, W = wr := ⟨_, rfl⟩
          rw [← hwx] at HP ⊢
          clear hwx
          by_cases h1 : i < m
          · by_cases h2 : i < 100
            · obtain ⟨⟨kd, tt, ff, oo⟩, ho⟩ : ∃ o, os[i]? = some o := ⟨_, List.getElem?_eq_getElem (by rw [Hm.out]; exact h1)⟩
              obtain ⟨b9, off9, eb9, z0, z1, z2, z3⟩ := (HU.out.keep HP.out.rw'.bel).at i _ ho
              subst eb9
              simp only at z0 z1 z2 z3
              have q2 : (i : Int) < (m : Int) := by omega
              have q3 : (i : Int) < 100 := by omega
              have q4 : (0 : Int) ≤ (i : Int) := by omega
              have HP4 := hide (HP.out.keep (Hba.out wx (.cells #[.int .i64 kd, .int .i64 tt, .int .i64 ff, .int .i64 oo] 36)))
              have HB4 := hide (heap_new wx (.cells #[.int .i64 kd, .int .i64 tt, .int .i64 ff, .int .i64 oo] 36))
              have hwf := HP.out.rw'.wf
              have hps := plan_short HP.out.dr.bd tt
              clear ho h1 h2
              go_upto_region 17 with fail
              generalize wx.alloc (.cells #[.int .i64 kd, .int .i64 tt, .int .i64 ff, .int .i64 oo] 36) = W4 at *
              generalize wx.heap.size = g12 at *
              clear z0 z1 z2 z3
              have y0 : W4.cell? ⟨g12, 0, none⟩ = some (.int .i64 kd) := (cells_at HB4.out 0).1
              have y1 : W4.cell? ⟨g12, 1, none⟩ = some (.int .i64 tt) := (cells_at HB4.out 1).1
              have y2 : W4.cell? ⟨g12, 2, none⟩ = some (.int .i64 ff) := (cells_at HB4.out 2).1
              have y3 : W4.cell? ⟨g12, 3, none⟩ = some (.int .i64 oo) := (cells_at HB4.out 3).1
              by_cases k1 : kd = 1
              · subst k1
                have K13 := hide (HP4.out.put tt)
                have K14 : Hid (∀ W, LP w0 BB r a1 c1 gs (putR R tt) R k g8 a3 c3 es3 W → _) := hide (fun W p => LP.rput p tt)
                generalize putR R tt = R5 at *
                generalize putN R tt = pn at *
                generalize putC R tt = pc at *
                have q5 : (pn != pn) = false := bne_self_eq_false _
                have q6 : (pc != pc) = false := bne_self_eq_false _
                go_upto_region 22 with (go_at_call 13; refine K13.out.mono ?_; rintro e W5 ⟨rfl, hp, hf⟩; have HP5 := hide hp; have HB5 := hide (hf.other HB4.out (by decide)); clear hp hf)
                clear y0 y1 y2 y3
                have y1 : W5.cell? ⟨g12, 1, none⟩ = some (.int .i64 tt) := (cells_at HB5.out 1).1
                obtain ⟨x0, _⟩ := HP5.out.cell
                have K14' := hide (K14.out W5 HP5.out)
                go_upto_region 24 with (go_at_call 14; refine K14'.out.mono ?_; rintro e W6 ⟨a6, c6, es6, rfl, hd, hp, _⟩; have HP6 := hide hp; have HD6 := hide hd; clear hd hp; obtain ⟨u0, u1⟩ := HP6.out.cell)
                have HPz := hide (HP6.out.set HD6.out)
                clear x0 y1 u0 u1
                generalize W6.setCell ⟨g8, 0, none⟩ (.slice a6 k c6) = W7 at *
                go_upto_region 33 with fail
                have xx := HPz.out.cell
                have K20 := hide HPz.out.tells
                go_wp2_with (go_at_call 20; refine K20.out.mono ?_; rintro e Wy ⟨rfl, hp⟩; have HPy := hide hp; clear hp)
                go_roundw
                case rel => exact ⟨i + 1, R5, a6, c6, es6, by go_num, by omega, HPy⟩
                case measure => simp [intOf]; omega
              have k1' : (kd == 1) = false := beq_eq_false_iff_ne.2 k1
              by_cases k2 : kd = 2
              · subst k2
                have K15 := hide (HP4.out.plan tt)
                have K16 : Hid (∀ W, LP w0 BB r a1 c1 gs R R k g8 a3 c3 es3 W → _) := hide (fun W p => LP.rplan p hwf tt)
                obtain ⟨ms, hms⟩ : ∃ ms, planM R tt = ms := ⟨_, rfl⟩
                rw [hms] at hps
                simp only [hms] at K15 K16
                obtain ⟨mn, hmn⟩ : ∃ mn, ms.length = mn := ⟨_, rfl⟩
                simp only [hmn] at K15 K16
                have Hmn := hide hmn
                generalize planC R tt = pc at *
                have q6 : (pc != pc) = false := bne_self_eq_false _
                rw [hmn] at hps
                clear hms hmn
                go_upto_region 29 with (go_at_call 15; refine K15.out.mono ?_; rintro e W5 ⟨a5', c5', rfl, ho, hp, hb⟩; have HP5 := hide hp; have HM5 := hide ho; have HB5 := hide ((hb.block _ (heap_lt HB4.out)).trans HB4.out); clear hp ho hb)
                clear y0 y1 y2 y3
                have y1 : W5.cell? ⟨g12, 1, none⟩ = some (.int .i64 tt) := (cells_at HB5.out 1).1
                obtain ⟨x0, _⟩ := HP5.out.cell
                have K16' := hide (K16.out W5 HP5.out)
                go_upto_region 30 with (go_at_call 16; refine K16'.out.mono ?_; rintro e W6 ⟨a6, c6, rfl, ho, hp, hb⟩; have HP6 := hide hp; have HN6 := hide ho; have HM6 := hide (HM5.out.keep hb); clear hp ho hb)
                have K17 := hide (same_any a5' a6 c5' c6 mn ms W6 Hmn.out HM6.out.rd HN6.out.rd (by omega))
                clear x0 y1
                go_upto_region 32 with (go_at_call 17; refine K17.out.mono ?_; rintro e W7 ⟨rfl, q7, rfl⟩)
                have HPz := hide (HP6.out.keep (below_drewN W6 q7))
                generalize W6.drewN q7 = W7 at *
                go_upto_region 33 with fail
                have xx := HPz.out.cell
                have K20 := hide HPz.out.tells
                go_wp2_with (go_at_call 20; refine K20.out.mono ?_; rintro e Wy ⟨rfl, hp⟩; have HPy := hide hp; clear hp)
                go_roundw
                case rel => exact ⟨i + 1, R, a3, c3, es3, by go_num, by omega, HPy⟩
                case measure => simp [intOf]; omega
              · have k2' : (kd == 2) = false := beq_eq_false_iff_ne.2 k2
                have K18 := hide (HP4.out.do tt ff oo)
                have K19 : Hid (∀ W, LP w0 BB r a1 c1 gs (doR R ⟨tt, ff, oo⟩) R k g8 a3 c3 es3 W → _) := hide (fun W p => LP.rdo p hwf tt ff oo)
                generalize doR R ⟨tt, ff, oo⟩ = R5 at *
                generalize doC R ⟨tt, ff, oo⟩ = pc at *
                have q6 : (pc != pc) = false := bne_self_eq_false _
                go_upto_region 19 with (go_at_call 18; refine K18.out.mono ?_; rintro e W5 ⟨rfl, hp, hf⟩; have HP5 := hide hp; have HB5 := hide (hf.other HB4.out (by decide)); clear hp hf)
                clear y0 y1 y2 y3
                have y1 : W5.cell? ⟨g12, 1, none⟩ = some (.int .i64 tt) := (cells_at HB5.out 1).1
                have y2 : W5.cell? ⟨g12, 2, none⟩ = some (.int .i64 ff) := (cells_at HB5.out 2).1
                have y3 : W5.cell? ⟨g12, 3, none⟩ = some (.int .i64 oo) := (cells_at HB5.out 3).1
                obtain ⟨x0, _⟩ := HP5.out.cell
                have K19' := hide (K19.out W5 HP5.out)
                go_upto_region 33 with (go_at_call 19; refine K19'.out.mono ?_; rintro e W6 ⟨a6, c6, es6, rfl, hd, hp, _⟩; have HP6 := hide hp; have HD6 := hide hd; clear hd hp; obtain ⟨u0, u1⟩ := HP6.out.cell)
                have HPz := hide (HP6.out.set HD6.out)
                clear x0 y1 y2 y3 u0 u1
                generalize W6.setCell ⟨g8, 0, none⟩ (.slice a6 k c6) = W7 at *
                have xx := HPz.out.cell
                have K20 := hide HPz.out.tells
                go_wp2_with (go_at_call 20; refine K20.out.mono ?_; rintro e Wy ⟨rfl, hp⟩; have HPy := hide hp; clear hp)
                go_roundw
                case rel => exact ⟨i + 1, R5, a6, c6, es6, by go_num, by omega, HPy⟩
                case measure => simp [intOf]; omega
            · have q2 : (i : Int) < (m : Int) := by omega
              have q3 : ¬ (i : Int) < 100 := by omega
              clear h1 h2
              go_wp2_with fail
              go_ret
              exact ⟨rfl, HP.out.rw'.bel⟩
          · have q2 : ¬ (i : Int) < (m : Int) := by omega
            clear h1
            go_wp2_with fail
            go_ret
            exact ⟨rfl, HP.out.rw'.bel⟩
  · have K10' : Hid (∀ (W : World) (a5 : Option Addr) (c5 : Nat), Below w0.heap.size w0 W → intE.Rd W (.slice a5 n c5) ds → Calls Try.prog 10 #[.slice a5 n c5] W fun e w' => e = .returned (.tuple #[.pointer none, .int .i64 1]) ∧ Below W.heap.size W w') := hide (fun W a5 c5 hb hr => (K10.out W a5 c5 hb hr).mono (by
      rintro e w' ⟨h1, ⟨_, h2⟩ | ⟨h2, _⟩⟩
      · exact ⟨h2, h1⟩
      · exact absurd h2 hk))
    have K11' : Hid (∀ W : World, Below w0.heap.size w0 W → Calls Try.prog 11 #[.slice a n c] W fun e w' => ∃ a' n' c', e = .returned (.tuple #[.agg #[.slice a' n' c'], .int .i64 1]) ∧ Below W.heap.size W w') := hide (fun W hb => (K11.out W hb).mono (by
      rintro e w' ⟨h1, ⟨_, a', n', c', h2⟩ | ⟨h2, _⟩⟩
      · exact ⟨a', n', c', h2, h1⟩
      · exact absurd h2 hk))
    have HZset : Hid (∀ (W : World) (g5 k n5 c5 : Nat) (xs : List Int), Below w0.heap.size w0 W → intE.Own W w0.heap.size (.slice (some ⟨g5, 0, none⟩) n5 c5) xs → Below w0.heap.size w0 (W.setCell ⟨g5, k, none⟩ (.int .i64 1))) := hide (fun W g5 k n5 c5 xs hb ho => hb.setCell (ho.ge g5 rfl) _)
    clear hk hn hv hm hu K10 K11 h8
    go_enter Try.func3, Try.ntmps3
    go_upto_region 3 with (go_at_call 9; refine (KA.out _).mono ?_; rintro e W1 ⟨rfl, hb1⟩; have HB1 := hide hb1; clear hb1)
    have HBe : Hid (Below w0.heap.size w0 (W1.alloc (.cells #[] 3))) := hide (HB1.out.trans ((Hba.out W1 (.cells #[] 3)).mono HB1.out.size))
    have HOe : Hid (intE.Own (W1.alloc (.cells #[] 3)) w0.heap.size (.slice (some ⟨W1.heap.size, 0, none⟩) 0 0) []) := hide (El.Own.new intE W1 w0.heap.size HB1.out.size #[] [] rfl (by simp) _ _ _ rfl rfl rfl)
    have HRe : Hid (intE.Rd (W1.alloc (.cells #[] 3)) (.slice a n c) ds) := hide (HV.out.keep HBe.out)
    go_upto_region 4 with (at_builtin; refine intE.wp2 (B := w0.heap.size) HBe.out.size (by rfl) _ _ rfl _ _ rfl rfl [] ds HOe.out HRe.out HL1.out HL2.out ?_; intro v5 W3 ho hg hs; have HB3 := hide (HBe.out.grown hg HBe.out.size (fun k hk => HOe.out.ge k hk)); have ho2 : intE.Own W3 w0.heap.size v5 ds := ho; obtain ⟨a5, c5, e5⟩ := ho2.rd.form; rw [Hn.out] at e5; subst e5; have HO3 := hide ho2; clear ho ho2 hg hs)
    clear HBe HOe HRe HB1
    go_upto_region 5 with (go_at_call 10; refine (K10'.out _ _ _ HB3.out HO3.out.rd).mono ?_; rintro e W4 ⟨rfl, hb⟩; have HB4 := hide (HB3.out.trans (hb.mono HB3.out.size)); have HO4 := hide (HO3.out.keep hb); clear hb)
    go_upto_region 6 with (go_at_call 11; refine (K11'.out _ HB4.out).mono ?_; rintro e W5 ⟨a8, n8, c8, rfl, hb⟩; have HB5 := hide ((HB4.out.trans (hb.mono HB4.out.size)).trans ((Hba.out W5 (.cells #[.slice a8 n8 c8] 31)).mono (Nat.le_trans HB4.out.size hb.size))); have HO5 := hide ((HO4.out.keep hb).keep (Hba.out W5 (.cells #[.slice a8 n8 c8] 31))); clear hb)
    generalize W5.alloc (.cells #[.slice a8 n8 c8] 31) = W6 at *
    generalize W5.heap.size = g8 at *
    go_upto_region 8 with (go_at_call 12; refine (K12.out _ _ _ HB5.out HO5.out.rd).mono ?_; rintro e W7 ⟨rfl, q7, rfl⟩)
    have HO6 := hide (HO5.out.keep (below_drewN W6 q7))
    have HZ6 := hide (HB5.out.trans ((below_drewN W6 q7).mono HB5.out.size))
    generalize W6.drewN q7 = W7 at *
    go_wp2_with fail
    go_loopw [53] (fun v53 wr => ∃ (k : Nat) (xs : List Int), v53 = .int .i64 k ∧ k ≤ n ∧ Hid (xs.length = n) ∧ Hid (intE.Own wr w0.heap.size (.slice a5 n c5) xs) ∧ Hid (Below w0.heap.size w0 wr)) (fun v53 _ => n - (intOf v53).toNat)
    case atStart => exact ⟨0, ds, rfl, Nat.zero_le _, Hn, HO6, HZ6⟩
    case round =>
      obtain ⟨k, xs, rfl, hk, Hxl, HOx, HZx⟩ := hrel
      by_cases hlt : k < n
      · obtain ⟨g5, c5', e5, _⟩ := HOx.out.some (fun e => by have := Hxl.out; rw [e] at this; simp at this; omega)
        rw [Hxl.out] at e5
        simp only [Value.slice.injEq] at e5
        obtain ⟨rfl, e5b, rfl⟩ := e5
        clear e5b
        obtain ⟨z, hz⟩ : ∃ z, xs[k]? = some z := ⟨_, List.getElem?_eq_getElem (by rw [Hxl.out]; exact hlt)⟩
        obtain ⟨y0, y1⟩ := HOx.out.at1 (Value.int .i64) (fun _ => rfl) rfl k z hz
        have HOs := hide (El.Own.set (Value.int .i64) (fun _ => rfl) rfl HOx.out k 1)
        have HZs := hide (HZset.out wr g5 k n c5 xs HZx.out HOx.out)
        have Hxs : Hid ((xs.set k 1).length = n) := hide (by rw [List.length_set]; exact Hxl.out)
        have q0 : (0 : Int) ≤ (k : Int) := by omega
        have q1 : (k : Int) < (n : Int) := by omega
        clear hz
        go_wp2_with fail
        go_roundw
        case rel => exact ⟨k + 1, xs.set k 1, by go_num, by omega, Hxs, HOs, HZs⟩
        case measure => simp [intOf]; omega
      · obtain rfl : k = n := by omega
        have q1 : ¬ (k : Int) < (k : Int) := by omega
        clear hlt
        go_wp2_with fail
        go_loopw [11] (fun v11 wr => ∃ i : Nat, v11 = .int .i64 i ∧ Hid (Below w0.heap.size w0 wr)) (fun v11 _ => 0)
        case atStart => exact ⟨0, rfl, HZx⟩
        case round =>
          obtain ⟨i, rfl, HZi⟩ := hrel
          go_wp2_with fail
          go_ret
          exact ⟨rfl, HZi.out⟩
end Go.Proofs.Ytddcjkbdgneklaa
