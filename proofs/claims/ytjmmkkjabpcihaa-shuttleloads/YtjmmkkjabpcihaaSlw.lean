/- ShuttleLoads, the walk. -/
import Derived.Test.YtjmmkkjabpcihaaSlo
import Derived.Deep.CutBlock
namespace Go.Proofs.Ytjmmkkjabpcihaa
open Go.RowKit
set_option linter.unusedVariables false

set_option maxRecDepth 100000 in
set_option maxHeartbeats 2000000 in
theorem loads_walk (n a p : Int) (a1 : Option Addr) (m c : Nat) (zs : List Op) (w : World) (hm : zs.length = m) (hv : Ops w (.slice a1 m c) zs) : Calls Try.prog 6 #[.agg #[.int .i64 n, .int .i64 a, .int .i64 p], .slice a1 m c] w fun e w' => e = .returned (.bool true) ∧ Below w.heap.size w w' := by
  obtain ⟨w0, rfl⟩ : ∃ w0, w0 = w := ⟨_, rfl⟩
  have KA := hide awake_any
  have HH := hide (Hw.new w0 n a p)
  obtain ⟨h, hh⟩ : ∃ h, w0.heap.size = h := ⟨_, rfl⟩
  rw [hh] at HH
  have Hh := hide hh
  have Hm := hide hm
  have HV := hide hv
  clear hm hv hh
  by_cases hno : noN n a p
  · have K9 : Hid (∀ W, _) := hide (fun W => new_no n a p W hno)
    clear hno
    go_enter Try.func6, Try.ntmps6
    go_upto_region 1 with fail
    rw [Hh.out]
    generalize w0.alloc (.cells #[.int .i64 n, .int .i64 a, .int .i64 p] 23) = W at *
    go_wp2_with (first
      | (go_at_call 8; refine (KA.out _).mono ?_; rintro e W1 ⟨rfl, hb⟩; have HH1 := hide (HH.out.keep hb); clear hb; obtain ⟨x0, x1, x2⟩ := HH1.out.cells)
      | (go_at_call 9; refine (K9.out _).mono ?_; rintro e W2 ⟨rfl, hb⟩; have HH2 := hide (HH1.out.keep hb); clear hb))
    go_ret
    exact ⟨rfl, HH2.out.bel⟩
  have K9 : Hid (∀ W, _) := hide (fun W => new_ok n a p W hno)
  have Hok : Hid (Sh.Ok (shN n a p)) := hide (by unfold noN at hno; exact Sh.ok_new (by omega) (by omega) (by omega) (by omega) (by omega) (by omega))
  clear hno
  go_enter Try.func6, Try.ntmps6
  go_upto_region 1 with fail
  rw [Hh.out]
  generalize w0.alloc (.cells #[.int .i64 n, .int .i64 a, .int .i64 p] 23) = W at *
  go_upto_region 6 with (first
    | (go_at_call 8; refine (KA.out _).mono ?_; rintro e W1 ⟨rfl, hb⟩; have HH1 := hide (HH.out.keep hb); clear hb; obtain ⟨x0, x1, x2⟩ := HH1.out.cells)
    | (go_at_call 9; refine (K9.out _).mono ?_; rintro e W2 ⟨rfl, hs, hb⟩; have HH2 := hide (HH1.out.keep hb); have HS2 := hide hs; clear hb hs))
  have HB1 := hide HH1.out.bel.size
  clear x0 x1 x2 HH HH1
  obtain ⟨g, hg⟩ : ∃ g, W1.heap.size = g := ⟨_, rfl⟩
  rw [hg] at HS2 HB1 ⊢
  clear hg
  obtain ⟨hj, hhj⟩ : ∃ hj, W2.heap.size = hj := ⟨_, rfl⟩
  have HW0 : Hid (LW w0 (W2.alloc (.cells #[.int .i64 0, .int .i64 0, .int .i64 0] 31)) g hj (shN n a p) 0 0 0) := hide (by
    have hb : Below W2.heap.size W2 (W2.alloc (.cells #[.int .i64 0, .int .i64 0, .int .i64 0] 31)) := (Below.refl _ _).alloc (Nat.le_refl _) _
    have hx := heap_new W2 (.cells #[.int .i64 0, .int .i64 0, .int .i64 0] 31)
    have hl := HS2.out.lt
    have h2 := HH2.out.bel.size
    rw [hhj] at hx hl h2
    exact ⟨HS2.out.keep hb, hx, (HH2.out.keep hb).bel, by omega, HB1.out, h2⟩)
  go_upto_region 7 with fail
  try rw [hhj]
  clear hhj HS2 HH2 HB1 K9 KA
  generalize W2.alloc (.cells #[.int .i64 0, .int .i64 0, .int .i64 0] 31) = W3 at *
  go_wp2_with fail
  go_loopw [8, 9, 10] (fun v8 v9 v10 wr => ∃ (i : Nat) (S : Sh), v10 = .int .i64 i ∧ v8 = .int .i64 S.load ∧ v9 = .int .i64 S.dn ∧ i ≤ m ∧ i ≤ 300 ∧ Hid (S.Ok ∧ 0 ≤ S.dn ∧ S.dn ≤ (i : Int)) ∧ Hid (LW w0 wr g hj S S.jt S.jf S.jo)) (fun _ _ v10 _ => 300 - (intOf v10).toNat)
  case atStart => exact ⟨0, shN n a p, rfl, rfl, rfl, Nat.zero_le _, by omega, hide ⟨Hok.out, by show (0 : Int) ≤ 0; omega, by show (0 : Int) ≤ 0; omega⟩, HW0⟩
  case round =>
    obtain ⟨i, S, rfl, rfl, rfl, him, hi2, HO, HW⟩ := hrel
    by_cases hgo : i < m ∧ i < 300
    · have q0 : (i : Int) < (m : Int) := by omega
      have q1 : (i : Int) < 300 := by omega
      have q2 : (0 : Int) ≤ (i : Int) := by omega
      have hlt := hgo.1
      obtain ⟨o, ho⟩ : ∃ o, zs[i]? = some o := ⟨_, List.getElem?_eq_getElem (by rw [Hm.out]; exact hlt)⟩
      obtain ⟨b, off, rfl, z0, z1, z2, z3, z4⟩ := HV.out.at i o ho
      obtain ⟨kd, nn, ot, of, oo⟩ := o
      simp only at z0 z1 z2 z3 z4
      have y0 : wr.cell? ⟨b, off + i * 5, none⟩ = some (.int .i64 kd) := by rw [HW.out.bel.cell (p := ⟨b, off + i * 5, none⟩) (cell_lt z0)]; exact z0
      have y1 : wr.cell? ⟨b, off + i * 5 + 1, none⟩ = some (.int .i64 nn) := by rw [HW.out.bel.cell (p := ⟨b, off + i * 5 + 1, none⟩) (cell_lt z1)]; exact z1
      have y2 : wr.cell? ⟨b, off + i * 5 + 2, none⟩ = some (.int .i64 ot) := by rw [HW.out.bel.cell (p := ⟨b, off + i * 5 + 2, none⟩) (cell_lt z2)]; exact z2
      have y3 : wr.cell? ⟨b, off + i * 5 + 3, none⟩ = some (.int .i64 of) := by rw [HW.out.bel.cell (p := ⟨b, off + i * 5 + 3, none⟩) (cell_lt z3)]; exact z3
      have y4 : wr.cell? ⟨b, off + i * 5 + 4, none⟩ = some (.int .i64 oo) := by rw [HW.out.bel.cell (p := ⟨b, off + i * 5 + 4, none⟩) (cell_lt z4)]; exact z4
      clear z0 z1 z2 z3 z4 ho hlt hgo
      have hdn : Hid (0 ≤ S.dn ∧ S.dn ≤ 1000000) := hide ⟨HO.out.2.1, by have := HO.out.2.2; omega⟩
      have HW4 : Hid (LW w0 (wr.alloc (.cells #[.int .i64 kd, .int .i64 nn, .int .i64 ot, .int .i64 of, .int .i64 oo] 37)) g hj S S.jt S.jf S.jo) := hide (HW.out.keep ((Below.refl _ _).alloc (Nat.le_refl _) _))
      have Hob := hide (heap_new wr (.cells #[.int .i64 kd, .int .i64 nn, .int .i64 ot, .int .i64 of, .int .i64 oo] 37))
      have Hog : Hid (g ≠ wr.heap.size ∧ hj ≠ wr.heap.size) := hide ⟨Nat.ne_of_lt HW.out.sh.lt, Nat.ne_of_lt (heap_lt HW.out.jb)⟩
      go_upto_region 11 with fail
      obtain ⟨ho, hho⟩ : ∃ ho, wr.heap.size = ho := ⟨_, rfl⟩
      rw [hho] at Hob Hog
      try rw [hho]
      clear hho HW y0 y1 y2 y3 y4
      generalize wr.alloc (.cells #[.int .i64 kd, .int .i64 nn, .int .i64 ot, .int .i64 of, .int .i64 oo] 37) = W4 at *
      have HOB : Hid (∀ W S', Chg W4 g S' W → W.heap[ho]? = some (.cells #[.int .i64 kd, .int .i64 nn, .int .i64 ot, .int .i64 of, .int .i64 oo] 37)) := hide (fun W S' c => (c.gr.block ho (heap_lt Hob.out) (fun e => Hog.out.1 (by cases e; rfl))).trans Hob.out)
      have o0 : W4.cell? ⟨ho, 0, none⟩ = some (.int .i64 kd) := (cells_at Hob.out 0).1
      have o1 : W4.cell? ⟨ho, 1, none⟩ = some (.int .i64 nn) := (cells_at Hob.out 1).1
      have o2 : W4.cell? ⟨ho, 2, none⟩ = some (.int .i64 ot) := (cells_at Hob.out 2).1
      have o3 : W4.cell? ⟨ho, 3, none⟩ = some (.int .i64 of) := (cells_at Hob.out 3).1
      have o4 : W4.cell? ⟨ho, 4, none⟩ = some (.int .i64 oo) := (cells_at Hob.out 4).1
      go_upto_block 2 with fail
      go_cut [8, 9] (fun v8 v9 wx => ∃ S' : Sh, v8 = .int .i64 S'.load ∧ v9 = .int .i64 S'.dn ∧ Hid (S'.Ok ∧ 0 ≤ S'.dn ∧ S'.dn ≤ ((i + 1 : Nat) : Int)) ∧ Hid (LW w0 wx g hj S' S'.jt S'.jf S'.jo))
      case first =>
        as_aux_lemma =>
         have HO1 : Hid (S.Ok ∧ 0 ≤ S.dn ∧ S.dn ≤ ((i + 1 : Nat) : Int)) := hide ⟨HO.out.1, HO.out.2.1, by have := HO.out.2.2; omega⟩
         by_cases k1 : kd = 1
         · subst k1
           have K := hide (as_any HW4.out.sh ot of oo)
           have HO2 : Hid ((S.as ot of oo).Ok ∧ 0 ≤ (S.as ot of oo).dn ∧ (S.as ot of oo).dn ≤ ((i + 1 : Nat) : Int)) := hide ⟨HO.out.1.as ot of oo, by rw [Sh.dn_as]; exact HO1.out.2.1, by rw [Sh.dn_as]; exact HO1.out.2.2⟩
           by_cases hc : S.asC ot of oo = 0
           · obtain ⟨e1, e2, e3, e4⟩ := as_zero hc
             have e5 := Sh.dn_as S ot of oo
             have He := hide (And.intro e1 (And.intro e2 (And.intro e3 (And.intro e4 e5))))
             rw [hc] at K
             generalize S.as ot of oo = R at *
             clear hc e1 e2 e3 e4 e5
             go_upto_region 14 with (go_at_call 11; refine K.out.mono ?_; rintro e W5 ⟨rfl, hc⟩; have HW5 := hide (HW4.out.chg hc); have HX5 := hide (HOB.out _ _ hc); clear hc)
             obtain ⟨_, _, _, cf⟩ := HW5.out.cells
             obtain ⟨c0, c1, c2, _⟩ := HW5.out.cells
             have f0 := cf 0
             have f1 := cf 1
             have f2 := cf 2
             clear cf o0 o1 o2 o3 o4
             have o2 : W5.cell? ⟨ho, 2, none⟩ = some (.int .i64 ot) := (cells_at HX5.out 2).1
             have o3 : W5.cell? ⟨ho, 3, none⟩ = some (.int .i64 of) := (cells_at HX5.out 3).1
             have o4 : W5.cell? ⟨ho, 4, none⟩ = some (.int .i64 oo) := (cells_at HX5.out 4).1
             have HW6 := hide (HW5.out.put ot of oo)
             go_wp2_with fail
             go_meet
             exact ⟨R, by rw [He.out.2.2.2.1], by rw [He.out.2.2.2.2], HO2, hide (by rw [He.out.1, He.out.2.1, He.out.2.2.1]; exact HW6.out)⟩
           · have b0 : (S.asC ot of oo == 0) = false := beq_eq_false_iff_ne.2 hc
             rw [as_no hc] at K
             generalize S.asC ot of oo = cd at *
             clear hc HO2
             go_wp2_with (go_at_call 11; refine K.out.mono ?_; rintro e W5 ⟨rfl, hc⟩; have HW5 := hide (HW4.out.chg hc); clear hc)
             go_meet
             exact ⟨S, rfl, rfl, HO1, HW5⟩
         have b1 : (kd == 1) = false := beq_eq_false_iff_ne.2 k1
         by_cases k2 : kd = 2
         · subst k2
           have K := hide (tick_any HW4.out.sh HO.out.1)
           have HO2 : Hid (S.tick.Ok ∧ 0 ≤ S.tick.dn ∧ S.tick.dn ≤ ((i + 1 : Nat) : Int)) := hide ⟨HO.out.1.tick, by rw [Sh.dn_tick]; exact HO1.out.2.1, by rw [Sh.dn_tick]; exact HO1.out.2.2⟩
           have He : Hid (S.tick.load = S.load ∧ S.tick.dn = S.dn ∧ S.tick.jt = S.jt ∧ S.tick.jf = S.jf ∧ S.tick.jo = S.jo) := hide ⟨tick_load, Sh.dn_tick S, (tick_job S).1, (tick_job S).2.1, (tick_job S).2.2.1⟩
           have hpl : S.tick.pl = S.pl := (tick_job S).2.2.2
           have hsay := tick_says HO.out.1
           have K24 : Hid (∀ W, LW w0 W g hj S.tick S.jt S.jf S.jo → ∀ q, Calls Try.prog 24 #[.pointer (some ⟨g, 0, none⟩)] (W.drewN q) fun e w' => e = .returned (.int .i64 S.pl) ∧ w' = W.drewN q) := hide (fun W h q => by rw [← hpl]; exact place_any (h.sh.drewN q))
           generalize S.tickK = tK at *
           generalize S.tickW = tW at *
           clear hpl
           generalize S.tick = R at *
           go_upto_region 17 with (go_at_call 13; refine K.out.mono ?_; rintro e W5 ⟨rfl, hc⟩; have HW5 := hide (HW4.out.chg hc); clear hc)
           have HX := heap_new W5 (.cells #[.int .i64 tK, .int .i64 tW] 41)
           have HW6 := hide (HW5.out.keep ((Below.refl _ _).alloc (Nat.le_refl _) (.cells #[.int .i64 tK, .int .i64 tW] 41)))
           obtain ⟨hx, hhx⟩ : ∃ hx, W5.heap.size = hx := ⟨_, rfl⟩
           rw [hhx] at HX
           try rw [hhx]
           have hX := hide HX
           clear hhx HX o0 o1 o2 o3 o4
           generalize W5.alloc (.cells #[.int .i64 tK, .int .i64 tW] 41) = W6 at *
           have x0 : W6.cell? ⟨hx, 0, none⟩ = some (.int .i64 tK) := (cells_at hX.out 0).1
           have x1 : W6.cell? ⟨hx, 1, none⟩ = some (.int .i64 tW) := (cells_at hX.out 1).1
           obtain ⟨c0, c1, c2, _⟩ := HW6.out.cells
           have KP := hide (K24.out _ HW6.out)
           have HEnd : Hid (∀ q, ∃ S' : Sh, S.load = S'.load ∧ S.dn = S'.dn ∧ Hid (S'.Ok ∧ 0 ≤ S'.dn ∧ S'.dn ≤ ((i + 1 : Nat) : Int)) ∧ Hid (LW w0 (W6.drewN q) g hj S' S'.jt S'.jf S'.jo)) := hide (fun q => ⟨R, He.out.1.symm, He.out.2.1.symm, HO2, hide (by rw [He.out.2.2.1, He.out.2.2.2.1, He.out.2.2.2.2]; exact ⟨HW6.out.sh.drewN q, HW6.out.jb, below_drew HW6.out.bel q, HW6.out.ne, HW6.out.og, HW6.out.oh⟩)⟩)
           clear K24 HW5 HW6 He HO2 K hX
           rcases hsay with rfl | ⟨rfl, hsay⟩ | ⟨rfl, rfl, hl, hp⟩ | ⟨rfl, rfl, hl, hp⟩
           · go_quiet ((go_at_call 24; exact Calls.quiet_of_same (KP.out _)))
             go_wp2_with fail
             go_meet
             obtain ⟨S', e1, e2, e3, e4⟩ := HEnd.out nq
             exact ⟨S', by rw [e1], by rw [e2], e3, e4⟩
           · by_cases hf : tW = S.jf
             · subst hf
               have r1 : (S.jf != S.jf) = false := bne_self_eq_false _
               clear hsay
               go_quiet ((go_at_call 24; exact Calls.quiet_of_same (KP.out _)))
               go_wp2_with fail
               go_meet
               obtain ⟨S', e1, e2, e3, e4⟩ := HEnd.out nq
               exact ⟨S', by rw [e1], by rw [e2], e3, e4⟩
             · have ho' : tW = S.jo := hsay.resolve_left hf
               subst ho'
               have r1 : (S.jo != S.jf) = true := bne_iff_ne.2 hf
               have r2 : (S.jo != S.jo) = false := bne_self_eq_false _
               clear hsay hf
               go_quiet ((go_at_call 24; exact Calls.quiet_of_same (KP.out _)))
               go_wp2_with fail
               go_meet
               obtain ⟨S', e1, e2, e3, e4⟩ := HEnd.out nq
               exact ⟨S', by rw [e1], by rw [e2], e3, e4⟩
           · rw [hp] at KP
             have r1 : (S.load != 0) = false := by rw [hl]; rfl
             have r2 : (S.jt != S.jt) = false := bne_self_eq_false _
             have r3 : (S.jf != S.jf) = false := bne_self_eq_false _
             clear hl hp
             go_quiet ((go_at_call 24; exact Calls.quiet_of_same (KP.out _)))
             go_wp2_with fail
             go_meet
             obtain ⟨S', e1, e2, e3, e4⟩ := HEnd.out nq
             exact ⟨S', by rw [e1], by rw [e2], e3, e4⟩
           · rw [hp] at KP
             have r1 : (S.load != S.jt) = false := by rw [hl]; exact bne_self_eq_false _
             have r2 : (S.jt != S.load) = false := by rw [hl]; exact bne_self_eq_false _
             have r3 : (S.jo != S.jo) = false := bne_self_eq_false _
             clear hl hp
             go_quiet ((go_at_call 24; exact Calls.quiet_of_same (KP.out _)))
             go_wp2_with fail
             go_meet
             obtain ⟨S', e1, e2, e3, e4⟩ := HEnd.out nq
             exact ⟨S', by rw [e1], by rw [e2], e3, e4⟩
         have b2 : (kd == 2) = false := beq_eq_false_iff_ne.2 k2
         by_cases k3 : kd = 3
         · subst k3
           have K := hide (mv_any HW4.out.sh nn)
           have HO2 : Hid ((S.mv nn).Ok ∧ 0 ≤ (S.mv nn).dn ∧ (S.mv nn).dn ≤ ((i + 1 : Nat) : Int)) := hide ⟨HO.out.1.mv nn, by rw [Sh.dn_mv]; exact HO1.out.2.1, by rw [Sh.dn_mv]; exact HO1.out.2.2⟩
           have He : Hid ((S.mv nn).load = S.load ∧ (S.mv nn).dn = S.dn ∧ (S.mv nn).jt = S.jt ∧ (S.mv nn).jf = S.jf ∧ (S.mv nn).jo = S.jo) := hide ⟨mv_load nn, Sh.dn_mv S nn, mv_job S nn⟩
           generalize S.mv nn = R at *
           generalize S.mvC nn = cd at *
           go_wp2_with (go_at_call 15; refine K.out.mono ?_; rintro e W5 ⟨rfl, hc⟩; have HW5 := hide (HW4.out.chg hc); clear hc)
           go_meet
           exact ⟨R, by rw [He.out.1], by rw [He.out.2.1], HO2, hide (HW5.out.to He.out.2.2)⟩
         have b3 : (kd == 3) = false := beq_eq_false_iff_ne.2 k3
         by_cases k4 : kd = 4
         · subst k4
           have K := hide (pk_any HW4.out.sh nn)
           have HO2 : Hid ((S.pk nn).Ok ∧ 0 ≤ (S.pk nn).dn ∧ (S.pk nn).dn ≤ ((i + 1 : Nat) : Int)) := hide ⟨HO.out.1.pk nn, by rw [Sh.dn_pk]; exact HO1.out.2.1, by rw [Sh.dn_pk]; exact HO1.out.2.2⟩
           by_cases hc : S.hdC 2 nn = 0
           · have He : Hid ((S.pk nn).load = nn ∧ (S.pk nn).dn = S.dn ∧ (S.pk nn).jt = S.jt ∧ (S.pk nn).jf = S.jf ∧ (S.pk nn).jo = S.jo) := hide ⟨(pk_load hc).2, Sh.dn_pk S nn, pk_job S nn⟩
             have r1 : (S.load != 0) = false := by rw [(pk_load hc).1]; rfl
             have r2 : (nn != S.jt) = false := by rw [(hd_zero hc).2]; exact bne_self_eq_false _
             rw [hc] at K
             clear hc
             generalize S.pk nn = R at *
             go_wp2_with (go_at_call 17; refine K.out.mono ?_; rintro e W5 ⟨rfl, hc⟩; have HW5 := hide (HW4.out.chg hc); have HX5 := hide (HOB.out _ _ hc); clear hc; obtain ⟨c0, c1, c2, _⟩ := HW5.out.cells; have o1' : W5.cell? ⟨ho, 1, none⟩ = some (.int .i64 nn) := (cells_at HX5.out 1).1)
             go_meet
             exact ⟨R, by rw [He.out.1], by rw [He.out.2.1], HO2, hide (HW5.out.to He.out.2.2)⟩
           · have b0 : (S.hdC 2 nn == 0) = false := beq_eq_false_iff_ne.2 hc
             have e : S.pk nn = S := if_neg hc
             rw [e] at K
             generalize S.hdC 2 nn = cd at *
             clear hc HO2 e
             go_wp2_with (go_at_call 17; refine K.out.mono ?_; rintro e W5 ⟨rfl, hc⟩; have HW5 := hide (HW4.out.chg hc); clear hc)
             go_meet
             exact ⟨S, rfl, rfl, HO1, HW5⟩
         have b4 : (kd == 4) = false := beq_eq_false_iff_ne.2 k4
         by_cases k5 : kd = 5
         · subst k5
           have K := hide (dp_any HW4.out.sh nn hdn.out)
           by_cases hc : S.hdC 4 nn = 0
           · have edn : (S.dp nn).dn = S.dn + 1 := by rw [Sh.dn_dp, if_pos hc]
             have HO2 : Hid ((S.dp nn).Ok ∧ 0 ≤ (S.dp nn).dn ∧ (S.dp nn).dn ≤ ((i + 1 : Nat) : Int)) := hide ⟨HO.out.1.dp nn, by rw [edn]; have := HO.out.2; omega, by rw [edn]; have := HO.out.2; omega⟩
             have He : Hid ((S.dp nn).load = 0 ∧ (S.dp nn).dn = S.dn + 1 ∧ (S.dp nn).jt = S.jt ∧ (S.dp nn).jf = S.jf ∧ (S.dp nn).jo = S.jo) := hide ⟨(dp_load HO.out.1 hc).2.1, edn, dp_job S nn⟩
             have r1 : (S.load == 0) = false := beq_eq_false_iff_ne.2 (by have := dp_load HO.out.1 hc; omega)
             have r2 : (nn != S.load) = false := by rw [(dp_load HO.out.1 hc).1]; exact bne_self_eq_false _
             have d1 : 0 ≤ S.dn := hdn.out.1
             have d2 : S.dn ≤ 1000000 := hdn.out.2
             rw [hc] at K
             clear hc edn
             generalize S.dp nn = R at *
             go_wp2_with (go_at_call 19; refine K.out.mono ?_; rintro e W5 ⟨rfl, hc⟩; have HW5 := hide (HW4.out.chg hc); have HX5 := hide (HOB.out _ _ hc); clear hc; obtain ⟨c0, c1, c2, _⟩ := HW5.out.cells; have o1' : W5.cell? ⟨ho, 1, none⟩ = some (.int .i64 nn) := (cells_at HX5.out 1).1)
             go_meet
             exact ⟨R, by rw [He.out.1], by rw [He.out.2.1], HO2, hide (HW5.out.to He.out.2.2)⟩
           · have b0 : (S.hdC 4 nn == 0) = false := beq_eq_false_iff_ne.2 hc
             have e : S.dp nn = S := if_neg hc
             rw [e] at K
             generalize S.hdC 4 nn = cd at *
             clear hc e
             go_wp2_with (go_at_call 19; refine K.out.mono ?_; rintro e W5 ⟨rfl, hc⟩; have HW5 := hide (HW4.out.chg hc); clear hc)
             go_meet
             exact ⟨S, rfl, rfl, HO1, HW5⟩
         have b5 : (kd == 5) = false := beq_eq_false_iff_ne.2 k5
         by_cases k6 : kd = 6
         · subst k6
           have K := hide (rs_any HW4.out.sh)
           have HO2 : Hid (S.rs.Ok ∧ 0 ≤ S.rs.dn ∧ S.rs.dn ≤ ((i + 1 : Nat) : Int)) := hide ⟨HO.out.1.rs, by rw [Sh.dn_rs]; exact HO1.out.2.1, by rw [Sh.dn_rs]; exact HO1.out.2.2⟩
           have He : Hid (S.rs.load = S.load ∧ S.rs.dn = S.dn ∧ S.rs.jt = S.jt ∧ S.rs.jf = S.jf ∧ S.rs.jo = S.jo) := hide ⟨rs_load HO.out.1, Sh.dn_rs S, rs_job S⟩
           generalize S.rs = R at *
           generalize S.rsC = cd at *
           go_wp2_with (go_at_call 20; refine K.out.mono ?_; rintro e W5 ⟨rfl, hc⟩; have HW5 := hide (HW4.out.chg hc); clear hc)
           go_meet
           exact ⟨R, by rw [He.out.1], by rw [He.out.2.1], HO2, hide (HW5.out.to He.out.2.2)⟩
         have b6 : (kd == 6) = false := beq_eq_false_iff_ne.2 k6
         go_wp2_with fail
         go_meet
         exact ⟨S, rfl, rfl, HO1, HW4⟩
      case rest =>
        as_aux_lemma =>
         obtain ⟨R, rfl, rfl, HO2, HWc⟩ := hcut
         clear HW4 Hob Hog HOB o0 o1 o2 o3 o4 HO hdn
         have K25 := hide (load_any HWc.out.sh)
         have K26 := hide (done_any HWc.out.sh)
         have r1 : (R.load != R.load) = false := bne_self_eq_false _
         have r2 : (R.dn != R.dn) = false := bne_self_eq_false _
         go_wp2_with (first
           | (go_at_call 25; refine K25.out.mono ?_; rintro e W6 ⟨rfl, hW⟩; have hW' := hW.symm; clear hW; subst hW')
           | (go_at_call 26; refine K26.out.mono ?_; rintro e W6 ⟨rfl, hW⟩; have hW' := hW.symm; clear hW; subst hW'))
         go_roundw
         case rel => exact ⟨i + 1, R, by go_num, rfl, rfl, by omega, by omega, HO2, HWc⟩
         case measure => simp [intOf]; omega
    · by_cases hlt : i < m
      · have q0 : (i : Int) < (m : Int) := by omega
        have q1 : ¬ (i : Int) < 300 := by omega
        clear hlt hgo
        go_wp2_with fail
        go_ret
        exact ⟨rfl, HW.out.bel⟩
      · have q0 : ¬ (i : Int) < (m : Int) := by omega
        clear hlt hgo
        go_wp2_with fail
        go_ret
        exact ⟨rfl, HW.out.bel⟩
end Go.Proofs.Ytjmmkkjabpcihaa
