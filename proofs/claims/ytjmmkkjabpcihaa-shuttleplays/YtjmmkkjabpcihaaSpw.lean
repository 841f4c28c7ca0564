/- ShuttlePlays, the walk. -/
import Derived.Test.YtjmmkkjabpcihaaStl
import Derived.Deep.CutBlock
namespace Go.Proofs.Ytjmmkkjabpcihaa
open Go.RowKit
set_option linter.unusedVariables false

/-- the law's world: a shuttle, and the document's in a box -/
structure PW (w0 w : World) (g hm : Nat) (S R : Sh) : Prop where
  sh : Shb w g S
  mb : w.heap[hm]? = some (.cells (shC R) 33)
  bel : Below w0.heap.size w0 w
  ne : g ≠ hm
  og : w0.heap.size ≤ g
  oh : w0.heap.size ≤ hm
variable {w0 w w' : World} {g hm : Nat} {S R S' : Sh}
theorem PW.keep (x : PW w0 w g hm S R) (hb : Below w.heap.size w w') : PW w0 w' g hm S R := ⟨x.sh.keep hb, (hb.block _ (heap_lt x.mb)).trans x.mb, x.bel.trans (hb.mono x.bel.size), x.ne, x.og, x.oh⟩
theorem PW.chg (x : PW w0 w g hm S R) (c : Chg w g S' w') : PW w0 w' g hm S' R := ⟨c.sh, (c.gr.block hm (heap_lt x.mb) (fun e => x.ne (by cases e; rfl))).trans x.mb, c.below x.bel x.og (Nat.le_refl _), x.ne, x.og, x.oh⟩
theorem PW.put (x : PW w0 w g hm S R) (Q : Sh) : PW w0 ((((((((((w.setCell ⟨hm, 0, none⟩ (.int .i64 Q.n)).setCell ⟨hm, 1, none⟩ (.int .i64 Q.pt)).setCell ⟨hm, 2, none⟩ (.int .i64 Q.pl)).setCell ⟨hm, 3, none⟩ (.int .i64 Q.st)).setCell ⟨hm, 4, none⟩ (.int .i64 Q.was)).setCell ⟨hm, 5, none⟩ (.int .i64 Q.tk)).setCell ⟨hm, 6, none⟩ (.int .i64 Q.jt)).setCell ⟨hm, 7, none⟩ (.int .i64 Q.jf)).setCell ⟨hm, 8, none⟩ (.int .i64 Q.jo)).setCell ⟨hm, 9, none⟩ (.int .i64 Q.dn)) g hm S Q := by
  have y := D1.out (w0 := w0) (r := hm) ⟨x.bel, x.mb, x.oh⟩ Q
  exact ⟨x.sh.stay (out_off w hm Q g x.ne), y.b2, y.bel, x.ne, x.og, x.oh⟩

set_option maxRecDepth 100000 in
set_option maxHeartbeats 4000000 in
theorem plays_walk (n a p : Int) (a1 : Option Addr) (m c : Nat) (zs : List Op) (w : World) (hm1 : zs.length = m) (hv : Ops w (.slice a1 m c) zs) : Calls Try.prog 3 #[.agg #[.int .i64 n, .int .i64 a, .int .i64 p], .slice a1 m c] w fun e w' => e = .returned (.bool true) ∧ Below w.heap.size w w' := by
  obtain ⟨w0, rfl⟩ : ∃ w0, w0 = w := ⟨_, rfl⟩
  have KA := hide awake_any
  have HH := hide (Hw.new w0 n a p)
  obtain ⟨h, hh⟩ : ∃ h, w0.heap.size = h := ⟨_, rfl⟩
  rw [hh] at HH
  have Hh := hide hh
  have Hm := hide hm1
  have HV := hide hv
  clear hm1 hv hh
  by_cases hno : noN n a p
  · have K9 : Hid (∀ W, _) := hide (fun W => new_no n a p W hno)
    have K10 : Hid (∀ W, _) := hide (fun W => rnew_no n a p W hno)
    clear hno
    go_enter Try.func3, Try.ntmps3
    go_upto_region 1 with fail
    rw [Hh.out]
    generalize w0.alloc (.cells #[.int .i64 n, .int .i64 a, .int .i64 p] 23) = W at *
    go_upto_region 5 with (first
      | (go_at_call 8; refine (KA.out _).mono ?_; rintro e W1 ⟨rfl, hb⟩; have HH1 := hide (HH.out.keep hb); clear hb; obtain ⟨x0, x1, x2⟩ := HH1.out.cells)
      | (go_at_call 9; refine (K9.out _).mono ?_; rintro e W2 ⟨rfl, hb⟩; have HH2 := hide (HH1.out.keep hb); clear hb; obtain ⟨x3, x4, x5⟩ := HH2.out.cells)
      | (go_at_call 10; refine (K10.out _).mono ?_; rintro e W3 ⟨rfl, hb⟩; have HH3 := hide (HH2.out.keep hb); clear hb))
    have HB4 := hide (HH3.out.keep ((Below.refl _ _).alloc (Nat.le_refl _) (.cells #[.int .i64 0, .int .i64 0, .int .i64 0, .int .i64 0, .int .i64 0, .int .i64 0, .int .i64 0, .int .i64 0, .int .i64 0, .int .i64 0] 33))).bel
    clear HH HH1 HH2 HH3 x0 x1 x2 x3 x4 x5 K9 K10 KA
    generalize W3.alloc (.cells #[.int .i64 0, .int .i64 0, .int .i64 0, .int .i64 0, .int .i64 0, .int .i64 0, .int .i64 0, .int .i64 0, .int .i64 0, .int .i64 0] 33) = W4 at *
    go_wp2_with fail
    go_loopw [9] (fun v9 wr => v9 = .int .i64 0 ∧ Hid (Below w0.heap.size w0 wr)) (fun _ _ => 0)
    case atStart => exact ⟨rfl, HB4⟩
    case round =>
      obtain ⟨rfl, HB⟩ := hrel
      go_wp2_with fail
      go_ret
      exact ⟨rfl, HB.out⟩
  have K9 : Hid (∀ W, _) := hide (fun W => new_ok n a p W hno)
  have K10 : Hid (∀ W, _) := hide (fun W => rnew_ok n a p W hno)
  have Hok : Hid (Sh.Ok (shN n a p)) := hide (by unfold noN at hno; exact Sh.ok_new (by omega) (by omega) (by omega) (by omega) (by omega) (by omega))
  clear hno
  go_enter Try.func3, Try.ntmps3
  go_upto_region 1 with fail
  rw [Hh.out]
  generalize w0.alloc (.cells #[.int .i64 n, .int .i64 a, .int .i64 p] 23) = W at *
  go_upto_region 4 with (first
    | (go_at_call 8; refine (KA.out _).mono ?_; rintro e W1 ⟨rfl, hb⟩; have HH1 := hide (HH.out.keep hb); clear hb; obtain ⟨x0, x1, x2⟩ := HH1.out.cells)
    | (go_at_call 9; refine (K9.out _).mono ?_; rintro e W2 ⟨rfl, hs, hb⟩; have HH2 := hide (HH1.out.keep hb); have HS2 := hide hs; clear hb hs))
  have HB1 := hide HH1.out.bel.size
  clear x0 x1 x2 HH HH1
  obtain ⟨g, hg⟩ : ∃ g, W1.heap.size = g := ⟨_, rfl⟩
  rw [hg] at HS2 HB1 ⊢
  clear hg
  obtain ⟨x0, x1, x2⟩ := HH2.out.cells
  go_upto_region 5 with (go_at_call 10; refine (K10.out _).mono ?_; rintro e W3 ⟨rfl, hb⟩; have HH3 := hide (HH2.out.keep hb); have HS3 := hide (HS2.out.keep hb); clear hb)
  clear x0 x1 x2 HH2 HS2 K9 K10 KA
  obtain ⟨hm, hhm⟩ : ∃ hm, W3.heap.size = hm := ⟨_, rfl⟩
  have HW0 : Hid (PW w0 (W3.alloc (.cells #[.int .i64 n, .int .i64 p, .int .i64 a, .int .i64 0, .int .i64 0, .int .i64 0, .int .i64 0, .int .i64 0, .int .i64 0, .int .i64 0] 33)) g hm (shN n a p) (shN n a p)) := hide (by
    have hb : Below W3.heap.size W3 (W3.alloc (.cells #[.int .i64 n, .int .i64 p, .int .i64 a, .int .i64 0, .int .i64 0, .int .i64 0, .int .i64 0, .int .i64 0, .int .i64 0, .int .i64 0] 33)) := (Below.refl _ _).alloc (Nat.le_refl _) _
    have hl := HS3.out.lt
    have h3 := HH3.out.bel.size
    exact ⟨HS3.out.keep hb, by rw [← hhm]; exact heap_new _ _, (HH3.out.keep hb).bel, by omega, HB1.out, by omega⟩)
  try rw [hhm]
  clear hhm HS3 HH3 HB1
  generalize W3.alloc (.cells #[.int .i64 n, .int .i64 p, .int .i64 a, .int .i64 0, .int .i64 0, .int .i64 0, .int .i64 0, .int .i64 0, .int .i64 0, .int .i64 0] 33) = W4 at *
  go_wp2_with fail
  go_loopw [9] (fun v9 wr => ∃ (i : Nat) (S : Sh), v9 = .int .i64 i ∧ i ≤ m ∧ i ≤ 300 ∧ Hid (S.Ok ∧ 0 ≤ S.dn ∧ S.dn ≤ (i : Int)) ∧ Hid (PW w0 wr g hm S S)) (fun v9 _ => 300 - (intOf v9).toNat)
  case atStart => exact ⟨0, shN n a p, rfl, Nat.zero_le _, by omega, hide ⟨Hok.out, by show (0 : Int) ≤ 0; omega, by show (0 : Int) ≤ 0; omega⟩, HW0⟩
  case round =>
    obtain ⟨i, S, rfl, him, hi2, HO, HW⟩ := hrel
    by_cases hgo : i < m ∧ i < 300
    · have q0 : (i : Int) < (m : Int) := by omega
      have q1 : (i : Int) < 300 := by omega
      have q2 : (0 : Int) ≤ (i : Int) := by omega
      have hlt := hgo.1
      obtain ⟨o, ho⟩ : ∃ o, zs[i]? = some o := ⟨_, List.getElem?_eq_getElem (by rw [Hm.out]; exact hlt)⟩
      obtain ⟨b, off, rfl, z0, z1, z2, z3, z4⟩ := HV.out.at i o ho
      obtain ⟨kd, nn, ot, of, oo⟩ := o
      simp only at z0 z1 z2 z3 z4
      have y0 : wr.cell? ⟨b, off + i * 5, none⟩ = some (.int .i64 kd) := by rw [HW.out.bel.cell (p := ⟨b, off + i * 5, none⟩) (cell_lt z0)]; exact z0
      have y1 : wr.cell? ⟨b, off + i * 5 + 1, none⟩ = some (.int .i64 nn) := by rw [HW.out.bel.cell (p := ⟨b, off + i * 5 + 1, none⟩) (cell_lt z1)]; exact z1
      have y2 : wr.cell? ⟨b, off + i * 5 + 2, none⟩ = some (.int .i64 ot) := by rw [HW.out.bel.cell (p := ⟨b, off + i * 5 + 2, none⟩) (cell_lt z2)]; exact z2
      have y3 : wr.cell? ⟨b, off + i * 5 + 3, none⟩ = some (.int .i64 of) := by rw [HW.out.bel.cell (p := ⟨b, off + i * 5 + 3, none⟩) (cell_lt z3)]; exact z3
      have y4 : wr.cell? ⟨b, off + i * 5 + 4, none⟩ = some (.int .i64 oo) := by rw [HW.out.bel.cell (p := ⟨b, off + i * 5 + 4, none⟩) (cell_lt z4)]; exact z4
      clear z0 z1 z2 z3 z4 ho hlt hgo
      have hdn : Hid (0 ≤ S.dn ∧ S.dn ≤ 1000000) := hide ⟨HO.out.2.1, by have := HO.out.2.2; omega⟩
      have HW4 : Hid (PW w0 (wr.alloc (.cells #[.int .i64 kd, .int .i64 nn, .int .i64 ot, .int .i64 of, .int .i64 oo] 37)) g hm S S) := hide (HW.out.keep ((Below.refl _ _).alloc (Nat.le_refl _) _))
      have Hob := hide (heap_new wr (.cells #[.int .i64 kd, .int .i64 nn, .int .i64 ot, .int .i64 of, .int .i64 oo] 37))
      have Hog : Hid (g ≠ wr.heap.size) := hide (Nat.ne_of_lt HW.out.sh.lt)
      go_upto_region 12 with fail
      obtain ⟨ho, hho⟩ : ∃ ho, wr.heap.size = ho := ⟨_, rfl⟩
      rw [hho] at Hob Hog
      try rw [hho]
      clear hho HW y0 y1 y2 y3 y4
      generalize wr.alloc (.cells #[.int .i64 kd, .int .i64 nn, .int .i64 ot, .int .i64 of, .int .i64 oo] 37) = W4 at *
      have HOB : Hid (∀ W S', Chg W4 g S' W → W.cell? ⟨ho, 1, none⟩ = some (.int .i64 nn) ∧ W.cell? ⟨ho, 2, none⟩ = some (.int .i64 ot) ∧ W.cell? ⟨ho, 3, none⟩ = some (.int .i64 of) ∧ W.cell? ⟨ho, 4, none⟩ = some (.int .i64 oo)) := hide (fun W S' c => by
        have y := (c.gr.block ho (heap_lt Hob.out) (fun e => Hog.out (by cases e; rfl))).trans Hob.out
        exact ⟨(cells_at y 1).1, (cells_at y 2).1, (cells_at y 3).1, (cells_at y 4).1⟩)
      have o0 : W4.cell? ⟨ho, 0, none⟩ = some (.int .i64 kd) := (cells_at Hob.out 0).1
      have o1 : W4.cell? ⟨ho, 1, none⟩ = some (.int .i64 nn) := (cells_at Hob.out 1).1
      have o2 : W4.cell? ⟨ho, 2, none⟩ = some (.int .i64 ot) := (cells_at Hob.out 2).1
      have o3 : W4.cell? ⟨ho, 3, none⟩ = some (.int .i64 of) := (cells_at Hob.out 3).1
      have o4 : W4.cell? ⟨ho, 4, none⟩ = some (.int .i64 oo) := (cells_at Hob.out 4).1
      go_upto_block 2 with fail
      go_cut [6, 8] (fun v6 v8 wx => ∃ (cd : Int) (S' : Sh), v6 = .int .i64 cd ∧ v8 = .int .i64 cd ∧ Hid (S'.Ok ∧ 0 ≤ S'.dn ∧ S'.dn ≤ ((i + 1 : Nat) : Int)) ∧ Hid (PW w0 wx g hm S' S'))
      case first =>
         have HO1 : Hid (S.Ok ∧ 0 ≤ S.dn ∧ S.dn ≤ ((i + 1 : Nat) : Int)) := hide ⟨HO.out.1, HO.out.2.1, by have := HO.out.2.2; omega⟩
         by_cases k1 : kd = 1
         · subst k1
           have K := hide (as_any HW4.out.sh ot of oo)
           have KD : Hid (∀ W, _) := hide (fun W => ras_any S ot of oo W)
           have HO2 : Hid ((S.as ot of oo).Ok ∧ 0 ≤ (S.as ot of oo).dn ∧ (S.as ot of oo).dn ≤ ((i + 1 : Nat) : Int)) := hide ⟨HO.out.1.as ot of oo, by rw [Sh.dn_as]; exact HO1.out.2.1, by rw [Sh.dn_as]; exact HO1.out.2.2⟩
           generalize S.as ot of oo = R at *
           generalize S.asC ot of oo = cd at *
           go_wp2_with (first
             | (go_at_call 11; refine K.out.mono ?_; rintro e W5 ⟨rfl, hc⟩; have HW5 := hide (HW4.out.chg hc); obtain ⟨p1, p2, p3, p4⟩ := HOB.out _ _ hc; clear hc; obtain ⟨c0, c1, c2, c3, c4, c5, c6, c7, c8, c9, cf⟩ := cells10 HW5.out.mb)
             | (go_at_call 12; refine (KD.out _).mono ?_; rintro e W6 ⟨rfl, hb⟩; have HW6 := hide (HW5.out.keep hb); clear hb; obtain ⟨d0, d1, d2, d3, d4, d5, d6, d7, d8, d9, df⟩ := cells10 HW6.out.mb))
           go_meet
           exact ⟨cd, R, rfl, rfl, HO2, hide (HW6.out.put R)⟩
         have b1 : (kd == 1) = false := beq_eq_false_iff_ne.2 k1
         by_cases k2 : kd = 2
         · subst k2
           have K := hide (tick_any HW4.out.sh HO.out.1)
           have KD : Hid (∀ W, _) := hide (fun W => rtick_any S HO.out.1 W)
           have HO2 : Hid (S.tick.Ok ∧ 0 ≤ S.tick.dn ∧ S.tick.dn ≤ ((i + 1 : Nat) : Int)) := hide ⟨HO.out.1.tick, by rw [Sh.dn_tick]; exact HO1.out.2.1, by rw [Sh.dn_tick]; exact HO1.out.2.2⟩
           generalize S.tickK = xk at *
           generalize S.tickW = xw at *
           generalize S.tick = R at *
           have r1 : (xk != xk) = false := bne_self_eq_false _
           have r2 : (xw != xw) = false := bne_self_eq_false _
           go_upto_region 18 with (go_at_call 13; refine K.out.mono ?_; rintro e W5 ⟨rfl, hc⟩; have HW5 := hide (HW4.out.chg hc); clear hc)
           obtain ⟨hx, hhx⟩ : ∃ hx, W5.heap.size = hx := ⟨_, rfl⟩
           have HXB := hide (heap_new W5 (.cells #[.int .i64 xk, .int .i64 xw] 41))
           have HWx := hide (HW5.out.keep ((Below.refl _ _).alloc (Nat.le_refl _) (.cells #[.int .i64 xk, .int .i64 xw] 41)))
           have Hhx : Hid (hm ≠ W5.heap.size) := hide (Nat.ne_of_lt (heap_lt HW5.out.mb))
           rw [hhx] at HXB Hhx
           try rw [hhx]
           clear hhx HW5 o0 o1 o2 o3 o4
           generalize W5.alloc (.cells #[.int .i64 xk, .int .i64 xw] 41) = W7 at *
           obtain ⟨c0, c1, c2, c3, c4, c5, c6, c7, c8, c9, cf⟩ := cells10 HWx.out.mb
           clear cf
           have KD' := hide (KD.out W7)
           have HXK : Hid (∀ W, Below W7.heap.size W7 W → ((((((((((W.setCell ⟨hm, 0, none⟩ (.int .i64 R.n)).setCell ⟨hm, 1, none⟩ (.int .i64 R.pt)).setCell ⟨hm, 2, none⟩ (.int .i64 R.pl)).setCell ⟨hm, 3, none⟩ (.int .i64 R.st)).setCell ⟨hm, 4, none⟩ (.int .i64 R.was)).setCell ⟨hm, 5, none⟩ (.int .i64 R.tk)).setCell ⟨hm, 6, none⟩ (.int .i64 R.jt)).setCell ⟨hm, 7, none⟩ (.int .i64 R.jf)).setCell ⟨hm, 8, none⟩ (.int .i64 R.jo)).setCell ⟨hm, 9, none⟩ (.int .i64 R.dn)).cell? ⟨hx, 0, none⟩ = some (.int .i64 xk) ∧ ((((((((((W.setCell ⟨hm, 0, none⟩ (.int .i64 R.n)).setCell ⟨hm, 1, none⟩ (.int .i64 R.pt)).setCell ⟨hm, 2, none⟩ (.int .i64 R.pl)).setCell ⟨hm, 3, none⟩ (.int .i64 R.st)).setCell ⟨hm, 4, none⟩ (.int .i64 R.was)).setCell ⟨hm, 5, none⟩ (.int .i64 R.tk)).setCell ⟨hm, 6, none⟩ (.int .i64 R.jt)).setCell ⟨hm, 7, none⟩ (.int .i64 R.jf)).setCell ⟨hm, 8, none⟩ (.int .i64 R.jo)).setCell ⟨hm, 9, none⟩ (.int .i64 R.dn)).cell? ⟨hx, 1, none⟩ = some (.int .i64 xw)) := hide (fun W hb => by
             have y := (out_off W hm R hx (fun e => Hhx.out e.symm)).trans ((hb.block hx (heap_lt HXB.out)).trans HXB.out)
             exact ⟨(cells_at y 0).1, (cells_at y 1).1⟩)
           go_upto_region 20 with (go_at_call 14; refine KD'.out.mono ?_; rintro e W6 ⟨rfl, hb⟩; have HW6 := hide (HWx.out.keep hb); have HXW := hide (HXK.out _ hb); clear hb; obtain ⟨d0, d1, d2, d3, d4, d5, d6, d7, d8, d9, df⟩ := cells10 HW6.out.mb)
           have HW8 := hide (HW6.out.put R)
           obtain ⟨y0, y1⟩ := HXW.out
           clear HW6 HXW HXK HWx c0 c1 c2 c3 c4 c5 c6 c7 c8 c9 d0 d1 d2 d3 d4 d5 d6 d7 d8 d9 df
           generalize (((((((((W6.setCell ⟨hm, 0, none⟩ (.int .i64 R.n)).setCell ⟨hm, 1, none⟩ (.int .i64 R.pt)).setCell ⟨hm, 2, none⟩ (.int .i64 R.pl)).setCell ⟨hm, 3, none⟩ (.int .i64 R.st)).setCell ⟨hm, 4, none⟩ (.int .i64 R.was)).setCell ⟨hm, 5, none⟩ (.int .i64 R.tk)).setCell ⟨hm, 6, none⟩ (.int .i64 R.jt)).setCell ⟨hm, 7, none⟩ (.int .i64 R.jf)).setCell ⟨hm, 8, none⟩ (.int .i64 R.jo)).setCell ⟨hm, 9, none⟩ (.int .i64 R.dn) = W8 at *
           go_wp2_with fail
           go_meet
           exact ⟨0, R, rfl, rfl, HO2, HW8⟩
         have b2 : (kd == 2) = false := beq_eq_false_iff_ne.2 k2
         by_cases k3 : kd = 3
         · subst k3
           have K := hide (mv_any HW4.out.sh nn)
           have KD : Hid (∀ W, _) := hide (fun W => rmv_any S nn W)
           have HO2 : Hid ((S.mv nn).Ok ∧ 0 ≤ (S.mv nn).dn ∧ (S.mv nn).dn ≤ ((i + 1 : Nat) : Int)) := hide ⟨HO.out.1.mv nn, by rw [Sh.dn_mv]; exact HO1.out.2.1, by rw [Sh.dn_mv]; exact HO1.out.2.2⟩
           generalize S.mv nn = R at *
           generalize S.mvC nn = cd at *
           go_wp2_with (first
             | (go_at_call 15; refine K.out.mono ?_; rintro e W5 ⟨rfl, hc⟩; have HW5 := hide (HW4.out.chg hc); obtain ⟨p1, p2, p3, p4⟩ := HOB.out _ _ hc; clear hc; obtain ⟨c0, c1, c2, c3, c4, c5, c6, c7, c8, c9, cf⟩ := cells10 HW5.out.mb)
             | (go_at_call 16; refine (KD.out _).mono ?_; rintro e W6 ⟨rfl, hb⟩; have HW6 := hide (HW5.out.keep hb); clear hb; obtain ⟨d0, d1, d2, d3, d4, d5, d6, d7, d8, d9, df⟩ := cells10 HW6.out.mb))
           go_meet
           exact ⟨cd, R, rfl, rfl, HO2, hide (HW6.out.put R)⟩
         have b3 : (kd == 3) = false := beq_eq_false_iff_ne.2 k3
         by_cases k4 : kd = 4
         · subst k4
           have K := hide (pk_any HW4.out.sh nn)
           have KD : Hid (∀ W, _) := hide (fun W => rpk_any S nn W hdn.out)
           have HO2 : Hid ((S.pk nn).Ok ∧ 0 ≤ (S.pk nn).dn ∧ (S.pk nn).dn ≤ ((i + 1 : Nat) : Int)) := hide ⟨HO.out.1.pk nn, by rw [Sh.dn_pk]; exact HO1.out.2.1, by rw [Sh.dn_pk]; exact HO1.out.2.2⟩
           generalize S.pk nn = R at *
           generalize S.hdC 2 nn = cd at *
           go_wp2_with (first
             | (go_at_call 17; refine K.out.mono ?_; rintro e W5 ⟨rfl, hc⟩; have HW5 := hide (HW4.out.chg hc); obtain ⟨p1, p2, p3, p4⟩ := HOB.out _ _ hc; clear hc; obtain ⟨c0, c1, c2, c3, c4, c5, c6, c7, c8, c9, cf⟩ := cells10 HW5.out.mb)
             | (go_at_call 18; refine (KD.out _).mono ?_; rintro e W6 ⟨rfl, hb⟩; have HW6 := hide (HW5.out.keep hb); clear hb; obtain ⟨d0, d1, d2, d3, d4, d5, d6, d7, d8, d9, df⟩ := cells10 HW6.out.mb))
           go_meet
           exact ⟨cd, R, rfl, rfl, HO2, hide (HW6.out.put R)⟩
         have b4 : (kd == 4) = false := beq_eq_false_iff_ne.2 k4
         by_cases k5 : kd = 5
         · subst k5
           have K := hide (dp_any HW4.out.sh nn hdn.out)
           have KD : Hid (∀ W, _) := hide (fun W => rdp_any S nn W hdn.out)
           have HO2 : Hid ((S.dp nn).Ok ∧ 0 ≤ (S.dp nn).dn ∧ (S.dp nn).dn ≤ ((i + 1 : Nat) : Int)) := hide ⟨HO.out.1.dp nn, by rw [Sh.dn_dp]; have := HO.out.2; split <;> omega, by rw [Sh.dn_dp]; have := HO.out.2; split <;> omega⟩
           generalize S.dp nn = R at *
           generalize S.hdC 4 nn = cd at *
           go_wp2_with (first
             | (go_at_call 19; refine K.out.mono ?_; rintro e W5 ⟨rfl, hc⟩; have HW5 := hide (HW4.out.chg hc); obtain ⟨p1, p2, p3, p4⟩ := HOB.out _ _ hc; clear hc; obtain ⟨c0, c1, c2, c3, c4, c5, c6, c7, c8, c9, cf⟩ := cells10 HW5.out.mb)
             | (go_at_call 18; refine (KD.out _).mono ?_; rintro e W6 ⟨rfl, hb⟩; have HW6 := hide (HW5.out.keep hb); clear hb; obtain ⟨d0, d1, d2, d3, d4, d5, d6, d7, d8, d9, df⟩ := cells10 HW6.out.mb))
           go_meet
           exact ⟨cd, R, rfl, rfl, HO2, hide (HW6.out.put R)⟩
         have b5 : (kd == 5) = false := beq_eq_false_iff_ne.2 k5
         by_cases k6 : kd = 6
         · subst k6
           have K := hide (rs_any HW4.out.sh)
           have KD : Hid (∀ W, _) := hide (fun W => rrs_any S W)
           have HO2 : Hid ((S.rs).Ok ∧ 0 ≤ (S.rs).dn ∧ (S.rs).dn ≤ ((i + 1 : Nat) : Int)) := hide ⟨HO.out.1.rs, by rw [Sh.dn_rs]; exact HO1.out.2.1, by rw [Sh.dn_rs]; exact HO1.out.2.2⟩
           generalize S.rs = R at *
           generalize S.rsC = cd at *
           go_wp2_with (first
             | (go_at_call 20; refine K.out.mono ?_; rintro e W5 ⟨rfl, hc⟩; have HW5 := hide (HW4.out.chg hc); obtain ⟨p1, p2, p3, p4⟩ := HOB.out _ _ hc; clear hc; obtain ⟨c0, c1, c2, c3, c4, c5, c6, c7, c8, c9, cf⟩ := cells10 HW5.out.mb)
             | (go_at_call 21; refine (KD.out _).mono ?_; rintro e W6 ⟨rfl, hb⟩; have HW6 := hide (HW5.out.keep hb); clear hb; obtain ⟨d0, d1, d2, d3, d4, d5, d6, d7, d8, d9, df⟩ := cells10 HW6.out.mb))
           go_meet
           exact ⟨cd, R, rfl, rfl, HO2, hide (HW6.out.put R)⟩
         have b6 : (kd == 6) = false := beq_eq_false_iff_ne.2 k6
         go_wp2_with fail
         go_meet
         exact ⟨0, S, rfl, rfl, HO1, HW4⟩
      case rest =>
         obtain ⟨cd, R, rfl, rfl, HO2, HWc⟩ := hcut
         clear HW4 Hob Hog HOB o0 o1 o2 o3 o4 HO hdn
         have K22 := hide (tells_any HWc.out.sh)
         obtain ⟨c0, c1, c2, c3, c4, c5, c6, c7, c8, c9, cf⟩ := cells10 HWc.out.mb
         clear cf
         have r1 : (cd != cd) = false := bne_self_eq_false _
         go_wp2_with (go_at_call 22; refine K22.out.mono ?_; rintro e W6 ⟨rfl, hb⟩; have HW6 := hide (HWc.out.keep hb); clear hb)
         go_roundw
         case rel => exact ⟨i + 1, R, by go_num, by omega, by omega, HO2, HW6⟩
         case measure => simp [intOf]; omega
    · by_cases hlt : i < m
      · have q0 : (i : Int) < (m : Int) := by omega
        have q1 : ¬ (i : Int) < 300 := by omega
        clear hlt hgo
        go_wp2_with fail
        go_ret
        exact ⟨rfl, HW.out.bel⟩
      · have q0 : ¬ (i : Int) < (m : Int) := by omega
        clear hlt hgo
        go_wp2_with fail
        go_ret
        exact ⟨rfl, HW.out.bel⟩
end Go.Proofs.Ytjmmkkjabpcihaa
