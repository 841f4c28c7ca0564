/- The document's Tick. -/
import Derived.Test.YteihajppgooadaaRbx
namespace Go.Proofs.Yteihajppgooadaa
open Go.RowKit
set_option linter.unusedVariables false

def rdue (pause : Int) (p : Rp) : Bool := decide (p.sent = 0 ∨ pause ≤ p.ago + 1)
def rtk (pause : Int) (p : Rp) : Rp := if rdue pause p then { p with sent := p.sent + 1, ago := 0 } else { p with ago := p.ago + 1 }
def rends (pause times : Int) (p : Rp) : Bool := rdue pause p && decide (times ≤ p.sent)
def routs (pause : Int) (ps : List Rp) : List Rp := (ps.filter (rdue pause)).map (rtk pause)

/-- the call's world: its two boxes, its two rows -/
structure Tst (w W : World) (g : Nat) (C : Array Value) (vo vn : Value) (os ns : List Rp) : Prop where
  b0 : W.heap[g]? = some (.cells C 33)
  b1 : W.heap[g + 1]? = some (.cells #[.int .i64 0, .int .i64 0, .int .i64 0, .int .u16 0, .int .i64 0, .slice none 0 0, .bool false] 33)
  o1 : rE.Own W w.heap.size vo os
  o2 : rE.Own W w.heap.size vn ns
  sep : Sep vo vn
  bel : Below w.heap.size w W
  gg : w.heap.size ≤ g
theorem Tst.keep {w W W' : World} {g : Nat} {C : Array Value} {vo vn : Value} {os ns : List Rp} (h : Tst w W g C vo vn os ns) (hb : Below W.heap.size W W') : Tst w W' g C vo vn os ns :=
  ⟨by rw [hb.block _ (heap_lt h.b0)]; exact h.b0, by rw [hb.block _ (heap_lt h.b1)]; exact h.b1, h.o1.keep hb, h.o2.keep hb, h.sep, h.bel.trans (hb.mono h.bel.size), h.gg⟩
theorem own_box {w : World} {B g i : Nat} {C : Array Value} {v u : Value} {ps : List Rp} (h : rE.Own w B v ps) (hb : w.heap[g]? = some (.cells C 33)) : rE.Own (w.setCell ⟨g, i, none⟩ u) B v ps :=
  own_chg h fun k cur _ hc => Below.heap_setCell _ _ _ _ fun e => by
    have e' : k = g := e
    rw [e', hb] at hc; simp only [Option.some.injEq, Obj.cells.injEq] at hc; exact absurd hc.2.1 (show ¬ (33 : TypeId) = 85 by decide)
theorem Tst.put {w W : World} {g : Nat} {C : Array Value} {vo vn : Value} {os ns : List Rp} (h : Tst w W g C vo vn os ns) (i : Nat) (u : Value) : Tst w (W.setCell ⟨g, i, none⟩ u) g (C.setIfInBounds i u) vo vn os ns :=
  ⟨heap_put h.b0 u, by rw [Below.heap_setCell _ _ _ _ (show g + 1 ≠ g by omega)]; exact h.b1, own_box h.o1 h.b0, own_box h.o2 h.b0, h.sep, h.bel.setCell (p := ⟨g, i, none⟩) h.gg u, h.gg⟩
theorem row_box {w : World} {B g : Nat} {C : Array Value} {v : Value} {ps : List Rp} (h : rE.Own w B v ps) (hb : w.heap[g]? = some (.cells C 33)) : some g ≠ v.ownBlock := fun e => by
  obtain ⟨cur, hc, _⟩ := own_cells h g e.symm
  rw [hb] at hc; simp only [Option.some.injEq, Obj.cells.injEq] at hc; exact absurd hc.2.1 (show ¬ (33 : TypeId) = 85 by decide)
theorem Tst.app1 {w W W' : World} {g : Nat} {C : Array Value} {vo vn v' : Value} {os ns os' : List Rp} (h : Tst w W g C vo vn os ns) (ho : rE.Own W' w.heap.size v' os') (hg : W.grownBy W' vo.ownBlock) (hz : v'.ownBlock = vo.ownBlock ∨ v'.ownBlock = some W.heap.size) : Tst w W' g C v' vn os' ns :=
  ⟨by rw [hg.block _ (heap_lt h.b0) (row_box h.o1 h.b0)]; exact h.b0, by rw [hg.block _ (heap_lt h.b1) (row_box h.o1 h.b1)]; exact h.b1, ho, El.Own.kept h.sep h.o2 hg, El.Own.sep h.sep h.o2 hz, h.bel.grown hg h.bel.size (fun k hk => h.o1.ge k hk), h.gg⟩
theorem Tst.app2 {w W W' : World} {g : Nat} {C : Array Value} {vo vn v' : Value} {os ns ns' : List Rp} (h : Tst w W g C vo vn os ns) (ho : rE.Own W' w.heap.size v' ns') (hg : W.grownBy W' vn.ownBlock) (hz : v'.ownBlock = vn.ownBlock ∨ v'.ownBlock = some W.heap.size) : Tst w W' g C vo v' os ns' :=
  ⟨by rw [hg.block _ (heap_lt h.b0) (row_box h.o2 h.b0)]; exact h.b0, by rw [hg.block _ (heap_lt h.b1) (row_box h.o2 h.b1)]; exact h.b1, El.Own.kept h.sep.symm h.o1 hg, ho, (El.Own.sep h.sep.symm h.o1 hz).symm, h.bel.grown hg h.bel.size (fun k hk => h.o2.ge k hk), h.gg⟩

theorem Tst.side {w W : World} {g : Nat} {C : Array Value} {vo vn : Value} {os ns : List Rp} (h : Tst w W g C vo vn os ns) (q i : Nat) (u : Value) (hq : w.heap.size ≤ q) (h0 : g ≠ q) (h1 : g + 1 ≠ q) (h2 : vo.ownBlock ≠ some q) (h3 : vn.ownBlock ≠ some q) : Tst w (W.setCell ⟨q, i, none⟩ u) g C vo vn os ns :=
  ⟨by rw [Below.heap_setCell _ _ _ _ h0]; exact h.b0, by rw [Below.heap_setCell _ _ _ _ h1]; exact h.b1, own_chg h.o1 (fun k cur hk _ => Below.heap_setCell _ _ _ _ (fun e => h2 (by rw [hk]; exact congrArg some e))), own_chg h.o2 (fun k cur hk _ => Below.heap_setCell _ _ _ _ (fun e => h3 (by rw [hk]; exact congrArg some e))), h.sep, h.bel.setCell (p := ⟨q, i, none⟩) hq u, h.gg⟩
theorem routs_next (pause : Int) (ps : List Rp) (k : Nat) (p : Rp) (hp : ps[k]? = some p) : routs pause (ps.take (k + 1)) = if rdue pause p then routs pause (ps.take k) ++ [rtk pause p] else routs pause (ps.take k) := by
  unfold routs
  rw [List.take_add_one, hp]
  by_cases h : rdue pause p = true <;> simp [h]
theorem rtks_next (pause : Int) (ps : List Rp) (k : Nat) (p : Rp) (hp : ps[k]? = some p) : (ps.take (k + 1)).map (rtk pause) = (ps.take k).map (rtk pause) ++ [rtk pause p] := by
  rw [List.take_add_one, hp]; simp
theorem rends_next (pause times : Int) (ps : List Rp) (k : Nat) (p : Rp) (hp : ps[k]? = some p) : (ps.take (k + 1)).any (rends pause times) = ((ps.take k).any (rends pause times) || rends pause times p) := by
  rw [List.take_add_one, hp]; simp
theorem routs_len (pause : Int) (ps : List Rp) : (routs pause ps).length ≤ ps.length := by unfold routs; rw [List.length_map]; exact List.length_filter_le _ _

/-- what the document's Tick answers -/
def RTick (win pause times first count : Int) (av : Option Addr) (cv : Nat) (ps : List Rp) (w : World) (e : Ending) (w' : World) : Prop :=
  (ps.any (rends pause times) = true ∧ e = .returned (.tuple #[.agg #[.int .i64 win, .int .i64 pause, .int .i64 times, .int .u16 first, .int .i64 count, .slice av ps.length cv, .bool true], .slice none 0 0, .int .i64 190])) ∨
  (ps.any (rends pause times) = false ∧ ∃ vo vn, e = .returned (.tuple #[.agg #[.int .i64 win, .int .i64 pause, .int .i64 times, .int .u16 first, .int .i64 count, vn, .bool false], vo, .int .i64 0]) ∧ rE.Own w' w.heap.size vo (routs pause ps) ∧ rE.Own w' w.heap.size vn (ps.map (rtk pause)))

set_option maxRecDepth 100000 in
set_option maxHeartbeats 8000000 in
theorem rtick_any (win pause times first count : Int) (av : Option Addr) (cv : Nat) (ps : List Rp) (w : World) (hv : rE.Rd w (.slice av ps.length cv) ps) (hl : ps.length ≤ 1000) (hs : ∀ p ∈ ps, 0 ≤ p.sent ∧ p.sent ≤ 1000 ∧ 0 ≤ p.ago ∧ p.ago ≤ 100000) :
    Calls Try.prog 15 #[.agg #[.int .i64 win, .int .i64 pause, .int .i64 times, .int .u16 first, .int .i64 count, .slice av ps.length cv, .bool false]] w fun e w' => Below w.heap.size w w' ∧ RTick win pause times first count av cv ps w e w' := by
  obtain ⟨hb0, hb1, hB⟩ := two_boxes w #[.int .i64 win, .int .i64 pause, .int .i64 times, .int .u16 first, .int .i64 count, .slice av ps.length cv, .bool false] #[.int .i64 0, .int .i64 0, .int .i64 0, .int .u16 0, .int .i64 0, .slice none 0 0, .bool false]
  obtain ⟨W0, hW0⟩ : ∃ W0, (w.alloc (.cells #[.int .i64 win, .int .i64 pause, .int .i64 times, .int .u16 first, .int .i64 count, .slice av ps.length cv, .bool false] 33)).alloc (.cells #[.int .i64 0, .int .i64 0, .int .i64 0, .int .u16 0, .int .i64 0, .slice none 0 0, .bool false] 33) = W0 := ⟨_, rfl⟩
  rw [hW0] at hb0 hb1 hB
  have Hv := hide hv
  obtain ⟨n, hn⟩ : ∃ n, ps.length = n := ⟨_, rfl⟩
  rw [hn] at hb0 hW0 hl Hv ⊢
  have Hn := hide hn
  have hl2 : (n : Int) ≤ 1000 := by omega
  have HT : Hid (Tst w W0 w.heap.size #[.int .i64 win, .int .i64 pause, .int .i64 times, .int .u16 first, .int .i64 count, .slice av n cv, .bool false] (.slice none 0 0) (.slice none 0 0) [] []) := hide ⟨hb0, hb1, El.Own.nil _ _ _, El.Own.nil _ _ _, (fun k hk => by cases hk), hB, Nat.le_refl _⟩
  have k5 := (cells_at hb0 5).1
  have k6 := (cells_at hb0 6).1
  simp at k5 k6
  have Hs := hide hs
  clear hb0 hb1 hB hl hv hs hn
  obtain ⟨g, hg⟩ : ∃ g, w.heap.size = g := ⟨_, rfl⟩
  have Hg := hide hg
  go_enter Try.func15, Try.ntmps15
  rw [hg] at k5 k6 HT
  go_upto_region 3 with fail
  clear hg
  go_wp2_with fail
  clear k5 k6 hW0
  go_loopw [5, 6, 15] (fun v5 v6 v15 wr => ∃ (k : Nat) (d : Bool), k ≤ n ∧ v15 = .int .i64 k ∧ Hid (d = (ps.take k).any (rends pause times)) ∧ Hid (Tst w wr g #[.int .i64 win, .int .i64 pause, .int .i64 times, .int .u16 first, .int .i64 count, .slice av n cv, .bool d] v5 v6 (routs pause (ps.take k)) ((ps.take k).map (rtk pause)))) (fun _ _ v15 _ => n - (intOf v15).toNat)
  case atStart => exact ⟨0, false, by omega, rfl, hide (by simp), by simpa [routs] using HT⟩
  case round =>
    clear HT
    obtain ⟨k, d, hk, rfl, Hd, HT⟩ := hrel
    by_cases hlt : k < n
    · obtain ⟨p, hp⟩ : ∃ p, ps[k]? = some p := ⟨_, List.getElem?_eq_getElem (by rw [Hn.out]; exact hlt)⟩
      obtain ⟨b, off, rfl, x0, x1, x2, x3⟩ := rd_at (Hv.out.keep HT.out.bel) k p hp
      obtain ⟨s0, s1, s2, s3⟩ := Hs.out p (List.mem_of_getElem? hp)
      have k5 := (cells_at HT.out.b0 5).1
      simp at k5
      have Hp := hide hp
      have j0 : (0 : Int) ≤ (k : Int) := by omega
      have j1 : (k : Int) < (n : Int) := by omega
      have hq := box_new wr (.cells #[.int .i64 p.n, .string p.d, .int .i64 p.sent, .int .i64 p.ago] 85)
      have HbA : Hid (Below wr.heap.size wr (wr.alloc (.cells #[.int .i64 p.n, .string p.d, .int .i64 p.sent, .int .i64 p.ago] 85))) := hide ((Below.refl _ _).alloc (Nat.le_refl _) _)
      have HTA := hide (HT.out.keep HbA.out)
      have Hq := hide hq
      obtain ⟨q, hqe⟩ : ∃ q, wr.heap.size = q := ⟨_, rfl⟩
      have Hqe := hide hqe
      obtain ⟨ro, hro⟩ : ∃ ro, routs pause (ps.take k) = ro := ⟨_, rfl⟩
      obtain ⟨rn, hrn⟩ : ∃ rn, (ps.take k).map (rtk pause) = rn := ⟨_, rfl⟩
      have Hlo : Hid (ro.length ≤ 1000 ∧ rn.length ≤ 1000) := hide (by rw [← hro, ← hrn]; have := routs_len pause (ps.take k); rw [List.length_map]; rw [List.length_take] at *; omega)
      have Hro : Hid (routs pause (ps.take (k + 1)) = if rdue pause p then ro ++ [rtk pause p] else ro) := hide (by rw [routs_next pause ps k p Hp.out, hro])
      have Hrn : Hid ((ps.take (k + 1)).map (rtk pause) = rn ++ [rtk pause p]) := hide (by rw [rtks_next pause ps k p Hp.out, hrn])
      have Hdn := hide (rends_next pause times ps k p Hp.out)
      rw [← Hd.out] at Hdn
      rw [hro, hrn] at HT HTA
      have HqT : Hid (∀ B, (u5.ownBlock = some B → B < q) ∧ (u6.ownBlock = some B → B < q)) := hide (fun B => ⟨fun h => hqe ▸ HT.out.o1.lt B h, fun h => hqe ▸ HT.out.o2.lt B h⟩)
      have Hps : Hid (Below wr.heap.size wr wr) := hide (Below.refl _ _)
      clear hq hp hro hrn Hps
      rw [hqe] at Hq
      go_upto_region 8 with fail
      try rw [hqe]
      clear hqe x0 x1 x2 x3 k5
      generalize wr.alloc (.cells #[.int .i64 p.n, .string p.d, .int .i64 p.sent, .int .i64 p.ago] 85) = W1 at *
      have y2 := (cells_at Hq.out 2).1
      have y3 := (cells_at Hq.out 3).1
      have f3 := (cells_at Hq.out 3).2
      simp at y2 y3
      have hq2 := heap_put (i := 3) Hq.out (.int .i64 (p.ago + 1))
      have hb2 : Below wr.heap.size wr (W1.setCell ⟨q, 3, none⟩ (.int .i64 (p.ago + 1))) := HbA.out.setCell (p := ⟨q, 3, none⟩) (by rw [Hqe.out]; exact Nat.le_refl _) _
      have HT2 := hide (HT.out.keep hb2)
      have Hq2 : Hid ((W1.setCell ⟨q, 3, none⟩ (.int .i64 (p.ago + 1))).heap[q]? = some (.cells #[.int .i64 p.n, .string p.d, .int .i64 p.sent, .int .i64 (p.ago + 1)] 85)) := hide hq2
      have Hb2 := hide hb2
      clear hq2 hb2
      go_upto_region 9 with fail
      generalize W1.setCell ⟨q, 3, none⟩ (.int .i64 (p.ago + 1)) = W2 at *
      clear y2 y3 f3 HTA HbA Hq
      have y2 := (cells_at Hq2.out 2).1
      have y3 := (cells_at Hq2.out 3).1
      simp at y2 y3
      have k1 := (cells_at HT2.out.b0 1).1
      have k2 := (cells_at HT2.out.b0 2).1
      simp at k1 k2
      obtain ⟨du, hdu⟩ : ∃ du, rdue pause p = du := ⟨_, rfl⟩
      have Hdu := hide hdu
      clear hdu
      rw [Hdu.out] at Hro
      have HRt : Hid (rtk pause p = if du then { p with sent := p.sent + 1, ago := 0 } else { p with ago := p.ago + 1 }) := hide (by unfold rtk; rw [Hdu.out])
      have Hde : Hid (rends pause times p = (du && decide (times ≤ p.sent))) := hide (by unfold rends; rw [Hdu.out])
      go_cut [36] (fun v36 wx => v36 = .bool du ∧ W2 = wx)
      case first =>
        by_cases h0 : p.sent = 0
        · have e : du = true := by rw [← Hdu.out]; unfold rdue; exact decide_eq_true (.inl h0)
          have E := hide e
          rw [h0] at y2
          clear e HRt Hde Hro
          go_wp2_with fail
          go_meet
          exact ⟨by rw [E.out], rfl⟩
        · by_cases h1 : pause ≤ p.ago + 1
          · have e : du = true := by rw [← Hdu.out]; unfold rdue; exact decide_eq_true (.inr h1)
            have E := hide e
            clear e
            go_wp2_with fail
            go_meet
            exact ⟨by rw [E.out], rfl⟩
          · have e : du = false := by rw [← Hdu.out]; unfold rdue; exact decide_eq_false (by omega)
            have E := hide e
            clear e
            go_wp2_with fail
            go_meet
            exact ⟨by simp [E.out, h0], rfl⟩
      case rest =>
      obtain ⟨rfl, rfl⟩ := hcut
      have Hqg : Hid (g + 1 < q ∧ w.heap.size ≤ q) := hide ⟨by rw [← Hqe.out]; exact heap_lt HT.out.b1, by rw [← Hqe.out]; exact HT.out.bel.size⟩
      have Hq5 : Hid (u5.ownBlock ≠ some q) := hide (fun h => by have := (HqT.out q).1 h; omega)
      have Hq6 : Hid (u6.ownBlock ≠ some q) := hide (fun h => by have := (HqT.out q).2 h; omega)
      obtain ⟨P, hP⟩ : ∃ P, rtk pause p = P := ⟨_, rfl⟩
      rw [hP] at Hro Hrn HRt
      have HP := hide hP
      have HTw := hide HT.out.bel
      obtain ⟨ed, hed⟩ : ∃ ed, rends pause times p = ed := ⟨_, rfl⟩
      rw [hed] at Hde Hdn
      clear hP HT Hb2 hed
      go_upto_if 36 with fail
      go_cut [5] (fun v5 wx => ∃ vo', vo' = v5 ∧ Hid (Tst w wx g #[.int .i64 win, .int .i64 pause, .int .i64 times, .int .u16 first, .int .i64 count, .slice (some ⟨b, off, none⟩) n cv, .bool (d || ed)] vo' u6 (if du then ro ++ [P] else ro) rn) ∧ Hid (vo'.ownBlock ≠ some q) ∧ Hid (wx.heap[q]? = some (.cells #[.int .i64 P.n, .string P.d, .int .i64 P.sent, .int .i64 P.ago] 85)))
      case first =>
        cases du with
        | true =>
          obtain ⟨P1, hP1⟩ : ∃ P1 : Rp, P1 = { p with sent := p.sent + 1, ago := 0 } := ⟨_, rfl⟩
          have HP1 : Hid (P = P1) := hide (by rw [HRt.out, hP1]; rfl)
          clear hP1
          go_upto_if 41 with fail
          go_cut [] (fun wx => Hid (Tst w wx g #[.int .i64 win, .int .i64 pause, .int .i64 times, .int .u16 first, .int .i64 count, .slice (some ⟨b, off, none⟩) n cv, .bool (d || ed)] u5 u6 ro rn) ∧ Hid (wx.heap[q]? = some (.cells #[.int .i64 p.n, .string p.d, .int .i64 p.sent, .int .i64 (p.ago + 1)] 85)))
          case first =>
            by_cases ht : times ≤ p.sent
            · have e : (d || ed) = true := by rw [Hde.out, decide_eq_true ht]; simp
              have k6 := (cells_at HT2.out.b0 6).1
              have kf := (cells_at HT2.out.b0 6).2
              simp at k6
              have HT3 : Hid (Tst w (W2.setCell ⟨g, 6, none⟩ (.bool true)) g #[.int .i64 win, .int .i64 pause, .int .i64 times, .int .u16 first, .int .i64 count, .slice (some ⟨b, off, none⟩) n cv, .bool true] u5 u6 ro rn) := hide (HT2.out.put 6 (.bool true))
              have Hq3 : Hid ((W2.setCell ⟨g, 6, none⟩ (.bool true)).heap[q]? = some (.cells #[.int .i64 p.n, .string p.d, .int .i64 p.sent, .int .i64 (p.ago + 1)] 85)) := hide (by rw [Below.heap_setCell _ _ _ _ (show q ≠ g by have := Hqg.out; omega)]; exact Hq2.out)
              have E := hide e
              clear e Hde
              go_wp2_with fail
              go_meet
              exact ⟨by rw [E.out]; exact HT3, Hq3⟩
            · have e : (d || ed) = d := by rw [Hde.out, decide_eq_false ht]; simp
              have E := hide e
              clear e Hde
              go_wp2_with fail
              go_meet
              exact ⟨by rw [E.out]; exact HT2, Hq2⟩
          case rest =>
          obtain ⟨HT3, Hq3⟩ := hcut
          clear HT2 Hq2 y2 y3 k1 k2
          have y2 := (cells_at Hq3.out 2).1
          have y3 := (cells_at Hq3.out 3).1
          have f2 := (cells_at Hq3.out 2).2
          have f3 := (cells_at Hq3.out 3).2
          simp at y2 y3
          have hq4 := heap_put (i := 3) (heap_put (i := 2) Hq3.out (.int .i64 (p.sent + 1))) (.int .i64 0)
          have HT4 := hide ((HT3.out.side q 2 (.int .i64 (p.sent + 1)) Hqg.out.2 (by have := Hqg.out; omega) (by have := Hqg.out; omega) Hq5.out Hq6.out).side q 3 (.int .i64 0) Hqg.out.2 (by have := Hqg.out; omega) (by have := Hqg.out; omega) Hq5.out Hq6.out)
          have Hq4 : Hid (((wc.setCell ⟨q, 2, none⟩ (.int .i64 (p.sent + 1))).setCell ⟨q, 3, none⟩ (.int .i64 0)).heap[q]? = some (.cells #[.int .i64 p.n, .string p.d, .int .i64 (p.sent + 1), .int .i64 0] 85)) := hide hq4
          clear hq4
          go_upto_region 14 with fail
          generalize (wc.setCell ⟨q, 2, none⟩ (.int .i64 (p.sent + 1))).setCell ⟨q, 3, none⟩ (.int .i64 0) = W4 at *
          clear y2 y3 f2 f3 HT3 Hq3
          have y0 := (cells_at Hq4.out 0).1
          have y1 := (cells_at Hq4.out 1).1
          have y2 := (cells_at Hq4.out 2).1
          have y3 := (cells_at Hq4.out 3).1
          simp at y0 y1 y2 y3
          have bX : Below W4.heap.size W4 (W4.alloc (.cells #[.int .i64 p.n, .string p.d, .int .i64 (p.sent + 1), .int .i64 0] 85)) := (Below.refl _ _).alloc (Nat.le_refl _) _
          have HTX := hide (HT4.out.keep bX)
          have HqX : Hid ((W4.alloc (.cells #[.int .i64 p.n, .string p.d, .int .i64 (p.sent + 1), .int .i64 0] 85)).heap[q]? = some (.cells #[.int .i64 p.n, .string p.d, .int .i64 (p.sent + 1), .int .i64 0] 85)) := hide (by rw [bX.block _ (heap_lt Hq4.out)]; exact Hq4.out)
          clear bX
          go_wp2_with (at_builtin; refine rE.step0 (B := w.heap.size) HTX.out.bel.size (by rfl) _ _ rfl _ _ rfl rfl ro [⟨p.n, p.d, p.sent + 1, 0⟩] HTX.out.o1 (rp_new W4 ⟨p.n, p.d, p.sent + 1, 0⟩ _ rfl) (by have := Hlo.out; simp; omega) ?_; intro v7 w7 ho7 hg7 hz7; refine Hid.out ?_)
          refine hide ?_
          have HT5 := hide (HTX.out.app1 ho7 hg7 hz7)
          have Hq7 : Hid (w7.heap[q]? = some (.cells #[.int .i64 p.n, .string p.d, .int .i64 (p.sent + 1), .int .i64 0] 85)) := hide (by rw [hg7.block _ (heap_lt HqX.out) (fun e => Hq5.out e.symm)]; exact HqX.out)
          have Hv7 : Hid (v7.ownBlock ≠ some q) := hide (fun e => by
            rcases hz7 with h | h
            · exact Hq5.out (h.symm.trans e)
            · rw [h] at e
              simp only [Option.some.injEq] at e
              have := heap_lt HqX.out
              omega)
          clear ho7 hg7 hz7 HTX HqX HT4 Hq4 y0 y1 y2 y3
          go_wp2_with fail
          go_meet
          refine ⟨_, rfl, ?_, Hv7, ?_⟩
          · have e : P = ⟨p.n, p.d, p.sent + 1, 0⟩ := by rw [HRt.out]; rfl
            rw [e]; exact HT5
          · have e : P = ⟨p.n, p.d, p.sent + 1, 0⟩ := by rw [HRt.out]; rfl
            rw [e]; exact Hq7
        | false =>
          have e : (d || ed) = d := by rw [Hde.out]; simp
          have e2 : P = { p with ago := p.ago + 1 } := by rw [HRt.out]; rfl
          have E := hide e
          have E2 := hide e2
          clear e e2 Hde
          go_wp2_with fail
          go_meet
          exact ⟨_, rfl, by rw [E.out]; exact HT2, Hq5, by rw [E2.out]; exact Hq2⟩
      case rest =>
      obtain ⟨vo', rfl, HT5, Hv5, Hq5'⟩ := hcut
      clear HT2 Hq2 y2 y3 k1 k2 Hq5
      have y0 := (cells_at Hq5'.out 0).1
      have y1 := (cells_at Hq5'.out 1).1
      have y2 := (cells_at Hq5'.out 2).1
      have y3 := (cells_at Hq5'.out 3).1
      simp at y0 y1 y2 y3
      have bX : Below wc.heap.size wc (wc.alloc (.cells #[.int .i64 P.n, .string P.d, .int .i64 P.sent, .int .i64 P.ago] 85)) := (Below.refl _ _).alloc (Nat.le_refl _) _
      have HTX := hide (HT5.out.keep bX)
      clear bX
      go_wp2_with (at_builtin; refine rE.step0 (B := w.heap.size) HTX.out.bel.size (by rfl) _ _ rfl _ _ rfl rfl rn [P] HTX.out.o2 (rp_new wc P _ rfl) (by have := Hlo.out; simp; omega) ?_; intro v8 w8 ho8 hg8 hz8; refine Hid.out ?_)
      refine hide ?_
      have HT6 := hide (HTX.out.app2 ho8 hg8 hz8)
      clear ho8 hg8 hz8 HTX HT5 Hq5' y0 y1 y2 y3
      go_wp2_with fail
      go_roundw
      case rel => exact ⟨k + 1, d || ed, by omega, by go_num, hide Hdn.out.symm, by rw [Hro.out, Hrn.out]; exact HT6⟩
      case measure => simp [intOf]; omega
    · have j1 : ¬ (k : Int) < (n : Int) := by omega
      have hkn : k = n := by omega
      have htk : ps.take k = ps := List.take_of_length_le (by rw [Hn.out]; omega)
      rw [htk] at HT Hd
      clear hkn htk
      obtain ⟨a5, c5, rfl⟩ := HT.out.o1.rd.form
      obtain ⟨a6, c6, rfl⟩ := HT.out.o2.rd.form
      have Hlens : Hid ((routs pause ps).length ≤ 1000 ∧ (ps.map (rtk pause)).length = n) := hide ⟨by have := routs_len pause ps; rw [Hn.out] at this; omega, by rw [List.length_map]; exact Hn.out⟩
      have k6 := (cells_at HT.out.b0 6).1
      simp at k6
      generalize (routs pause ps).length = l5 at *
      generalize (ps.map (rtk pause)).length = l6 at *
      have Hg1 : Hid (w.heap.size ≤ g + 1) := hide (by have := HT.out.gg; omega)
      cases d with
      | true =>
        have kk0 := (cells_at HT.out.b0 0).1
        have kk1 := (cells_at HT.out.b0 1).1
        have kk2 := (cells_at HT.out.b0 2).1
        have kk3 := (cells_at HT.out.b0 3).1
        have kk4 := (cells_at HT.out.b0 4).1
        have kk5 := (cells_at HT.out.b0 5).1
        have kk6 := (cells_at HT.out.b0 6).1
        simp at kk0 kk1 kk2 kk3 kk4 kk5 kk6
        have mm0 := (cells_at HT.out.b1 0).1
        have ff0 := (cells_at HT.out.b1 0).2
        have mm1 := (cells_at HT.out.b1 1).1
        have ff1 := (cells_at HT.out.b1 1).2
        have mm2 := (cells_at HT.out.b1 2).1
        have ff2 := (cells_at HT.out.b1 2).2
        have mm3 := (cells_at HT.out.b1 3).1
        have ff3 := (cells_at HT.out.b1 3).2
        have mm4 := (cells_at HT.out.b1 4).1
        have ff4 := (cells_at HT.out.b1 4).2
        have mm5 := (cells_at HT.out.b1 5).1
        have ff5 := (cells_at HT.out.b1 5).2
        have mm6 := (cells_at HT.out.b1 6).1
        have ff6 := (cells_at HT.out.b1 6).2
        simp at mm0 mm1 mm2 mm3 mm4 mm5 mm6
        have z7 := (heap_put (i := 6) (heap_put (i := 5) (heap_put (i := 4) (heap_put (i := 3) (heap_put (i := 2) (heap_put (i := 1) (heap_put (i := 0) HT.out.b1 (.int .i64 win)) (.int .i64 pause)) (.int .i64 times)) (.int .u16 first)) (.int .i64 count)) (.slice av n cv)) (.bool true))
        have HBf : Hid (Below w.heap.size w (((((((wr.setCell ⟨g + 1, 0, none⟩ (.int .i64 win)).setCell ⟨g + 1, 1, none⟩ (.int .i64 pause)).setCell ⟨g + 1, 2, none⟩ (.int .i64 times)).setCell ⟨g + 1, 3, none⟩ (.int .u16 first)).setCell ⟨g + 1, 4, none⟩ (.int .i64 count)).setCell ⟨g + 1, 5, none⟩ (.slice av n cv)).setCell ⟨g + 1, 6, none⟩ (.bool true))) := hide (((((((HT.out.bel.setCell (p := ⟨g + 1, 0, none⟩) Hg1.out (.int .i64 win)).setCell (p := ⟨g + 1, 1, none⟩) Hg1.out (.int .i64 pause)).setCell (p := ⟨g + 1, 2, none⟩) Hg1.out (.int .i64 times)).setCell (p := ⟨g + 1, 3, none⟩) Hg1.out (.int .u16 first)).setCell (p := ⟨g + 1, 4, none⟩) Hg1.out (.int .i64 count)).setCell (p := ⟨g + 1, 5, none⟩) Hg1.out (.slice av n cv)).setCell (p := ⟨g + 1, 6, none⟩) Hg1.out (.bool true))
        have yy0 := (cells_at z7 0).1
        have yy1 := (cells_at z7 1).1
        have yy2 := (cells_at z7 2).1
        have yy3 := (cells_at z7 3).1
        have yy4 := (cells_at z7 4).1
        have yy5 := (cells_at z7 5).1
        have yy6 := (cells_at z7 6).1
        simp at yy0 yy1 yy2 yy3 yy4 yy5 yy6
        clear z7
        go_wp2_with fail
        refine bodyPost_ret (v := .tuple #[.agg #[.int .i64 win, .int .i64 pause, .int .i64 times, .int .u16 first, .int .i64 count, .slice av n cv, .bool true], .slice none 0 0, .int .i64 190]) (by simp [results, Try.results15, go_sem, yy0, yy1, yy2, yy3, yy4, yy5, yy6]) rfl ?_
        exact ⟨HBf.out, .inl ⟨Hd.out.symm, by rw [Hn.out]⟩⟩
      | false =>
        have f5 := (cells_at HT.out.b0 5).2
        have k5 := (cells_at HT.out.b0 5).1
        simp at k5
        have HT7 : Hid (Tst w (wr.setCell ⟨g, 5, none⟩ (.slice a6 l6 c6)) g #[.int .i64 win, .int .i64 pause, .int .i64 times, .int .u16 first, .int .i64 count, .slice a6 l6 c6, .bool false] (.slice a5 l5 c5) (.slice a6 l6 c6) (routs pause ps) (ps.map (rtk pause))) := hide (HT.out.put 5 (.slice a6 l6 c6))
        go_upto_region 20 with fail
        generalize wr.setCell ⟨g, 5, none⟩ (.slice a6 l6 c6) = W7 at *
        clear HT k5 k6 f5
        have HO5 : Hid (rE.Own (((((((W7.setCell ⟨g + 1, 0, none⟩ (.int .i64 win)).setCell ⟨g + 1, 1, none⟩ (.int .i64 pause)).setCell ⟨g + 1, 2, none⟩ (.int .i64 times)).setCell ⟨g + 1, 3, none⟩ (.int .u16 first)).setCell ⟨g + 1, 4, none⟩ (.int .i64 count)).setCell ⟨g + 1, 5, none⟩ (.slice a6 l6 c6)).setCell ⟨g + 1, 6, none⟩ (.bool false)) w.heap.size (.slice a5 l5 c5) (routs pause ps)) := hide (own_chg HT7.out.o1 fun k cur hk hc => by
          have hk1 : k ≠ g + 1 := fun e => by
            rw [e, HT7.out.b1] at hc; simp only [Option.some.injEq, Obj.cells.injEq] at hc; exact absurd hc.2.1 (show ¬ (33 : TypeId) = 85 by decide)
          rw [Below.heap_setCell _ _ _ _ hk1, Below.heap_setCell _ _ _ _ hk1, Below.heap_setCell _ _ _ _ hk1, Below.heap_setCell _ _ _ _ hk1, Below.heap_setCell _ _ _ _ hk1, Below.heap_setCell _ _ _ _ hk1, Below.heap_setCell _ _ _ _ hk1])
        have HO6 : Hid (rE.Own (((((((W7.setCell ⟨g + 1, 0, none⟩ (.int .i64 win)).setCell ⟨g + 1, 1, none⟩ (.int .i64 pause)).setCell ⟨g + 1, 2, none⟩ (.int .i64 times)).setCell ⟨g + 1, 3, none⟩ (.int .u16 first)).setCell ⟨g + 1, 4, none⟩ (.int .i64 count)).setCell ⟨g + 1, 5, none⟩ (.slice a6 l6 c6)).setCell ⟨g + 1, 6, none⟩ (.bool false)) w.heap.size (.slice a6 l6 c6) (ps.map (rtk pause))) := hide (own_chg HT7.out.o2 fun k cur hk hc => by
          have hk1 : k ≠ g + 1 := fun e => by
            rw [e, HT7.out.b1] at hc; simp only [Option.some.injEq, Obj.cells.injEq] at hc; exact absurd hc.2.1 (show ¬ (33 : TypeId) = 85 by decide)
          rw [Below.heap_setCell _ _ _ _ hk1, Below.heap_setCell _ _ _ _ hk1, Below.heap_setCell _ _ _ _ hk1, Below.heap_setCell _ _ _ _ hk1, Below.heap_setCell _ _ _ _ hk1, Below.heap_setCell _ _ _ _ hk1, Below.heap_setCell _ _ _ _ hk1])
        have kk0 := (cells_at HT7.out.b0 0).1
        have kk1 := (cells_at HT7.out.b0 1).1
        have kk2 := (cells_at HT7.out.b0 2).1
        have kk3 := (cells_at HT7.out.b0 3).1
        have kk4 := (cells_at HT7.out.b0 4).1
        have kk5 := (cells_at HT7.out.b0 5).1
        have kk6 := (cells_at HT7.out.b0 6).1
        simp at kk0 kk1 kk2 kk3 kk4 kk5 kk6
        have mm0 := (cells_at HT7.out.b1 0).1
        have ff0 := (cells_at HT7.out.b1 0).2
        have mm1 := (cells_at HT7.out.b1 1).1
        have ff1 := (cells_at HT7.out.b1 1).2
        have mm2 := (cells_at HT7.out.b1 2).1
        have ff2 := (cells_at HT7.out.b1 2).2
        have mm3 := (cells_at HT7.out.b1 3).1
        have ff3 := (cells_at HT7.out.b1 3).2
        have mm4 := (cells_at HT7.out.b1 4).1
        have ff4 := (cells_at HT7.out.b1 4).2
        have mm5 := (cells_at HT7.out.b1 5).1
        have ff5 := (cells_at HT7.out.b1 5).2
        have mm6 := (cells_at HT7.out.b1 6).1
        have ff6 := (cells_at HT7.out.b1 6).2
        simp at mm0 mm1 mm2 mm3 mm4 mm5 mm6
        have z7 := (heap_put (i := 6) (heap_put (i := 5) (heap_put (i := 4) (heap_put (i := 3) (heap_put (i := 2) (heap_put (i := 1) (heap_put (i := 0) HT7.out.b1 (.int .i64 win)) (.int .i64 pause)) (.int .i64 times)) (.int .u16 first)) (.int .i64 count)) (.slice a6 l6 c6)) (.bool false))
        have HBf : Hid (Below w.heap.size w (((((((W7.setCell ⟨g + 1, 0, none⟩ (.int .i64 win)).setCell ⟨g + 1, 1, none⟩ (.int .i64 pause)).setCell ⟨g + 1, 2, none⟩ (.int .i64 times)).setCell ⟨g + 1, 3, none⟩ (.int .u16 first)).setCell ⟨g + 1, 4, none⟩ (.int .i64 count)).setCell ⟨g + 1, 5, none⟩ (.slice a6 l6 c6)).setCell ⟨g + 1, 6, none⟩ (.bool false))) := hide (((((((HT7.out.bel.setCell (p := ⟨g + 1, 0, none⟩) Hg1.out (.int .i64 win)).setCell (p := ⟨g + 1, 1, none⟩) Hg1.out (.int .i64 pause)).setCell (p := ⟨g + 1, 2, none⟩) Hg1.out (.int .i64 times)).setCell (p := ⟨g + 1, 3, none⟩) Hg1.out (.int .u16 first)).setCell (p := ⟨g + 1, 4, none⟩) Hg1.out (.int .i64 count)).setCell (p := ⟨g + 1, 5, none⟩) Hg1.out (.slice a6 l6 c6)).setCell (p := ⟨g + 1, 6, none⟩) Hg1.out (.bool false))
        have yy0 := (cells_at z7 0).1
        have yy1 := (cells_at z7 1).1
        have yy2 := (cells_at z7 2).1
        have yy3 := (cells_at z7 3).1
        have yy4 := (cells_at z7 4).1
        have yy5 := (cells_at z7 5).1
        have yy6 := (cells_at z7 6).1
        simp at yy0 yy1 yy2 yy3 yy4 yy5 yy6
        clear z7
        go_wp2_with fail
        refine bodyPost_ret (v := .tuple #[.agg #[.int .i64 win, .int .i64 pause, .int .i64 times, .int .u16 first, .int .i64 count, .slice a6 l6 c6, .bool false], .slice a5 l5 c5, .int .i64 0]) (by simp [results, Try.results15, go_sem, yy0, yy1, yy2, yy3, yy4, yy5, yy6]) rfl ?_
        exact ⟨HBf.out, .inr ⟨Hd.out.symm, _, _, rfl, HO5.out, HO6.out⟩⟩
end Go.Proofs.Yteihajppgooadaa
