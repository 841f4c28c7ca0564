/- The document's AckTo. -/
import Derived.Test.YteihajppgooadaaRtk
namespace Go.Proofs.Yteihajppgooadaa
open Go.RowKit
set_option linter.unusedVariables false

def rleft (m : Int) (ps : List Rp) : List Rp := ps.filter (fun p => decide (m ≤ p.n))
theorem rleft_next (m : Int) (ps : List Rp) (k : Nat) (p : Rp) (hp : ps[k]? = some p) : rleft m (ps.take (k + 1)) = if m ≤ p.n then rleft m (ps.take k) ++ [p] else rleft m (ps.take k) := by
  unfold rleft
  rw [List.take_add_one, hp]
  by_cases h : m ≤ p.n <;> simp [h]
theorem rleft_len (m : Int) (ps : List Rp) : (rleft m ps).length ≤ ps.length := List.length_filter_le _ _
/-- what the document's AckTo answers -/
def RTo (win pause times first count lo seq : Int) (av : Option Addr) (cv : Nat) (ps : List Rp) (w : World) (e : Ending) (w' : World) : Prop :=
  (∃ m, lo ≤ m ∧ m ≤ count ∧ sq first m = seq ∧ (∀ y, lo ≤ y → y < m → sq first y ≠ seq) ∧ ∃ a' c', e = .returned (.tuple #[.agg #[.int .i64 win, .int .i64 pause, .int .i64 times, .int .u16 first, .int .i64 count, .slice a' (rleft m ps).length c', .bool false], .int .i64 ((ps.length : Int) - ((rleft m ps).length : Int)), .int .i64 0]) ∧ rE.Own w' w.heap.size (.slice a' (rleft m ps).length c') (rleft m ps)) ∨
  ((∀ y, lo ≤ y → y ≤ count → sq first y ≠ seq) ∧ e = .returned (.tuple #[.agg #[.int .i64 win, .int .i64 pause, .int .i64 times, .int .u16 first, .int .i64 count, .slice av ps.length cv, .bool false], .int .i64 0, .int .i64 4]))

set_option maxRecDepth 100000 in
set_option maxHeartbeats 8000000 in
theorem rto_any (win pause times first count lo seq : Int) (av : Option Addr) (cv : Nat) (ps : List Rp) (w : World) (hv : rE.Rd w (.slice av ps.length cv) ps) (hl : ps.length ≤ 1000) (hf : 0 ≤ first ∧ first ≤ 65535) (hc : 0 ≤ lo ∧ lo ≤ count ∧ count ≤ 100000) (hlo : (ps.length = 0 → lo = count) ∧ ∀ p, ps[0]? = some p → p.n = lo) :
    Calls Try.prog 20 #[.agg #[.int .i64 win, .int .i64 pause, .int .i64 times, .int .u16 first, .int .i64 count, .slice av ps.length cv, .bool false], .int .u16 seq] w fun e w' => Below w.heap.size w w' ∧ RTo win pause times first count lo seq av cv ps w e w' := by
  obtain ⟨hb0, hb1, hB⟩ := two_boxes w #[.int .i64 win, .int .i64 pause, .int .i64 times, .int .u16 first, .int .i64 count, .slice av ps.length cv, .bool false] #[.int .i64 0, .int .i64 0, .int .i64 0, .int .u16 0, .int .i64 0, .slice none 0 0, .bool false]
  obtain ⟨W0, hW0⟩ : ∃ W0, (w.alloc (.cells #[.int .i64 win, .int .i64 pause, .int .i64 times, .int .u16 first, .int .i64 count, .slice av ps.length cv, .bool false] 33)).alloc (.cells #[.int .i64 0, .int .i64 0, .int .i64 0, .int .u16 0, .int .i64 0, .slice none 0 0, .bool false] 33) = W0 := ⟨_, rfl⟩
  rw [hW0] at hb0 hb1 hB
  have Hv := hide hv
  obtain ⟨n, hn⟩ : ∃ n, ps.length = n := ⟨_, rfl⟩
  rw [hn] at hb0 hW0 hl Hv hlo ⊢
  have Hn := hide hn
  have hl2 : (n : Int) ≤ 1000 := by omega
  obtain ⟨c0, c1, c2⟩ := hc
  have HT : Hid (Tst w W0 w.heap.size #[.int .i64 win, .int .i64 pause, .int .i64 times, .int .u16 first, .int .i64 count, .slice av n cv, .bool false] (.slice none 0 0) (.slice none 0 0) [] []) := hide ⟨hb0, hb1, El.Own.nil _ _ _, El.Own.nil _ _ _, (fun k hk => by cases hk), hB, Nat.le_refl _⟩
  have k4 := (cells_at hb0 4).1
  have k5 := (cells_at hb0 5).1
  have k6 := (cells_at hb0 6).1
  simp at k4 k5 k6
  have Hf := hide hf
  have Hlo := hide hlo
  clear hb0 hb1 hB hl hv hn hf hlo
  obtain ⟨g, hg⟩ : ∃ g, w.heap.size = g := ⟨_, rfl⟩
  have Hg := hide hg
  go_enter Try.func20, Try.ntmps20
  rw [hg] at k4 k5 k6 HT
  go_upto_region 3 with fail
  clear hg hW0
  go_upto_if 20 with fail
  go_cut [7] (fun v7 wx => v7 = .int .i64 lo ∧ W0 = wx)
  case first =>
    by_cases hz : n = 0
    · have e := Hlo.out.1 hz
      subst hz
      have E := hide e
      clear e
      go_wp2_with fail
      go_meet
      exact ⟨by rw [E.out], rfl⟩
    · obtain ⟨p, hp⟩ : ∃ p, ps[0]? = some p := ⟨_, List.getElem?_eq_getElem (by rw [Hn.out]; omega)⟩
      obtain ⟨b, off, rfl, x0, _⟩ := rd_at (Hv.out.keep HT.out.bel) 0 p hp
      rw [Hlo.out.2 p hp] at x0
      simp at x0
      have j1 : (0 : Int) < (n : Int) := by omega
      clear hp hz
      go_wp2_with fail
      go_meet
      exact ⟨rfl, rfl⟩
  case rest =>
  obtain ⟨rfl, rfl⟩ := hcut
  clear k4 k5 k6
  go_upto_region 7 with fail
  go_loopw [8] (fun v8 wr => ∃ x : Int, lo ≤ x ∧ x ≤ count + 1 ∧ v8 = .int .i64 x ∧ Hid (∀ y, lo ≤ y → y < x → sq first y ≠ seq) ∧ Hid (Tst w wr g #[.int .i64 win, .int .i64 pause, .int .i64 times, .int .u16 first, .int .i64 count, .slice av n cv, .bool false] (.slice none 0 0) (.slice none 0 0) [] [])) (fun v8 _ => (count + 1 - intOf v8).toNat)
  case atStart => exact ⟨lo, by omega, by omega, rfl, hide (fun y h1 h2 => by omega), HT⟩
  case round =>
    clear HT
    obtain ⟨x, hx1, hx2, rfl, Hno, HT⟩ := hrel
    have k4 := (cells_at HT.out.b0 4).1
    simp at k4
    by_cases hx : x ≤ count
    · have K32 := hide (fun W' => seq_any win pause times first count x (.slice av n cv) false W' Hf.out ⟨by omega, by omega⟩)
      obtain ⟨z, hz⟩ : ∃ z, sq first x = z := ⟨_, rfl⟩
      rw [hz] at K32
      have Hz := hide hz
      clear hz
      have k0 := (cells_at HT.out.b0 0).1
      have k1 := (cells_at HT.out.b0 1).1
      have k2 := (cells_at HT.out.b0 2).1
      have k3 := (cells_at HT.out.b0 3).1
      have k5 := (cells_at HT.out.b0 5).1
      have k6 := (cells_at HT.out.b0 6).1
      simp at k0 k1 k2 k3 k5 k6
      have HbX : Hid (Below wr.heap.size wr (wr.alloc (.cells #[.int .i64 win, .int .i64 pause, .int .i64 times, .int .u16 first, .int .i64 count, .slice av n cv, .bool false] 33))) := hide ((Below.refl _ _).alloc (Nat.le_refl _) _)
      have HTX := hide (HT.out.keep HbX.out)
      by_cases he : z = seq
      · subst he
        go_upto_region 10 with (go_at_call 32; refine (K32.out _).mono ?_; rintro e w10 ⟨rfl, rfl⟩)
        clear k0 k1 k2 k3 k4 k5 k6 HT HbX K32
        generalize wr.alloc (.cells #[.int .i64 win, .int .i64 pause, .int .i64 times, .int .u16 first, .int .i64 count, .slice av n cv, .bool false] 33) = W1 at *
        have k5 := (cells_at HTX.out.b0 5).1
        simp at k5
        go_upto_region 12 with fail
        clear k5
        go_loopw [9, 41] (fun v9 v41 wr => ∃ j : Nat, j ≤ n ∧ v41 = .int .i64 j ∧ Hid (Tst w wr g #[.int .i64 win, .int .i64 pause, .int .i64 times, .int .u16 first, .int .i64 count, .slice av n cv, .bool false] v9 (.slice none 0 0) (rleft x (ps.take j)) [])) (fun _ v41 _ => n - (intOf v41).toNat)
        case atStart => exact ⟨0, by omega, rfl, by simpa [rleft] using HTX⟩
        case round =>
          clear HTX
          obtain ⟨j, hj, rfl, HT⟩ := hrel
          by_cases hlt : j < n
          · obtain ⟨p, hp⟩ : ∃ p, ps[j]? = some p := ⟨_, List.getElem?_eq_getElem (by rw [Hn.out]; exact hlt)⟩
            obtain ⟨b, off, rfl, x0, x1, x2, x3⟩ := rd_at (Hv.out.keep HT.out.bel) j p hp
            have k5 := (cells_at HT.out.b0 5).1
            simp at k5
            have j0 : (0 : Int) ≤ (j : Int) := by omega
            have j1 : (j : Int) < (n : Int) := by omega
            have Hnx := hide (rleft_next x ps j p hp)
            have Hle : Hid ((rleft x (ps.take j)).length ≤ 1000) := hide (by have := rleft_len x (ps.take j); rw [List.length_take] at this; omega)
            clear hp
            generalize rleft x (ps.take j) = ls at *
            by_cases hge : x ≤ p.n
            · rw [if_pos hge] at Hnx
              have bX : Below wr.heap.size wr (wr.alloc (.cells #[.int .i64 p.n, .string p.d, .int .i64 p.sent, .int .i64 p.ago] 85)) := (Below.refl _ _).alloc (Nat.le_refl _) _
              have HTX := hide (HT.out.keep bX)
              clear bX
              go_wp2_with (at_builtin; refine rE.step0 (B := w.heap.size) HTX.out.bel.size (by rfl) _ _ rfl _ _ rfl rfl ls [p] HTX.out.o1 (rp_new wr p _ rfl) (by have := Hle.out; simp; omega) ?_; intro v7 w7 ho7 hg7 hz7; refine Hid.out ?_)
              refine hide ?_
              have HT5 := hide (HTX.out.app1 ho7 hg7 hz7)
              clear ho7 hg7 hz7 HTX HT x0 x1 x2 x3 k5
              go_wp2_with fail
              go_roundw
              case rel => exact ⟨j + 1, by omega, by go_num, by rw [Hnx.out]; exact HT5⟩
              case measure => simp [intOf]; omega
            · rw [if_neg hge] at Hnx
              go_wp2_with fail
              go_roundw
              case rel => exact ⟨j + 1, by omega, by go_num, by rw [Hnx.out]; exact HT⟩
              case measure => simp [intOf]; omega
          · have j1 : ¬ (j : Int) < (n : Int) := by omega
            have htk : ps.take j = ps := List.take_of_length_le (by rw [Hn.out]; omega)
            rw [htk] at HT
            clear htk
            obtain ⟨a9, c9, rfl⟩ := HT.out.o1.rd.form
            have Hln : Hid ((rleft x ps).length ≤ n) := hide (by have := rleft_len x ps; rw [Hn.out] at this; exact this)
            obtain ⟨l9, hl9⟩ : ∃ l9, (rleft x ps).length = l9 := ⟨_, rfl⟩
            rw [hl9] at HT Hln ⊢
            have Hl9 := hide hl9
            have q1 : (l9 : Int) ≤ (n : Int) := by have := Hln.out; omega
            have k5 := (cells_at HT.out.b0 5).1
            have f5 := (cells_at HT.out.b0 5).2
            simp at k5
            have HT7 : Hid (Tst w (wr.setCell ⟨g, 5, none⟩ (.slice a9 l9 c9)) g #[.int .i64 win, .int .i64 pause, .int .i64 times, .int .u16 first, .int .i64 count, .slice a9 l9 c9, .bool false] (.slice a9 l9 c9) (.slice none 0 0) (rleft x ps) []) := hide (HT.out.put 5 (.slice a9 l9 c9))
            clear hl9
            go_upto_region 19 with fail
            generalize wr.setCell ⟨g, 5, none⟩ (.slice a9 l9 c9) = W7 at *
            clear HT k5 f5
            have Hg1 : Hid (w.heap.size ≤ g + 1) := hide (by have := HT7.out.gg; omega)
            have HO5 : Hid (rE.Own (((((((W7.setCell ⟨g + 1, 0, none⟩ (.int .i64 win)).setCell ⟨g + 1, 1, none⟩ (.int .i64 pause)).setCell ⟨g + 1, 2, none⟩ (.int .i64 times)).setCell ⟨g + 1, 3, none⟩ (.int .u16 first)).setCell ⟨g + 1, 4, none⟩ (.int .i64 count)).setCell ⟨g + 1, 5, none⟩ (.slice a9 l9 c9)).setCell ⟨g + 1, 6, none⟩ (.bool false)) w.heap.size (.slice a9 l9 c9) (rleft x ps)) := hide (own_chg HT7.out.o1 fun k cur hk hc => by
              have hk1 : k ≠ g + 1 := fun e => by
                rw [e, HT7.out.b1] at hc; simp only [Option.some.injEq, Obj.cells.injEq] at hc; exact absurd hc.2.1 (show ¬ (33 : TypeId) = 85 by decide)
              rw [Below.heap_setCell _ _ _ _ hk1, Below.heap_setCell _ _ _ _ hk1, Below.heap_setCell _ _ _ _ hk1, Below.heap_setCell _ _ _ _ hk1, Below.heap_setCell _ _ _ _ hk1, Below.heap_setCell _ _ _ _ hk1, Below.heap_setCell _ _ _ _ hk1])
            have kk0 := (cells_at HT7.out.b0 0).1
            have kk1 := (cells_at HT7.out.b0 1).1
            have kk2 := (cells_at HT7.out.b0 2).1
            have kk3 := (cells_at HT7.out.b0 3).1
            have kk4 := (cells_at HT7.out.b0 4).1
            have kk5 := (cells_at HT7.out.b0 5).1
            have kk6 := (cells_at HT7.out.b0 6).1
            simp at kk0 kk1 kk2 kk3 kk4 kk5 kk6
            have mm0 := (cells_at HT7.out.b1 0).1
            have ff0 := (cells_at HT7.out.b1 0).2
            have mm1 := (cells_at HT7.out.b1 1).1
            have ff1 := (cells_at HT7.out.b1 1).2
            have mm2 := (cells_at HT7.out.b1 2).1
            have ff2 := (cells_at HT7.out.b1 2).2
            have mm3 := (cells_at HT7.out.b1 3).1
            have ff3 := (cells_at HT7.out.b1 3).2
            have mm4 := (cells_at HT7.out.b1 4).1
            have ff4 := (cells_at HT7.out.b1 4).2
            have mm5 := (cells_at HT7.out.b1 5).1
            have ff5 := (cells_at HT7.out.b1 5).2
            have mm6 := (cells_at HT7.out.b1 6).1
            have ff6 := (cells_at HT7.out.b1 6).2
            simp at mm0 mm1 mm2 mm3 mm4 mm5 mm6
            have z7 := (heap_put (i := 6) (heap_put (i := 5) (heap_put (i := 4) (heap_put (i := 3) (heap_put (i := 2) (heap_put (i := 1) (heap_put (i := 0) HT7.out.b1 (.int .i64 win)) (.int .i64 pause)) (.int .i64 times)) (.int .u16 first)) (.int .i64 count)) (.slice a9 l9 c9)) (.bool false))
            have HBf : Hid (Below w.heap.size w (((((((W7.setCell ⟨g + 1, 0, none⟩ (.int .i64 win)).setCell ⟨g + 1, 1, none⟩ (.int .i64 pause)).setCell ⟨g + 1, 2, none⟩ (.int .i64 times)).setCell ⟨g + 1, 3, none⟩ (.int .u16 first)).setCell ⟨g + 1, 4, none⟩ (.int .i64 count)).setCell ⟨g + 1, 5, none⟩ (.slice a9 l9 c9)).setCell ⟨g + 1, 6, none⟩ (.bool false))) := hide (((((((HT7.out.bel.setCell (p := ⟨g + 1, 0, none⟩) Hg1.out (.int .i64 win)).setCell (p := ⟨g + 1, 1, none⟩) Hg1.out (.int .i64 pause)).setCell (p := ⟨g + 1, 2, none⟩) Hg1.out (.int .i64 times)).setCell (p := ⟨g + 1, 3, none⟩) Hg1.out (.int .u16 first)).setCell (p := ⟨g + 1, 4, none⟩) Hg1.out (.int .i64 count)).setCell (p := ⟨g + 1, 5, none⟩) Hg1.out (.slice a9 l9 c9)).setCell (p := ⟨g + 1, 6, none⟩) Hg1.out (.bool false))
            have yy0 := (cells_at z7 0).1
            have yy1 := (cells_at z7 1).1
            have yy2 := (cells_at z7 2).1
            have yy3 := (cells_at z7 3).1
            have yy4 := (cells_at z7 4).1
            have yy5 := (cells_at z7 5).1
            have yy6 := (cells_at z7 6).1
            simp at yy0 yy1 yy2 yy3 yy4 yy5 yy6
            clear z7
            go_wp2_with fail
            refine bodyPost_ret (v := .tuple #[.agg #[.int .i64 win, .int .i64 pause, .int .i64 times, .int .u16 first, .int .i64 count, .slice a9 l9 c9, .bool false], .int .i64 ((n : Int) - (l9 : Int)), .int .i64 0]) (by simp [results, Try.results20, go_sem, yy0, yy1, yy2, yy3, yy4, yy5, yy6]) rfl ?_
            refine ⟨HBf.out, .inl ⟨x, hx1, hx, Hz.out, Hno.out, ?_⟩⟩
            rw [Hl9.out, Hn.out]
            exact ⟨a9, c9, rfl, HO5.out⟩
      · have HTn := HTX
        go_wp2_with (go_at_call 32; refine (K32.out _).mono ?_; rintro e w10 ⟨rfl, rfl⟩)
        go_roundw
        case rel => exact ⟨x + 1, by omega, by omega, by go_num, hide (fun y h1 h2 => by
          by_cases hy : y = x
          · rw [hy, Hz.out]; exact he
          · exact Hno.out y h1 (by omega)), HTX⟩
        case measure => simp [intOf]; omega
    · have Hg1 : Hid (w.heap.size ≤ g + 1) := hide (by have := HT.out.gg; omega)
      have Hall : Hid (∀ y, lo ≤ y → y ≤ count → sq first y ≠ seq) := hide (fun y h1 h2 => Hno.out y h1 (by omega))
      have kk0 := (cells_at HT.out.b0 0).1
      have kk1 := (cells_at HT.out.b0 1).1
      have kk2 := (cells_at HT.out.b0 2).1
      have kk3 := (cells_at HT.out.b0 3).1
      have kk4 := (cells_at HT.out.b0 4).1
      have kk5 := (cells_at HT.out.b0 5).1
      have kk6 := (cells_at HT.out.b0 6).1
      simp at kk0 kk1 kk2 kk3 kk4 kk5 kk6
      have mm0 := (cells_at HT.out.b1 0).1
      have ff0 := (cells_at HT.out.b1 0).2
      have mm1 := (cells_at HT.out.b1 1).1
      have ff1 := (cells_at HT.out.b1 1).2
      have mm2 := (cells_at HT.out.b1 2).1
      have ff2 := (cells_at HT.out.b1 2).2
      have mm3 := (cells_at HT.out.b1 3).1
      have ff3 := (cells_at HT.out.b1 3).2
      have mm4 := (cells_at HT.out.b1 4).1
      have ff4 := (cells_at HT.out.b1 4).2
      have mm5 := (cells_at HT.out.b1 5).1
      have ff5 := (cells_at HT.out.b1 5).2
      have mm6 := (cells_at HT.out.b1 6).1
      have ff6 := (cells_at HT.out.b1 6).2
      simp at mm0 mm1 mm2 mm3 mm4 mm5 mm6
      have z7 := (heap_put (i := 6) (heap_put (i := 5) (heap_put (i := 4) (heap_put (i := 3) (heap_put (i := 2) (heap_put (i := 1) (heap_put (i := 0) HT.out.b1 (.int .i64 win)) (.int .i64 pause)) (.int .i64 times)) (.int .u16 first)) (.int .i64 count)) (.slice av n cv)) (.bool false))
      have HBf : Hid (Below w.heap.size w (((((((wr.setCell ⟨g + 1, 0, none⟩ (.int .i64 win)).setCell ⟨g + 1, 1, none⟩ (.int .i64 pause)).setCell ⟨g + 1, 2, none⟩ (.int .i64 times)).setCell ⟨g + 1, 3, none⟩ (.int .u16 first)).setCell ⟨g + 1, 4, none⟩ (.int .i64 count)).setCell ⟨g + 1, 5, none⟩ (.slice av n cv)).setCell ⟨g + 1, 6, none⟩ (.bool false))) := hide (((((((HT.out.bel.setCell (p := ⟨g + 1, 0, none⟩) Hg1.out (.int .i64 win)).setCell (p := ⟨g + 1, 1, none⟩) Hg1.out (.int .i64 pause)).setCell (p := ⟨g + 1, 2, none⟩) Hg1.out (.int .i64 times)).setCell (p := ⟨g + 1, 3, none⟩) Hg1.out (.int .u16 first)).setCell (p := ⟨g + 1, 4, none⟩) Hg1.out (.int .i64 count)).setCell (p := ⟨g + 1, 5, none⟩) Hg1.out (.slice av n cv)).setCell (p := ⟨g + 1, 6, none⟩) Hg1.out (.bool false))
      have yy0 := (cells_at z7 0).1
      have yy1 := (cells_at z7 1).1
      have yy2 := (cells_at z7 2).1
      have yy3 := (cells_at z7 3).1
      have yy4 := (cells_at z7 4).1
      have yy5 := (cells_at z7 5).1
      have yy6 := (cells_at z7 6).1
      simp at yy0 yy1 yy2 yy3 yy4 yy5 yy6
      clear z7
      go_wp2_with fail
      refine bodyPost_ret (v := .tuple #[.agg #[.int .i64 win, .int .i64 pause, .int .i64 times, .int .u16 first, .int .i64 count, .slice av n cv, .bool false], .int .i64 0, .int .i64 4]) (by simp [results, Try.results20, go_sem, yy0, yy1, yy2, yy3, yy4, yy5, yy6]) rfl ?_
      exact ⟨HBf.out, .inr ⟨Hall.out, by rw [Hn.out]⟩⟩
end Go.Proofs.Yteihajppgooadaa
