/- The document's Put where the window is full; calls of a sender that is dead. -/
import Derived.Test.YteihajppgooadaaRput
namespace Go.Proofs.Yteihajppgooadaa
open Go.RowKit
set_option linter.unusedVariables false

theorem box_new (w : World) (o : Obj) : (w.alloc o).heap[w.heap.size]? = some o := by
  show (w.heap.push _)[w.heap.size]? = _
  simp

section
variable (win pause times first count : Int) (av : Option Addr) (nv cv : Nat) (seq : Int) (w : World)
set_option maxRecDepth 100000 in
set_option maxHeartbeats 2000000 in
theorem rtick_dead : Calls Try.prog 15 #[.agg #[.int .i64 win, .int .i64 pause, .int .i64 times, .int .u16 first, .int .i64 count, .slice av nv cv, .bool true]] w fun e w' => e = .returned (.tuple #[.agg #[.int .i64 win, .int .i64 pause, .int .i64 times, .int .u16 first, .int .i64 count, .slice av nv cv, .bool true], .slice none 0 0, .int .i64 190]) ∧ Below w.heap.size w w' := by
  have hB : Hid (∀ o o', Below w.heap.size w ((w.alloc o).alloc o')) := hide (fun o o' => ((Below.refl _ _).alloc (Nat.le_refl _) o).alloc (by simp) o')
  go_enter Try.func15, Try.ntmps15
  go_wp2_with fail
  exact bodyPost_ret (v := .tuple #[.agg #[.int .i64 win, .int .i64 pause, .int .i64 times, .int .u16 first, .int .i64 count, .slice av nv cv, .bool true], .slice none 0 0, .int .i64 190]) (by simp [results, Try.results15, go_sem]) rfl ⟨rfl, hB.out _ _⟩
set_option maxRecDepth 100000 in
set_option maxHeartbeats 2000000 in
theorem rack_dead : Calls Try.prog 18 #[.agg #[.int .i64 win, .int .i64 pause, .int .i64 times, .int .u16 first, .int .i64 count, .slice av nv cv, .bool true], .int .u16 seq] w fun e w' => e = .returned (.tuple #[.agg #[.int .i64 win, .int .i64 pause, .int .i64 times, .int .u16 first, .int .i64 count, .slice av nv cv, .bool true], .int .i64 190]) ∧ Below w.heap.size w w' := by
  have hB : Hid (∀ o o', Below w.heap.size w ((w.alloc o).alloc o')) := hide (fun o o' => ((Below.refl _ _).alloc (Nat.le_refl _) o).alloc (by simp) o')
  go_enter Try.func18, Try.ntmps18
  go_wp2_with fail
  exact bodyPost_ret (v := .tuple #[.agg #[.int .i64 win, .int .i64 pause, .int .i64 times, .int .u16 first, .int .i64 count, .slice av nv cv, .bool true], .int .i64 190]) (by simp [results, Try.results18, go_sem]) rfl ⟨rfl, hB.out _ _⟩
set_option maxRecDepth 100000 in
set_option maxHeartbeats 2000000 in
theorem rto_dead : Calls Try.prog 20 #[.agg #[.int .i64 win, .int .i64 pause, .int .i64 times, .int .u16 first, .int .i64 count, .slice av nv cv, .bool true], .int .u16 seq] w fun e w' => e = .returned (.tuple #[.agg #[.int .i64 win, .int .i64 pause, .int .i64 times, .int .u16 first, .int .i64 count, .slice av nv cv, .bool true], .int .i64 0, .int .i64 190]) ∧ Below w.heap.size w w' := by
  have hB : Hid (∀ o o', Below w.heap.size w ((w.alloc o).alloc o')) := hide (fun o o' => ((Below.refl _ _).alloc (Nat.le_refl _) o).alloc (by simp) o')
  go_enter Try.func20, Try.ntmps20
  go_wp2_with fail
  exact bodyPost_ret (v := .tuple #[.agg #[.int .i64 win, .int .i64 pause, .int .i64 times, .int .u16 first, .int .i64 count, .slice av nv cv, .bool true], .int .i64 0, .int .i64 190]) (by simp [results, Try.results20, go_sem]) rfl ⟨rfl, hB.out _ _⟩
end

set_option maxRecDepth 100000 in
set_option maxHeartbeats 4000000 in
theorem rput_full (win pause times first count : Int) (av : Option Addr) (cv : Nat) (data : ByteArray) (ps : List Rp) (p : Rp) (w : World) (hv : rE.Rd w (.slice av ps.length cv) ps) (hp : ps[0]? = some p) (hd : data.size ≤ 256) (hc : 0 ≤ count ∧ count ≤ 100000) (hn : 0 ≤ p.n ∧ p.n ≤ count ∧ win < count - p.n + 1) (hl : ps.length ≤ 1000) :
    Calls Try.prog 13 #[.agg #[.int .i64 win, .int .i64 pause, .int .i64 times, .int .u16 first, .int .i64 count, .slice av ps.length cv, .bool false], .string data] w fun e w' => e = .returned (.tuple #[.agg #[.int .i64 win, .int .i64 pause, .int .i64 times, .int .u16 first, .int .i64 count, .slice av ps.length cv, .bool false], .int .u16 0, .int .i64 5]) ∧ Below w.heap.size w w' := by
  have hi : ¬ (256 : Int) < (data.size : Int) := by omega
  obtain ⟨c0, c1⟩ := hc
  obtain ⟨hb0, hb1, hB⟩ := two_boxes w #[.int .i64 win, .int .i64 pause, .int .i64 times, .int .u16 first, .int .i64 count, .slice av ps.length cv, .bool false] #[.int .i64 0, .int .i64 0, .int .i64 0, .int .u16 0, .int .i64 0, .slice none 0 0, .bool false]
  have hl2 : (ps.length : Int) ≤ 1000 := by omega
  obtain ⟨W0, hW0⟩ : ∃ W0, (w.alloc (.cells #[.int .i64 win, .int .i64 pause, .int .i64 times, .int .u16 first, .int .i64 count, .slice av ps.length cv, .bool false] 33)).alloc (.cells #[.int .i64 0, .int .i64 0, .int .i64 0, .int .u16 0, .int .i64 0, .slice none 0 0, .bool false] 33) = W0 := ⟨_, rfl⟩
  rw [hW0] at hb0 hb1 hB
  have Hv0 := hide (hv.keep hB)
  have k5 := (cells_at hb0 5).1
  have k4 := (cells_at hb0 4).1
  have k0 := (cells_at hb0 0).1
  have k6 := (cells_at hb0 6).1
  simp at k0 k4 k5 k6
  have HB0 := hide hB
  have Hb0 := hide hb0
  have Hb1 := hide hb1
  clear hb0 hb1 hB hd hv hl
  obtain ⟨b, off, rfl, cb, _⟩ := rd_at Hv0.out 0 p hp
  have hps : 0 < ps.length := by
    rcases Nat.eq_zero_or_pos ps.length with h | h
    · rw [List.eq_nil_of_length_eq_zero h] at hp; cases hp
    · exact h
  simp at cb
  obtain ⟨n0, n1, n2⟩ := hn
  have z1 : decide (0 < ps.length) = true := decide_eq_true hps
  have z3 : (0 : Int) < (ps.length : Int) := by omega
  generalize p.n = pn at *
  have z2 : decide (win < count - pn + 1) = true := decide_eq_true n2
  clear hps hp Hv0
  go_enter Try.func13, Try.ntmps13
  go_upto_region 5 with fail
  go_cut [31] (fun v31 wx => v31 = .bool true ∧ ∃ q, wx = W0.drewN q)
  case first =>
    go_quiet (fail)
    go_wp2_with fail
    go_meet
    exact ⟨by simp, nq, rfl⟩
  case rest =>
  obtain ⟨rfl, q, rfl⟩ := hcut
  have hb0 : (W0.drewN q).heap[w.heap.size]? = _ := Hb0.out
  have hb1 : (W0.drewN q).heap[w.heap.size + 1]? = _ := Hb1.out
  have hB : Below w.heap.size w (W0.drewN q) := ⟨HB0.out.os, HB0.out.tape, HB0.out.output, HB0.out.size, HB0.out.block⟩
  generalize W0.drewN q = W at *
  obtain ⟨g, hg⟩ : ∃ g, w.heap.size = g := ⟨_, rfl⟩
  have hg1 : w.heap.size ≤ g + 1 := by omega
  rw [hg] at hb0 hb1
  have Hb0' := hide hb0
  have Hb1' := hide hb1
  have HB' := hide hB
  have Hg1 := hide hg1
  try rw [hg]
  have Hg := hide hg
  clear hb0 hb1 hB hg1 hg Hb0 Hb1 HB0 k0 k4 k5 k6 cb z1 z2 z3 hW0
  have kk0 := (cells_at Hb0'.out 0).1
  have kk1 := (cells_at Hb0'.out 1).1
  have kk2 := (cells_at Hb0'.out 2).1
  have kk3 := (cells_at Hb0'.out 3).1
  have kk4 := (cells_at Hb0'.out 4).1
  have kk5 := (cells_at Hb0'.out 5).1
  have kk6 := (cells_at Hb0'.out 6).1
  simp at kk0 kk1 kk2 kk3 kk4 kk5 kk6
  have mm0 := (cells_at Hb1'.out 0).1
  have ff0 := (cells_at Hb1'.out 0).2
  have mm1 := (cells_at Hb1'.out 1).1
  have ff1 := (cells_at Hb1'.out 1).2
  have mm2 := (cells_at Hb1'.out 2).1
  have ff2 := (cells_at Hb1'.out 2).2
  have mm3 := (cells_at Hb1'.out 3).1
  have ff3 := (cells_at Hb1'.out 3).2
  have mm4 := (cells_at Hb1'.out 4).1
  have ff4 := (cells_at Hb1'.out 4).2
  have mm5 := (cells_at Hb1'.out 5).1
  have ff5 := (cells_at Hb1'.out 5).2
  have mm6 := (cells_at Hb1'.out 6).1
  have ff6 := (cells_at Hb1'.out 6).2
  simp at mm0 mm1 mm2 mm3 mm4 mm5 mm6
  have z7 := (heap_put (i := 6) (heap_put (i := 5) (heap_put (i := 4) (heap_put (i := 3) (heap_put (i := 2) (heap_put (i := 1) (heap_put (i := 0) Hb1'.out (.int .i64 win)) (.int .i64 pause)) (.int .i64 times)) (.int .u16 first)) (.int .i64 count)) (.slice (some ⟨b, off, none⟩) ps.length cv)) (.bool false))
  have HBf : Hid (Below w.heap.size w (((((((W.setCell ⟨g + 1, 0, none⟩ (.int .i64 win)).setCell ⟨g + 1, 1, none⟩ (.int .i64 pause)).setCell ⟨g + 1, 2, none⟩ (.int .i64 times)).setCell ⟨g + 1, 3, none⟩ (.int .u16 first)).setCell ⟨g + 1, 4, none⟩ (.int .i64 count)).setCell ⟨g + 1, 5, none⟩ (.slice (some ⟨b, off, none⟩) ps.length cv)).setCell ⟨g + 1, 6, none⟩ (.bool false))) := hide (((((((HB'.out.setCell (p := ⟨g + 1, 0, none⟩) Hg1.out (.int .i64 win)).setCell (p := ⟨g + 1, 1, none⟩) Hg1.out (.int .i64 pause)).setCell (p := ⟨g + 1, 2, none⟩) Hg1.out (.int .i64 times)).setCell (p := ⟨g + 1, 3, none⟩) Hg1.out (.int .u16 first)).setCell (p := ⟨g + 1, 4, none⟩) Hg1.out (.int .i64 count)).setCell (p := ⟨g + 1, 5, none⟩) Hg1.out (.slice (some ⟨b, off, none⟩) ps.length cv)).setCell (p := ⟨g + 1, 6, none⟩) Hg1.out (.bool false))
  have yy0 := (cells_at z7 0).1
  have yy1 := (cells_at z7 1).1
  have yy2 := (cells_at z7 2).1
  have yy3 := (cells_at z7 3).1
  have yy4 := (cells_at z7 4).1
  have yy5 := (cells_at z7 5).1
  have yy6 := (cells_at z7 6).1
  simp at yy0 yy1 yy2 yy3 yy4 yy5 yy6
  clear z7
  go_wp2_with fail
  refine bodyPost_ret (v := .tuple #[.agg #[.int .i64 win, .int .i64 pause, .int .i64 times, .int .u16 first, .int .i64 count, .slice (some ⟨b, off, none⟩) ps.length cv, .bool false], .int .u16 0, .int .i64 5]) (by simp [results, Try.results13, go_sem, yy0, yy1, yy2, yy3, yy4, yy5, yy6]) rfl ?_
  exact ⟨rfl, HBf.out⟩
end Go.Proofs.Yteihajppgooadaa
