/- isBarred: whether a claim that waits can't have a node. -/
import Derived.Test.YtbibegendejnlaaCdl
import Derived.BigRegion
namespace Go.Proofs.Ytbibegendejnlaa
open Go.RowKit
set_option linter.unusedVariables false

set_option maxRecDepth 100000 in
set_option maxHeartbeats 4000000 in
theorem barred_any {w : World} {B g gh : Nat} {b : Nat → Prop} {vw : Value} {cs : List Cv} {T : Tb} (h : Tab w B g gh b vw cs T) (hw : Wf T) (i : Nat) (p : Cl) (hi : T.q[i]? = some p) (n : Int) (hn : 0 ≤ n ∧ n < (T.hold.length : Int)) :
    Calls Try.prog 41 #[.agg #[.pointer (some ⟨g, 0, none⟩), .int .i64 (i : Int)], .int .i64 n] w fun e w' => e = .returned (.bool (barB T.hold (T.q.take i) p.tote n)) ∧ Below w.heap.size w w' := by
  have hlt : i < T.q.length := idx_lt hi
  have hql := hw.qlen
  obtain ⟨k, c, rfl, hc1, hc2⟩ := h.qs.full (by omega)
  have hcm : c ≤ 9223372036854775807 := by unfold maxLen at hc2; omega
  obtain ⟨k', a', c', hk', d0, d1, _, _⟩ := h.qs.at i p hi
  cases hk'
  have K34 : Hid (∀ W, Below w.heap.size w W → Calls Try.prog 34 #[.pointer (some ⟨g, 0, none⟩), .int .i64 p.tote, .int .i64 n] W fun e w' => e = .returned (.bool (heldB T.hold p.tote n)) ∧ w' = W) := hide (fun W hb => heldT_any (h.keep hb) p.tote n hn)
  have K47 : Hid (∀ W k0, Below w.heap.size w W → k0 < W.heap.size → W.cell? ⟨k0, 0, none⟩ = some (.int .i64 n) → Calls Try.prog 47 #[.slice (some ⟨k, 0, none⟩) i c, .func (.func 46) #[] #[.pointer (some ⟨k0, 0, none⟩)]] W fun e w' => e = .returned (.bool (wantB (T.q.take i) n)) ∧ Below W.heap.size W w') := hide (fun W k0 hb h1 h2 => containsW_any ((h.qs.keep hb).take i (by omega)) (by rw [List.length_take]; omega) (by omega) (fun p hp => (hw.nodes p (List.mem_of_mem_take hp)).2.2) n k0 h1 h2)
  have hr : Hid (barB T.hold (T.q.take i) p.tote n = (heldB T.hold p.tote n || wantB (T.q.take i) n)) := hide rfl
  generalize barB T.hold (T.q.take i) p.tote n = res at *
  generalize heldB T.hold p.tote n = r1 at *
  generalize wantB (T.q.take i) n = r2 at *
  have c1 := h.cells.2.1
  have hg := heap_lt h.box
  have hk : k < w.heap.size := cell_lt d0
  obtain ⟨W1, hW1⟩ : ∃ W1, W1 = (w.alloc (.cells #[.pointer (some ⟨g, 0, none⟩), .int .i64 (i : Int)] 82)).alloc (.cells #[.int .i64 n] 3) := ⟨_, rfl⟩
  have hz : (w.alloc (.cells #[.pointer (some ⟨g, 0, none⟩), .int .i64 (i : Int)] 82)).heap.size = w.heap.size + 1 := Array.size_push _
  have hB1 : Below w.heap.size w W1 := by rw [hW1]; exact ((Below.refl _ _).alloc (Nat.le_refl _) _).alloc (by rw [hz]; omega) _
  have hs1 : W1.heap.size = w.heap.size + 2 := by rw [hW1]; show (Array.push _ _).size = _; rw [Array.size_push, hz]
  have f0 : W1.heap[w.heap.size]? = some (.cells #[.pointer (some ⟨g, 0, none⟩), .int .i64 (i : Int)] 82) := by rw [hW1, Below.heap_alloc _ _ _ (by rw [hz]; omega)]; exact heap_new _ _
  have f1 : W1.heap[w.heap.size + 1]? = some (.cells #[.int .i64 n] 3) := by
    rw [hW1]
    have := heap_new (w.alloc (.cells #[.pointer (some ⟨g, 0, none⟩), .int .i64 (i : Int)] 82)) (.cells #[.int .i64 n] 3)
    rw [hz] at this
    exact this
  have x0 := (cells_at f0 0).1
  have x1 := (cells_at f0 1).1
  have x2 := (cells_at f1 0).1
  simp only [List.getElem?_toArray, List.getElem?_cons_zero, List.getElem?_cons_succ] at x0 x1 x2
  have y0 : W1.cell? ⟨g, 1, none⟩ = some (.slice (some ⟨k, 0, none⟩) T.q.length c) := by rw [hB1.cell hg]; exact c1
  have y1 : W1.cell? ⟨k, i * 2, none⟩ = some (.int .i64 p.tote) := by rw [hB1.cell (p := ⟨k, i * 2, none⟩) hk]; exact d0
  have y2 : W1.cell? ⟨k, i * 2 + 1, none⟩ = some (.slice a' p.nodes.length c') := by rw [hB1.cell (p := ⟨k, i * 2 + 1, none⟩) hk]; exact d1
  have HB1 := hide hB1
  have HW1 := hide hW1
  have Hs1 := hide hs1
  have Hf1 := hide f1
  have n0 : w.heap.size ≠ W1.heap.size := by omega
  have n1 : w.heap.size + 1 ≠ W1.heap.size := by omega
  have n2 : g ≠ W1.heap.size := by omega
  have n3 : k ≠ W1.heap.size := by omega
  have hal : ∀ o, Below W1.heap.size W1 (W1.alloc o) := fun o => (Below.refl _ _).alloc (Nat.le_refl _) o
  have u0 : ∀ o, (W1.alloc o).cell? ⟨w.heap.size, 0, none⟩ = some (.pointer (some ⟨g, 0, none⟩)) := fun o => by rw [(hal o).cell (p := ⟨w.heap.size, 0, none⟩) (by show w.heap.size < _; omega)]; exact x0
  have u1 : ∀ o, (W1.alloc o).cell? ⟨w.heap.size, 1, none⟩ = some (.int .i64 (i : Int)) := fun o => by rw [(hal o).cell (p := ⟨w.heap.size, 1, none⟩) (by show w.heap.size < _; omega)]; exact x1
  have u2 : ∀ o, (W1.alloc o).cell? ⟨w.heap.size + 1, 0, none⟩ = some (.int .i64 n) := fun o => by rw [(hal o).cell (p := ⟨w.heap.size + 1, 0, none⟩) (by show w.heap.size + 1 < _; omega)]; exact x2
  have u3 : ∀ o, (W1.alloc o).cell? ⟨g, 1, none⟩ = some (.slice (some ⟨k, 0, none⟩) T.q.length c) := fun o => by rw [(hal o).cell (p := ⟨g, 1, none⟩) (by show g < _; omega)]; exact y0
  have u4 : ∀ o, (W1.alloc o).cell? ⟨k, i * 2, none⟩ = some (.int .i64 p.tote) := fun o => by rw [(hal o).cell (p := ⟨k, i * 2, none⟩) (by show k < _; omega)]; exact y1
  have u5 : ∀ o, (W1.alloc o).cell? ⟨k, i * 2 + 1, none⟩ = some (.slice a' p.nodes.length c') := fun o => by rw [(hal o).cell (p := ⟨k, i * 2 + 1, none⟩) (by show k < _; omega)]; exact y2
  obtain ⟨W2, hW2⟩ : ∃ W2, W2 = (W1.alloc (.cells #[.int .i64 p.tote, .slice a' p.nodes.length c'] 67)).drew := ⟨_, rfl⟩
  have HB2 : Hid (Below w.heap.size w W2) := hide (by rw [hW2]; exact (hB1.alloc (by omega) _).drew)
  have Hs2 : Hid (w.heap.size + 1 < W2.heap.size) := hide (by rw [hW2]; show _ < (Array.push _ _).size; rw [Array.size_push]; omega)
  have z0 : W2.cell? ⟨w.heap.size, 0, none⟩ = some (.pointer (some ⟨g, 0, none⟩)) := by rw [hW2]; exact u0 _
  have z1 : W2.cell? ⟨w.heap.size + 1, 0, none⟩ = some (.int .i64 n) := by rw [hW2]; exact u2 _
  have z2 : W2.cell? ⟨W1.heap.size, 0, none⟩ = some (.int .i64 p.tote) := by rw [hW2]; exact (cells_at (heap_new W1 _) 0).1
  have HW2 := hide hW2
  have KA := hide (K34.out W2 HB2.out)
  have KB := hide (K47.out W2 (w.heap.size + 1) HB2.out Hs2.out z1)
  clear hal n0 n1 n2 n3 hW2 K34 K47
  have j0 : (0 : Int) ≤ (i : Int) := by omega
  have j1 : (i : Int) < (T.q.length : Int) := by omega
  have j2 : (i : Int) ≤ (c : Int) := by omega
  generalize T.q.length = N at *
  generalize p.nodes.length = M at *
  generalize p.tote = s at *
  clear h hw hi hql hc2 d0 d1 hn hB1 f0 f1 hz hs1 c1 hg hk hc1 hlt
  go_enter Try.func41, Try.ntmps41
  go_upto_region 2 with fail
  rw [← HW1.out]
  clear hW1 HW1
  have hr1 := hr.out
  clear hr
  go_region
  rw [← HW2.out]
  clear u0 u1 u2 u3 u4 u5 x0 x1 x2 y0 y1 y2 HW2
  cases r1 with
  | true =>
    rw [Bool.true_or] at hr1
    subst hr1
    go_wp2_with (go_at_call 34; refine KA.out.mono ?_; rintro e W3 ⟨rfl, hW⟩; have hW' := hW.symm; clear hW; subst hW')
    go_ret
    exact ⟨rfl, HB2.out⟩
  | false =>
    rw [Bool.false_or] at hr1
    subst hr1
    go_wp2_with (first | (go_at_call 34; refine KA.out.mono ?_; rintro e W3 ⟨rfl, hW⟩; have hW' := hW.symm; clear hW; subst hW') | (go_at_call 47; refine KB.out.mono ?_; rintro e W3 ⟨rfl, hb3⟩; have HB3 := hide (HB2.out.trans (hb3.mono HB2.out.size)); clear hb3))
    go_ret
    exact ⟨rfl, HB3.out⟩
end Go.Proofs.Ytbibegendejnlaa
