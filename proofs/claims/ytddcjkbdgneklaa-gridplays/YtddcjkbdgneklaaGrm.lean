/- The document's Do. -/
import Derived.Test.YtddcjkbdgneklaaGrl
namespace Go.Proofs.Ytddcjkbdgneklaa
open Go.RowKit
set_option linter.unusedVariables false

/-- three boxes: a rack, a move, the answer's -/
structure X4 (w0 : World) (h : Nat) (v : Value) (t f o : Int) (z : Value) (W : World) : Prop where
  bel : Below h w0 W
  b1 : W.heap[h]? = some (.cells #[v] 31)
  b2 : W.heap[h + 1]? = some (.cells #[.int .i64 t, .int .i64 f, .int .i64 o] 52)
  b3 : W.heap[h + 2]? = some (.cells #[z] 31)
section
variable {w0 W W' : World} {h : Nat} {v z : Value} {t f o : Int}
theorem X4.cells (x : X4 w0 h v t f o z W) : W.cell? ⟨h, 0, none⟩ = some v ∧ W.cell? ⟨h + 1, 0, none⟩ = some (.int .i64 t) ∧ W.cell? ⟨h + 1, 1, none⟩ = some (.int .i64 f) ∧ W.cell? ⟨h + 1, 2, none⟩ = some (.int .i64 o) ∧ W.cell? ⟨h + 2, 0, none⟩ = some z ∧ (∀ i, W.frozen? ⟨h, i, none⟩ = false) ∧ ∀ i, W.frozen? ⟨h + 2, i, none⟩ = false :=
  ⟨(cells_at x.b1 0).1, (cells_at x.b2 0).1, (cells_at x.b2 1).1, (cells_at x.b2 2).1, (cells_at x.b3 0).1, fun i => (cells_at x.b1 i).2, fun i => (cells_at x.b3 i).2⟩
theorem X4.keep (x : X4 w0 h v t f o z W) (hb : Below W.heap.size W W') : X4 w0 h v t f o z W' :=
  ⟨x.bel.trans (hb.mono (Nat.le_of_lt (heap_lt x.b1))), (hb.block _ (heap_lt x.b1)).trans x.b1, (hb.block _ (heap_lt x.b2)).trans x.b2, (hb.block _ (heap_lt x.b3)).trans x.b3⟩
theorem X4.new (w : World) (v : Value) (t f o : Int) (h : Nat) (hh : w.heap.size = h) : X4 w h v t f o (.slice none 0 0) (((w.alloc (.cells #[v] 31)).alloc (.cells #[.int .i64 t, .int .i64 f, .int .i64 o] 52)).alloc (.cells #[.slice none 0 0] 31)) := by
  subst hh
  have sz : ∀ (V : World) (o : Obj), (V.alloc o).heap.size = V.heap.size + 1 := fun V o => by show (V.heap.push _).size = _; simp
  have b0 : ∀ (V : World) (o : Obj), Below V.heap.size V (V.alloc o) := fun V o => (Below.refl _ _).alloc (Nat.le_refl _) o
  have n1 := heap_new w (.cells #[v] 31)
  have n2 := heap_new (w.alloc (.cells #[v] 31)) (.cells #[.int .i64 t, .int .i64 f, .int .i64 o] 52)
  have n3 := heap_new ((w.alloc (.cells #[v] 31)).alloc (.cells #[.int .i64 t, .int .i64 f, .int .i64 o] 52)) (.cells #[.slice none 0 0] 31)
  rw [sz] at n2
  rw [sz, sz] at n3
  have m1 := (b0 (w.alloc (.cells #[v] 31)) (.cells #[.int .i64 t, .int .i64 f, .int .i64 o] 52)).block _ (heap_lt n1)
  have m2 := (b0 ((w.alloc (.cells #[v] 31)).alloc (.cells #[.int .i64 t, .int .i64 f, .int .i64 o] 52)) (.cells #[.slice none 0 0] 31)).block w.heap.size (by rw [sz, sz]; omega)
  have m3 := (b0 ((w.alloc (.cells #[v] 31)).alloc (.cells #[.int .i64 t, .int .i64 f, .int .i64 o] 52)) (.cells #[.slice none 0 0] 31)).block (w.heap.size + 1) (by rw [sz, sz]; omega)
  refine ⟨((b0 w _).trans ((b0 _ _).mono (by rw [sz]; omega))).trans ((b0 _ _).mono (by rw [sz, sz]; omega)), m2.trans (m1.trans n1), m3.trans n2, n3⟩
theorem X4.put (x : X4 w0 h v t f o z W) (u : Value) : X4 w0 h u t f o z (W.setCell ⟨h, 0, none⟩ u) :=
  ⟨x.bel.setCell (p := ⟨h, 0, none⟩) (Nat.le_refl _) _, by rw [heap_put x.b1]; rfl, by rw [Below.heap_setCell _ _ _ _ (by show h + 1 ≠ h; omega)]; exact x.b2, by rw [Below.heap_setCell _ _ _ _ (by show h + 2 ≠ h; omega)]; exact x.b3⟩
theorem X4.out (x : X4 w0 h v t f o z W) (u : Value) : X4 w0 h v t f o u (W.setCell ⟨h + 2, 0, none⟩ u) :=
  ⟨x.bel.setCell (p := ⟨h + 2, 0, none⟩) (by show h ≤ h + 2; omega) _, by rw [Below.heap_setCell _ _ _ _ (by show h ≠ h + 2; omega)]; exact x.b1, by rw [Below.heap_setCell _ _ _ _ (by show h + 1 ≠ h + 2; omega)]; exact x.b2, by rw [heap_put x.b3]; rfl⟩
theorem X4.off (x : X4 w0 h v t f o z W) {g i : Nat} {u : Value} (hg : h + 3 ≤ g) : X4 w0 h v t f o z (W.setCell ⟨g, i, none⟩ u) :=
  ⟨x.bel.setCell (p := ⟨g, i, none⟩) (by show h ≤ g; omega) _, by rw [Below.heap_setCell _ _ _ _ (by show h ≠ g; omega)]; exact x.b1, by rw [Below.heap_setCell _ _ _ _ (by show h + 1 ≠ g; omega)]; exact x.b2, by rw [Below.heap_setCell _ _ _ _ (by show h + 2 ≠ g; omega)]; exact x.b3⟩
theorem X4.size (x : X4 w0 h v t f o z W) : h + 3 ≤ W.heap.size := heap_lt x.b3
end

section
variable {B : Nat} {a : Option Addr} {n c : Nat} {es : List LnV} {R : Rack}
set_option maxRecDepth 100000 in
set_option maxHeartbeats 8000000 in
theorem rdo_range (t f o : Int) (w : World) (hr : DR w B a n c es R) (hx : ¬ (0 ≤ f ∧ f < (R.length : Int)) ∨ (o ≠ -1 ∧ ¬ (0 ≤ o ∧ o < (R.length : Int))) ∨ f = o) :
    Calls Try.prog 19 #[.agg #[.slice a n c], .agg #[.int .i64 t, .int .i64 f, .int .i64 o]] w (RP w.heap.size w B n (fun v => .tuple #[v, .int .i64 1]) R) := by
  obtain ⟨w0, rfl⟩ : ∃ w0, w0 = w := ⟨_, rfl⟩
  obtain ⟨h, hh⟩ : ∃ h, w0.heap.size = h := ⟨_, rfl⟩
  have HX0 := hide (X4.new w0 (.slice a n c) t f o h hh)
  have HD : Hid (∀ W, Below h w0 W → DR W B a n c es R) := hide (fun W hb => hr.keep (by rw [hh]; exact hb))
  rw [hr.rn] at hx
  rw [hh]
  have Hh := hide hh
  clear hr hh
  go_enter Try.func19, Try.ntmps19
  go_upto_region 1 with fail
  rw [Hh.out]
  generalize ((w0.alloc (.cells #[.slice a n c] 31)).alloc (.cells #[.int .i64 t, .int .i64 f, .int .i64 o] 52)).alloc (.cells #[.slice none 0 0] 31) = W at *
  obtain ⟨x0, x1, x2, x3, x4, x5, x6⟩ := HX0.out.cells
  have HX := hide (HX0.out.out (.slice a n c))
  by_cases h1 : f < 0
  · clear hx
    go_wp2_with fail
    refine bodyPost_ret (v := .tuple #[.agg #[.slice a n c], .int .i64 1]) (by have x := HX.out.cells; simp [results, Try.results19, go_sem, x.2.2.2.2.1]) rfl ⟨_, _, _, rfl, HD.out _ HX.out.bel, HX.out.bel⟩
  by_cases h2 : f ≥ (n : Int)
  · clear hx
    go_wp2_with fail
    refine bodyPost_ret (v := .tuple #[.agg #[.slice a n c], .int .i64 1]) (by have x := HX.out.cells; simp [results, Try.results19, go_sem, x.2.2.2.2.1]) rfl ⟨_, _, _, rfl, HD.out _ HX.out.bel, HX.out.bel⟩
  by_cases h3 : o < -1
  · clear hx
    go_wp2_with fail
    refine bodyPost_ret (v := .tuple #[.agg #[.slice a n c], .int .i64 1]) (by have x := HX.out.cells; simp [results, Try.results19, go_sem, x.2.2.2.2.1]) rfl ⟨_, _, _, rfl, HD.out _ HX.out.bel, HX.out.bel⟩
  by_cases h4 : o ≥ (n : Int)
  · clear hx
    go_wp2_with fail
    refine bodyPost_ret (v := .tuple #[.agg #[.slice a n c], .int .i64 1]) (by have x := HX.out.cells; simp [results, Try.results19, go_sem, x.2.2.2.2.1]) rfl ⟨_, _, _, rfl, HD.out _ HX.out.bel, HX.out.bel⟩
  have h5 : (f == o) = true := beq_iff_eq.2 (by omega)
  clear hx
  go_wp2_with fail
  refine bodyPost_ret (v := .tuple #[.agg #[.slice a n c], .int .i64 1]) (by have x := HX.out.cells; simp [results, Try.results19, go_sem, x.2.2.2.2.1]) rfl ⟨_, _, _, rfl, HD.out _ HX.out.bel, HX.out.bel⟩

set_option maxRecDepth 100000 in
set_option maxHeartbeats 16000000 in
theorem rdo_tote (t : Int) (i : Nat) (o : Int) (l : Nat × List Int) (w : World) (hr : DR w B a n c es R) (hB : B ≤ w.heap.size) (hl : R[i]? = some l) (hor : o = -1 ∨ (0 ≤ o ∧ o < (R.length : Int) ∧ (i : Int) ≠ o)) (ht : l.2.getLast? ≠ some t) :
    Calls Try.prog 19 #[.agg #[.slice a n c], .agg #[.int .i64 t, .int .i64 i, .int .i64 o]] w (RP w.heap.size w B n (fun v => .tuple #[v, .int .i64 160]) R) := by
  obtain ⟨w0, rfl⟩ : ∃ w0, w0 = w := ⟨_, rfl⟩
  obtain ⟨h, hh⟩ : ∃ h, w0.heap.size = h := ⟨_, rfl⟩
  have HX0 := hide (X4.new w0 (.slice a n c) t i o h hh)
  have HD : Hid (∀ W, Below h w0 W → DR W B a n c es R) := hide (fun W hb => hr.keep (by rw [hh]; exact hb))
  have HBh : Hid (B ≤ h) := hide (by rw [← hh]; exact hB)
  have hin : i < n := by rw [← hr.rn]; exact idx_lt hl
  obtain ⟨b, off, a', c', ha, he, _, _, ho0, _⟩ := hr.lane hl
  have hbl := hr.bd i l hl
  obtain ⟨m, hm⟩ : ∃ m, l.2.length = m := ⟨_, rfl⟩
  obtain ⟨ld, hld⟩ : ∃ ld, l.1 = ld := ⟨_, rfl⟩
  rw [hm, hld] at hbl
  subst ha
  have HL : Hid (∀ W, Below h w0 W → W.cell? ⟨b, off + i * 2, none⟩ = some (.int .i64 ld) ∧ W.cell? ⟨b, off + i * 2 + 1, none⟩ = some (.slice a' m c') ∧ intE.Own W B (.slice a' m c') l.2) := hide (fun W hb => by
    obtain ⟨b2, off2, a2, c2, e1, e2, h1, h2, h3, _⟩ := (HD.out W hb).lane hl
    cases e1
    rw [he] at e2
    cases e2
    rw [hm] at h2 h3
    rw [hld] at h1
    exact ⟨h1, h2, h3⟩)
  have Hm := hide hm
  have n32 := hr.n32
  have i0 : (n : Int) ≤ 32 := by omega
  have p0 : (0 : Int) ≤ (i : Int) := by omega
  have p1 : ¬ (i : Int) < 0 := by omega
  have p2 : ¬ (i : Int) ≥ (n : Int) := by omega
  have p3 : (i : Int) < (n : Int) := by omega
  have p6 : ¬ o < -1 := by omega
  have p7 : ¬ o ≥ (n : Int) := by have := hr.rn; omega
  have p8 : ((i : Int) == o) = false := beq_eq_false_iff_ne.2 (by omega)
  rw [hh]
  have Hh := hide hh
  clear hr hh hB he ho0 hl hm hld hor
  go_enter Try.func19, Try.ntmps19
  go_upto_region 1 with fail
  rw [Hh.out]
  generalize ((w0.alloc (.cells #[.slice (some ⟨b, off, none⟩) n c] 31)).alloc (.cells #[.int .i64 t, .int .i64 (i : Int), .int .i64 o] 52)).alloc (.cells #[.slice none 0 0] 31) = W1 at *
  obtain ⟨x0, x1, x2, x3, x4, x5, x6⟩ := HX0.out.cells
  obtain ⟨y0, y1, _⟩ := HL.out W1 HX0.out.bel
  have Hba : Hid (∀ (V : World) (o : Obj), Below V.heap.size V (V.alloc o)) := hide (fun V o => (Below.refl _ _).alloc (Nat.le_refl _) o)
  go_upto_region 5 with fail
  have HX2 := hide (HX0.out.keep (Hba.out W1 (.cells #[.int .i64 ld, .slice a' m c'] 75)))
  have HB7 := hide (heap_new W1 (.cells #[.int .i64 ld, .slice a' m c'] 75))
  have Hg7 : Hid (h + 3 ≤ W1.heap.size) := hide HX0.out.size
  generalize W1.heap.size = g7 at *
  generalize W1.alloc (.cells #[.int .i64 ld, .slice a' m c'] 75) = W2 at *
  clear x0 x1 x2 x3 x4 x5 x6 y0 y1
  obtain ⟨x0, x1, x2, x3, x4, x5, x6⟩ := HX2.out.cells
  have u0 : W2.cell? ⟨g7, 0, none⟩ = some (.int .i64 ld) := (cells_at HB7.out 0).1
  have u1 : W2.cell? ⟨g7, 1, none⟩ = some (.slice a' m c') := (cells_at HB7.out 1).1
  by_cases hm0 : m = 0
  · subst hm0
    go_upto_region 6 with fail
    go_quiet (fail)
    have HX3 := hide (HX2.out.keep (below_drewN W2 nq))
    generalize W2.drewN nq = W3 at *
    clear x0 x1 x2 x3 x4 x5 x6
    obtain ⟨x0, x1, x2, x3, x4, x5, x6⟩ := HX3.out.cells
    have HX := hide (HX3.out.out (.slice (some ⟨b, off, none⟩) n c))
    go_wp2_with fail
    refine bodyPost_ret (v := .tuple #[.agg #[.slice (some ⟨b, off, none⟩) n c], .int .i64 160]) (by have x := HX.out.cells; simp [results, Try.results19, go_sem, x.2.2.2.2.1]) rfl ⟨_, _, _, rfl, HD.out _ HX.out.bel, HX.out.bel⟩
  · obtain ⟨q, rfl⟩ : ∃ q, m = q + 1 := ⟨m - 1, by omega⟩
    obtain ⟨y, hy⟩ : ∃ y, l.2[q]? = some y := ⟨_, List.getElem?_eq_getElem (by rw [Hm.out]; omega)⟩
    have hyt : y ≠ t := fun e => ht (by rw [List.getLast?_eq_getElem?, Hm.out, Nat.add_sub_cancel, hy, e])
    obtain ⟨b9, off9, rfl, z0⟩ := int_at (HL.out W2 HX2.out.bel).2.2.rd q y hy
    obtain ⟨mm, hmm⟩ : ∃ mm, q + 1 = mm := ⟨_, rfl⟩
    simp only [hmm] at u1 HB7 HL ⊢
    have v0 : ((mm : Int) == 0) = false := beq_eq_false_iff_ne.2 (by omega)
    have v1 : (mm : Int) - 1 = (q : Int) := by omega
    have v2 : IntKind.i64.wrap (q : Int) = (q : Int) := by simp [IntKind.wrap, IntKind.bits, IntKind.signed]; omega
    have v3 : (y != t) = true := bne_iff_ne.2 hyt
    have v4 : (0 : Int) ≤ (q : Int) := by omega
    have v5 : (q : Int) < (mm : Int) := by omega
    clear hy hyt ht hm0
    go_upto_region 6 with fail
    go_quiet (fail)
    have HX3 := hide (HX2.out.keep (below_drewN W2 nq))
    generalize W2.drewN nq = W3 at *
    clear x0 x1 x2 x3 x4 x5 x6
    obtain ⟨x0, x1, x2, x3, x4, x5, x6⟩ := HX3.out.cells
    have HX := hide (HX3.out.out (.slice (some ⟨b, off, none⟩) n c))
    go_wp2_with fail
    refine bodyPost_ret (v := .tuple #[.agg #[.slice (some ⟨b, off, none⟩) n c], .int .i64 160]) (by have x := HX.out.cells; simp [results, Try.results19, go_sem, x.2.2.2.2.1]) rfl ⟨_, _, _, rfl, HD.out _ HX.out.bel, HX.out.bel⟩

set_option maxRecDepth 100000 in
set_option maxHeartbeats 16000000 in
theorem rdo_full (t : Int) (i : Nat) (j : Nat) (k : Nat × List Int) (l : Nat × List Int) (w : World) (hr : DR w B a n c es R) (hB : B ≤ w.heap.size) (hl : R[i]? = some l) (hj : R[j]? = some k) (hij : i ≠ j) (ht : l.2.getLast? = some t) (hrm : k.1 ≤ k.2.length) :
    Calls Try.prog 19 #[.agg #[.slice a n c], .agg #[.int .i64 t, .int .i64 i, .int .i64 j]] w (RP w.heap.size w B n (fun v => .tuple #[v, .int .i64 5]) R) := by
  obtain ⟨w0, rfl⟩ : ∃ w0, w0 = w := ⟨_, rfl⟩
  obtain ⟨h, hh⟩ : ∃ h, w0.heap.size = h := ⟨_, rfl⟩
  have HX0 := hide (X4.new w0 (.slice a n c) t i (j : Int) h hh)
  have HD : Hid (∀ W, Below h w0 W → DR W B a n c es R) := hide (fun W hb => hr.keep (by rw [hh]; exact hb))
  have HBh : Hid (B ≤ h) := hide (by rw [← hh]; exact hB)
  have hin : i < n := by rw [← hr.rn]; exact idx_lt hl
  obtain ⟨b, off, a', c', ha, he, _, _, ho0, _⟩ := hr.lane hl
  have hbl := hr.bd i l hl
  obtain ⟨m, hm⟩ : ∃ m, l.2.length = m := ⟨_, rfl⟩
  obtain ⟨ld, hld⟩ : ∃ ld, l.1 = ld := ⟨_, rfl⟩
  rw [hm, hld] at hbl
  subst ha
  have HL : Hid (∀ W, Below h w0 W → W.cell? ⟨b, off + i * 2, none⟩ = some (.int .i64 ld) ∧ W.cell? ⟨b, off + i * 2 + 1, none⟩ = some (.slice a' m c') ∧ intE.Own W B (.slice a' m c') l.2) := hide (fun W hb => by
    obtain ⟨b2, off2, a2, c2, e1, e2, h1, h2, h3, _⟩ := (HD.out W hb).lane hl
    cases e1
    rw [he] at e2
    cases e2
    rw [hm] at h2 h3
    rw [hld] at h1
    exact ⟨h1, h2, h3⟩)
  have Hm := hide hm
  have n32 := hr.n32
  have i0 : (n : Int) ≤ 32 := by omega
  have p0 : (0 : Int) ≤ (i : Int) := by omega
  have p1 : ¬ (i : Int) < 0 := by omega
  have p2 : ¬ (i : Int) ≥ (n : Int) := by omega
  have p3 : (i : Int) < (n : Int) := by omega
  obtain ⟨q, hmq⟩ : ∃ q, m = q + 1 := ⟨m - 1, by have := List.length_pos_of_mem (List.mem_of_getLast? ht); rw [hm] at this; omega⟩
  have Hy : Hid (l.2[q]? = some t) := hide (by rw [List.getLast?_eq_getElem?, hm, hmq, Nat.add_sub_cancel] at ht; exact ht)
  have Hmq := hide hmq
  clear hmq
  obtain ⟨_, _, aj, cj, ej, hej, _, _, _, _⟩ := hr.lane hj
  clear ej
  have hbj := hr.bd j k hj
  obtain ⟨mj, hmj⟩ : ∃ mj, k.2.length = mj := ⟨_, rfl⟩
  obtain ⟨dj, hdj⟩ : ∃ dj, k.1 = dj := ⟨_, rfl⟩
  rw [hmj, hdj] at hbj hrm
  have HJ : Hid (∀ W, Below h w0 W → W.cell? ⟨b, off + j * 2, none⟩ = some (.int .i64 dj) ∧ W.cell? ⟨b, off + j * 2 + 1, none⟩ = some (.slice aj mj cj)) := hide (fun W hb => by
    obtain ⟨b2, off2, a2, c2, e1, e2, h1, h2, h3, _⟩ := (HD.out W hb).lane hj
    cases e1
    rw [hej] at e2
    cases e2
    rw [hmj] at h2
    rw [hdj] at h1
    exact ⟨h1, h2⟩)
  have hjn : j < n := by rw [← hr.rn]; exact idx_lt hj
  have p6 : ¬ ((j : Int) < -1) := by omega
  have p7 : ¬ ((j : Int) ≥ (n : Int)) := by omega
  have p8 : ((i : Int) == (j : Int)) = false := beq_eq_false_iff_ne.2 (by omega)
  have p9 : (j : Int) ≥ 0 := by omega
  have p10 : (0 : Int) ≤ (j : Int) := by omega
  have p11 : (j : Int) < (n : Int) := by omega
  have p12 : decide ((mj : Int) ≥ (dj : Int)) = true := decide_eq_true (by omega)
  have p13 : (mj : Int) ≥ (dj : Int) := by omega
  have p14 : dj ≤ mj := by omega
  rw [hh]
  have Hh := hide hh
  clear hr hh hB he ho0 hl hm hld hj hij ht hrm hej hmj hdj
  go_enter Try.func19, Try.ntmps19
  go_upto_region 1 with fail
  rw [Hh.out]
  generalize ((w0.alloc (.cells #[.slice (some ⟨b, off, none⟩) n c] 31)).alloc (.cells #[.int .i64 t, .int .i64 (i : Int), .int .i64 (j : Int)] 52)).alloc (.cells #[.slice none 0 0] 31) = W1 at *
  obtain ⟨x0, x1, x2, x3, x4, x5, x6⟩ := HX0.out.cells
  obtain ⟨y0, y1, _⟩ := HL.out W1 HX0.out.bel
  have Hba : Hid (∀ (V : World) (o : Obj), Below V.heap.size V (V.alloc o)) := hide (fun V o => (Below.refl _ _).alloc (Nat.le_refl _) o)
  go_upto_region 5 with fail
  have HX2 := hide (HX0.out.keep (Hba.out W1 (.cells #[.int .i64 ld, .slice a' m c'] 75)))
  have HB7 := hide (heap_new W1 (.cells #[.int .i64 ld, .slice a' m c'] 75))
  have Hg7 : Hid (h + 3 ≤ W1.heap.size) := hide HX0.out.size
  generalize W1.heap.size = g7 at *
  generalize W1.alloc (.cells #[.int .i64 ld, .slice a' m c'] 75) = W2 at *
  clear x0 x1 x2 x3 x4 x5 x6 y0 y1
  obtain ⟨x0, x1, x2, x3, x4, x5, x6⟩ := HX2.out.cells
  have u0 : W2.cell? ⟨g7, 0, none⟩ = some (.int .i64 ld) := (cells_at HB7.out 0).1
  have u1 : W2.cell? ⟨g7, 1, none⟩ = some (.slice a' m c') := (cells_at HB7.out 1).1
  have hmq := Hmq.out
  obtain ⟨b9, off9, ea9, z0⟩ := int_at (HL.out W2 HX2.out.bel).2.2.rd q t Hy.out
  subst ea9
  have v0 : ((m : Int) == 0) = false := beq_eq_false_iff_ne.2 (by omega)
  have v1 : (m : Int) - 1 = (q : Int) := by omega
  have v2 : IntKind.i64.wrap (q : Int) = (q : Int) := by simp [IntKind.wrap, IntKind.bits, IntKind.signed]; omega
  have v3 : (t != t) = false := bne_self_eq_false _
  have v4 : (0 : Int) ≤ (q : Int) := by omega
  have v5 : (q : Int) < (m : Int) := by omega
  clear hmq
  go_upto_region 6 with fail
  go_quiet (fail)
  have HX3 := hide (HX2.out.keep (below_drewN W2 nq))
  have HB3 := hide (((below_drewN W2 nq).block _ (heap_lt HB7.out)).trans HB7.out)
  generalize W2.drewN nq = W3 at *
  clear x0 x1 x2 x3 x4 x5 x6 u0 u1 z0 HX2
  obtain ⟨x0, x1, x2, x3, x4, x5, x6⟩ := HX3.out.cells
  have u0 : W3.cell? ⟨g7, 0, none⟩ = some (.int .i64 ld) := (cells_at HB3.out 0).1
  have u1 : W3.cell? ⟨g7, 1, none⟩ = some (.slice (some ⟨b9, off9, none⟩) m c') := (cells_at HB3.out 1).1
  obtain ⟨w0', w1'⟩ := HJ.out W3 HX3.out.bel
  go_upto_region 8 with fail
  go_quiet (fail)
  have HX4 := hide (HX3.out.keep (below_drewN W3 nq))
  have HB4 := hide (((below_drewN W3 nq).block _ (heap_lt HB3.out)).trans HB3.out)
  generalize W3.drewN nq = W4 at *
  clear x0 x1 x2 x3 x4 x5 x6 u0 u1 HX3 w0' w1'
  obtain ⟨x0, x1, x2, x3, x4, x5, x6⟩ := HX4.out.cells
  have u0 : W4.cell? ⟨g7, 0, none⟩ = some (.int .i64 ld) := (cells_at HB4.out 0).1
  have u1 : W4.cell? ⟨g7, 1, none⟩ = some (.slice (some ⟨b9, off9, none⟩) m c') := (cells_at HB4.out 1).1
  have HX := hide (HX4.out.out (.slice (some ⟨b, off, none⟩) n c))
  go_wp2_with fail
  refine bodyPost_ret (v := .tuple #[.agg #[.slice (some ⟨b, off, none⟩) n c], .int .i64 5]) (by have x := HX.out.cells; simp [results, Try.results19, go_sem, x.2.2.2.2.1]) rfl ⟨_, _, _, rfl, HD.out _ HX.out.bel, HX.out.bel⟩

set_option maxRecDepth 100000 in
set_option maxHeartbeats 16000000 in
theorem rdo_out (t : Int) (i : Nat)  (l : Nat × List Int) (w : World) (hr : DR w B a n c es R) (hB : B ≤ w.heap.size) (hl : R[i]? = some l) (ht : l.2.getLast? = some t) :
    Calls Try.prog 19 #[.agg #[.slice a n c], .agg #[.int .i64 t, .int .i64 i, .int .i64 (-1)]] w (RP w.heap.size w B n (fun v => .tuple #[v, .int .i64 0]) (R.set i (l.1, l.2.dropLast))) := by
  obtain ⟨w0, rfl⟩ : ∃ w0, w0 = w := ⟨_, rfl⟩
  obtain ⟨h, hh⟩ : ∃ h, w0.heap.size = h := ⟨_, rfl⟩
  have HX0 := hide (X4.new w0 (.slice a n c) t i (-1) h hh)
  have HD : Hid (∀ W, Below h w0 W → DR W B a n c es R) := hide (fun W hb => hr.keep (by rw [hh]; exact hb))
  have HBh : Hid (B ≤ h) := hide (by rw [← hh]; exact hB)
  have hin : i < n := by rw [← hr.rn]; exact idx_lt hl
  obtain ⟨b, off, a', c', ha, he, _, _, ho0, _⟩ := hr.lane hl
  have hbl := hr.bd i l hl
  obtain ⟨m, hm⟩ : ∃ m, l.2.length = m := ⟨_, rfl⟩
  obtain ⟨ld, hld⟩ : ∃ ld, l.1 = ld := ⟨_, rfl⟩
  rw [hm, hld] at hbl
  subst ha
  have HL : Hid (∀ W, Below h w0 W → W.cell? ⟨b, off + i * 2, none⟩ = some (.int .i64 ld) ∧ W.cell? ⟨b, off + i * 2 + 1, none⟩ = some (.slice a' m c') ∧ intE.Own W B (.slice a' m c') l.2) := hide (fun W hb => by
    obtain ⟨b2, off2, a2, c2, e1, e2, h1, h2, h3, _⟩ := (HD.out W hb).lane hl
    cases e1
    rw [he] at e2
    cases e2
    rw [hm] at h2 h3
    rw [hld] at h1
    exact ⟨h1, h2, h3⟩)
  have Hm := hide hm
  have n32 := hr.n32
  have i0 : (n : Int) ≤ 32 := by omega
  have p0 : (0 : Int) ≤ (i : Int) := by omega
  have p1 : ¬ (i : Int) < 0 := by omega
  have p2 : ¬ (i : Int) ≥ (n : Int) := by omega
  have p3 : (i : Int) < (n : Int) := by omega
  obtain ⟨q, hmq⟩ : ∃ q, m = q + 1 := ⟨m - 1, by have := List.length_pos_of_mem (List.mem_of_getLast? ht); rw [hm] at this; omega⟩
  have Hy : Hid (l.2[q]? = some t) := hide (by rw [List.getLast?_eq_getElem?, hm, hmq, Nat.add_sub_cancel] at ht; exact ht)
  have Hmq := hide hmq
  clear hmq
  have p4 : ¬ ((-1 : Int) ≥ (n : Int)) := by omega
  have p5 : ((i : Int) == -1) = false := beq_eq_false_iff_ne.2 (by omega)
  have HPop : Hid (∀ W, Below h w0 W → Calls Try.prog 38 #[.agg #[.int .i64 ld, .slice a' m c']] W fun e w' => ∃ a3 c3, e = .returned (.tuple #[.agg #[.int .i64 ld, .slice a3 q c3], .int .i64 (popV l.2), .int .i64 (popC l.2)]) ∧ intE.Own w' B (.slice a3 q c3) l.2.dropLast ∧ Below W.heap.size W w') := hide (fun W hb => (rpop_any (B := B) (HL.out W hb).2.2 (by have := hb.size; have := HBh.out; omega) Hm.out (by omega)).mono (by
    rintro e w' ⟨v, rfl, ho, hb'⟩
    obtain ⟨a3, c3, hv⟩ := ho.rd.form
    have hlq : l.2.dropLast.length = q := by rw [List.length_dropLast, Hm.out, Hmq.out]; omega
    rw [hlq] at hv
    subst hv
    exact ⟨a3, c3, rfl, ho, hb'⟩))
  have HSet : Hid (∀ (W : World) (a3 : Option Addr) (c3 : Nat), Below h w0 W → intE.Own W B (.slice a3 q c3) l.2.dropLast → Calls Try.prog 32 #[.agg #[.slice (some ⟨b, off, none⟩) n c], .int .i64 i, .agg #[.int .i64 ld, .slice a3 q c3]] W fun e w' => ∃ a' c' es', e = .returned (.agg #[.slice a' n c']) ∧ DR w' B a' n c' es' (R.set i (ld, l.2.dropLast)) ∧ Below W.heap.size W w') := hide (fun W a3 c3 hb ho => rset_any i W (HD.out W hb) hin (by have := hb.size; have := HBh.out; omega) ho (by rw [List.length_dropLast, Hm.out, Hmq.out]; omega) (by have := Hmq.out; omega) (by omega))
  rw [hld]
  rw [hh]
  have Hh := hide hh
  clear hr hh hB he ho0 hl hm hld ht
  go_enter Try.func19, Try.ntmps19
  go_upto_region 1 with fail
  rw [Hh.out]
  generalize ((w0.alloc (.cells #[.slice (some ⟨b, off, none⟩) n c] 31)).alloc (.cells #[.int .i64 t, .int .i64 (i : Int), .int .i64 (-1)] 52)).alloc (.cells #[.slice none 0 0] 31) = W1 at *
  obtain ⟨x0, x1, x2, x3, x4, x5, x6⟩ := HX0.out.cells
  obtain ⟨y0, y1, _⟩ := HL.out W1 HX0.out.bel
  have Hba : Hid (∀ (V : World) (o : Obj), Below V.heap.size V (V.alloc o)) := hide (fun V o => (Below.refl _ _).alloc (Nat.le_refl _) o)
  go_upto_region 5 with fail
  have HX2 := hide (HX0.out.keep (Hba.out W1 (.cells #[.int .i64 ld, .slice a' m c'] 75)))
  have HB7 := hide (heap_new W1 (.cells #[.int .i64 ld, .slice a' m c'] 75))
  have Hg7 : Hid (h + 3 ≤ W1.heap.size) := hide HX0.out.size
  generalize W1.heap.size = g7 at *
  generalize W1.alloc (.cells #[.int .i64 ld, .slice a' m c'] 75) = W2 at *
  clear x0 x1 x2 x3 x4 x5 x6 y0 y1
  obtain ⟨x0, x1, x2, x3, x4, x5, x6⟩ := HX2.out.cells
  have u0 : W2.cell? ⟨g7, 0, none⟩ = some (.int .i64 ld) := (cells_at HB7.out 0).1
  have u1 : W2.cell? ⟨g7, 1, none⟩ = some (.slice a' m c') := (cells_at HB7.out 1).1
  have hmq := Hmq.out
  obtain ⟨b9, off9, ea9, z0⟩ := int_at (HL.out W2 HX2.out.bel).2.2.rd q t Hy.out
  subst ea9
  have v0 : ((m : Int) == 0) = false := beq_eq_false_iff_ne.2 (by omega)
  have v1 : (m : Int) - 1 = (q : Int) := by omega
  have v2 : IntKind.i64.wrap (q : Int) = (q : Int) := by simp [IntKind.wrap, IntKind.bits, IntKind.signed]; omega
  have v3 : (t != t) = false := bne_self_eq_false _
  have v4 : (0 : Int) ≤ (q : Int) := by omega
  have v5 : (q : Int) < (m : Int) := by omega
  clear hmq
  go_upto_region 6 with fail
  go_quiet (fail)
  have HX3 := hide (HX2.out.keep (below_drewN W2 nq))
  have HB3 := hide (((below_drewN W2 nq).block _ (heap_lt HB7.out)).trans HB7.out)
  generalize W2.drewN nq = W3 at *
  clear x0 x1 x2 x3 x4 x5 x6 u0 u1 z0 HX2
  obtain ⟨x0, x1, x2, x3, x4, x5, x6⟩ := HX3.out.cells
  have u0 : W3.cell? ⟨g7, 0, none⟩ = some (.int .i64 ld) := (cells_at HB3.out 0).1
  have u1 : W3.cell? ⟨g7, 1, none⟩ = some (.slice (some ⟨b9, off9, none⟩) m c') := (cells_at HB3.out 1).1
  go_upto_region 8 with fail
  go_quiet (fail)
  have HX4 := hide (HX3.out.keep (below_drewN W3 nq))
  have HB4 := hide (((below_drewN W3 nq).block _ (heap_lt HB3.out)).trans HB3.out)
  generalize W3.drewN nq = W4 at *
  clear x0 x1 x2 x3 x4 x5 x6 u0 u1 HX3
  obtain ⟨x0, x1, x2, x3, x4, x5, x6⟩ := HX4.out.cells
  have u0 : W4.cell? ⟨g7, 0, none⟩ = some (.int .i64 ld) := (cells_at HB4.out 0).1
  have u1 : W4.cell? ⟨g7, 1, none⟩ = some (.slice (some ⟨b9, off9, none⟩) m c') := (cells_at HB4.out 1).1
  have K38 := hide (HPop.out W4 HX4.out.bel)
  generalize popV l.2 = pv at *
  generalize popC l.2 = pc at *
  go_upto_region 11 with (go_at_call 38; refine K38.out.mono ?_; rintro e W5 ⟨a3, c3, rfl, ho, hb⟩; have HX5 := hide (HX4.out.keep hb); have HB5 := hide ((hb.block _ (heap_lt HB4.out)).trans HB4.out); have HO5 := hide ho; clear ho hb; obtain ⟨s0, s1, s2, s3, s4, s5, s6⟩ := HX5.out.cells; have r0 : W5.cell? ⟨g7, 0, none⟩ = some (.int .i64 ld) := (cells_at HB5.out 0).1; have r1 : W5.cell? ⟨g7, 1, none⟩ = some (.slice (some ⟨b9, off9, none⟩) m c') := (cells_at HB5.out 1).1; have r2 : W5.frozen? ⟨g7, 0, none⟩ = false := (cells_at HB5.out 0).2; have r3 : W5.frozen? ⟨g7, 1, none⟩ = false := (cells_at HB5.out 1).2)
  have HX6 : Hid (X4 w0 h (.slice (some ⟨b, off, none⟩) n c) t i (-1) (.slice none 0 0) ((W5.setCell ⟨g7, 0, none⟩ (.int .i64 ld)).setCell ⟨g7, 1, none⟩ (.slice a3 q c3))) := hide ((HX5.out.off Hg7.out).off Hg7.out)
  have HB6 : Hid (((W5.setCell ⟨g7, 0, none⟩ (.int .i64 ld)).setCell ⟨g7, 1, none⟩ (.slice a3 q c3)).heap[g7]? = some (.cells #[.int .i64 ld, .slice a3 q c3] 75)) := hide (by rw [heap_put (heap_put HB5.out _) _]; rfl)
  have HO6 : Hid (intE.Own ((W5.setCell ⟨g7, 0, none⟩ (.int .i64 ld)).setCell ⟨g7, 1, none⟩ (.slice a3 q c3)) B (.slice a3 q c3) l.2.dropLast) := hide (own_set_other (own_set_other HO5.out (zown_ne HO5.out HB5.out (by decide))) (zown_ne HO5.out HB5.out (by decide)))
  clear s0 s1 s2 s3 s4 s5 s6 r0 r1 r2 r3 x0 x1 x2 x3 x4 x5 x6 u0 u1 HX4 HB4 HX5 HB5 HO5
  generalize (W5.setCell ⟨g7, 0, none⟩ (.int .i64 ld)).setCell ⟨g7, 1, none⟩ (.slice a3 q c3) = W6 at *
  obtain ⟨x0, x1, x2, x3, x4, x5, x6⟩ := HX6.out.cells
  have u0 : W6.cell? ⟨g7, 0, none⟩ = some (.int .i64 ld) := (cells_at HB6.out 0).1
  have u1 : W6.cell? ⟨g7, 1, none⟩ = some (.slice a3 q c3) := (cells_at HB6.out 1).1
  have K32 := hide (HSet.out W6 a3 c3 HX6.out.bel HO6.out)
  go_upto_region 12 with (go_at_call 32; refine K32.out.mono ?_; rintro e W7 ⟨a7, c7, es7, rfl, hd, hb⟩; have HX7 := hide (HX6.out.keep hb); have HD7 := hide hd; clear hd hb; obtain ⟨s0, s1, s2, s3, s4, s5, s6⟩ := HX7.out.cells)
  have HX8 := hide (HX7.out.put (.slice a7 n c7))
  have HD8 := hide (HD7.out.box (i := 0) (u := .slice a7 n c7) HX7.out.b1 (by decide) (by decide))
  clear x0 x1 x2 x3 x4 x5 x6 u0 u1 s0 s1 s2 s3 s4 s5 s6 HX7 HD7 HX6 HB6 HO6 K32 K38
  generalize W7.setCell ⟨h, 0, none⟩ (.slice a7 n c7) = W8 at *
  obtain ⟨x0, x1, x2, x3, x4, x5, x6⟩ := HX8.out.cells
  have HX := hide (HX8.out.out (.slice a7 n c7))
  have HD9 := hide (HD8.out.box (i := 0) (u := .slice a7 n c7) HX8.out.b3 (by decide) (by decide))
  go_wp2_with fail
  refine bodyPost_ret (v := .tuple #[.agg #[.slice a7 n c7], .int .i64 0]) (by have x := HX.out.cells; simp [results, Try.results19, go_sem, x.2.2.2.2.1]) rfl ⟨_, _, _, rfl, HD9.out, HX.out.bel⟩
end
end Go.Proofs.Ytddcjkbdgneklaa
