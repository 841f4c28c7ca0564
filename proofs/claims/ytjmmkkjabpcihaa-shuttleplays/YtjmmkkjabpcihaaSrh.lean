/- The document's shuttle: Assign, New. -/
import Derived.Test.YtjmmkkjabpcihaaSrg
namespace Go.Proofs.Ytjmmkkjabpcihaa
open Go.RowKit
set_option linter.unusedVariables false

theorem Db.new3 (w : World) (S : Sh) (o : Obj) (h : Nat) (hh : w.heap.size = h) : Db w (((w.alloc (.cells (shC S) 33)).alloc o).alloc (.cells (shC ⟨0, 0, 0, 0, 0, 0, 0, 0, 0, 0⟩) 33)) h (h + 2) S ⟨0, 0, 0, 0, 0, 0, 0, 0, 0, 0⟩ ∧ (((w.alloc (.cells (shC S) 33)).alloc o).alloc (.cells (shC ⟨0, 0, 0, 0, 0, 0, 0, 0, 0, 0⟩) 33)).heap[h + 1]? = some o := by
  have a := (BW.nil w).new (.cells (shC S) 33) h hh
  have b := a.new o (h + 1) (by show (w.heap.push _).size = _; rw [Array.size_push, hh])
  have c := b.new (.cells (shC ⟨0, 0, 0, 0, 0, 0, 0, 0, 0, 0⟩) 33) (h + 2) (by show ((w.heap.push _).push _).size = _; rw [Array.size_push, Array.size_push, hh])
  exact ⟨⟨c.bel, (c.bx (h, _) (by simp)).1, (c.bx (h + 2, _) (by simp)).1, by omega, by omega, by omega⟩, (c.bx (h + 1, _) (by simp)).1⟩
set_option maxRecDepth 100000 in
set_option maxHeartbeats 1000000 in
theorem ras_any (S : Sh) (t f o : Int) (w : World) : Calls Try.prog 12 #[.agg #[.int .i64 S.n, .int .i64 S.pt, .int .i64 S.pl, .int .i64 S.st, .int .i64 S.was, .int .i64 S.tk, .int .i64 S.jt, .int .i64 S.jf, .int .i64 S.jo, .int .i64 S.dn], .agg #[.int .i64 t, .int .i64 f, .int .i64 o]] w fun e w' => e = .returned (.tuple #[.agg #[.int .i64 (S.as t f o).n, .int .i64 (S.as t f o).pt, .int .i64 (S.as t f o).pl, .int .i64 (S.as t f o).st, .int .i64 (S.as t f o).was, .int .i64 (S.as t f o).tk, .int .i64 (S.as t f o).jt, .int .i64 (S.as t f o).jf, .int .i64 (S.as t f o).jo, .int .i64 (S.as t f o).dn], .int .i64 (S.asC t f o)]) ∧ Below w.heap.size w w' := by
  obtain ⟨n, pt, pl, st, was, tk, jt, jf, jo, dn⟩ := S
  obtain ⟨h, hh⟩ : ∃ h, w.heap.size = h := ⟨_, rfl⟩
  have HD : Hid (Db w (((w.alloc (.cells #[.int .i64 n, .int .i64 pt, .int .i64 pl, .int .i64 st, .int .i64 was, .int .i64 tk, .int .i64 jt, .int .i64 jf, .int .i64 jo, .int .i64 dn] 33)).alloc (.cells #[.int .i64 t, .int .i64 f, .int .i64 o] 31)).alloc (.cells #[.int .i64 0, .int .i64 0, .int .i64 0, .int .i64 0, .int .i64 0, .int .i64 0, .int .i64 0, .int .i64 0, .int .i64 0, .int .i64 0] 33)) h (h + 2) ⟨n, pt, pl, st, was, tk, jt, jf, jo, dn⟩ ⟨0, 0, 0, 0, 0, 0, 0, 0, 0, 0⟩) := hide (Db.new3 w ⟨n, pt, pl, st, was, tk, jt, jf, jo, dn⟩ (.cells #[.int .i64 t, .int .i64 f, .int .i64 o] 31) h hh).1
  have HJ : Hid ((((w.alloc (.cells #[.int .i64 n, .int .i64 pt, .int .i64 pl, .int .i64 st, .int .i64 was, .int .i64 tk, .int .i64 jt, .int .i64 jf, .int .i64 jo, .int .i64 dn] 33)).alloc (.cells #[.int .i64 t, .int .i64 f, .int .i64 o] 31)).alloc (.cells #[.int .i64 0, .int .i64 0, .int .i64 0, .int .i64 0, .int .i64 0, .int .i64 0, .int .i64 0, .int .i64 0, .int .i64 0, .int .i64 0] 33)).heap[h + 1]? = some (.cells #[.int .i64 t, .int .i64 f, .int .i64 o] 31)) := hide (Db.new3 w ⟨n, pt, pl, st, was, tk, jt, jf, jo, dn⟩ (.cells #[.int .i64 t, .int .i64 f, .int .i64 o] 31) h hh).2
  have Hh := hide hh
  clear hh
  by_cases h1 : t < 1
  · have e1 : Sh.asC ⟨n, pt, pl, st, was, tk, jt, jf, jo, dn⟩ t f o = 1 := if_pos (.inl h1)
    have e2 : Sh.as ⟨n, pt, pl, st, was, tk, jt, jf, jo, dn⟩ t f o = ⟨n, pt, pl, st, was, tk, jt, jf, jo, dn⟩ := if_neg (by rw [e1]; decide)
    rw [e1, e2]
    clear e1 e2
    go_enter Try.func12, Try.ntmps12
    go_upto_region 1 with fail
    rw [Hh.out]
    generalize ((w.alloc (.cells #[.int .i64 n, .int .i64 pt, .int .i64 pl, .int .i64 st, .int .i64 was, .int .i64 tk, .int .i64 jt, .int .i64 jf, .int .i64 jo, .int .i64 dn] 33)).alloc (.cells #[.int .i64 t, .int .i64 f, .int .i64 o] 31)).alloc (.cells #[.int .i64 0, .int .i64 0, .int .i64 0, .int .i64 0, .int .i64 0, .int .i64 0, .int .i64 0, .int .i64 0, .int .i64 0, .int .i64 0] 33) = W at *
    obtain ⟨c0, c1, c2, c3, c4, c5, c6, c7, c8, c9, cf⟩ := cells10 HD.out.b1
    clear cf
    have j0 : W.cell? ⟨h + 1, 0, none⟩ = some (.int .i64 t) := (cells_at HJ.out 0).1
    have j1 : W.cell? ⟨h + 1, 1, none⟩ = some (.int .i64 f) := (cells_at HJ.out 1).1
    have j2 : W.cell? ⟨h + 1, 2, none⟩ = some (.int .i64 o) := (cells_at HJ.out 2).1
    obtain ⟨d0, d1, d2, d3, d4, d5, d6, d7, d8, d9, df⟩ := cells10 HD.out.b2
    have HX := hide (HD.out.out ⟨n, pt, pl, st, was, tk, jt, jf, jo, dn⟩)
    go_wp2_with fail
    refine bodyPost_ret (v := .tuple #[.agg #[.int .i64 n, .int .i64 pt, .int .i64 pl, .int .i64 st, .int .i64 was, .int .i64 tk, .int .i64 jt, .int .i64 jf, .int .i64 jo, .int .i64 dn], .int .i64 1]) (by have x := cells10 HX.out.b2; simp [results, Try.results12, go_sem, x.1, x.2.1, x.2.2.1, x.2.2.2.1, x.2.2.2.2.1, x.2.2.2.2.2.1, x.2.2.2.2.2.2.1, x.2.2.2.2.2.2.2.1, x.2.2.2.2.2.2.2.2.1, x.2.2.2.2.2.2.2.2.2.1]) rfl ⟨rfl, HX.out.bel⟩
  by_cases h2 : t > 30
  · have e1 : Sh.asC ⟨n, pt, pl, st, was, tk, jt, jf, jo, dn⟩ t f o = 1 := if_pos (.inr (.inl h2))
    have e2 : Sh.as ⟨n, pt, pl, st, was, tk, jt, jf, jo, dn⟩ t f o = ⟨n, pt, pl, st, was, tk, jt, jf, jo, dn⟩ := if_neg (by rw [e1]; decide)
    rw [e1, e2]
    clear e1 e2
    go_enter Try.func12, Try.ntmps12
    go_upto_region 1 with fail
    rw [Hh.out]
    generalize ((w.alloc (.cells #[.int .i64 n, .int .i64 pt, .int .i64 pl, .int .i64 st, .int .i64 was, .int .i64 tk, .int .i64 jt, .int .i64 jf, .int .i64 jo, .int .i64 dn] 33)).alloc (.cells #[.int .i64 t, .int .i64 f, .int .i64 o] 31)).alloc (.cells #[.int .i64 0, .int .i64 0, .int .i64 0, .int .i64 0, .int .i64 0, .int .i64 0, .int .i64 0, .int .i64 0, .int .i64 0, .int .i64 0] 33) = W at *
    obtain ⟨c0, c1, c2, c3, c4, c5, c6, c7, c8, c9, cf⟩ := cells10 HD.out.b1
    clear cf
    have j0 : W.cell? ⟨h + 1, 0, none⟩ = some (.int .i64 t) := (cells_at HJ.out 0).1
    have j1 : W.cell? ⟨h + 1, 1, none⟩ = some (.int .i64 f) := (cells_at HJ.out 1).1
    have j2 : W.cell? ⟨h + 1, 2, none⟩ = some (.int .i64 o) := (cells_at HJ.out 2).1
    obtain ⟨d0, d1, d2, d3, d4, d5, d6, d7, d8, d9, df⟩ := cells10 HD.out.b2
    have HX := hide (HD.out.out ⟨n, pt, pl, st, was, tk, jt, jf, jo, dn⟩)
    go_wp2_with fail
    refine bodyPost_ret (v := .tuple #[.agg #[.int .i64 n, .int .i64 pt, .int .i64 pl, .int .i64 st, .int .i64 was, .int .i64 tk, .int .i64 jt, .int .i64 jf, .int .i64 jo, .int .i64 dn], .int .i64 1]) (by have x := cells10 HX.out.b2; simp [results, Try.results12, go_sem, x.1, x.2.1, x.2.2.1, x.2.2.2.1, x.2.2.2.2.1, x.2.2.2.2.2.1, x.2.2.2.2.2.2.1, x.2.2.2.2.2.2.2.1, x.2.2.2.2.2.2.2.2.1, x.2.2.2.2.2.2.2.2.2.1]) rfl ⟨rfl, HX.out.bel⟩
  by_cases h3 : f < 0
  · have e1 : Sh.asC ⟨n, pt, pl, st, was, tk, jt, jf, jo, dn⟩ t f o = 1 := if_pos (.inr (.inr (.inl (decide_eq_false (by show ¬ (0 ≤ f ∧ f < n); omega)))))
    have e2 : Sh.as ⟨n, pt, pl, st, was, tk, jt, jf, jo, dn⟩ t f o = ⟨n, pt, pl, st, was, tk, jt, jf, jo, dn⟩ := if_neg (by rw [e1]; decide)
    rw [e1, e2]
    clear e1 e2
    go_enter Try.func12, Try.ntmps12
    go_upto_region 1 with fail
    rw [Hh.out]
    generalize ((w.alloc (.cells #[.int .i64 n, .int .i64 pt, .int .i64 pl, .int .i64 st, .int .i64 was, .int .i64 tk, .int .i64 jt, .int .i64 jf, .int .i64 jo, .int .i64 dn] 33)).alloc (.cells #[.int .i64 t, .int .i64 f, .int .i64 o] 31)).alloc (.cells #[.int .i64 0, .int .i64 0, .int .i64 0, .int .i64 0, .int .i64 0, .int .i64 0, .int .i64 0, .int .i64 0, .int .i64 0, .int .i64 0] 33) = W at *
    obtain ⟨c0, c1, c2, c3, c4, c5, c6, c7, c8, c9, cf⟩ := cells10 HD.out.b1
    clear cf
    have j0 : W.cell? ⟨h + 1, 0, none⟩ = some (.int .i64 t) := (cells_at HJ.out 0).1
    have j1 : W.cell? ⟨h + 1, 1, none⟩ = some (.int .i64 f) := (cells_at HJ.out 1).1
    have j2 : W.cell? ⟨h + 1, 2, none⟩ = some (.int .i64 o) := (cells_at HJ.out 2).1
    obtain ⟨d0, d1, d2, d3, d4, d5, d6, d7, d8, d9, df⟩ := cells10 HD.out.b2
    have HX := hide (HD.out.out ⟨n, pt, pl, st, was, tk, jt, jf, jo, dn⟩)
    go_wp2_with fail
    refine bodyPost_ret (v := .tuple #[.agg #[.int .i64 n, .int .i64 pt, .int .i64 pl, .int .i64 st, .int .i64 was, .int .i64 tk, .int .i64 jt, .int .i64 jf, .int .i64 jo, .int .i64 dn], .int .i64 1]) (by have x := cells10 HX.out.b2; simp [results, Try.results12, go_sem, x.1, x.2.1, x.2.2.1, x.2.2.2.1, x.2.2.2.2.1, x.2.2.2.2.2.1, x.2.2.2.2.2.2.1, x.2.2.2.2.2.2.2.1, x.2.2.2.2.2.2.2.2.1, x.2.2.2.2.2.2.2.2.2.1]) rfl ⟨rfl, HX.out.bel⟩
  by_cases h4 : f ≥ n
  · have e1 : Sh.asC ⟨n, pt, pl, st, was, tk, jt, jf, jo, dn⟩ t f o = 1 := if_pos (.inr (.inr (.inl (decide_eq_false (by show ¬ (0 ≤ f ∧ f < n); omega)))))
    have e2 : Sh.as ⟨n, pt, pl, st, was, tk, jt, jf, jo, dn⟩ t f o = ⟨n, pt, pl, st, was, tk, jt, jf, jo, dn⟩ := if_neg (by rw [e1]; decide)
    rw [e1, e2]
    clear e1 e2
    go_enter Try.func12, Try.ntmps12
    go_upto_region 1 with fail
    rw [Hh.out]
    generalize ((w.alloc (.cells #[.int .i64 n, .int .i64 pt, .int .i64 pl, .int .i64 st, .int .i64 was, .int .i64 tk, .int .i64 jt, .int .i64 jf, .int .i64 jo, .int .i64 dn] 33)).alloc (.cells #[.int .i64 t, .int .i64 f, .int .i64 o] 31)).alloc (.cells #[.int .i64 0, .int .i64 0, .int .i64 0, .int .i64 0, .int .i64 0, .int .i64 0, .int .i64 0, .int .i64 0, .int .i64 0, .int .i64 0] 33) = W at *
    obtain ⟨c0, c1, c2, c3, c4, c5, c6, c7, c8, c9, cf⟩ := cells10 HD.out.b1
    clear cf
    have j0 : W.cell? ⟨h + 1, 0, none⟩ = some (.int .i64 t) := (cells_at HJ.out 0).1
    have j1 : W.cell? ⟨h + 1, 1, none⟩ = some (.int .i64 f) := (cells_at HJ.out 1).1
    have j2 : W.cell? ⟨h + 1, 2, none⟩ = some (.int .i64 o) := (cells_at HJ.out 2).1
    obtain ⟨d0, d1, d2, d3, d4, d5, d6, d7, d8, d9, df⟩ := cells10 HD.out.b2
    have HX := hide (HD.out.out ⟨n, pt, pl, st, was, tk, jt, jf, jo, dn⟩)
    go_wp2_with fail
    refine bodyPost_ret (v := .tuple #[.agg #[.int .i64 n, .int .i64 pt, .int .i64 pl, .int .i64 st, .int .i64 was, .int .i64 tk, .int .i64 jt, .int .i64 jf, .int .i64 jo, .int .i64 dn], .int .i64 1]) (by have x := cells10 HX.out.b2; simp [results, Try.results12, go_sem, x.1, x.2.1, x.2.2.1, x.2.2.2.1, x.2.2.2.2.1, x.2.2.2.2.2.1, x.2.2.2.2.2.2.1, x.2.2.2.2.2.2.2.1, x.2.2.2.2.2.2.2.2.1, x.2.2.2.2.2.2.2.2.2.1]) rfl ⟨rfl, HX.out.bel⟩
  by_cases h5 : o < 0
  · have e1 : Sh.asC ⟨n, pt, pl, st, was, tk, jt, jf, jo, dn⟩ t f o = 1 := if_pos (.inr (.inr (.inr (decide_eq_false (by show ¬ (0 ≤ o ∧ o < n); omega)))))
    have e2 : Sh.as ⟨n, pt, pl, st, was, tk, jt, jf, jo, dn⟩ t f o = ⟨n, pt, pl, st, was, tk, jt, jf, jo, dn⟩ := if_neg (by rw [e1]; decide)
    rw [e1, e2]
    clear e1 e2
    go_enter Try.func12, Try.ntmps12
    go_upto_region 1 with fail
    rw [Hh.out]
    generalize ((w.alloc (.cells #[.int .i64 n, .int .i64 pt, .int .i64 pl, .int .i64 st, .int .i64 was, .int .i64 tk, .int .i64 jt, .int .i64 jf, .int .i64 jo, .int .i64 dn] 33)).alloc (.cells #[.int .i64 t, .int .i64 f, .int .i64 o] 31)).alloc (.cells #[.int .i64 0, .int .i64 0, .int .i64 0, .int .i64 0, .int .i64 0, .int .i64 0, .int .i64 0, .int .i64 0, .int .i64 0, .int .i64 0] 33) = W at *
    obtain ⟨c0, c1, c2, c3, c4, c5, c6, c7, c8, c9, cf⟩ := cells10 HD.out.b1
    clear cf
    have j0 : W.cell? ⟨h + 1, 0, none⟩ = some (.int .i64 t) := (cells_at HJ.out 0).1
    have j1 : W.cell? ⟨h + 1, 1, none⟩ = some (.int .i64 f) := (cells_at HJ.out 1).1
    have j2 : W.cell? ⟨h + 1, 2, none⟩ = some (.int .i64 o) := (cells_at HJ.out 2).1
    obtain ⟨d0, d1, d2, d3, d4, d5, d6, d7, d8, d9, df⟩ := cells10 HD.out.b2
    have HX := hide (HD.out.out ⟨n, pt, pl, st, was, tk, jt, jf, jo, dn⟩)
    go_wp2_with fail
    refine bodyPost_ret (v := .tuple #[.agg #[.int .i64 n, .int .i64 pt, .int .i64 pl, .int .i64 st, .int .i64 was, .int .i64 tk, .int .i64 jt, .int .i64 jf, .int .i64 jo, .int .i64 dn], .int .i64 1]) (by have x := cells10 HX.out.b2; simp [results, Try.results12, go_sem, x.1, x.2.1, x.2.2.1, x.2.2.2.1, x.2.2.2.2.1, x.2.2.2.2.2.1, x.2.2.2.2.2.2.1, x.2.2.2.2.2.2.2.1, x.2.2.2.2.2.2.2.2.1, x.2.2.2.2.2.2.2.2.2.1]) rfl ⟨rfl, HX.out.bel⟩
  by_cases h6 : o ≥ n
  · have e1 : Sh.asC ⟨n, pt, pl, st, was, tk, jt, jf, jo, dn⟩ t f o = 1 := if_pos (.inr (.inr (.inr (decide_eq_false (by show ¬ (0 ≤ o ∧ o < n); omega)))))
    have e2 : Sh.as ⟨n, pt, pl, st, was, tk, jt, jf, jo, dn⟩ t f o = ⟨n, pt, pl, st, was, tk, jt, jf, jo, dn⟩ := if_neg (by rw [e1]; decide)
    rw [e1, e2]
    clear e1 e2
    go_enter Try.func12, Try.ntmps12
    go_upto_region 1 with fail
    rw [Hh.out]
    generalize ((w.alloc (.cells #[.int .i64 n, .int .i64 pt, .int .i64 pl, .int .i64 st, .int .i64 was, .int .i64 tk, .int .i64 jt, .int .i64 jf, .int .i64 jo, .int .i64 dn] 33)).alloc (.cells #[.int .i64 t, .int .i64 f, .int .i64 o] 31)).alloc (.cells #[.int .i64 0, .int .i64 0, .int .i64 0, .int .i64 0, .int .i64 0, .int .i64 0, .int .i64 0, .int .i64 0, .int .i64 0, .int .i64 0] 33) = W at *
    obtain ⟨c0, c1, c2, c3, c4, c5, c6, c7, c8, c9, cf⟩ := cells10 HD.out.b1
    clear cf
    have j0 : W.cell? ⟨h + 1, 0, none⟩ = some (.int .i64 t) := (cells_at HJ.out 0).1
    have j1 : W.cell? ⟨h + 1, 1, none⟩ = some (.int .i64 f) := (cells_at HJ.out 1).1
    have j2 : W.cell? ⟨h + 1, 2, none⟩ = some (.int .i64 o) := (cells_at HJ.out 2).1
    obtain ⟨d0, d1, d2, d3, d4, d5, d6, d7, d8, d9, df⟩ := cells10 HD.out.b2
    have HX := hide (HD.out.out ⟨n, pt, pl, st, was, tk, jt, jf, jo, dn⟩)
    go_wp2_with fail
    refine bodyPost_ret (v := .tuple #[.agg #[.int .i64 n, .int .i64 pt, .int .i64 pl, .int .i64 st, .int .i64 was, .int .i64 tk, .int .i64 jt, .int .i64 jf, .int .i64 jo, .int .i64 dn], .int .i64 1]) (by have x := cells10 HX.out.b2; simp [results, Try.results12, go_sem, x.1, x.2.1, x.2.2.1, x.2.2.2.1, x.2.2.2.2.1, x.2.2.2.2.2.1, x.2.2.2.2.2.2.1, x.2.2.2.2.2.2.2.1, x.2.2.2.2.2.2.2.2.1, x.2.2.2.2.2.2.2.2.2.1]) rfl ⟨rfl, HX.out.bel⟩
  have hne : ¬ (t < 1 ∨ 30 < t ∨ Sh.has ⟨n, pt, pl, st, was, tk, jt, jf, jo, dn⟩ f = false ∨ Sh.has ⟨n, pt, pl, st, was, tk, jt, jf, jo, dn⟩ o = false) := by
    rw [(Sh.has_iff ⟨n, pt, pl, st, was, tk, jt, jf, jo, dn⟩ f).2 ⟨by omega, by show f < n; omega⟩, (Sh.has_iff ⟨n, pt, pl, st, was, tk, jt, jf, jo, dn⟩ o).2 ⟨by omega, by show o < n; omega⟩]
    rintro (h | h | h | h) <;> first | omega | cases h
  by_cases s0 : st = 0
  case neg =>
    have e1 : Sh.asC ⟨n, pt, pl, st, was, tk, jt, jf, jo, dn⟩ t f o = 140 := (if_neg hne).trans (if_pos s0)
    have e2 : Sh.as ⟨n, pt, pl, st, was, tk, jt, jf, jo, dn⟩ t f o = ⟨n, pt, pl, st, was, tk, jt, jf, jo, dn⟩ := if_neg (by rw [e1]; decide)
    rw [e1, e2]
    clear e1 e2
    have b0 : (st != 0) = true := bne_iff_ne.2 s0
    clear hne s0
    go_enter Try.func12, Try.ntmps12
    go_upto_region 1 with fail
    rw [Hh.out]
    generalize ((w.alloc (.cells #[.int .i64 n, .int .i64 pt, .int .i64 pl, .int .i64 st, .int .i64 was, .int .i64 tk, .int .i64 jt, .int .i64 jf, .int .i64 jo, .int .i64 dn] 33)).alloc (.cells #[.int .i64 t, .int .i64 f, .int .i64 o] 31)).alloc (.cells #[.int .i64 0, .int .i64 0, .int .i64 0, .int .i64 0, .int .i64 0, .int .i64 0, .int .i64 0, .int .i64 0, .int .i64 0, .int .i64 0] 33) = W at *
    obtain ⟨c0, c1, c2, c3, c4, c5, c6, c7, c8, c9, cf⟩ := cells10 HD.out.b1
    clear cf
    have j0 : W.cell? ⟨h + 1, 0, none⟩ = some (.int .i64 t) := (cells_at HJ.out 0).1
    have j1 : W.cell? ⟨h + 1, 1, none⟩ = some (.int .i64 f) := (cells_at HJ.out 1).1
    have j2 : W.cell? ⟨h + 1, 2, none⟩ = some (.int .i64 o) := (cells_at HJ.out 2).1
    obtain ⟨d0, d1, d2, d3, d4, d5, d6, d7, d8, d9, df⟩ := cells10 HD.out.b2
    have HX := hide (HD.out.out ⟨n, pt, pl, st, was, tk, jt, jf, jo, dn⟩)
    go_wp2_with fail
    refine bodyPost_ret (v := .tuple #[.agg #[.int .i64 n, .int .i64 pt, .int .i64 pl, .int .i64 st, .int .i64 was, .int .i64 tk, .int .i64 jt, .int .i64 jf, .int .i64 jo, .int .i64 dn], .int .i64 140]) (by have x := cells10 HX.out.b2; simp [results, Try.results12, go_sem, x.1, x.2.1, x.2.2.1, x.2.2.2.1, x.2.2.2.2.1, x.2.2.2.2.2.1, x.2.2.2.2.2.2.1, x.2.2.2.2.2.2.2.1, x.2.2.2.2.2.2.2.2.1, x.2.2.2.2.2.2.2.2.2.1]) rfl ⟨rfl, HX.out.bel⟩
  have e1 : Sh.asC ⟨n, pt, pl, st, was, tk, jt, jf, jo, dn⟩ t f o = 0 := (if_neg hne).trans (if_neg (Decidable.not_not.2 s0))
  have e2 : Sh.as ⟨n, pt, pl, st, was, tk, jt, jf, jo, dn⟩ t f o = Sh.on ⟨n, pt, pl, st, was, tk, t, f, o, dn⟩ 1 := if_pos e1
  rw [e1, e2]
  subst s0
  clear e1 e2 hne
  have K30 : Hid (∀ W, Calls Try.prog 30 #[.agg #[.int .i64 n, .int .i64 pt, .int .i64 pl, .int .i64 0, .int .i64 was, .int .i64 tk, .int .i64 t, .int .i64 f, .int .i64 o, .int .i64 dn], .int .i64 1] W fun e w' => e = .returned (.agg #[.int .i64 (Sh.on ⟨n, pt, pl, 0, was, tk, t, f, o, dn⟩ 1).n, .int .i64 (Sh.on ⟨n, pt, pl, 0, was, tk, t, f, o, dn⟩ 1).pt, .int .i64 (Sh.on ⟨n, pt, pl, 0, was, tk, t, f, o, dn⟩ 1).pl, .int .i64 (Sh.on ⟨n, pt, pl, 0, was, tk, t, f, o, dn⟩ 1).st, .int .i64 (Sh.on ⟨n, pt, pl, 0, was, tk, t, f, o, dn⟩ 1).was, .int .i64 (Sh.on ⟨n, pt, pl, 0, was, tk, t, f, o, dn⟩ 1).tk, .int .i64 (Sh.on ⟨n, pt, pl, 0, was, tk, t, f, o, dn⟩ 1).jt, .int .i64 (Sh.on ⟨n, pt, pl, 0, was, tk, t, f, o, dn⟩ 1).jf, .int .i64 (Sh.on ⟨n, pt, pl, 0, was, tk, t, f, o, dn⟩ 1).jo, .int .i64 (Sh.on ⟨n, pt, pl, 0, was, tk, t, f, o, dn⟩ 1).dn]) ∧ Below W.heap.size W w') := hide (fun W => ron_any ⟨n, pt, pl, 0, was, tk, t, f, o, dn⟩ 1 W)
  generalize Sh.on ⟨n, pt, pl, 0, was, tk, t, f, o, dn⟩ 1 = R at *
  go_enter Try.func12, Try.ntmps12
  go_upto_region 1 with fail
  rw [Hh.out]
  generalize ((w.alloc (.cells #[.int .i64 n, .int .i64 pt, .int .i64 pl, .int .i64 0, .int .i64 was, .int .i64 tk, .int .i64 jt, .int .i64 jf, .int .i64 jo, .int .i64 dn] 33)).alloc (.cells #[.int .i64 t, .int .i64 f, .int .i64 o] 31)).alloc (.cells #[.int .i64 0, .int .i64 0, .int .i64 0, .int .i64 0, .int .i64 0, .int .i64 0, .int .i64 0, .int .i64 0, .int .i64 0, .int .i64 0] 33) = W at *
  obtain ⟨c0, c1, c2, c3, c4, c5, c6, c7, c8, c9, cf⟩ := cells10 HD.out.b1
  clear cf
  have j0 : W.cell? ⟨h + 1, 0, none⟩ = some (.int .i64 t) := (cells_at HJ.out 0).1
  have j1 : W.cell? ⟨h + 1, 1, none⟩ = some (.int .i64 f) := (cells_at HJ.out 1).1
  have j2 : W.cell? ⟨h + 1, 2, none⟩ = some (.int .i64 o) := (cells_at HJ.out 2).1
  have cf := (cells10 HD.out.b1).2.2.2.2.2.2.2.2.2.2
  have f6 := cf 6
  have f7 := cf 7
  have f8 := cf 8
  clear cf
  have HD1 : Hid (Db w (((W.setCell ⟨h, 6, none⟩ (.int .i64 t)).setCell ⟨h, 7, none⟩ (.int .i64 f)).setCell ⟨h, 8, none⟩ (.int .i64 o)) h (h + 2) ⟨n, pt, pl, 0, was, tk, t, f, o, dn⟩ ⟨0, 0, 0, 0, 0, 0, 0, 0, 0, 0⟩) := hide (((HD.out.put 6 (.int .i64 t) (S2 := ⟨n, pt, pl, 0, was, tk, t, jf, jo, dn⟩) rfl).put 7 (.int .i64 f) (S2 := ⟨n, pt, pl, 0, was, tk, t, f, jo, dn⟩) rfl).put 8 (.int .i64 o) (S2 := ⟨n, pt, pl, 0, was, tk, t, f, o, dn⟩) rfl)
  go_upto_region 6 with fail
  clear HD HJ c0 c1 c2 c3 c4 c5 c6 c7 c8 c9 f6 f7 f8 j0 j1 j2
  generalize ((W.setCell ⟨h, 6, none⟩ (.int .i64 t)).setCell ⟨h, 7, none⟩ (.int .i64 f)).setCell ⟨h, 8, none⟩ (.int .i64 o) = W1 at *
  obtain ⟨c0, c1, c2, c3, c4, c5, c6, c7, c8, c9, cf⟩ := cells10 HD1.out.b1
  clear cf
  go_wp2_with (go_at_call 30; refine (K30.out _).mono ?_; rintro e W3 ⟨rfl, hb⟩; have HD3 := hide (HD1.out.keep hb); clear hb; obtain ⟨d0, d1, d2, d3, d4, d5, d6, d7, d8, d9, df⟩ := cells10 HD3.out.b2)
  have HX := hide (HD3.out.out R)
  refine bodyPost_ret (v := .tuple #[.agg #[.int .i64 R.n, .int .i64 R.pt, .int .i64 R.pl, .int .i64 R.st, .int .i64 R.was, .int .i64 R.tk, .int .i64 R.jt, .int .i64 R.jf, .int .i64 R.jo, .int .i64 R.dn], .int .i64 0]) (by have x := cells10 HX.out.b2; simp [results, Try.results12, go_sem, x.1, x.2.1, x.2.2.1, x.2.2.2.1, x.2.2.2.2.1, x.2.2.2.2.2.1, x.2.2.2.2.2.2.1, x.2.2.2.2.2.2.2.1, x.2.2.2.2.2.2.2.2.1, x.2.2.2.2.2.2.2.2.2.1]) rfl ⟨rfl, HX.out.bel⟩
/-- the answer's box alone -/
structure D1 (w0 w : World) (r : Nat) (R : Sh) : Prop where
  bel : Below w0.heap.size w0 w
  b2 : w.heap[r]? = some (.cells (shC R) 33)
  o2 : w0.heap.size ≤ r
theorem D1.pub {w0 w : World} {r : Nat} {R : Sh} (x : D1 w0 w r R) (i : Nat) (u : Value) {R2 : Sh} (e : (shC R).setIfInBounds i u = shC R2) : D1 w0 (w.setCell ⟨r, i, none⟩ u) r R2 :=
  ⟨x.bel.setCell (p := ⟨r, i, none⟩) x.o2 _, by rw [heap_put x.b2, e], x.o2⟩
theorem D1.out {w0 w : World} {r : Nat} {R : Sh} (x : D1 w0 w r R) (Q : Sh) : D1 w0 ((((((((((w.setCell ⟨r, 0, none⟩ (.int .i64 Q.n)).setCell ⟨r, 1, none⟩ (.int .i64 Q.pt)).setCell ⟨r, 2, none⟩ (.int .i64 Q.pl)).setCell ⟨r, 3, none⟩ (.int .i64 Q.st)).setCell ⟨r, 4, none⟩ (.int .i64 Q.was)).setCell ⟨r, 5, none⟩ (.int .i64 Q.tk)).setCell ⟨r, 6, none⟩ (.int .i64 Q.jt)).setCell ⟨r, 7, none⟩ (.int .i64 Q.jf)).setCell ⟨r, 8, none⟩ (.int .i64 Q.jo)).setCell ⟨r, 9, none⟩ (.int .i64 Q.dn)) r Q := by
  have y := ((((((((((x.pub 0 (.int .i64 Q.n) (R2 := ⟨Q.n, R.pt, R.pl, R.st, R.was, R.tk, R.jt, R.jf, R.jo, R.dn⟩) rfl).pub 1 (.int .i64 Q.pt) (R2 := ⟨Q.n, Q.pt, R.pl, R.st, R.was, R.tk, R.jt, R.jf, R.jo, R.dn⟩) rfl).pub 2 (.int .i64 Q.pl) (R2 := ⟨Q.n, Q.pt, Q.pl, R.st, R.was, R.tk, R.jt, R.jf, R.jo, R.dn⟩) rfl).pub 3 (.int .i64 Q.st) (R2 := ⟨Q.n, Q.pt, Q.pl, Q.st, R.was, R.tk, R.jt, R.jf, R.jo, R.dn⟩) rfl).pub 4 (.int .i64 Q.was) (R2 := ⟨Q.n, Q.pt, Q.pl, Q.st, Q.was, R.tk, R.jt, R.jf, R.jo, R.dn⟩) rfl).pub 5 (.int .i64 Q.tk) (R2 := ⟨Q.n, Q.pt, Q.pl, Q.st, Q.was, Q.tk, R.jt, R.jf, R.jo, R.dn⟩) rfl).pub 6 (.int .i64 Q.jt) (R2 := ⟨Q.n, Q.pt, Q.pl, Q.st, Q.was, Q.tk, Q.jt, R.jf, R.jo, R.dn⟩) rfl).pub 7 (.int .i64 Q.jf) (R2 := ⟨Q.n, Q.pt, Q.pl, Q.st, Q.was, Q.tk, Q.jt, Q.jf, R.jo, R.dn⟩) rfl).pub 8 (.int .i64 Q.jo) (R2 := ⟨Q.n, Q.pt, Q.pl, Q.st, Q.was, Q.tk, Q.jt, Q.jf, Q.jo, R.dn⟩) rfl).pub 9 (.int .i64 Q.dn) (R2 := ⟨Q.n, Q.pt, Q.pl, Q.st, Q.was, Q.tk, Q.jt, Q.jf, Q.jo, Q.dn⟩) rfl)
  exact y
set_option maxRecDepth 100000 in
set_option maxHeartbeats 1000000 in
theorem rnew_no (n a p : Int) (w : World) (hno : noN n a p) : Calls Try.prog 10 #[.int .i64 n, .int .i64 a, .int .i64 p] w fun e w' => e = .returned (.tuple #[.agg #[.int .i64 0, .int .i64 0, .int .i64 0, .int .i64 0, .int .i64 0, .int .i64 0, .int .i64 0, .int .i64 0, .int .i64 0, .int .i64 0], .int .i64 1]) ∧ Below w.heap.size w w' := by
  obtain ⟨h, hh⟩ : ∃ h, w.heap.size = h := ⟨_, rfl⟩
  have HD : Hid (D1 w (w.alloc (.cells #[.int .i64 0, .int .i64 0, .int .i64 0, .int .i64 0, .int .i64 0, .int .i64 0, .int .i64 0, .int .i64 0, .int .i64 0, .int .i64 0] 33)) h ⟨0, 0, 0, 0, 0, 0, 0, 0, 0, 0⟩) := hide ⟨(Below.refl _ _).alloc (Nat.le_refl _) _, by rw [← hh]; exact heap_new _ _, by omega⟩
  have Hh := hide hh
  clear hh
  unfold noN at hno
  by_cases h1 : n < 1
  · clear hno
    go_enter Try.func10, Try.ntmps10
    go_upto_region 1 with fail
    rw [Hh.out]
    generalize w.alloc (.cells #[.int .i64 0, .int .i64 0, .int .i64 0, .int .i64 0, .int .i64 0, .int .i64 0, .int .i64 0, .int .i64 0, .int .i64 0, .int .i64 0] 33) = W at *
    obtain ⟨d0, d1, d2, d3, d4, d5, d6, d7, d8, d9, df⟩ := cells10 HD.out.b2
    have HX := hide (HD.out.out ⟨0, 0, 0, 0, 0, 0, 0, 0, 0, 0⟩)
    go_wp2_with fail
    refine bodyPost_ret (v := .tuple #[.agg #[.int .i64 0, .int .i64 0, .int .i64 0, .int .i64 0, .int .i64 0, .int .i64 0, .int .i64 0, .int .i64 0, .int .i64 0, .int .i64 0], .int .i64 1]) (by have x := cells10 HX.out.b2; simp [results, Try.results10, go_sem, x.1, x.2.1, x.2.2.1, x.2.2.2.1, x.2.2.2.2.1, x.2.2.2.2.2.1, x.2.2.2.2.2.2.1, x.2.2.2.2.2.2.2.1, x.2.2.2.2.2.2.2.2.1, x.2.2.2.2.2.2.2.2.2.1]) rfl ⟨rfl, HX.out.bel⟩
  by_cases h2 : n > 40
  · clear hno
    go_enter Try.func10, Try.ntmps10
    go_upto_region 1 with fail
    rw [Hh.out]
    generalize w.alloc (.cells #[.int .i64 0, .int .i64 0, .int .i64 0, .int .i64 0, .int .i64 0, .int .i64 0, .int .i64 0, .int .i64 0, .int .i64 0, .int .i64 0] 33) = W at *
    obtain ⟨d0, d1, d2, d3, d4, d5, d6, d7, d8, d9, df⟩ := cells10 HD.out.b2
    have HX := hide (HD.out.out ⟨0, 0, 0, 0, 0, 0, 0, 0, 0, 0⟩)
    go_wp2_with fail
    refine bodyPost_ret (v := .tuple #[.agg #[.int .i64 0, .int .i64 0, .int .i64 0, .int .i64 0, .int .i64 0, .int .i64 0, .int .i64 0, .int .i64 0, .int .i64 0, .int .i64 0], .int .i64 1]) (by have x := cells10 HX.out.b2; simp [results, Try.results10, go_sem, x.1, x.2.1, x.2.2.1, x.2.2.2.1, x.2.2.2.2.1, x.2.2.2.2.2.1, x.2.2.2.2.2.2.1, x.2.2.2.2.2.2.2.1, x.2.2.2.2.2.2.2.2.1, x.2.2.2.2.2.2.2.2.2.1]) rfl ⟨rfl, HX.out.bel⟩
  by_cases h3 : p < 1
  · clear hno
    go_enter Try.func10, Try.ntmps10
    go_upto_region 1 with fail
    rw [Hh.out]
    generalize w.alloc (.cells #[.int .i64 0, .int .i64 0, .int .i64 0, .int .i64 0, .int .i64 0, .int .i64 0, .int .i64 0, .int .i64 0, .int .i64 0, .int .i64 0] 33) = W at *
    obtain ⟨d0, d1, d2, d3, d4, d5, d6, d7, d8, d9, df⟩ := cells10 HD.out.b2
    have HX := hide (HD.out.out ⟨0, 0, 0, 0, 0, 0, 0, 0, 0, 0⟩)
    go_wp2_with fail
    refine bodyPost_ret (v := .tuple #[.agg #[.int .i64 0, .int .i64 0, .int .i64 0, .int .i64 0, .int .i64 0, .int .i64 0, .int .i64 0, .int .i64 0, .int .i64 0, .int .i64 0], .int .i64 1]) (by have x := cells10 HX.out.b2; simp [results, Try.results10, go_sem, x.1, x.2.1, x.2.2.1, x.2.2.2.1, x.2.2.2.2.1, x.2.2.2.2.2.1, x.2.2.2.2.2.2.1, x.2.2.2.2.2.2.2.1, x.2.2.2.2.2.2.2.2.1, x.2.2.2.2.2.2.2.2.2.1]) rfl ⟨rfl, HX.out.bel⟩
  by_cases h4 : p > 1000
  · clear hno
    go_enter Try.func10, Try.ntmps10
    go_upto_region 1 with fail
    rw [Hh.out]
    generalize w.alloc (.cells #[.int .i64 0, .int .i64 0, .int .i64 0, .int .i64 0, .int .i64 0, .int .i64 0, .int .i64 0, .int .i64 0, .int .i64 0, .int .i64 0] 33) = W at *
    obtain ⟨d0, d1, d2, d3, d4, d5, d6, d7, d8, d9, df⟩ := cells10 HD.out.b2
    have HX := hide (HD.out.out ⟨0, 0, 0, 0, 0, 0, 0, 0, 0, 0⟩)
    go_wp2_with fail
    refine bodyPost_ret (v := .tuple #[.agg #[.int .i64 0, .int .i64 0, .int .i64 0, .int .i64 0, .int .i64 0, .int .i64 0, .int .i64 0, .int .i64 0, .int .i64 0, .int .i64 0], .int .i64 1]) (by have x := cells10 HX.out.b2; simp [results, Try.results10, go_sem, x.1, x.2.1, x.2.2.1, x.2.2.2.1, x.2.2.2.2.1, x.2.2.2.2.2.1, x.2.2.2.2.2.2.1, x.2.2.2.2.2.2.2.1, x.2.2.2.2.2.2.2.2.1, x.2.2.2.2.2.2.2.2.2.1]) rfl ⟨rfl, HX.out.bel⟩
  by_cases h5 : a < 0
  · clear hno
    go_enter Try.func10, Try.ntmps10
    go_upto_region 1 with fail
    rw [Hh.out]
    generalize w.alloc (.cells #[.int .i64 0, .int .i64 0, .int .i64 0, .int .i64 0, .int .i64 0, .int .i64 0, .int .i64 0, .int .i64 0, .int .i64 0, .int .i64 0] 33) = W at *
    obtain ⟨d0, d1, d2, d3, d4, d5, d6, d7, d8, d9, df⟩ := cells10 HD.out.b2
    have HX := hide (HD.out.out ⟨0, 0, 0, 0, 0, 0, 0, 0, 0, 0⟩)
    go_wp2_with fail
    refine bodyPost_ret (v := .tuple #[.agg #[.int .i64 0, .int .i64 0, .int .i64 0, .int .i64 0, .int .i64 0, .int .i64 0, .int .i64 0, .int .i64 0, .int .i64 0, .int .i64 0], .int .i64 1]) (by have x := cells10 HX.out.b2; simp [results, Try.results10, go_sem, x.1, x.2.1, x.2.2.1, x.2.2.2.1, x.2.2.2.2.1, x.2.2.2.2.2.1, x.2.2.2.2.2.2.1, x.2.2.2.2.2.2.2.1, x.2.2.2.2.2.2.2.2.1, x.2.2.2.2.2.2.2.2.2.1]) rfl ⟨rfl, HX.out.bel⟩
  have h6 : a ≥ n := by omega
  clear hno
  go_enter Try.func10, Try.ntmps10
  go_upto_region 1 with fail
  rw [Hh.out]
  generalize w.alloc (.cells #[.int .i64 0, .int .i64 0, .int .i64 0, .int .i64 0, .int .i64 0, .int .i64 0, .int .i64 0, .int .i64 0, .int .i64 0, .int .i64 0] 33) = W at *
  obtain ⟨d0, d1, d2, d3, d4, d5, d6, d7, d8, d9, df⟩ := cells10 HD.out.b2
  have HX := hide (HD.out.out ⟨0, 0, 0, 0, 0, 0, 0, 0, 0, 0⟩)
  go_wp2_with fail
  refine bodyPost_ret (v := .tuple #[.agg #[.int .i64 0, .int .i64 0, .int .i64 0, .int .i64 0, .int .i64 0, .int .i64 0, .int .i64 0, .int .i64 0, .int .i64 0, .int .i64 0], .int .i64 1]) (by have x := cells10 HX.out.b2; simp [results, Try.results10, go_sem, x.1, x.2.1, x.2.2.1, x.2.2.2.1, x.2.2.2.2.1, x.2.2.2.2.2.1, x.2.2.2.2.2.2.1, x.2.2.2.2.2.2.2.1, x.2.2.2.2.2.2.2.2.1, x.2.2.2.2.2.2.2.2.2.1]) rfl ⟨rfl, HX.out.bel⟩
set_option maxRecDepth 100000 in
set_option maxHeartbeats 1000000 in
theorem rnew_ok (n a p : Int) (w : World) (hno : ¬ noN n a p) : Calls Try.prog 10 #[.int .i64 n, .int .i64 a, .int .i64 p] w fun e w' => e = .returned (.tuple #[.agg #[.int .i64 n, .int .i64 p, .int .i64 a, .int .i64 0, .int .i64 0, .int .i64 0, .int .i64 0, .int .i64 0, .int .i64 0, .int .i64 0], .int .i64 0]) ∧ Below w.heap.size w w' := by
  obtain ⟨h, hh⟩ : ∃ h, w.heap.size = h := ⟨_, rfl⟩
  have HD : Hid (D1 w (w.alloc (.cells #[.int .i64 0, .int .i64 0, .int .i64 0, .int .i64 0, .int .i64 0, .int .i64 0, .int .i64 0, .int .i64 0, .int .i64 0, .int .i64 0] 33)) h ⟨0, 0, 0, 0, 0, 0, 0, 0, 0, 0⟩) := hide ⟨(Below.refl _ _).alloc (Nat.le_refl _) _, by rw [← hh]; exact heap_new _ _, by omega⟩
  have Hh := hide hh
  clear hh
  unfold noN at hno
  have h1 : ¬ n < 1 := by omega
  have h2 : ¬ n > 40 := by omega
  have h3 : ¬ p < 1 := by omega
  have h4 : ¬ p > 1000 := by omega
  have h5 : ¬ a < 0 := by omega
  have h6 : ¬ a ≥ n := by omega
  clear hno
  go_enter Try.func10, Try.ntmps10
  go_upto_region 1 with fail
  rw [Hh.out]
  generalize w.alloc (.cells #[.int .i64 0, .int .i64 0, .int .i64 0, .int .i64 0, .int .i64 0, .int .i64 0, .int .i64 0, .int .i64 0, .int .i64 0, .int .i64 0] 33) = W at *
  obtain ⟨d0, d1, d2, d3, d4, d5, d6, d7, d8, d9, df⟩ := cells10 HD.out.b2
  have HX := hide (HD.out.out ⟨n, p, a, 0, 0, 0, 0, 0, 0, 0⟩)
  go_wp2_with fail
  refine bodyPost_ret (v := .tuple #[.agg #[.int .i64 n, .int .i64 p, .int .i64 a, .int .i64 0, .int .i64 0, .int .i64 0, .int .i64 0, .int .i64 0, .int .i64 0, .int .i64 0], .int .i64 0]) (by have x := cells10 HX.out.b2; simp [results, Try.results10, go_sem, x.1, x.2.1, x.2.2.1, x.2.2.2.1, x.2.2.2.2.1, x.2.2.2.2.2.1, x.2.2.2.2.2.2.1, x.2.2.2.2.2.2.2.1, x.2.2.2.2.2.2.2.2.1, x.2.2.2.2.2.2.2.2.2.1]) rfl ⟨rfl, HX.out.bel⟩
end Go.Proofs.Ytjmmkkjabpcihaa
