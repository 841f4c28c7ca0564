/- The document's shuttle: on, New, Assign, Moved, Handled, Reset, Load. -/
import Derived.Test.YtjmmkkjabpcihaaSst
namespace Go.Proofs.Ytjmmkkjabpcihaa
open Go.RowKit
set_option linter.unusedVariables false

theorem cells10 {w : World} {g : Nat} {S : Sh} {t : TypeId} (h : w.heap[g]? = some (.cells (shC S) t)) : w.cell? ⟨g, 0, none⟩ = some (.int .i64 S.n) ∧ w.cell? ⟨g, 1, none⟩ = some (.int .i64 S.pt) ∧ w.cell? ⟨g, 2, none⟩ = some (.int .i64 S.pl) ∧ w.cell? ⟨g, 3, none⟩ = some (.int .i64 S.st) ∧ w.cell? ⟨g, 4, none⟩ = some (.int .i64 S.was) ∧ w.cell? ⟨g, 5, none⟩ = some (.int .i64 S.tk) ∧ w.cell? ⟨g, 6, none⟩ = some (.int .i64 S.jt) ∧ w.cell? ⟨g, 7, none⟩ = some (.int .i64 S.jf) ∧ w.cell? ⟨g, 8, none⟩ = some (.int .i64 S.jo) ∧ w.cell? ⟨g, 9, none⟩ = some (.int .i64 S.dn) ∧ ∀ i, w.frozen? ⟨g, i, none⟩ = false :=
  ⟨(cells_at h 0).1, (cells_at h 1).1, (cells_at h 2).1, (cells_at h 3).1, (cells_at h 4).1, (cells_at h 5).1, (cells_at h 6).1, (cells_at h 7).1, (cells_at h 8).1, (cells_at h 9).1, fun i => (cells_at h i).2⟩
/-- the world of a call of the document's: the shuttle's box and the answer's -/
structure Db (w0 w : World) (h r : Nat) (S R : Sh) : Prop where
  bel : Below w0.heap.size w0 w
  b1 : w.heap[h]? = some (.cells (shC S) 33)
  b2 : w.heap[r]? = some (.cells (shC R) 33)
  o1 : w0.heap.size ≤ h
  o2 : w0.heap.size ≤ r
  ne : h ≠ r
variable {w0 w w' : World} {h r : Nat} {S R : Sh}
theorem Db.keep (x : Db w0 w h r S R) (hb : Below w.heap.size w w') : Db w0 w' h r S R := ⟨x.bel.trans (hb.mono x.bel.size), (hb.block _ (heap_lt x.b1)).trans x.b1, (hb.block _ (heap_lt x.b2)).trans x.b2, x.o1, x.o2, x.ne⟩
theorem Db.put (x : Db w0 w h r S R) (i : Nat) (u : Value) {S2 : Sh} (e : (shC S).setIfInBounds i u = shC S2) : Db w0 (w.setCell ⟨h, i, none⟩ u) h r S2 R :=
  ⟨x.bel.setCell (p := ⟨h, i, none⟩) x.o1 _, by rw [heap_put x.b1, e], by rw [Below.heap_setCell _ _ _ _ x.ne.symm]; exact x.b2, x.o1, x.o2, x.ne⟩
theorem Db.pub (x : Db w0 w h r S R) (i : Nat) (u : Value) {R2 : Sh} (e : (shC R).setIfInBounds i u = shC R2) : Db w0 (w.setCell ⟨r, i, none⟩ u) h r S R2 :=
  ⟨x.bel.setCell (p := ⟨r, i, none⟩) x.o2 _, by rw [Below.heap_setCell _ _ _ _ x.ne]; exact x.b1, by rw [heap_put x.b2, e], x.o1, x.o2, x.ne⟩
theorem Db.drewN (x : Db w0 w h r S R) (q : Nat) : Db w0 (w.drewN q) h r S R := ⟨below_drew x.bel q, x.b1, x.b2, x.o1, x.o2, x.ne⟩
/-- the answer is laid -/
theorem Db.out (x : Db w0 w h r S R) (Q : Sh) : Db w0 ((((((((((w.setCell ⟨r, 0, none⟩ (.int .i64 Q.n)).setCell ⟨r, 1, none⟩ (.int .i64 Q.pt)).setCell ⟨r, 2, none⟩ (.int .i64 Q.pl)).setCell ⟨r, 3, none⟩ (.int .i64 Q.st)).setCell ⟨r, 4, none⟩ (.int .i64 Q.was)).setCell ⟨r, 5, none⟩ (.int .i64 Q.tk)).setCell ⟨r, 6, none⟩ (.int .i64 Q.jt)).setCell ⟨r, 7, none⟩ (.int .i64 Q.jf)).setCell ⟨r, 8, none⟩ (.int .i64 Q.jo)).setCell ⟨r, 9, none⟩ (.int .i64 Q.dn)) h r S Q := by
  have y := ((((((((((x.pub 0 (.int .i64 Q.n) (R2 := ⟨Q.n, R.pt, R.pl, R.st, R.was, R.tk, R.jt, R.jf, R.jo, R.dn⟩) rfl).pub 1 (.int .i64 Q.pt) (R2 := ⟨Q.n, Q.pt, R.pl, R.st, R.was, R.tk, R.jt, R.jf, R.jo, R.dn⟩) rfl).pub 2 (.int .i64 Q.pl) (R2 := ⟨Q.n, Q.pt, Q.pl, R.st, R.was, R.tk, R.jt, R.jf, R.jo, R.dn⟩) rfl).pub 3 (.int .i64 Q.st) (R2 := ⟨Q.n, Q.pt, Q.pl, Q.st, R.was, R.tk, R.jt, R.jf, R.jo, R.dn⟩) rfl).pub 4 (.int .i64 Q.was) (R2 := ⟨Q.n, Q.pt, Q.pl, Q.st, Q.was, R.tk, R.jt, R.jf, R.jo, R.dn⟩) rfl).pub 5 (.int .i64 Q.tk) (R2 := ⟨Q.n, Q.pt, Q.pl, Q.st, Q.was, Q.tk, R.jt, R.jf, R.jo, R.dn⟩) rfl).pub 6 (.int .i64 Q.jt) (R2 := ⟨Q.n, Q.pt, Q.pl, Q.st, Q.was, Q.tk, Q.jt, R.jf, R.jo, R.dn⟩) rfl).pub 7 (.int .i64 Q.jf) (R2 := ⟨Q.n, Q.pt, Q.pl, Q.st, Q.was, Q.tk, Q.jt, Q.jf, R.jo, R.dn⟩) rfl).pub 8 (.int .i64 Q.jo) (R2 := ⟨Q.n, Q.pt, Q.pl, Q.st, Q.was, Q.tk, Q.jt, Q.jf, Q.jo, R.dn⟩) rfl).pub 9 (.int .i64 Q.dn) (R2 := ⟨Q.n, Q.pt, Q.pl, Q.st, Q.was, Q.tk, Q.jt, Q.jf, Q.jo, Q.dn⟩) rfl)
  exact y
theorem Db.new (w : World) (S : Sh) (h : Nat) (hh : w.heap.size = h) : Db w ((w.alloc (.cells (shC S) 33)).alloc (.cells (shC ⟨0, 0, 0, 0, 0, 0, 0, 0, 0, 0⟩) 33)) h (h + 1) S ⟨0, 0, 0, 0, 0, 0, 0, 0, 0, 0⟩ := by
  have a := (BW.nil w).new (.cells (shC S) 33) h hh
  have b := a.new (.cells (shC ⟨0, 0, 0, 0, 0, 0, 0, 0, 0, 0⟩) 33) (h + 1) (by show (w.heap.push _).size = _; rw [Array.size_push, hh])
  exact ⟨b.bel, (b.bx (h, _) (by simp)).1, (b.bx (h + 1, _) (by simp)).1, by omega, by omega, by omega⟩
set_option maxRecDepth 100000 in
set_option maxHeartbeats 1000000 in
theorem ron_any (S : Sh) (k : Int) (w : World) : Calls Try.prog 30 #[.agg #[.int .i64 S.n, .int .i64 S.pt, .int .i64 S.pl, .int .i64 S.st, .int .i64 S.was, .int .i64 S.tk, .int .i64 S.jt, .int .i64 S.jf, .int .i64 S.jo, .int .i64 S.dn], .int .i64 k] w fun e w' => e = .returned (.agg #[.int .i64 (S.on k).n, .int .i64 (S.on k).pt, .int .i64 (S.on k).pl, .int .i64 (S.on k).st, .int .i64 (S.on k).was, .int .i64 (S.on k).tk, .int .i64 (S.on k).jt, .int .i64 (S.on k).jf, .int .i64 (S.on k).jo, .int .i64 (S.on k).dn]) ∧ Below w.heap.size w w' := by
  obtain ⟨n, pt, pl, st, was, tk, jt, jf, jo, dn⟩ := S
  obtain ⟨h, hh⟩ : ∃ h, w.heap.size = h := ⟨_, rfl⟩
  have HD : Hid (Db w ((w.alloc (.cells #[.int .i64 n, .int .i64 pt, .int .i64 pl, .int .i64 st, .int .i64 was, .int .i64 tk, .int .i64 jt, .int .i64 jf, .int .i64 jo, .int .i64 dn] 33)).alloc (.cells #[.int .i64 0, .int .i64 0, .int .i64 0, .int .i64 0, .int .i64 0, .int .i64 0, .int .i64 0, .int .i64 0, .int .i64 0, .int .i64 0] 33)) h (h + 1) ⟨n, pt, pl, st, was, tk, jt, jf, jo, dn⟩ ⟨0, 0, 0, 0, 0, 0, 0, 0, 0, 0⟩) := hide (Db.new w ⟨n, pt, pl, st, was, tk, jt, jf, jo, dn⟩ h hh)
  have Hh := hide hh
  clear hh
  by_cases k1 : k = 1
  · subst k1
    by_cases hp : pl = jf
    · have e : Sh.on ⟨n, pt, pl, st, was, tk, jt, jf, jo, dn⟩ 1 = ⟨n, pt, pl, 2, was, 0, jt, jf, jo, dn⟩ := by simp [Sh.on, hp]
      rw [e]
      have b1 : (pl == jf) = true := by rw [hp]; exact beq_self_eq_true _
      clear e hp
      go_enter Try.func30, Try.ntmps30
      go_upto_region 1 with fail
      rw [Hh.out]
      generalize (w.alloc (.cells #[.int .i64 n, .int .i64 pt, .int .i64 pl, .int .i64 st, .int .i64 was, .int .i64 tk, .int .i64 jt, .int .i64 jf, .int .i64 jo, .int .i64 dn] 33)).alloc (.cells #[.int .i64 0, .int .i64 0, .int .i64 0, .int .i64 0, .int .i64 0, .int .i64 0, .int .i64 0, .int .i64 0, .int .i64 0, .int .i64 0] 33) = W at *
      obtain ⟨c0, c1, c2, c3, c4, c5, c6, c7, c8, c9, cf⟩ := cells10 HD.out.b1
      have f3 := cf 3
      have f5 := cf 5
      clear cf
      have HD1 : Hid (Db w ((W.setCell ⟨h, 3, none⟩ (.int .i64 1)).setCell ⟨h, 5, none⟩ (.int .i64 0)) h (h + 1) ⟨n, pt, pl, 1, was, 0, jt, jf, jo, dn⟩ ⟨0, 0, 0, 0, 0, 0, 0, 0, 0, 0⟩) := hide ((HD.out.put 3 _ (S2 := ⟨n, pt, pl, 1, was, tk, jt, jf, jo, dn⟩) rfl).put 5 _ rfl)
      go_upto_region 3 with fail
      clear HD c0 c1 c2 c3 c4 c5 c6 c7 c8 c9 f3 f5
      generalize (W.setCell ⟨h, 3, none⟩ (.int .i64 1)).setCell ⟨h, 5, none⟩ (.int .i64 0) = W1 at *
      obtain ⟨c0, c1, c2, c3, c4, c5, c6, c7, c8, c9, cf⟩ := cells10 HD1.out.b1
      have f3 := cf 3
      clear cf
      have HD2 : Hid (Db w (W1.setCell ⟨h, 3, none⟩ (.int .i64 2)) h (h + 1) ⟨n, pt, pl, 2, was, 0, jt, jf, jo, dn⟩ ⟨0, 0, 0, 0, 0, 0, 0, 0, 0, 0⟩) := hide (HD1.out.put 3 _ rfl)
      go_upto_region 5 with fail
      clear HD1 c0 c1 c2 c3 c4 c5 c6 c7 c8 c9 f3
      generalize W1.setCell ⟨h, 3, none⟩ (.int .i64 2) = W2 at *
      obtain ⟨c0, c1, c2, c3, c4, c5, c6, c7, c8, c9, cf⟩ := cells10 HD2.out.b1
      clear cf
      obtain ⟨d0, d1, d2, d3, d4, d5, d6, d7, d8, d9, df⟩ := cells10 HD2.out.b2
      have HX := hide (HD2.out.out ⟨n, pt, pl, 2, was, 0, jt, jf, jo, dn⟩)
      go_wp2_with fail
      refine bodyPost_ret (v := .agg #[.int .i64 n, .int .i64 pt, .int .i64 pl, .int .i64 2, .int .i64 was, .int .i64 0, .int .i64 jt, .int .i64 jf, .int .i64 jo, .int .i64 dn]) (by have x := cells10 HX.out.b2; simp [results, Try.results30, go_sem, x.1, x.2.1, x.2.2.1, x.2.2.2.1, x.2.2.2.2.1, x.2.2.2.2.2.1, x.2.2.2.2.2.2.1, x.2.2.2.2.2.2.2.1, x.2.2.2.2.2.2.2.2.1, x.2.2.2.2.2.2.2.2.2.1]) rfl ⟨rfl, HX.out.bel⟩
    · have e : Sh.on ⟨n, pt, pl, st, was, tk, jt, jf, jo, dn⟩ 1 = ⟨n, pt, pl, 1, was, 0, jt, jf, jo, dn⟩ := by simp [Sh.on, hp]
      rw [e]
      have b1 : (pl == jf) = false := beq_eq_false_iff_ne.2 hp
      clear e hp
      go_enter Try.func30, Try.ntmps30
      go_upto_region 1 with fail
      rw [Hh.out]
      generalize (w.alloc (.cells #[.int .i64 n, .int .i64 pt, .int .i64 pl, .int .i64 st, .int .i64 was, .int .i64 tk, .int .i64 jt, .int .i64 jf, .int .i64 jo, .int .i64 dn] 33)).alloc (.cells #[.int .i64 0, .int .i64 0, .int .i64 0, .int .i64 0, .int .i64 0, .int .i64 0, .int .i64 0, .int .i64 0, .int .i64 0, .int .i64 0] 33) = W at *
      obtain ⟨c0, c1, c2, c3, c4, c5, c6, c7, c8, c9, cf⟩ := cells10 HD.out.b1
      have f3 := cf 3
      have f5 := cf 5
      clear cf
      have HD1 : Hid (Db w ((W.setCell ⟨h, 3, none⟩ (.int .i64 1)).setCell ⟨h, 5, none⟩ (.int .i64 0)) h (h + 1) ⟨n, pt, pl, 1, was, 0, jt, jf, jo, dn⟩ ⟨0, 0, 0, 0, 0, 0, 0, 0, 0, 0⟩) := hide ((HD.out.put 3 _ (S2 := ⟨n, pt, pl, 1, was, tk, jt, jf, jo, dn⟩) rfl).put 5 _ rfl)
      go_upto_region 3 with fail
      clear HD c0 c1 c2 c3 c4 c5 c6 c7 c8 c9 f3 f5
      generalize (W.setCell ⟨h, 3, none⟩ (.int .i64 1)).setCell ⟨h, 5, none⟩ (.int .i64 0) = W1 at *
      obtain ⟨c0, c1, c2, c3, c4, c5, c6, c7, c8, c9, cf⟩ := cells10 HD1.out.b1
      have f3 := cf 3
      clear cf
      obtain ⟨d0, d1, d2, d3, d4, d5, d6, d7, d8, d9, df⟩ := cells10 HD1.out.b2
      have HX := hide (HD1.out.out ⟨n, pt, pl, 1, was, 0, jt, jf, jo, dn⟩)
      go_wp2_with fail
      refine bodyPost_ret (v := .agg #[.int .i64 n, .int .i64 pt, .int .i64 pl, .int .i64 1, .int .i64 was, .int .i64 0, .int .i64 jt, .int .i64 jf, .int .i64 jo, .int .i64 dn]) (by have x := cells10 HX.out.b2; simp [results, Try.results30, go_sem, x.1, x.2.1, x.2.2.1, x.2.2.2.1, x.2.2.2.2.1, x.2.2.2.2.2.1, x.2.2.2.2.2.2.1, x.2.2.2.2.2.2.2.1, x.2.2.2.2.2.2.2.2.1, x.2.2.2.2.2.2.2.2.2.1]) rfl ⟨rfl, HX.out.bel⟩
  have k1' : (k == 1) = false := beq_eq_false_iff_ne.2 k1
  by_cases k3 : k = 3
  · subst k3
    by_cases hp : pl = jo
    · have e : Sh.on ⟨n, pt, pl, st, was, tk, jt, jf, jo, dn⟩ 3 = ⟨n, pt, pl, 4, was, 0, jt, jf, jo, dn⟩ := by simp [Sh.on, hp]
      rw [e]
      have b1 : (pl == jo) = true := by rw [hp]; exact beq_self_eq_true _
      clear e hp k1
      go_enter Try.func30, Try.ntmps30
      go_upto_region 1 with fail
      rw [Hh.out]
      generalize (w.alloc (.cells #[.int .i64 n, .int .i64 pt, .int .i64 pl, .int .i64 st, .int .i64 was, .int .i64 tk, .int .i64 jt, .int .i64 jf, .int .i64 jo, .int .i64 dn] 33)).alloc (.cells #[.int .i64 0, .int .i64 0, .int .i64 0, .int .i64 0, .int .i64 0, .int .i64 0, .int .i64 0, .int .i64 0, .int .i64 0, .int .i64 0] 33) = W at *
      obtain ⟨c0, c1, c2, c3, c4, c5, c6, c7, c8, c9, cf⟩ := cells10 HD.out.b1
      have f3 := cf 3
      have f5 := cf 5
      clear cf
      have HD1 : Hid (Db w ((W.setCell ⟨h, 3, none⟩ (.int .i64 3)).setCell ⟨h, 5, none⟩ (.int .i64 0)) h (h + 1) ⟨n, pt, pl, 3, was, 0, jt, jf, jo, dn⟩ ⟨0, 0, 0, 0, 0, 0, 0, 0, 0, 0⟩) := hide ((HD.out.put 3 _ (S2 := ⟨n, pt, pl, 3, was, tk, jt, jf, jo, dn⟩) rfl).put 5 _ rfl)
      go_upto_region 3 with fail
      clear HD c0 c1 c2 c3 c4 c5 c6 c7 c8 c9 f3 f5
      generalize (W.setCell ⟨h, 3, none⟩ (.int .i64 3)).setCell ⟨h, 5, none⟩ (.int .i64 0) = W1 at *
      obtain ⟨c0, c1, c2, c3, c4, c5, c6, c7, c8, c9, cf⟩ := cells10 HD1.out.b1
      have f3 := cf 3
      clear cf
      have HD2 : Hid (Db w (W1.setCell ⟨h, 3, none⟩ (.int .i64 4)) h (h + 1) ⟨n, pt, pl, 4, was, 0, jt, jf, jo, dn⟩ ⟨0, 0, 0, 0, 0, 0, 0, 0, 0, 0⟩) := hide (HD1.out.put 3 _ rfl)
      go_upto_region 7 with fail
      clear HD1 c0 c1 c2 c3 c4 c5 c6 c7 c8 c9 f3
      generalize W1.setCell ⟨h, 3, none⟩ (.int .i64 4) = W2 at *
      obtain ⟨c0, c1, c2, c3, c4, c5, c6, c7, c8, c9, cf⟩ := cells10 HD2.out.b1
      clear cf
      obtain ⟨d0, d1, d2, d3, d4, d5, d6, d7, d8, d9, df⟩ := cells10 HD2.out.b2
      have HX := hide (HD2.out.out ⟨n, pt, pl, 4, was, 0, jt, jf, jo, dn⟩)
      go_wp2_with fail
      refine bodyPost_ret (v := .agg #[.int .i64 n, .int .i64 pt, .int .i64 pl, .int .i64 4, .int .i64 was, .int .i64 0, .int .i64 jt, .int .i64 jf, .int .i64 jo, .int .i64 dn]) (by have x := cells10 HX.out.b2; simp [results, Try.results30, go_sem, x.1, x.2.1, x.2.2.1, x.2.2.2.1, x.2.2.2.2.1, x.2.2.2.2.2.1, x.2.2.2.2.2.2.1, x.2.2.2.2.2.2.2.1, x.2.2.2.2.2.2.2.2.1, x.2.2.2.2.2.2.2.2.2.1]) rfl ⟨rfl, HX.out.bel⟩
    · have e : Sh.on ⟨n, pt, pl, st, was, tk, jt, jf, jo, dn⟩ 3 = ⟨n, pt, pl, 3, was, 0, jt, jf, jo, dn⟩ := by simp [Sh.on, hp]
      rw [e]
      have b1 : (pl == jo) = false := beq_eq_false_iff_ne.2 hp
      clear e hp k1
      go_enter Try.func30, Try.ntmps30
      go_upto_region 1 with fail
      rw [Hh.out]
      generalize (w.alloc (.cells #[.int .i64 n, .int .i64 pt, .int .i64 pl, .int .i64 st, .int .i64 was, .int .i64 tk, .int .i64 jt, .int .i64 jf, .int .i64 jo, .int .i64 dn] 33)).alloc (.cells #[.int .i64 0, .int .i64 0, .int .i64 0, .int .i64 0, .int .i64 0, .int .i64 0, .int .i64 0, .int .i64 0, .int .i64 0, .int .i64 0] 33) = W at *
      obtain ⟨c0, c1, c2, c3, c4, c5, c6, c7, c8, c9, cf⟩ := cells10 HD.out.b1
      have f3 := cf 3
      have f5 := cf 5
      clear cf
      have HD1 : Hid (Db w ((W.setCell ⟨h, 3, none⟩ (.int .i64 3)).setCell ⟨h, 5, none⟩ (.int .i64 0)) h (h + 1) ⟨n, pt, pl, 3, was, 0, jt, jf, jo, dn⟩ ⟨0, 0, 0, 0, 0, 0, 0, 0, 0, 0⟩) := hide ((HD.out.put 3 _ (S2 := ⟨n, pt, pl, 3, was, tk, jt, jf, jo, dn⟩) rfl).put 5 _ rfl)
      go_upto_region 3 with fail
      clear HD c0 c1 c2 c3 c4 c5 c6 c7 c8 c9 f3 f5
      generalize (W.setCell ⟨h, 3, none⟩ (.int .i64 3)).setCell ⟨h, 5, none⟩ (.int .i64 0) = W1 at *
      obtain ⟨c0, c1, c2, c3, c4, c5, c6, c7, c8, c9, cf⟩ := cells10 HD1.out.b1
      have f3 := cf 3
      clear cf
      obtain ⟨d0, d1, d2, d3, d4, d5, d6, d7, d8, d9, df⟩ := cells10 HD1.out.b2
      have HX := hide (HD1.out.out ⟨n, pt, pl, 3, was, 0, jt, jf, jo, dn⟩)
      go_wp2_with fail
      refine bodyPost_ret (v := .agg #[.int .i64 n, .int .i64 pt, .int .i64 pl, .int .i64 3, .int .i64 was, .int .i64 0, .int .i64 jt, .int .i64 jf, .int .i64 jo, .int .i64 dn]) (by have x := cells10 HX.out.b2; simp [results, Try.results30, go_sem, x.1, x.2.1, x.2.2.1, x.2.2.2.1, x.2.2.2.2.1, x.2.2.2.2.2.1, x.2.2.2.2.2.2.1, x.2.2.2.2.2.2.2.1, x.2.2.2.2.2.2.2.2.1, x.2.2.2.2.2.2.2.2.2.1]) rfl ⟨rfl, HX.out.bel⟩
  have k3' : (k == 3) = false := beq_eq_false_iff_ne.2 k3
  have e : Sh.on ⟨n, pt, pl, st, was, tk, jt, jf, jo, dn⟩ k = ⟨n, pt, pl, k, was, 0, jt, jf, jo, dn⟩ := by simp [Sh.on, k1, k3]
  rw [e]
  clear e k1 k3
  go_enter Try.func30, Try.ntmps30
  go_upto_region 1 with fail
  rw [Hh.out]
  generalize (w.alloc (.cells #[.int .i64 n, .int .i64 pt, .int .i64 pl, .int .i64 st, .int .i64 was, .int .i64 tk, .int .i64 jt, .int .i64 jf, .int .i64 jo, .int .i64 dn] 33)).alloc (.cells #[.int .i64 0, .int .i64 0, .int .i64 0, .int .i64 0, .int .i64 0, .int .i64 0, .int .i64 0, .int .i64 0, .int .i64 0, .int .i64 0] 33) = W at *
  obtain ⟨c0, c1, c2, c3, c4, c5, c6, c7, c8, c9, cf⟩ := cells10 HD.out.b1
  have f3 := cf 3
  have f5 := cf 5
  clear cf
  have HD1 : Hid (Db w ((W.setCell ⟨h, 3, none⟩ (.int .i64 k)).setCell ⟨h, 5, none⟩ (.int .i64 0)) h (h + 1) ⟨n, pt, pl, k, was, 0, jt, jf, jo, dn⟩ ⟨0, 0, 0, 0, 0, 0, 0, 0, 0, 0⟩) := hide ((HD.out.put 3 _ (S2 := ⟨n, pt, pl, k, was, tk, jt, jf, jo, dn⟩) rfl).put 5 _ rfl)
  go_upto_region 3 with fail
  clear HD c0 c1 c2 c3 c4 c5 c6 c7 c8 c9 f3 f5
  generalize (W.setCell ⟨h, 3, none⟩ (.int .i64 k)).setCell ⟨h, 5, none⟩ (.int .i64 0) = W1 at *
  obtain ⟨c0, c1, c2, c3, c4, c5, c6, c7, c8, c9, cf⟩ := cells10 HD1.out.b1
  have f3 := cf 3
  clear cf
  obtain ⟨d0, d1, d2, d3, d4, d5, d6, d7, d8, d9, df⟩ := cells10 HD1.out.b2
  have HX := hide (HD1.out.out ⟨n, pt, pl, k, was, 0, jt, jf, jo, dn⟩)
  go_wp2_with fail
  refine bodyPost_ret (v := .agg #[.int .i64 n, .int .i64 pt, .int .i64 pl, .int .i64 k, .int .i64 was, .int .i64 0, .int .i64 jt, .int .i64 jf, .int .i64 jo, .int .i64 dn]) (by have x := cells10 HX.out.b2; simp [results, Try.results30, go_sem, x.1, x.2.1, x.2.2.1, x.2.2.2.1, x.2.2.2.2.1, x.2.2.2.2.2.1, x.2.2.2.2.2.2.1, x.2.2.2.2.2.2.2.1, x.2.2.2.2.2.2.2.2.1, x.2.2.2.2.2.2.2.2.2.1]) rfl ⟨rfl, HX.out.bel⟩
end Go.Proofs.Ytjmmkkjabpcihaa
