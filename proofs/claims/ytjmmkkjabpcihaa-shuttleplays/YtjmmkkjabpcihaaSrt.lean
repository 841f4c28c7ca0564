/- The document's Tick. -/
import Derived.Test.YtjmmkkjabpcihaaSrh
namespace Go.Proofs.Ytjmmkkjabpcihaa
open Go.RowKit
set_option linter.unusedVariables false

theorem Db.drew {w0 w : World} {h r : Nat} {S R : Sh} (x : Db w0 w h r S R) : Db w0 w.drew h r S R := ⟨x.bel.drew, x.b1, x.b2, x.o1, x.o2, x.ne⟩
theorem out_off (w : World) (r : Nat) (Q : Sh) (x : Nat) (hx : x ≠ r) : ((((((((((w.setCell ⟨r, 0, none⟩ (.int .i64 Q.n)).setCell ⟨r, 1, none⟩ (.int .i64 Q.pt)).setCell ⟨r, 2, none⟩ (.int .i64 Q.pl)).setCell ⟨r, 3, none⟩ (.int .i64 Q.st)).setCell ⟨r, 4, none⟩ (.int .i64 Q.was)).setCell ⟨r, 5, none⟩ (.int .i64 Q.tk)).setCell ⟨r, 6, none⟩ (.int .i64 Q.jt)).setCell ⟨r, 7, none⟩ (.int .i64 Q.jf)).setCell ⟨r, 8, none⟩ (.int .i64 Q.jo)).setCell ⟨r, 9, none⟩ (.int .i64 Q.dn)).heap[x]? = w.heap[x]? := by
  repeat rw [Below.heap_setCell _ _ _ _ hx]
/-- and two boxes more -/
structure Da (w0 w : World) (h r : Nat) (S R : Sh) (g1 g2 : Nat) (A B : Obj) : Prop where
  db : Db w0 w h r S R
  a : w.heap[g1]? = some A
  b : w.heap[g2]? = some B
  na : g1 ≠ r
  nb : g2 ≠ r
theorem Da.drew {w0 w : World} {h r g1 g2 : Nat} {S R : Sh} {A B : Obj} (x : Da w0 w h r S R g1 g2 A B) : Da w0 w.drew h r S R g1 g2 A B := ⟨x.db.drew, x.a, x.b, x.na, x.nb⟩
theorem Da.out0 {w0 w : World} {h r g1 g2 : Nat} {S R : Sh} {A B : Obj} (x : Da w0 w h r S R g1 g2 A B) (Q : Sh) : Da w0 ((((((((((w.setCell ⟨r, 0, none⟩ (.int .i64 Q.n)).setCell ⟨r, 1, none⟩ (.int .i64 Q.pt)).setCell ⟨r, 2, none⟩ (.int .i64 Q.pl)).setCell ⟨r, 3, none⟩ (.int .i64 Q.st)).setCell ⟨r, 4, none⟩ (.int .i64 Q.was)).setCell ⟨r, 5, none⟩ (.int .i64 Q.tk)).setCell ⟨r, 6, none⟩ (.int .i64 Q.jt)).setCell ⟨r, 7, none⟩ (.int .i64 Q.jf)).setCell ⟨r, 8, none⟩ (.int .i64 Q.jo)).setCell ⟨r, 9, none⟩ (.int .i64 Q.dn)) h r S Q g1 g2 A B :=
  ⟨x.db.out Q, (out_off w r Q g1 x.na).trans x.a, (out_off w r Q g2 x.nb).trans x.b, x.na, x.nb⟩
theorem Da.out {w0 w : World} {h r g1 g2 : Nat} {S R : Sh} {A B : Obj} (x : Da w0 w h r S R g1 g2 A B) (Q : Sh) : Da w0 ((((((((((w.setCell ⟨r, 0, none⟩ (.int .i64 Q.n)).setCell ⟨r, 1, none⟩ (.int .i64 Q.pt)).setCell ⟨r, 2, none⟩ (.int .i64 Q.pl)).setCell ⟨r, 3, none⟩ (.int .i64 Q.st)).setCell ⟨r, 4, none⟩ (.int .i64 Q.was)).setCell ⟨r, 5, none⟩ (.int .i64 Q.tk)).setCell ⟨r, 6, none⟩ (.int .i64 Q.jt)).setCell ⟨r, 7, none⟩ (.int .i64 Q.jf)).setCell ⟨r, 8, none⟩ (.int .i64 Q.jo)).setCell ⟨r, 9, none⟩ (.int .i64 Q.dn)).drew h r S Q g1 g2 A B := (x.out0 Q).drew
set_option maxRecDepth 100000 in
set_option maxHeartbeats 1000000 in
theorem rtick_any (S : Sh) (hk : S.Ok) (w : World) : Calls Try.prog 14 #[.agg #[.int .i64 S.n, .int .i64 S.pt, .int .i64 S.pl, .int .i64 S.st, .int .i64 S.was, .int .i64 S.tk, .int .i64 S.jt, .int .i64 S.jf, .int .i64 S.jo, .int .i64 S.dn]] w fun e w' => e = .returned (.tuple #[.agg #[.int .i64 S.tick.n, .int .i64 S.tick.pt, .int .i64 S.tick.pl, .int .i64 S.tick.st, .int .i64 S.tick.was, .int .i64 S.tick.tk, .int .i64 S.tick.jt, .int .i64 S.tick.jf, .int .i64 S.tick.jo, .int .i64 S.tick.dn], .int .i64 S.tickK, .int .i64 S.tickW]) ∧ Below w.heap.size w w' := by
  have t1 := hk.t1
  have t2 := hk.t2
  have p2 := hk.p2
  have s1 := hk.s1
  have s2 := hk.s2
  clear hk
  obtain ⟨n, pt, pl, st, was, tk, jt, jf, jo, dn⟩ := S
  simp only at t1 t2 p2 s1 s2
  obtain ⟨h, hh⟩ : ∃ h, w.heap.size = h := ⟨_, rfl⟩
  have HD : Hid (Db w ((w.alloc (.cells #[.int .i64 n, .int .i64 pt, .int .i64 pl, .int .i64 st, .int .i64 was, .int .i64 tk, .int .i64 jt, .int .i64 jf, .int .i64 jo, .int .i64 dn] 33)).alloc (.cells #[.int .i64 0, .int .i64 0, .int .i64 0, .int .i64 0, .int .i64 0, .int .i64 0, .int .i64 0, .int .i64 0, .int .i64 0, .int .i64 0] 33)) h (h + 1) ⟨n, pt, pl, st, was, tk, jt, jf, jo, dn⟩ ⟨0, 0, 0, 0, 0, 0, 0, 0, 0, 0⟩) := hide (Db.new w ⟨n, pt, pl, st, was, tk, jt, jf, jo, dn⟩ h hh)
  have Hh := hide hh
  clear hh
  by_cases s0 : st = 0
  · subst s0
    have e1 : Sh.tickK ⟨n, pt, pl, 0, was, tk, jt, jf, jo, dn⟩ = 0 := rfl
    have e2 : Sh.tickW ⟨n, pt, pl, 0, was, tk, jt, jf, jo, dn⟩ = 0 := rfl
    have e3 : Sh.tick ⟨n, pt, pl, 0, was, tk, jt, jf, jo, dn⟩ = ⟨n, pt, pl, 0, was, tk, jt, jf, jo, dn⟩ := rfl
    rw [e1, e2, e3]
    clear e1 e2 e3 t1 t2 p2 s1 s2
    go_enter Try.func14, Try.ntmps14
    go_upto_region 1 with fail
    rw [Hh.out]
    generalize (w.alloc (.cells #[.int .i64 n, .int .i64 pt, .int .i64 pl, .int .i64 0, .int .i64 was, .int .i64 tk, .int .i64 jt, .int .i64 jf, .int .i64 jo, .int .i64 dn] 33)).alloc (.cells #[.int .i64 0, .int .i64 0, .int .i64 0, .int .i64 0, .int .i64 0, .int .i64 0, .int .i64 0, .int .i64 0, .int .i64 0, .int .i64 0] 33) = W at *
    obtain ⟨c0, c1, c2, c3, c4, c5, c6, c7, c8, c9, cf⟩ := cells10 HD.out.b1
    clear cf
    obtain ⟨d0, d1, d2, d3, d4, d5, d6, d7, d8, d9, df⟩ := cells10 HD.out.b2
    have HX := hide (HD.out.out ⟨n, pt, pl, 0, was, tk, jt, jf, jo, dn⟩)
    go_wp2_with fail
    refine bodyPost_ret (v := .tuple #[.agg #[.int .i64 n, .int .i64 pt, .int .i64 pl, .int .i64 0, .int .i64 was, .int .i64 tk, .int .i64 jt, .int .i64 jf, .int .i64 jo, .int .i64 dn], .int .i64 0, .int .i64 0]) (by have x := cells10 HX.out.b2; simp [results, Try.results14, go_sem, x.1, x.2.1, x.2.2.1, x.2.2.2.1, x.2.2.2.2.1, x.2.2.2.2.2.1, x.2.2.2.2.2.2.1, x.2.2.2.2.2.2.2.1, x.2.2.2.2.2.2.2.2.1, x.2.2.2.2.2.2.2.2.2.1]) rfl ⟨rfl, HX.out.bel⟩
  have b0 : (st == 0) = false := beq_eq_false_iff_ne.2 s0
  by_cases s5 : st = 5
  · subst s5
    have e1 : Sh.tickK ⟨n, pt, pl, 5, was, tk, jt, jf, jo, dn⟩ = 0 := rfl
    have e2 : Sh.tickW ⟨n, pt, pl, 5, was, tk, jt, jf, jo, dn⟩ = 0 := rfl
    have e3 : Sh.tick ⟨n, pt, pl, 5, was, tk, jt, jf, jo, dn⟩ = ⟨n, pt, pl, 5, was, tk, jt, jf, jo, dn⟩ := rfl
    rw [e1, e2, e3]
    clear e1 e2 e3 t1 t2 p2 s1 s2
    go_enter Try.func14, Try.ntmps14
    go_upto_region 1 with fail
    rw [Hh.out]
    generalize (w.alloc (.cells #[.int .i64 n, .int .i64 pt, .int .i64 pl, .int .i64 5, .int .i64 was, .int .i64 tk, .int .i64 jt, .int .i64 jf, .int .i64 jo, .int .i64 dn] 33)).alloc (.cells #[.int .i64 0, .int .i64 0, .int .i64 0, .int .i64 0, .int .i64 0, .int .i64 0, .int .i64 0, .int .i64 0, .int .i64 0, .int .i64 0] 33) = W at *
    obtain ⟨c0, c1, c2, c3, c4, c5, c6, c7, c8, c9, cf⟩ := cells10 HD.out.b1
    clear cf
    obtain ⟨d0, d1, d2, d3, d4, d5, d6, d7, d8, d9, df⟩ := cells10 HD.out.b2
    have HX := hide (HD.out.out ⟨n, pt, pl, 5, was, tk, jt, jf, jo, dn⟩)
    go_wp2_with fail
    refine bodyPost_ret (v := .tuple #[.agg #[.int .i64 n, .int .i64 pt, .int .i64 pl, .int .i64 5, .int .i64 was, .int .i64 tk, .int .i64 jt, .int .i64 jf, .int .i64 jo, .int .i64 dn], .int .i64 0, .int .i64 0]) (by have x := cells10 HX.out.b2; simp [results, Try.results14, go_sem, x.1, x.2.1, x.2.2.1, x.2.2.2.1, x.2.2.2.2.1, x.2.2.2.2.2.1, x.2.2.2.2.2.2.1, x.2.2.2.2.2.2.2.1, x.2.2.2.2.2.2.2.2.1, x.2.2.2.2.2.2.2.2.2.1]) rfl ⟨rfl, HX.out.bel⟩
  have b5 : (st == 5) = false := beq_eq_false_iff_ne.2 s5
  by_cases hp : pt < tk + 1
  · have e1 : Sh.tickK ⟨n, pt, pl, st, was, tk, jt, jf, jo, dn⟩ = 0 := by simp [Sh.tickK, hp]
    have e2 : Sh.tickW ⟨n, pt, pl, st, was, tk, jt, jf, jo, dn⟩ = 0 := by simp [Sh.tickW, hp]
    have e3 : Sh.tick ⟨n, pt, pl, st, was, tk, jt, jf, jo, dn⟩ = ⟨n, pt, pl, 5, st, tk + 1, jt, jf, jo, dn⟩ := by simp [Sh.tick, s0, s5, hp]
    rw [e1, e2, e3]
    have hp' : tk + 1 > pt := hp
    clear e1 e2 e3 s0 s5 hp s1 s2
    go_enter Try.func14, Try.ntmps14
    go_upto_region 1 with fail
    rw [Hh.out]
    generalize (w.alloc (.cells #[.int .i64 n, .int .i64 pt, .int .i64 pl, .int .i64 st, .int .i64 was, .int .i64 tk, .int .i64 jt, .int .i64 jf, .int .i64 jo, .int .i64 dn] 33)).alloc (.cells #[.int .i64 0, .int .i64 0, .int .i64 0, .int .i64 0, .int .i64 0, .int .i64 0, .int .i64 0, .int .i64 0, .int .i64 0, .int .i64 0] 33) = W at *
    obtain ⟨c0, c1, c2, c3, c4, c5, c6, c7, c8, c9, cf⟩ := cells10 HD.out.b1
    have f5 := cf 5
    clear cf
    have HD1 : Hid (Db w (W.setCell ⟨h, 5, none⟩ (.int .i64 (tk + 1))) h (h + 1) ⟨n, pt, pl, st, was, tk + 1, jt, jf, jo, dn⟩ ⟨0, 0, 0, 0, 0, 0, 0, 0, 0, 0⟩) := hide (HD.out.put 5 _ rfl)
    go_upto_region 4 with fail
    clear HD c0 c1 c2 c3 c4 c5 c6 c7 c8 c9 f5
    generalize W.setCell ⟨h, 5, none⟩ (.int .i64 (tk + 1)) = W1 at *
    obtain ⟨c0, c1, c2, c3, c4, c5, c6, c7, c8, c9, cf⟩ := cells10 HD1.out.b1
    have f3 := cf 3
    have f4 := cf 4
    clear cf
    have HD2 : Hid (Db w ((W1.setCell ⟨h, 4, none⟩ (.int .i64 st)).setCell ⟨h, 3, none⟩ (.int .i64 5)) h (h + 1) ⟨n, pt, pl, 5, st, tk + 1, jt, jf, jo, dn⟩ ⟨0, 0, 0, 0, 0, 0, 0, 0, 0, 0⟩) := hide ((HD1.out.put 4 (.int .i64 st) (S2 := ⟨n, pt, pl, st, st, tk + 1, jt, jf, jo, dn⟩) rfl).put 3 _ rfl)
    go_upto_region 7 with fail
    clear HD1 c0 c1 c2 c3 c4 c5 c6 c7 c8 c9 f3 f4
    generalize (W1.setCell ⟨h, 4, none⟩ (.int .i64 st)).setCell ⟨h, 3, none⟩ (.int .i64 5) = W2 at *
    obtain ⟨c0, c1, c2, c3, c4, c5, c6, c7, c8, c9, cf⟩ := cells10 HD2.out.b1
    clear cf
    obtain ⟨d0, d1, d2, d3, d4, d5, d6, d7, d8, d9, df⟩ := cells10 HD2.out.b2
    have HX := hide (HD2.out.out ⟨n, pt, pl, 5, st, tk + 1, jt, jf, jo, dn⟩)
    go_wp2_with fail
    refine bodyPost_ret (v := .tuple #[.agg #[.int .i64 n, .int .i64 pt, .int .i64 pl, .int .i64 5, .int .i64 st, .int .i64 (tk + 1), .int .i64 jt, .int .i64 jf, .int .i64 jo, .int .i64 dn], .int .i64 0, .int .i64 0]) (by have x := cells10 HX.out.b2; simp [results, Try.results14, go_sem, x.1, x.2.1, x.2.2.1, x.2.2.2.1, x.2.2.2.2.1, x.2.2.2.2.2.1, x.2.2.2.2.2.2.1, x.2.2.2.2.2.2.2.1, x.2.2.2.2.2.2.2.2.1, x.2.2.2.2.2.2.2.2.2.1]) rfl ⟨rfl, HX.out.bel⟩
  have hp' : ¬ tk + 1 > pt := hp
  by_cases s1 : st = 1
  · subst s1
    have e1 : Sh.tickK ⟨n, pt, pl, 1, was, tk, jt, jf, jo, dn⟩ = 1 := by simp [Sh.tickK, Sh.orK, hp]
    have e2 : Sh.tickW ⟨n, pt, pl, 1, was, tk, jt, jf, jo, dn⟩ = jf := by simp [Sh.tickW, Sh.orW, hp]
    have e3 : Sh.tick ⟨n, pt, pl, 1, was, tk, jt, jf, jo, dn⟩ = ⟨n, pt, pl, 1, was, tk + 1, jt, jf, jo, dn⟩ := by simp [Sh.tick, hp]
    rw [e1, e2, e3]
    clear e1 e2 e3 s0 s5 hp s1 s2
    go_enter Try.func14, Try.ntmps14
    go_upto_region 1 with fail
    rw [Hh.out]
    generalize (w.alloc (.cells #[.int .i64 n, .int .i64 pt, .int .i64 pl, .int .i64 1, .int .i64 was, .int .i64 tk, .int .i64 jt, .int .i64 jf, .int .i64 jo, .int .i64 dn] 33)).alloc (.cells #[.int .i64 0, .int .i64 0, .int .i64 0, .int .i64 0, .int .i64 0, .int .i64 0, .int .i64 0, .int .i64 0, .int .i64 0, .int .i64 0] 33) = W at *
    obtain ⟨c0, c1, c2, c3, c4, c5, c6, c7, c8, c9, cf⟩ := cells10 HD.out.b1
    have f5 := cf 5
    clear cf
    have HD1 : Hid (Db w (W.setCell ⟨h, 5, none⟩ (.int .i64 (tk + 1))) h (h + 1) ⟨n, pt, pl, 1, was, tk + 1, jt, jf, jo, dn⟩ ⟨0, 0, 0, 0, 0, 0, 0, 0, 0, 0⟩) := hide (HD.out.put 5 _ rfl)
    go_upto_region 4 with fail
    clear HD c0 c1 c2 c3 c4 c5 c6 c7 c8 c9 f5
    generalize W.setCell ⟨h, 5, none⟩ (.int .i64 (tk + 1)) = W1 at *
    obtain ⟨c0, c1, c2, c3, c4, c5, c6, c7, c8, c9, cf⟩ := cells10 HD1.out.b1
    clear cf
    obtain ⟨g1, hg1⟩ : ∃ g1, W1.heap.size = g1 := ⟨_, rfl⟩
    have HD2 : Hid (Db w ((W1.alloc (.cells #[.int .i64 0, .int .i64 jf, .int .i64 jt, .int .i64 jo, .int .i64 jt] 64)).alloc (.cells #[.int .i64 0, .int .i64 1, .int .i64 2, .int .i64 1, .int .i64 3] 64)) h (h + 1) ⟨n, pt, pl, 1, was, tk + 1, jt, jf, jo, dn⟩ ⟨0, 0, 0, 0, 0, 0, 0, 0, 0, 0⟩) := hide ((HD1.out.keep ((Below.refl _ _).alloc (Nat.le_refl _) _)).keep ((Below.refl _ _).alloc (Nat.le_refl _) _))
    have HY : Hid (BW W1 ((W1.alloc (.cells #[.int .i64 0, .int .i64 jf, .int .i64 jt, .int .i64 jo, .int .i64 jt] 64)).alloc (.cells #[.int .i64 0, .int .i64 1, .int .i64 2, .int .i64 1, .int .i64 3] 64)) [(g1 + 1, .cells #[.int .i64 0, .int .i64 1, .int .i64 2, .int .i64 1, .int .i64 3] 64), (g1, .cells #[.int .i64 0, .int .i64 jf, .int .i64 jt, .int .i64 jo, .int .i64 jt] 64)]) := hide (((BW.nil W1).new _ g1 hg1).new _ (g1 + 1) (by show (W1.heap.push _).size = _; rw [Array.size_push, hg1]))
    go_upto_region 10 with fail
    have Hg : Hid (g1 ≠ h + 1 ∧ g1 + 1 ≠ h + 1) := hide (by have := heap_lt HD1.out.b2; omega)
    have Ha : Hid (((W1.alloc (.cells #[.int .i64 0, .int .i64 jf, .int .i64 jt, .int .i64 jo, .int .i64 jt] 64)).alloc (.cells #[.int .i64 0, .int .i64 1, .int .i64 2, .int .i64 1, .int .i64 3] 64)).heap[g1]? = some (.cells #[.int .i64 0, .int .i64 jf, .int .i64 jt, .int .i64 jo, .int .i64 jt] 64)) := hide (HY.out.bx (g1, .cells #[.int .i64 0, .int .i64 jf, .int .i64 jt, .int .i64 jo, .int .i64 jt] 64) (by simp)).1
    have Hb : Hid (((W1.alloc (.cells #[.int .i64 0, .int .i64 jf, .int .i64 jt, .int .i64 jo, .int .i64 jt] 64)).alloc (.cells #[.int .i64 0, .int .i64 1, .int .i64 2, .int .i64 1, .int .i64 3] 64)).heap[g1 + 1]? = some (.cells #[.int .i64 0, .int .i64 1, .int .i64 2, .int .i64 1, .int .i64 3] 64)) := hide (HY.out.bx (g1 + 1, .cells #[.int .i64 0, .int .i64 1, .int .i64 2, .int .i64 1, .int .i64 3] 64) (by simp)).1
    try rw [hg1]
    clear HD1 HY hg1 c0 c1 c2 c3 c4 c5 c6 c7 c8 c9
    generalize (W1.alloc (.cells #[.int .i64 0, .int .i64 jf, .int .i64 jt, .int .i64 jo, .int .i64 jt] 64)).alloc (.cells #[.int .i64 0, .int .i64 1, .int .i64 2, .int .i64 1, .int .i64 3] 64) = W2 at *
    have HA2 : Hid (Da w W2 h (h + 1) ⟨n, pt, pl, 1, was, tk + 1, jt, jf, jo, dn⟩ ⟨0, 0, 0, 0, 0, 0, 0, 0, 0, 0⟩ g1 (g1 + 1) (.cells #[.int .i64 0, .int .i64 jf, .int .i64 jt, .int .i64 jo, .int .i64 jt] 64) (.cells #[.int .i64 0, .int .i64 1, .int .i64 2, .int .i64 1, .int .i64 3] 64)) := hide ⟨HD2.out, Ha.out, Hb.out, Hg.out.1, Hg.out.2⟩
    obtain ⟨d0, d1, d2, d3, d4, d5, d6, d7, d8, d9, df⟩ := cells10 HD2.out.b2
    have HX := hide (HA2.out.out ⟨n, pt, pl, 1, was, tk + 1, jt, jf, jo, dn⟩)
    obtain ⟨S0, hS⟩ : ∃ S0 : World → Prop, ∀ W, S0 W ↔ (W.heap[h]? = some (.cells (shC ⟨n, pt, pl, 1, was, tk + 1, jt, jf, jo, dn⟩) 33) ∧ W.heap[g1]? = some (.cells #[.int .i64 0, .int .i64 jf, .int .i64 jt, .int .i64 jo, .int .i64 jt] 64) ∧ W.heap[g1 + 1]? = some (.cells #[.int .i64 0, .int .i64 1, .int .i64 2, .int .i64 1, .int .i64 3] 64)) := ⟨_, fun _ => Iff.rfl⟩
    have SD : Hid (∀ W, S0 W → W.heap[h]? = some (.cells (shC ⟨n, pt, pl, 1, was, tk + 1, jt, jf, jo, dn⟩) 33) ∧ W.heap[g1]? = some (.cells #[.int .i64 0, .int .i64 jf, .int .i64 jt, .int .i64 jo, .int .i64 jt] 64) ∧ W.heap[g1 + 1]? = some (.cells #[.int .i64 0, .int .i64 1, .int .i64 2, .int .i64 1, .int .i64 3] 64)) := hide (fun W h => (hS W).1 h)
    have SI : Hid (∀ W R, Da w W h (h + 1) ⟨n, pt, pl, 1, was, tk + 1, jt, jf, jo, dn⟩ R g1 (g1 + 1) (.cells #[.int .i64 0, .int .i64 jf, .int .i64 jt, .int .i64 jo, .int .i64 jt] 64) (.cells #[.int .i64 0, .int .i64 1, .int .i64 2, .int .i64 1, .int .i64 3] 64) → S0 W) := hide (fun W R x => (hS W).2 ⟨x.db.b1, x.a, x.b⟩)
    have SB : Hid (S0 W2.drew) := hide (SI.out _ _ HA2.out.drew)
    have SX := hide (SI.out _ _ HX.out)
    clear hS HD2 HA2 Ha Hb Hg
    refine wp_region_held_drew (S := S0) (by kernel_rfl) SB.out (fun hS0 => ?_)
    refine wpAnyH_take (i := 0) (v := .agg #[.int .i64 n, .int .i64 pt, .int .i64 pl, .int .i64 1, .int .i64 was, .int .i64 (tk + 1), .int .i64 jt, .int .i64 jf, .int .i64 jo, .int .i64 dn]) rfl (by kernel_rfl) (by kernel_rfl) (by kernel_rfl) (fun _ _ _ h => h) (Or.inl ⟨by rfl, fun W' hW => by obtain ⟨z, za, zb⟩ := SD.out W' hW; obtain ⟨z0, z1, z2, z3, z4, z5, z6, z7, z8, z9, zf⟩ := cells10 z; go_simp⟩) hS0 ?_
    refine wpAnyH_take (i := 1) (v := .pointer (some ⟨h, 3, none⟩)) rfl (by kernel_rfl) (by kernel_rfl) (by kernel_rfl) (fun _ _ _ h => h) (Or.inl ⟨by rfl, fun W' hW => by go_simp⟩) hS0 ?_
    refine wpAnyH_take (i := 2) (v := .int .i64 1) rfl (by kernel_rfl) (by kernel_rfl) (by kernel_rfl) (fun _ _ _ h => h) (Or.inl ⟨by rfl, fun W' hW => by obtain ⟨z, za, zb⟩ := SD.out W' hW; obtain ⟨z0, z1, z2, z3, z4, z5, z6, z7, z8, z9, zf⟩ := cells10 z; go_simp⟩) hS0 ?_
    refine wpAnyH_take (i := 3) (v := .pointer (some ⟨g1 + 1, 1, none⟩)) rfl (by kernel_rfl) (by kernel_rfl) (by kernel_rfl) (fun _ _ _ h => h) (Or.inl ⟨by rfl, fun W' hW => by go_simp⟩) hS0 ?_
    refine wpAnyH_take (i := 4) (v := .int .i64 1) rfl (by kernel_rfl) (by kernel_rfl) (by kernel_rfl) (fun _ _ _ h => h) (Or.inl ⟨by rfl, fun W' hW => by obtain ⟨z, za, zb⟩ := SD.out W' hW; have y := (cells_at zb 1).1; simp at y; go_simp⟩) hS0 ?_
    refine wpAnyH_take (i := 5) (v := .pointer (some ⟨h, 3, none⟩)) rfl (by kernel_rfl) (by kernel_rfl) (by kernel_rfl) (fun _ _ _ h => h) (Or.inl ⟨by rfl, fun W' hW => by go_simp⟩) hS0 ?_
    refine wpAnyH_take (i := 6) (v := .int .i64 1) rfl (by kernel_rfl) (by kernel_rfl) (by kernel_rfl) (fun _ _ _ h => h) (Or.inl ⟨by rfl, fun W' hW => by obtain ⟨z, za, zb⟩ := SD.out W' hW; obtain ⟨z0, z1, z2, z3, z4, z5, z6, z7, z8, z9, zf⟩ := cells10 z; go_simp⟩) hS0 ?_
    refine wpAnyH_take (i := 7) (v := .pointer (some ⟨g1, 1, none⟩)) rfl (by kernel_rfl) (by kernel_rfl) (by kernel_rfl) (fun _ _ _ h => h) (Or.inl ⟨by rfl, fun W' hW => by go_simp⟩) hS0 ?_
    refine wpAnyH_take (i := 8) (v := .int .i64 jf) rfl (by kernel_rfl) (by kernel_rfl) (by kernel_rfl) (fun _ _ _ h => h) (Or.inl ⟨by rfl, fun W' hW => by obtain ⟨z, za, zb⟩ := SD.out W' hW; have y := (cells_at za 1).1; simp at y; go_simp⟩) hS0 ?_
    refine wpAnyH_ready (rs := [9]) (by kernel_rfl) (by simp) ?_
    refine AllReadyH.cons rfl (fun K hK => ?_) AllReadyH.nil
    go_simp
    refine hK.out _ _ SX.out (fun _ => ?_)
    clear hK K
    refine wpAnyH_ready (rs := [10]) (by kernel_rfl) (by simp) ?_
    refine AllReadyH.cons rfl (fun K hK => ?_) AllReadyH.nil
    go_simp
    refine hK.out _ _ SX.out (fun _ => ?_)
    clear hK K
    refine wpAnyH_ready (rs := [11]) (by kernel_rfl) (by simp) ?_
    refine AllReadyH.cons rfl (fun K hK => ?_) AllReadyH.nil
    go_simp
    refine hK.out _ _ SX.out (fun _ => ?_)
    clear hK K
    refine wpAnyH_done (by kernel_rfl) ?_ _
    go_wp2_with fail
    refine bodyPost_ret (v := .tuple #[.agg #[.int .i64 n, .int .i64 pt, .int .i64 pl, .int .i64 1, .int .i64 was, .int .i64 (tk + 1), .int .i64 jt, .int .i64 jf, .int .i64 jo, .int .i64 dn], .int .i64 1, .int .i64 jf]) (by have x := cells10 HX.out.db.b2; simp [results, Try.results14, go_sem, x.1, x.2.1, x.2.2.1, x.2.2.2.1, x.2.2.2.2.1, x.2.2.2.2.2.1, x.2.2.2.2.2.2.1, x.2.2.2.2.2.2.2.1, x.2.2.2.2.2.2.2.2.1, x.2.2.2.2.2.2.2.2.2.1]) rfl ⟨rfl, HX.out.db.bel⟩
  by_cases s2 : st = 2
  · subst s2
    have e1 : Sh.tickK ⟨n, pt, pl, 2, was, tk, jt, jf, jo, dn⟩ = 2 := by simp [Sh.tickK, Sh.orK, hp]
    have e2 : Sh.tickW ⟨n, pt, pl, 2, was, tk, jt, jf, jo, dn⟩ = jt := by simp [Sh.tickW, Sh.orW, hp]
    have e3 : Sh.tick ⟨n, pt, pl, 2, was, tk, jt, jf, jo, dn⟩ = ⟨n, pt, pl, 2, was, tk + 1, jt, jf, jo, dn⟩ := by simp [Sh.tick, hp]
    rw [e1, e2, e3]
    clear e1 e2 e3 s0 s5 hp s1 s2
    go_enter Try.func14, Try.ntmps14
    go_upto_region 1 with fail
    rw [Hh.out]
    generalize (w.alloc (.cells #[.int .i64 n, .int .i64 pt, .int .i64 pl, .int .i64 2, .int .i64 was, .int .i64 tk, .int .i64 jt, .int .i64 jf, .int .i64 jo, .int .i64 dn] 33)).alloc (.cells #[.int .i64 0, .int .i64 0, .int .i64 0, .int .i64 0, .int .i64 0, .int .i64 0, .int .i64 0, .int .i64 0, .int .i64 0, .int .i64 0] 33) = W at *
    obtain ⟨c0, c1, c2, c3, c4, c5, c6, c7, c8, c9, cf⟩ := cells10 HD.out.b1
    have f5 := cf 5
    clear cf
    have HD1 : Hid (Db w (W.setCell ⟨h, 5, none⟩ (.int .i64 (tk + 1))) h (h + 1) ⟨n, pt, pl, 2, was, tk + 1, jt, jf, jo, dn⟩ ⟨0, 0, 0, 0, 0, 0, 0, 0, 0, 0⟩) := hide (HD.out.put 5 _ rfl)
    go_upto_region 4 with fail
    clear HD c0 c1 c2 c3 c4 c5 c6 c7 c8 c9 f5
    generalize W.setCell ⟨h, 5, none⟩ (.int .i64 (tk + 1)) = W1 at *
    obtain ⟨c0, c1, c2, c3, c4, c5, c6, c7, c8, c9, cf⟩ := cells10 HD1.out.b1
    clear cf
    obtain ⟨g1, hg1⟩ : ∃ g1, W1.heap.size = g1 := ⟨_, rfl⟩
    have HD2 : Hid (Db w ((W1.alloc (.cells #[.int .i64 0, .int .i64 jf, .int .i64 jt, .int .i64 jo, .int .i64 jt] 64)).alloc (.cells #[.int .i64 0, .int .i64 1, .int .i64 2, .int .i64 1, .int .i64 3] 64)) h (h + 1) ⟨n, pt, pl, 2, was, tk + 1, jt, jf, jo, dn⟩ ⟨0, 0, 0, 0, 0, 0, 0, 0, 0, 0⟩) := hide ((HD1.out.keep ((Below.refl _ _).alloc (Nat.le_refl _) _)).keep ((Below.refl _ _).alloc (Nat.le_refl _) _))
    have HY : Hid (BW W1 ((W1.alloc (.cells #[.int .i64 0, .int .i64 jf, .int .i64 jt, .int .i64 jo, .int .i64 jt] 64)).alloc (.cells #[.int .i64 0, .int .i64 1, .int .i64 2, .int .i64 1, .int .i64 3] 64)) [(g1 + 1, .cells #[.int .i64 0, .int .i64 1, .int .i64 2, .int .i64 1, .int .i64 3] 64), (g1, .cells #[.int .i64 0, .int .i64 jf, .int .i64 jt, .int .i64 jo, .int .i64 jt] 64)]) := hide (((BW.nil W1).new _ g1 hg1).new _ (g1 + 1) (by show (W1.heap.push _).size = _; rw [Array.size_push, hg1]))
    go_upto_region 10 with fail
    have Hg : Hid (g1 ≠ h + 1 ∧ g1 + 1 ≠ h + 1) := hide (by have := heap_lt HD1.out.b2; omega)
    have Ha : Hid (((W1.alloc (.cells #[.int .i64 0, .int .i64 jf, .int .i64 jt, .int .i64 jo, .int .i64 jt] 64)).alloc (.cells #[.int .i64 0, .int .i64 1, .int .i64 2, .int .i64 1, .int .i64 3] 64)).heap[g1]? = some (.cells #[.int .i64 0, .int .i64 jf, .int .i64 jt, .int .i64 jo, .int .i64 jt] 64)) := hide (HY.out.bx (g1, .cells #[.int .i64 0, .int .i64 jf, .int .i64 jt, .int .i64 jo, .int .i64 jt] 64) (by simp)).1
    have Hb : Hid (((W1.alloc (.cells #[.int .i64 0, .int .i64 jf, .int .i64 jt, .int .i64 jo, .int .i64 jt] 64)).alloc (.cells #[.int .i64 0, .int .i64 1, .int .i64 2, .int .i64 1, .int .i64 3] 64)).heap[g1 + 1]? = some (.cells #[.int .i64 0, .int .i64 1, .int .i64 2, .int .i64 1, .int .i64 3] 64)) := hide (HY.out.bx (g1 + 1, .cells #[.int .i64 0, .int .i64 1, .int .i64 2, .int .i64 1, .int .i64 3] 64) (by simp)).1
    try rw [hg1]
    clear HD1 HY hg1 c0 c1 c2 c3 c4 c5 c6 c7 c8 c9
    generalize (W1.alloc (.cells #[.int .i64 0, .int .i64 jf, .int .i64 jt, .int .i64 jo, .int .i64 jt] 64)).alloc (.cells #[.int .i64 0, .int .i64 1, .int .i64 2, .int .i64 1, .int .i64 3] 64) = W2 at *
    have HA2 : Hid (Da w W2 h (h + 1) ⟨n, pt, pl, 2, was, tk + 1, jt, jf, jo, dn⟩ ⟨0, 0, 0, 0, 0, 0, 0, 0, 0, 0⟩ g1 (g1 + 1) (.cells #[.int .i64 0, .int .i64 jf, .int .i64 jt, .int .i64 jo, .int .i64 jt] 64) (.cells #[.int .i64 0, .int .i64 1, .int .i64 2, .int .i64 1, .int .i64 3] 64)) := hide ⟨HD2.out, Ha.out, Hb.out, Hg.out.1, Hg.out.2⟩
    obtain ⟨d0, d1, d2, d3, d4, d5, d6, d7, d8, d9, df⟩ := cells10 HD2.out.b2
    have HX := hide (HA2.out.out ⟨n, pt, pl, 2, was, tk + 1, jt, jf, jo, dn⟩)
    obtain ⟨S0, hS⟩ : ∃ S0 : World → Prop, ∀ W, S0 W ↔ (W.heap[h]? = some (.cells (shC ⟨n, pt, pl, 2, was, tk + 1, jt, jf, jo, dn⟩) 33) ∧ W.heap[g1]? = some (.cells #[.int .i64 0, .int .i64 jf, .int .i64 jt, .int .i64 jo, .int .i64 jt] 64) ∧ W.heap[g1 + 1]? = some (.cells #[.int .i64 0, .int .i64 1, .int .i64 2, .int .i64 1, .int .i64 3] 64)) := ⟨_, fun _ => Iff.rfl⟩
    have SD : Hid (∀ W, S0 W → W.heap[h]? = some (.cells (shC ⟨n, pt, pl, 2, was, tk + 1, jt, jf, jo, dn⟩) 33) ∧ W.heap[g1]? = some (.cells #[.int .i64 0, .int .i64 jf, .int .i64 jt, .int .i64 jo, .int .i64 jt] 64) ∧ W.heap[g1 + 1]? = some (.cells #[.int .i64 0, .int .i64 1, .int .i64 2, .int .i64 1, .int .i64 3] 64)) := hide (fun W h => (hS W).1 h)
    have SI : Hid (∀ W R, Da w W h (h + 1) ⟨n, pt, pl, 2, was, tk + 1, jt, jf, jo, dn⟩ R g1 (g1 + 1) (.cells #[.int .i64 0, .int .i64 jf, .int .i64 jt, .int .i64 jo, .int .i64 jt] 64) (.cells #[.int .i64 0, .int .i64 1, .int .i64 2, .int .i64 1, .int .i64 3] 64) → S0 W) := hide (fun W R x => (hS W).2 ⟨x.db.b1, x.a, x.b⟩)
    have SB : Hid (S0 W2.drew) := hide (SI.out _ _ HA2.out.drew)
    have SX := hide (SI.out _ _ HX.out)
    clear hS HD2 HA2 Ha Hb Hg
    refine wp_region_held_drew (S := S0) (by kernel_rfl) SB.out (fun hS0 => ?_)
    refine wpAnyH_take (i := 0) (v := .agg #[.int .i64 n, .int .i64 pt, .int .i64 pl, .int .i64 2, .int .i64 was, .int .i64 (tk + 1), .int .i64 jt, .int .i64 jf, .int .i64 jo, .int .i64 dn]) rfl (by kernel_rfl) (by kernel_rfl) (by kernel_rfl) (fun _ _ _ h => h) (Or.inl ⟨by rfl, fun W' hW => by obtain ⟨z, za, zb⟩ := SD.out W' hW; obtain ⟨z0, z1, z2, z3, z4, z5, z6, z7, z8, z9, zf⟩ := cells10 z; go_simp⟩) hS0 ?_
    refine wpAnyH_take (i := 1) (v := .pointer (some ⟨h, 3, none⟩)) rfl (by kernel_rfl) (by kernel_rfl) (by kernel_rfl) (fun _ _ _ h => h) (Or.inl ⟨by rfl, fun W' hW => by go_simp⟩) hS0 ?_
    refine wpAnyH_take (i := 2) (v := .int .i64 2) rfl (by kernel_rfl) (by kernel_rfl) (by kernel_rfl) (fun _ _ _ h => h) (Or.inl ⟨by rfl, fun W' hW => by obtain ⟨z, za, zb⟩ := SD.out W' hW; obtain ⟨z0, z1, z2, z3, z4, z5, z6, z7, z8, z9, zf⟩ := cells10 z; go_simp⟩) hS0 ?_
    refine wpAnyH_take (i := 3) (v := .pointer (some ⟨g1 + 1, 2, none⟩)) rfl (by kernel_rfl) (by kernel_rfl) (by kernel_rfl) (fun _ _ _ h => h) (Or.inl ⟨by rfl, fun W' hW => by go_simp⟩) hS0 ?_
    refine wpAnyH_take (i := 4) (v := .int .i64 2) rfl (by kernel_rfl) (by kernel_rfl) (by kernel_rfl) (fun _ _ _ h => h) (Or.inl ⟨by rfl, fun W' hW => by obtain ⟨z, za, zb⟩ := SD.out W' hW; have y := (cells_at zb 2).1; simp at y; go_simp⟩) hS0 ?_
    refine wpAnyH_take (i := 5) (v := .pointer (some ⟨h, 3, none⟩)) rfl (by kernel_rfl) (by kernel_rfl) (by kernel_rfl) (fun _ _ _ h => h) (Or.inl ⟨by rfl, fun W' hW => by go_simp⟩) hS0 ?_
    refine wpAnyH_take (i := 6) (v := .int .i64 2) rfl (by kernel_rfl) (by kernel_rfl) (by kernel_rfl) (fun _ _ _ h => h) (Or.inl ⟨by rfl, fun W' hW => by obtain ⟨z, za, zb⟩ := SD.out W' hW; obtain ⟨z0, z1, z2, z3, z4, z5, z6, z7, z8, z9, zf⟩ := cells10 z; go_simp⟩) hS0 ?_
    refine wpAnyH_take (i := 7) (v := .pointer (some ⟨g1, 2, none⟩)) rfl (by kernel_rfl) (by kernel_rfl) (by kernel_rfl) (fun _ _ _ h => h) (Or.inl ⟨by rfl, fun W' hW => by go_simp⟩) hS0 ?_
    refine wpAnyH_take (i := 8) (v := .int .i64 jt) rfl (by kernel_rfl) (by kernel_rfl) (by kernel_rfl) (fun _ _ _ h => h) (Or.inl ⟨by rfl, fun W' hW => by obtain ⟨z, za, zb⟩ := SD.out W' hW; have y := (cells_at za 2).1; simp at y; go_simp⟩) hS0 ?_
    refine wpAnyH_ready (rs := [9]) (by kernel_rfl) (by simp) ?_
    refine AllReadyH.cons rfl (fun K hK => ?_) AllReadyH.nil
    go_simp
    refine hK.out _ _ SX.out (fun _ => ?_)
    clear hK K
    refine wpAnyH_ready (rs := [10]) (by kernel_rfl) (by simp) ?_
    refine AllReadyH.cons rfl (fun K hK => ?_) AllReadyH.nil
    go_simp
    refine hK.out _ _ SX.out (fun _ => ?_)
    clear hK K
    refine wpAnyH_ready (rs := [11]) (by kernel_rfl) (by simp) ?_
    refine AllReadyH.cons rfl (fun K hK => ?_) AllReadyH.nil
    go_simp
    refine hK.out _ _ SX.out (fun _ => ?_)
    clear hK K
    refine wpAnyH_done (by kernel_rfl) ?_ _
    go_wp2_with fail
    refine bodyPost_ret (v := .tuple #[.agg #[.int .i64 n, .int .i64 pt, .int .i64 pl, .int .i64 2, .int .i64 was, .int .i64 (tk + 1), .int .i64 jt, .int .i64 jf, .int .i64 jo, .int .i64 dn], .int .i64 2, .int .i64 jt]) (by have x := cells10 HX.out.db.b2; simp [results, Try.results14, go_sem, x.1, x.2.1, x.2.2.1, x.2.2.2.1, x.2.2.2.2.1, x.2.2.2.2.2.1, x.2.2.2.2.2.2.1, x.2.2.2.2.2.2.2.1, x.2.2.2.2.2.2.2.2.1, x.2.2.2.2.2.2.2.2.2.1]) rfl ⟨rfl, HX.out.db.bel⟩
  by_cases s3 : st = 3
  · subst s3
    have e1 : Sh.tickK ⟨n, pt, pl, 3, was, tk, jt, jf, jo, dn⟩ = 1 := by simp [Sh.tickK, Sh.orK, hp]
    have e2 : Sh.tickW ⟨n, pt, pl, 3, was, tk, jt, jf, jo, dn⟩ = jo := by simp [Sh.tickW, Sh.orW, hp]
    have e3 : Sh.tick ⟨n, pt, pl, 3, was, tk, jt, jf, jo, dn⟩ = ⟨n, pt, pl, 3, was, tk + 1, jt, jf, jo, dn⟩ := by simp [Sh.tick, hp]
    rw [e1, e2, e3]
    clear e1 e2 e3 s0 s5 hp s1 s2
    go_enter Try.func14, Try.ntmps14
    go_upto_region 1 with fail
    rw [Hh.out]
    generalize (w.alloc (.cells #[.int .i64 n, .int .i64 pt, .int .i64 pl, .int .i64 3, .int .i64 was, .int .i64 tk, .int .i64 jt, .int .i64 jf, .int .i64 jo, .int .i64 dn] 33)).alloc (.cells #[.int .i64 0, .int .i64 0, .int .i64 0, .int .i64 0, .int .i64 0, .int .i64 0, .int .i64 0, .int .i64 0, .int .i64 0, .int .i64 0] 33) = W at *
    obtain ⟨c0, c1, c2, c3, c4, c5, c6, c7, c8, c9, cf⟩ := cells10 HD.out.b1
    have f5 := cf 5
    clear cf
    have HD1 : Hid (Db w (W.setCell ⟨h, 5, none⟩ (.int .i64 (tk + 1))) h (h + 1) ⟨n, pt, pl, 3, was, tk + 1, jt, jf, jo, dn⟩ ⟨0, 0, 0, 0, 0, 0, 0, 0, 0, 0⟩) := hide (HD.out.put 5 _ rfl)
    go_upto_region 4 with fail
    clear HD c0 c1 c2 c3 c4 c5 c6 c7 c8 c9 f5
    generalize W.setCell ⟨h, 5, none⟩ (.int .i64 (tk + 1)) = W1 at *
    obtain ⟨c0, c1, c2, c3, c4, c5, c6, c7, c8, c9, cf⟩ := cells10 HD1.out.b1
    clear cf
    obtain ⟨g1, hg1⟩ : ∃ g1, W1.heap.size = g1 := ⟨_, rfl⟩
    have HD2 : Hid (Db w ((W1.alloc (.cells #[.int .i64 0, .int .i64 jf, .int .i64 jt, .int .i64 jo, .int .i64 jt] 64)).alloc (.cells #[.int .i64 0, .int .i64 1, .int .i64 2, .int .i64 1, .int .i64 3] 64)) h (h + 1) ⟨n, pt, pl, 3, was, tk + 1, jt, jf, jo, dn⟩ ⟨0, 0, 0, 0, 0, 0, 0, 0, 0, 0⟩) := hide ((HD1.out.keep ((Below.refl _ _).alloc (Nat.le_refl _) _)).keep ((Below.refl _ _).alloc (Nat.le_refl _) _))
    have HY : Hid (BW W1 ((W1.alloc (.cells #[.int .i64 0, .int .i64 jf, .int .i64 jt, .int .i64 jo, .int .i64 jt] 64)).alloc (.cells #[.int .i64 0, .int .i64 1, .int .i64 2, .int .i64 1, .int .i64 3] 64)) [(g1 + 1, .cells #[.int .i64 0, .int .i64 1, .int .i64 2, .int .i64 1, .int .i64 3] 64), (g1, .cells #[.int .i64 0, .int .i64 jf, .int .i64 jt, .int .i64 jo, .int .i64 jt] 64)]) := hide (((BW.nil W1).new _ g1 hg1).new _ (g1 + 1) (by show (W1.heap.push _).size = _; rw [Array.size_push, hg1]))
    go_upto_region 10 with fail
    have Hg : Hid (g1 ≠ h + 1 ∧ g1 + 1 ≠ h + 1) := hide (by have := heap_lt HD1.out.b2; omega)
    have Ha : Hid (((W1.alloc (.cells #[.int .i64 0, .int .i64 jf, .int .i64 jt, .int .i64 jo, .int .i64 jt] 64)).alloc (.cells #[.int .i64 0, .int .i64 1, .int .i64 2, .int .i64 1, .int .i64 3] 64)).heap[g1]? = some (.cells #[.int .i64 0, .int .i64 jf, .int .i64 jt, .int .i64 jo, .int .i64 jt] 64)) := hide (HY.out.bx (g1, .cells #[.int .i64 0, .int .i64 jf, .int .i64 jt, .int .i64 jo, .int .i64 jt] 64) (by simp)).1
    have Hb : Hid (((W1.alloc (.cells #[.int .i64 0, .int .i64 jf, .int .i64 jt, .int .i64 jo, .int .i64 jt] 64)).alloc (.cells #[.int .i64 0, .int .i64 1, .int .i64 2, .int .i64 1, .int .i64 3] 64)).heap[g1 + 1]? = some (.cells #[.int .i64 0, .int .i64 1, .int .i64 2, .int .i64 1, .int .i64 3] 64)) := hide (HY.out.bx (g1 + 1, .cells #[.int .i64 0, .int .i64 1, .int .i64 2, .int .i64 1, .int .i64 3] 64) (by simp)).1
    try rw [hg1]
    clear HD1 HY hg1 c0 c1 c2 c3 c4 c5 c6 c7 c8 c9
    generalize (W1.alloc (.cells #[.int .i64 0, .int .i64 jf, .int .i64 jt, .int .i64 jo, .int .i64 jt] 64)).alloc (.cells #[.int .i64 0, .int .i64 1, .int .i64 2, .int .i64 1, .int .i64 3] 64) = W2 at *
    have HA2 : Hid (Da w W2 h (h + 1) ⟨n, pt, pl, 3, was, tk + 1, jt, jf, jo, dn⟩ ⟨0, 0, 0, 0, 0, 0, 0, 0, 0, 0⟩ g1 (g1 + 1) (.cells #[.int .i64 0, .int .i64 jf, .int .i64 jt, .int .i64 jo, .int .i64 jt] 64) (.cells #[.int .i64 0, .int .i64 1, .int .i64 2, .int .i64 1, .int .i64 3] 64)) := hide ⟨HD2.out, Ha.out, Hb.out, Hg.out.1, Hg.out.2⟩
    obtain ⟨d0, d1, d2, d3, d4, d5, d6, d7, d8, d9, df⟩ := cells10 HD2.out.b2
    have HX := hide (HA2.out.out ⟨n, pt, pl, 3, was, tk + 1, jt, jf, jo, dn⟩)
    obtain ⟨S0, hS⟩ : ∃ S0 : World → Prop, ∀ W, S0 W ↔ (W.heap[h]? = some (.cells (shC ⟨n, pt, pl, 3, was, tk + 1, jt, jf, jo, dn⟩) 33) ∧ W.heap[g1]? = some (.cells #[.int .i64 0, .int .i64 jf, .int .i64 jt, .int .i64 jo, .int .i64 jt] 64) ∧ W.heap[g1 + 1]? = some (.cells #[.int .i64 0, .int .i64 1, .int .i64 2, .int .i64 1, .int .i64 3] 64)) := ⟨_, fun _ => Iff.rfl⟩
    have SD : Hid (∀ W, S0 W → W.heap[h]? = some (.cells (shC ⟨n, pt, pl, 3, was, tk + 1, jt, jf, jo, dn⟩) 33) ∧ W.heap[g1]? = some (.cells #[.int .i64 0, .int .i64 jf, .int .i64 jt, .int .i64 jo, .int .i64 jt] 64) ∧ W.heap[g1 + 1]? = some (.cells #[.int .i64 0, .int .i64 1, .int .i64 2, .int .i64 1, .int .i64 3] 64)) := hide (fun W h => (hS W).1 h)
    have SI : Hid (∀ W R, Da w W h (h + 1) ⟨n, pt, pl, 3, was, tk + 1, jt, jf, jo, dn⟩ R g1 (g1 + 1) (.cells #[.int .i64 0, .int .i64 jf, .int .i64 jt, .int .i64 jo, .int .i64 jt] 64) (.cells #[.int .i64 0, .int .i64 1, .int .i64 2, .int .i64 1, .int .i64 3] 64) → S0 W) := hide (fun W R x => (hS W).2 ⟨x.db.b1, x.a, x.b⟩)
    have SB : Hid (S0 W2.drew) := hide (SI.out _ _ HA2.out.drew)
    have SX := hide (SI.out _ _ HX.out)
    clear hS HD2 HA2 Ha Hb Hg
    refine wp_region_held_drew (S := S0) (by kernel_rfl) SB.out (fun hS0 => ?_)
    refine wpAnyH_take (i := 0) (v := .agg #[.int .i64 n, .int .i64 pt, .int .i64 pl, .int .i64 3, .int .i64 was, .int .i64 (tk + 1), .int .i64 jt, .int .i64 jf, .int .i64 jo, .int .i64 dn]) rfl (by kernel_rfl) (by kernel_rfl) (by kernel_rfl) (fun _ _ _ h => h) (Or.inl ⟨by rfl, fun W' hW => by obtain ⟨z, za, zb⟩ := SD.out W' hW; obtain ⟨z0, z1, z2, z3, z4, z5, z6, z7, z8, z9, zf⟩ := cells10 z; go_simp⟩) hS0 ?_
    refine wpAnyH_take (i := 1) (v := .pointer (some ⟨h, 3, none⟩)) rfl (by kernel_rfl) (by kernel_rfl) (by kernel_rfl) (fun _ _ _ h => h) (Or.inl ⟨by rfl, fun W' hW => by go_simp⟩) hS0 ?_
    refine wpAnyH_take (i := 2) (v := .int .i64 3) rfl (by kernel_rfl) (by kernel_rfl) (by kernel_rfl) (fun _ _ _ h => h) (Or.inl ⟨by rfl, fun W' hW => by obtain ⟨z, za, zb⟩ := SD.out W' hW; obtain ⟨z0, z1, z2, z3, z4, z5, z6, z7, z8, z9, zf⟩ := cells10 z; go_simp⟩) hS0 ?_
    refine wpAnyH_take (i := 3) (v := .pointer (some ⟨g1 + 1, 3, none⟩)) rfl (by kernel_rfl) (by kernel_rfl) (by kernel_rfl) (fun _ _ _ h => h) (Or.inl ⟨by rfl, fun W' hW => by go_simp⟩) hS0 ?_
    refine wpAnyH_take (i := 4) (v := .int .i64 1) rfl (by kernel_rfl) (by kernel_rfl) (by kernel_rfl) (fun _ _ _ h => h) (Or.inl ⟨by rfl, fun W' hW => by obtain ⟨z, za, zb⟩ := SD.out W' hW; have y := (cells_at zb 3).1; simp at y; go_simp⟩) hS0 ?_
    refine wpAnyH_take (i := 5) (v := .pointer (some ⟨h, 3, none⟩)) rfl (by kernel_rfl) (by kernel_rfl) (by kernel_rfl) (fun _ _ _ h => h) (Or.inl ⟨by rfl, fun W' hW => by go_simp⟩) hS0 ?_
    refine wpAnyH_take (i := 6) (v := .int .i64 3) rfl (by kernel_rfl) (by kernel_rfl) (by kernel_rfl) (fun _ _ _ h => h) (Or.inl ⟨by rfl, fun W' hW => by obtain ⟨z, za, zb⟩ := SD.out W' hW; obtain ⟨z0, z1, z2, z3, z4, z5, z6, z7, z8, z9, zf⟩ := cells10 z; go_simp⟩) hS0 ?_
    refine wpAnyH_take (i := 7) (v := .pointer (some ⟨g1, 3, none⟩)) rfl (by kernel_rfl) (by kernel_rfl) (by kernel_rfl) (fun _ _ _ h => h) (Or.inl ⟨by rfl, fun W' hW => by go_simp⟩) hS0 ?_
    refine wpAnyH_take (i := 8) (v := .int .i64 jo) rfl (by kernel_rfl) (by kernel_rfl) (by kernel_rfl) (fun _ _ _ h => h) (Or.inl ⟨by rfl, fun W' hW => by obtain ⟨z, za, zb⟩ := SD.out W' hW; have y := (cells_at za 3).1; simp at y; go_simp⟩) hS0 ?_
    refine wpAnyH_ready (rs := [9]) (by kernel_rfl) (by simp) ?_
    refine AllReadyH.cons rfl (fun K hK => ?_) AllReadyH.nil
    go_simp
    refine hK.out _ _ SX.out (fun _ => ?_)
    clear hK K
    refine wpAnyH_ready (rs := [10]) (by kernel_rfl) (by simp) ?_
    refine AllReadyH.cons rfl (fun K hK => ?_) AllReadyH.nil
    go_simp
    refine hK.out _ _ SX.out (fun _ => ?_)
    clear hK K
    refine wpAnyH_ready (rs := [11]) (by kernel_rfl) (by simp) ?_
    refine AllReadyH.cons rfl (fun K hK => ?_) AllReadyH.nil
    go_simp
    refine hK.out _ _ SX.out (fun _ => ?_)
    clear hK K
    refine wpAnyH_done (by kernel_rfl) ?_ _
    go_wp2_with fail
    refine bodyPost_ret (v := .tuple #[.agg #[.int .i64 n, .int .i64 pt, .int .i64 pl, .int .i64 3, .int .i64 was, .int .i64 (tk + 1), .int .i64 jt, .int .i64 jf, .int .i64 jo, .int .i64 dn], .int .i64 1, .int .i64 jo]) (by have x := cells10 HX.out.db.b2; simp [results, Try.results14, go_sem, x.1, x.2.1, x.2.2.1, x.2.2.2.1, x.2.2.2.2.1, x.2.2.2.2.2.1, x.2.2.2.2.2.2.1, x.2.2.2.2.2.2.2.1, x.2.2.2.2.2.2.2.2.1, x.2.2.2.2.2.2.2.2.2.1]) rfl ⟨rfl, HX.out.db.bel⟩
  by_cases s4 : st = 4
  · subst s4
    have e1 : Sh.tickK ⟨n, pt, pl, 4, was, tk, jt, jf, jo, dn⟩ = 3 := by simp [Sh.tickK, Sh.orK, hp]
    have e2 : Sh.tickW ⟨n, pt, pl, 4, was, tk, jt, jf, jo, dn⟩ = jt := by simp [Sh.tickW, Sh.orW, hp]
    have e3 : Sh.tick ⟨n, pt, pl, 4, was, tk, jt, jf, jo, dn⟩ = ⟨n, pt, pl, 4, was, tk + 1, jt, jf, jo, dn⟩ := by simp [Sh.tick, hp]
    rw [e1, e2, e3]
    clear e1 e2 e3 s0 s5 hp s1 s2
    go_enter Try.func14, Try.ntmps14
    go_upto_region 1 with fail
    rw [Hh.out]
    generalize (w.alloc (.cells #[.int .i64 n, .int .i64 pt, .int .i64 pl, .int .i64 4, .int .i64 was, .int .i64 tk, .int .i64 jt, .int .i64 jf, .int .i64 jo, .int .i64 dn] 33)).alloc (.cells #[.int .i64 0, .int .i64 0, .int .i64 0, .int .i64 0, .int .i64 0, .int .i64 0, .int .i64 0, .int .i64 0, .int .i64 0, .int .i64 0] 33) = W at *
    obtain ⟨c0, c1, c2, c3, c4, c5, c6, c7, c8, c9, cf⟩ := cells10 HD.out.b1
    have f5 := cf 5
    clear cf
    have HD1 : Hid (Db w (W.setCell ⟨h, 5, none⟩ (.int .i64 (tk + 1))) h (h + 1) ⟨n, pt, pl, 4, was, tk + 1, jt, jf, jo, dn⟩ ⟨0, 0, 0, 0, 0, 0, 0, 0, 0, 0⟩) := hide (HD.out.put 5 _ rfl)
    go_upto_region 4 with fail
    clear HD c0 c1 c2 c3 c4 c5 c6 c7 c8 c9 f5
    generalize W.setCell ⟨h, 5, none⟩ (.int .i64 (tk + 1)) = W1 at *
    obtain ⟨c0, c1, c2, c3, c4, c5, c6, c7, c8, c9, cf⟩ := cells10 HD1.out.b1
    clear cf
    obtain ⟨g1, hg1⟩ : ∃ g1, W1.heap.size = g1 := ⟨_, rfl⟩
    have HD2 : Hid (Db w ((W1.alloc (.cells #[.int .i64 0, .int .i64 jf, .int .i64 jt, .int .i64 jo, .int .i64 jt] 64)).alloc (.cells #[.int .i64 0, .int .i64 1, .int .i64 2, .int .i64 1, .int .i64 3] 64)) h (h + 1) ⟨n, pt, pl, 4, was, tk + 1, jt, jf, jo, dn⟩ ⟨0, 0, 0, 0, 0, 0, 0, 0, 0, 0⟩) := hide ((HD1.out.keep ((Below.refl _ _).alloc (Nat.le_refl _) _)).keep ((Below.refl _ _).alloc (Nat.le_refl _) _))
    have HY : Hid (BW W1 ((W1.alloc (.cells #[.int .i64 0, .int .i64 jf, .int .i64 jt, .int .i64 jo, .int .i64 jt] 64)).alloc (.cells #[.int .i64 0, .int .i64 1, .int .i64 2, .int .i64 1, .int .i64 3] 64)) [(g1 + 1, .cells #[.int .i64 0, .int .i64 1, .int .i64 2, .int .i64 1, .int .i64 3] 64), (g1, .cells #[.int .i64 0, .int .i64 jf, .int .i64 jt, .int .i64 jo, .int .i64 jt] 64)]) := hide (((BW.nil W1).new _ g1 hg1).new _ (g1 + 1) (by show (W1.heap.push _).size = _; rw [Array.size_push, hg1]))
    go_upto_region 10 with fail
    have Hg : Hid (g1 ≠ h + 1 ∧ g1 + 1 ≠ h + 1) := hide (by have := heap_lt HD1.out.b2; omega)
    have Ha : Hid (((W1.alloc (.cells #[.int .i64 0, .int .i64 jf, .int .i64 jt, .int .i64 jo, .int .i64 jt] 64)).alloc (.cells #[.int .i64 0, .int .i64 1, .int .i64 2, .int .i64 1, .int .i64 3] 64)).heap[g1]? = some (.cells #[.int .i64 0, .int .i64 jf, .int .i64 jt, .int .i64 jo, .int .i64 jt] 64)) := hide (HY.out.bx (g1, .cells #[.int .i64 0, .int .i64 jf, .int .i64 jt, .int .i64 jo, .int .i64 jt] 64) (by simp)).1
    have Hb : Hid (((W1.alloc (.cells #[.int .i64 0, .int .i64 jf, .int .i64 jt, .int .i64 jo, .int .i64 jt] 64)).alloc (.cells #[.int .i64 0, .int .i64 1, .int .i64 2, .int .i64 1, .int .i64 3] 64)).heap[g1 + 1]? = some (.cells #[.int .i64 0, .int .i64 1, .int .i64 2, .int .i64 1, .int .i64 3] 64)) := hide (HY.out.bx (g1 + 1, .cells #[.int .i64 0, .int .i64 1, .int .i64 2, .int .i64 1, .int .i64 3] 64) (by simp)).1
    try rw [hg1]
    clear HD1 HY hg1 c0 c1 c2 c3 c4 c5 c6 c7 c8 c9
    generalize (W1.alloc (.cells #[.int .i64 0, .int .i64 jf, .int .i64 jt, .int .i64 jo, .int .i64 jt] 64)).alloc (.cells #[.int .i64 0, .int .i64 1, .int .i64 2, .int .i64 1, .int .i64 3] 64) = W2 at *
    have HA2 : Hid (Da w W2 h (h + 1) ⟨n, pt, pl, 4, was, tk + 1, jt, jf, jo, dn⟩ ⟨0, 0, 0, 0, 0, 0, 0, 0, 0, 0⟩ g1 (g1 + 1) (.cells #[.int .i64 0, .int .i64 jf, .int .i64 jt, .int .i64 jo, .int .i64 jt] 64) (.cells #[.int .i64 0, .int .i64 1, .int .i64 2, .int .i64 1, .int .i64 3] 64)) := hide ⟨HD2.out, Ha.out, Hb.out, Hg.out.1, Hg.out.2⟩
    obtain ⟨d0, d1, d2, d3, d4, d5, d6, d7, d8, d9, df⟩ := cells10 HD2.out.b2
    have HX := hide (HA2.out.out ⟨n, pt, pl, 4, was, tk + 1, jt, jf, jo, dn⟩)
    obtain ⟨S0, hS⟩ : ∃ S0 : World → Prop, ∀ W, S0 W ↔ (W.heap[h]? = some (.cells (shC ⟨n, pt, pl, 4, was, tk + 1, jt, jf, jo, dn⟩) 33) ∧ W.heap[g1]? = some (.cells #[.int .i64 0, .int .i64 jf, .int .i64 jt, .int .i64 jo, .int .i64 jt] 64) ∧ W.heap[g1 + 1]? = some (.cells #[.int .i64 0, .int .i64 1, .int .i64 2, .int .i64 1, .int .i64 3] 64)) := ⟨_, fun _ => Iff.rfl⟩
    have SD : Hid (∀ W, S0 W → W.heap[h]? = some (.cells (shC ⟨n, pt, pl, 4, was, tk + 1, jt, jf, jo, dn⟩) 33) ∧ W.heap[g1]? = some (.cells #[.int .i64 0, .int .i64 jf, .int .i64 jt, .int .i64 jo, .int .i64 jt] 64) ∧ W.heap[g1 + 1]? = some (.cells #[.int .i64 0, .int .i64 1, .int .i64 2, .int .i64 1, .int .i64 3] 64)) := hide (fun W h => (hS W).1 h)
    have SI : Hid (∀ W R, Da w W h (h + 1) ⟨n, pt, pl, 4, was, tk + 1, jt, jf, jo, dn⟩ R g1 (g1 + 1) (.cells #[.int .i64 0, .int .i64 jf, .int .i64 jt, .int .i64 jo, .int .i64 jt] 64) (.cells #[.int .i64 0, .int .i64 1, .int .i64 2, .int .i64 1, .int .i64 3] 64) → S0 W) := hide (fun W R x => (hS W).2 ⟨x.db.b1, x.a, x.b⟩)
    have SB : Hid (S0 W2.drew) := hide (SI.out _ _ HA2.out.drew)
    have SX := hide (SI.out _ _ HX.out)
    clear hS HD2 HA2 Ha Hb Hg
    refine wp_region_held_drew (S := S0) (by kernel_rfl) SB.out (fun hS0 => ?_)
    refine wpAnyH_take (i := 0) (v := .agg #[.int .i64 n, .int .i64 pt, .int .i64 pl, .int .i64 4, .int .i64 was, .int .i64 (tk + 1), .int .i64 jt, .int .i64 jf, .int .i64 jo, .int .i64 dn]) rfl (by kernel_rfl) (by kernel_rfl) (by kernel_rfl) (fun _ _ _ h => h) (Or.inl ⟨by rfl, fun W' hW => by obtain ⟨z, za, zb⟩ := SD.out W' hW; obtain ⟨z0, z1, z2, z3, z4, z5, z6, z7, z8, z9, zf⟩ := cells10 z; go_simp⟩) hS0 ?_
    refine wpAnyH_take (i := 1) (v := .pointer (some ⟨h, 3, none⟩)) rfl (by kernel_rfl) (by kernel_rfl) (by kernel_rfl) (fun _ _ _ h => h) (Or.inl ⟨by rfl, fun W' hW => by go_simp⟩) hS0 ?_
    refine wpAnyH_take (i := 2) (v := .int .i64 4) rfl (by kernel_rfl) (by kernel_rfl) (by kernel_rfl) (fun _ _ _ h => h) (Or.inl ⟨by rfl, fun W' hW => by obtain ⟨z, za, zb⟩ := SD.out W' hW; obtain ⟨z0, z1, z2, z3, z4, z5, z6, z7, z8, z9, zf⟩ := cells10 z; go_simp⟩) hS0 ?_
    refine wpAnyH_take (i := 3) (v := .pointer (some ⟨g1 + 1, 4, none⟩)) rfl (by kernel_rfl) (by kernel_rfl) (by kernel_rfl) (fun _ _ _ h => h) (Or.inl ⟨by rfl, fun W' hW => by go_simp⟩) hS0 ?_
    refine wpAnyH_take (i := 4) (v := .int .i64 3) rfl (by kernel_rfl) (by kernel_rfl) (by kernel_rfl) (fun _ _ _ h => h) (Or.inl ⟨by rfl, fun W' hW => by obtain ⟨z, za, zb⟩ := SD.out W' hW; have y := (cells_at zb 4).1; simp at y; go_simp⟩) hS0 ?_
    refine wpAnyH_take (i := 5) (v := .pointer (some ⟨h, 3, none⟩)) rfl (by kernel_rfl) (by kernel_rfl) (by kernel_rfl) (fun _ _ _ h => h) (Or.inl ⟨by rfl, fun W' hW => by go_simp⟩) hS0 ?_
    refine wpAnyH_take (i := 6) (v := .int .i64 4) rfl (by kernel_rfl) (by kernel_rfl) (by kernel_rfl) (fun _ _ _ h => h) (Or.inl ⟨by rfl, fun W' hW => by obtain ⟨z, za, zb⟩ := SD.out W' hW; obtain ⟨z0, z1, z2, z3, z4, z5, z6, z7, z8, z9, zf⟩ := cells10 z; go_simp⟩) hS0 ?_
    refine wpAnyH_take (i := 7) (v := .pointer (some ⟨g1, 4, none⟩)) rfl (by kernel_rfl) (by kernel_rfl) (by kernel_rfl) (fun _ _ _ h => h) (Or.inl ⟨by rfl, fun W' hW => by go_simp⟩) hS0 ?_
    refine wpAnyH_take (i := 8) (v := .int .i64 jt) rfl (by kernel_rfl) (by kernel_rfl) (by kernel_rfl) (fun _ _ _ h => h) (Or.inl ⟨by rfl, fun W' hW => by obtain ⟨z, za, zb⟩ := SD.out W' hW; have y := (cells_at za 4).1; simp at y; go_simp⟩) hS0 ?_
    refine wpAnyH_ready (rs := [9]) (by kernel_rfl) (by simp) ?_
    refine AllReadyH.cons rfl (fun K hK => ?_) AllReadyH.nil
    go_simp
    refine hK.out _ _ SX.out (fun _ => ?_)
    clear hK K
    refine wpAnyH_ready (rs := [10]) (by kernel_rfl) (by simp) ?_
    refine AllReadyH.cons rfl (fun K hK => ?_) AllReadyH.nil
    go_simp
    refine hK.out _ _ SX.out (fun _ => ?_)
    clear hK K
    refine wpAnyH_ready (rs := [11]) (by kernel_rfl) (by simp) ?_
    refine AllReadyH.cons rfl (fun K hK => ?_) AllReadyH.nil
    go_simp
    refine hK.out _ _ SX.out (fun _ => ?_)
    clear hK K
    refine wpAnyH_done (by kernel_rfl) ?_ _
    go_wp2_with fail
    refine bodyPost_ret (v := .tuple #[.agg #[.int .i64 n, .int .i64 pt, .int .i64 pl, .int .i64 4, .int .i64 was, .int .i64 (tk + 1), .int .i64 jt, .int .i64 jf, .int .i64 jo, .int .i64 dn], .int .i64 3, .int .i64 jt]) (by have x := cells10 HX.out.db.b2; simp [results, Try.results14, go_sem, x.1, x.2.1, x.2.2.1, x.2.2.2.1, x.2.2.2.2.1, x.2.2.2.2.2.1, x.2.2.2.2.2.2.1, x.2.2.2.2.2.2.2.1, x.2.2.2.2.2.2.2.2.1, x.2.2.2.2.2.2.2.2.2.1]) rfl ⟨rfl, HX.out.db.bel⟩
  omega
end Go.Proofs.Ytjmmkkjabpcihaa
