/- The order of a state; Tick. -/
import Derived.Test.YtjmmkkjabpcihaaSha
namespace Go.Proofs.Ytjmmkkjabpcihaa
open Go.RowKit
set_option linter.unusedVariables false
variable {w w' w0 : World} {g h : Nat} {S : Sh}

/-- the world of a call that answers an order: the shuttle and the order's box -/
structure Tw (w0 w : World) (g h : Nat) (S : Sh) (k x : Int) : Prop where
  c : Chg w0 g S w
  b : w.heap[h]? = some (.cells #[.int .i64 k, .int .i64 x] 41)
  hs : w0.heap.size ≤ h
  ne : g ≠ h
theorem Tw.new (hS : Shb w g S) : Tw w (w.alloc (.cells #[.int .i64 0, .int .i64 0] 41)) g w.heap.size S 0 0 :=
  ⟨(Chg.refl hS).keep ((Below.refl _ _).alloc (Nat.le_refl _) _), heap_new _ _, Nat.le_refl _, Nat.ne_of_lt hS.lt⟩
theorem Tw.put {k x : Int} (t : Tw w0 w g h S k x) (i : Nat) (u : Value) {S2 : Sh} (e : (shC S).setIfInBounds i u = shC S2) : Tw w0 (w.setCell ⟨g, i, none⟩ u) g h S2 k x :=
  ⟨t.c.put i u e, by rw [Below.heap_setCell _ _ _ _ t.ne.symm]; exact t.b, t.hs, t.ne⟩
theorem Tw.out {k x : Int} (t : Tw w0 w g h S k x) (k' x' : Int) : Tw w0 ((w.setCell ⟨h, 0, none⟩ (.int .i64 k')).setCell ⟨h, 1, none⟩ (.int .i64 x')) g h S k' x' :=
  ⟨⟨t.c.sh.stay (by rw [Below.heap_setCell _ _ _ _ t.ne, Below.heap_setCell _ _ _ _ t.ne]), t.c.gr.os, t.c.gr.tape, t.c.gr.output, by have := t.c.gr.size; simpa [World.setCell] using this, fun i hi hg => by
    have e : i ≠ h := fun e => by have := t.hs; omega
    rw [Below.heap_setCell _ _ _ _ e, Below.heap_setCell _ _ _ _ e]
    exact t.c.gr.block i hi hg⟩, by rw [heap_put (heap_put t.b _)]; rfl, t.hs, t.ne⟩
theorem Tw.chg {k x : Int} {S2 : Sh} (t : Tw w0 w g h S k x) (c : Chg w g S2 w') : Tw w0 w' g h S2 k x :=
  ⟨t.c.trans c, (c.gr.block h (heap_lt t.b) (fun e => t.ne (by cases e; rfl))).trans t.b, t.hs, t.ne⟩
theorem Tw.cells {k x : Int} (t : Tw w0 w g h S k x) : w.cell? ⟨h, 0, none⟩ = some (.int .i64 k) ∧ w.cell? ⟨h, 1, none⟩ = some (.int .i64 x) ∧ ∀ i, w.frozen? ⟨h, i, none⟩ = false := ⟨(cells_at t.b 0).1, (cells_at t.b 1).1, fun i => (cells_at t.b i).2⟩
theorem Tw.drewN {k x : Int} (t : Tw w0 w g h S k x) (q : Nat) : Tw w0 (w.drewN q) g h S k x := ⟨t.c.drewN q, t.b, t.hs, t.ne⟩

set_option maxRecDepth 100000 in
set_option maxHeartbeats 1000000 in
theorem order_any (hS : Shb w g S) : Calls Try.prog 31 #[.pointer (some ⟨g, 0, none⟩)] w fun e w' => e = .returned (.agg #[.int .i64 S.orK, .int .i64 S.orW]) ∧ Chg w g S w' := by
  have HT := hide (Tw.new hS)
  obtain ⟨h, hh⟩ : ∃ h, w.heap.size = h := ⟨_, rfl⟩
  rw [hh] at HT
  have Hh := hide hh
  clear hh
  obtain ⟨n, pt, pl, st, was, tk, jt, jf, jo, dn⟩ := S
  clear hS
  by_cases s1 : st = 1
  · subst s1
    have e1 : Sh.orK ⟨n, pt, pl, 1, was, tk, jt, jf, jo, dn⟩ = 1 := rfl
    have e2 : Sh.orW ⟨n, pt, pl, 1, was, tk, jt, jf, jo, dn⟩ = jf := rfl
    rw [e1, e2]
    clear e1 e2
    go_enter Try.func31, Try.ntmps31
    go_upto_region 1 with fail
    rw [Hh.out]
    generalize w.alloc (.cells #[.int .i64 0, .int .i64 0] 41) = W at *
    obtain ⟨_, _, _, c3, _, _, c6, c7, c8, _, _⟩ := HT.out.c.sh.cells
    obtain ⟨x0, x1, x2⟩ := HT.out.cells
    have HX := hide (HT.out.out 1 jf)
    go_wp2_with fail
    refine bodyPost_ret (v := .agg #[.int .i64 1, .int .i64 jf]) (by have x := HX.out.cells; simp [results, Try.results31, go_sem, x.1, x.2.1]) rfl ⟨rfl, HX.out.c⟩
  have b1 : (st == 1) = false := beq_eq_false_iff_ne.2 s1
  by_cases s2 : st = 2
  · subst s2
    have e1 : Sh.orK ⟨n, pt, pl, 2, was, tk, jt, jf, jo, dn⟩ = 2 := rfl
    have e2 : Sh.orW ⟨n, pt, pl, 2, was, tk, jt, jf, jo, dn⟩ = jt := rfl
    rw [e1, e2]
    clear e1 e2
    go_enter Try.func31, Try.ntmps31
    go_upto_region 1 with fail
    rw [Hh.out]
    generalize w.alloc (.cells #[.int .i64 0, .int .i64 0] 41) = W at *
    obtain ⟨_, _, _, c3, _, _, c6, c7, c8, _, _⟩ := HT.out.c.sh.cells
    obtain ⟨x0, x1, x2⟩ := HT.out.cells
    have HX := hide (HT.out.out 2 jt)
    go_wp2_with fail
    refine bodyPost_ret (v := .agg #[.int .i64 2, .int .i64 jt]) (by have x := HX.out.cells; simp [results, Try.results31, go_sem, x.1, x.2.1]) rfl ⟨rfl, HX.out.c⟩
  have b2 : (st == 2) = false := beq_eq_false_iff_ne.2 s2
  by_cases s3 : st = 3
  · subst s3
    have e1 : Sh.orK ⟨n, pt, pl, 3, was, tk, jt, jf, jo, dn⟩ = 1 := rfl
    have e2 : Sh.orW ⟨n, pt, pl, 3, was, tk, jt, jf, jo, dn⟩ = jo := rfl
    rw [e1, e2]
    clear e1 e2
    go_enter Try.func31, Try.ntmps31
    go_upto_region 1 with fail
    rw [Hh.out]
    generalize w.alloc (.cells #[.int .i64 0, .int .i64 0] 41) = W at *
    obtain ⟨_, _, _, c3, _, _, c6, c7, c8, _, _⟩ := HT.out.c.sh.cells
    obtain ⟨x0, x1, x2⟩ := HT.out.cells
    have HX := hide (HT.out.out 1 jo)
    go_wp2_with fail
    refine bodyPost_ret (v := .agg #[.int .i64 1, .int .i64 jo]) (by have x := HX.out.cells; simp [results, Try.results31, go_sem, x.1, x.2.1]) rfl ⟨rfl, HX.out.c⟩
  have b3 : (st == 3) = false := beq_eq_false_iff_ne.2 s3
  by_cases s4 : st = 4
  · subst s4
    have e1 : Sh.orK ⟨n, pt, pl, 4, was, tk, jt, jf, jo, dn⟩ = 3 := rfl
    have e2 : Sh.orW ⟨n, pt, pl, 4, was, tk, jt, jf, jo, dn⟩ = jt := rfl
    rw [e1, e2]
    clear e1 e2
    go_enter Try.func31, Try.ntmps31
    go_upto_region 1 with fail
    rw [Hh.out]
    generalize w.alloc (.cells #[.int .i64 0, .int .i64 0] 41) = W at *
    obtain ⟨_, _, _, c3, _, _, c6, c7, c8, _, _⟩ := HT.out.c.sh.cells
    obtain ⟨x0, x1, x2⟩ := HT.out.cells
    have HX := hide (HT.out.out 3 jt)
    go_wp2_with fail
    refine bodyPost_ret (v := .agg #[.int .i64 3, .int .i64 jt]) (by have x := HX.out.cells; simp [results, Try.results31, go_sem, x.1, x.2.1]) rfl ⟨rfl, HX.out.c⟩
  have b4 : (st == 4) = false := beq_eq_false_iff_ne.2 s4
  have e1 : Sh.orK ⟨n, pt, pl, st, was, tk, jt, jf, jo, dn⟩ = 0 := by simp [Sh.orK, s1, s2, s3, s4]
  have e2 : Sh.orW ⟨n, pt, pl, st, was, tk, jt, jf, jo, dn⟩ = 0 := by simp [Sh.orW, s1, s2, s3, s4]
  rw [e1, e2]
  clear e1 e2 s1 s2 s3 s4
  go_enter Try.func31, Try.ntmps31
  go_upto_region 1 with fail
  rw [Hh.out]
  generalize w.alloc (.cells #[.int .i64 0, .int .i64 0] 41) = W at *
  obtain ⟨_, _, _, c3, _, _, c6, c7, c8, _, _⟩ := HT.out.c.sh.cells
  obtain ⟨x0, x1, x2⟩ := HT.out.cells
  have HX := hide (HT.out.out 0 0)
  go_wp2_with fail
  refine bodyPost_ret (v := .agg #[.int .i64 0, .int .i64 0]) (by have x := HX.out.cells; simp [results, Try.results31, go_sem, x.1, x.2.1]) rfl ⟨rfl, HX.out.c⟩

set_option maxRecDepth 100000 in
set_option maxHeartbeats 1000000 in
theorem tick_any (hS : Shb w g S) (hk : S.Ok) : Calls Try.prog 13 #[.pointer (some ⟨g, 0, none⟩)] w fun e w' => e = .returned (.agg #[.int .i64 S.tickK, .int .i64 S.tickW]) ∧ Chg w g S.tick w' := by
  have HT := hide (Tw.new hS)
  obtain ⟨h, hh⟩ : ∃ h, w.heap.size = h := ⟨_, rfl⟩
  rw [hh] at HT
  have Hh := hide hh
  clear hh
  have t1 := hk.t1
  have t2 := hk.t2
  have p2 := hk.p2
  obtain ⟨n, pt, pl, st, was, tk, jt, jf, jo, dn⟩ := S
  simp only at t1 t2 p2
  clear hS hk
  by_cases s0 : st = 0
  · subst s0
    have e1 : Sh.tickK ⟨n, pt, pl, 0, was, tk, jt, jf, jo, dn⟩ = 0 := rfl
    have e2 : Sh.tickW ⟨n, pt, pl, 0, was, tk, jt, jf, jo, dn⟩ = 0 := rfl
    have e3 : Sh.tick ⟨n, pt, pl, 0, was, tk, jt, jf, jo, dn⟩ = ⟨n, pt, pl, 0, was, tk, jt, jf, jo, dn⟩ := rfl
    rw [e1, e2, e3]
    clear e1 e2 e3 t1 t2 p2
    go_enter Try.func13, Try.ntmps13
    go_upto_region 1 with fail
    rw [Hh.out]
    generalize w.alloc (.cells #[.int .i64 0, .int .i64 0] 41) = W at *
    obtain ⟨_, _, _, c3, _, _, _, _, _, _, _⟩ := HT.out.c.sh.cells
    obtain ⟨x0, x1, x2⟩ := HT.out.cells
    have HX := hide (HT.out.out 0 0)
    go_wp2_with fail
    refine bodyPost_ret (v := .agg #[.int .i64 0, .int .i64 0]) (by have x := HX.out.cells; simp [results, Try.results13, go_sem, x.1, x.2.1]) rfl ⟨rfl, HX.out.c⟩
  have b0 : (st == 0) = false := beq_eq_false_iff_ne.2 s0
  by_cases s5 : st = 5
  · subst s5
    have e1 : Sh.tickK ⟨n, pt, pl, 5, was, tk, jt, jf, jo, dn⟩ = 0 := rfl
    have e2 : Sh.tickW ⟨n, pt, pl, 5, was, tk, jt, jf, jo, dn⟩ = 0 := rfl
    have e3 : Sh.tick ⟨n, pt, pl, 5, was, tk, jt, jf, jo, dn⟩ = ⟨n, pt, pl, 5, was, tk, jt, jf, jo, dn⟩ := rfl
    rw [e1, e2, e3]
    clear e1 e2 e3 t1 t2 p2 s0
    go_enter Try.func13, Try.ntmps13
    go_upto_region 1 with fail
    rw [Hh.out]
    generalize w.alloc (.cells #[.int .i64 0, .int .i64 0] 41) = W at *
    obtain ⟨_, _, _, c3, _, _, _, _, _, _, _⟩ := HT.out.c.sh.cells
    obtain ⟨x0, x1, x2⟩ := HT.out.cells
    have HX := hide (HT.out.out 0 0)
    go_wp2_with fail
    refine bodyPost_ret (v := .agg #[.int .i64 0, .int .i64 0]) (by have x := HX.out.cells; simp [results, Try.results13, go_sem, x.1, x.2.1]) rfl ⟨rfl, HX.out.c⟩
  have b5 : (st == 5) = false := beq_eq_false_iff_ne.2 s5
  by_cases hp : pt < tk + 1
  · have e1 : Sh.tickK ⟨n, pt, pl, st, was, tk, jt, jf, jo, dn⟩ = 0 := by simp [Sh.tickK, hp]
    have e2 : Sh.tickW ⟨n, pt, pl, st, was, tk, jt, jf, jo, dn⟩ = 0 := by simp [Sh.tickW, hp]
    have e3 : Sh.tick ⟨n, pt, pl, st, was, tk, jt, jf, jo, dn⟩ = ⟨n, pt, pl, 5, st, tk + 1, jt, jf, jo, dn⟩ := by simp [Sh.tick, s0, s5, hp]
    rw [e1, e2, e3]
    have hp' : tk + 1 > pt := hp
    clear e1 e2 e3 s0 s5 hp
    go_enter Try.func13, Try.ntmps13
    go_upto_region 1 with fail
    rw [Hh.out]
    generalize w.alloc (.cells #[.int .i64 0, .int .i64 0] 41) = W at *
    obtain ⟨_, c1, _, c3, c4, c5, _, _, _, _, cf⟩ := HT.out.c.sh.cells
    have f5 := cf 5
    have HT1 : Hid (Tw w (W.setCell ⟨g, 5, none⟩ (.int .i64 (tk + 1))) g h ⟨n, pt, pl, st, was, tk + 1, jt, jf, jo, dn⟩ 0 0) := hide (HT.out.put 5 _ rfl)
    go_upto_region 4 with fail
    clear HT c1 c3 c4 c5 cf f5
    generalize W.setCell ⟨g, 5, none⟩ (.int .i64 (tk + 1)) = W1 at *
    obtain ⟨_, c1, _, c3, c4, c5, _, _, _, _, cf⟩ := HT1.out.c.sh.cells
    have f3 := cf 3
    have f4 := cf 4
    go_quiet (fail)
    have HT2 : Hid (Tw w (((W1.drewN nq).setCell ⟨g, 4, none⟩ (.int .i64 st)).setCell ⟨g, 3, none⟩ (.int .i64 5)) g h ⟨n, pt, pl, 5, st, tk + 1, jt, jf, jo, dn⟩ 0 0) := hide (((HT1.out.drewN nq).put 4 _ (S2 := ⟨n, pt, pl, st, st, tk + 1, jt, jf, jo, dn⟩) rfl).put 3 _ rfl)
    go_upto_region 6 with fail
    clear HT1 c1 c3 c4 c5 cf f3 f4
    generalize ((W1.drewN nq).setCell ⟨g, 4, none⟩ (.int .i64 st)).setCell ⟨g, 3, none⟩ (.int .i64 5) = W2 at *
    obtain ⟨x0, x1, x2⟩ := HT2.out.cells
    have HX := hide (HT2.out.out 0 0)
    go_wp2_with fail
    refine bodyPost_ret (v := .agg #[.int .i64 0, .int .i64 0]) (by have x := HX.out.cells; simp [results, Try.results13, go_sem, x.1, x.2.1]) rfl ⟨rfl, HX.out.c⟩
  · have e1 : Sh.tickK ⟨n, pt, pl, st, was, tk, jt, jf, jo, dn⟩ = Sh.orK ⟨n, pt, pl, st, was, tk + 1, jt, jf, jo, dn⟩ := by simp [Sh.tickK, Sh.orK, s0, s5, hp]
    have e2 : Sh.tickW ⟨n, pt, pl, st, was, tk, jt, jf, jo, dn⟩ = Sh.orW ⟨n, pt, pl, st, was, tk + 1, jt, jf, jo, dn⟩ := by simp [Sh.tickW, Sh.orW, s0, s5, hp]
    have e3 : Sh.tick ⟨n, pt, pl, st, was, tk, jt, jf, jo, dn⟩ = ⟨n, pt, pl, st, was, tk + 1, jt, jf, jo, dn⟩ := by simp [Sh.tick, s0, s5, hp]
    rw [e1, e2, e3]
    have hp' : ¬ tk + 1 > pt := hp
    have K31 : Hid (∀ W, Shb W g ⟨n, pt, pl, st, was, tk + 1, jt, jf, jo, dn⟩ → _) := hide (fun W hW => order_any hW)
    generalize Sh.orK ⟨n, pt, pl, st, was, tk + 1, jt, jf, jo, dn⟩ = rk at *
    generalize Sh.orW ⟨n, pt, pl, st, was, tk + 1, jt, jf, jo, dn⟩ = rw' at *
    clear e1 e2 e3 s0 s5 hp
    go_enter Try.func13, Try.ntmps13
    go_upto_region 1 with fail
    rw [Hh.out]
    generalize w.alloc (.cells #[.int .i64 0, .int .i64 0] 41) = W at *
    obtain ⟨_, c1, _, c3, c4, c5, _, _, _, _, cf⟩ := HT.out.c.sh.cells
    have f5 := cf 5
    have HT1 : Hid (Tw w (W.setCell ⟨g, 5, none⟩ (.int .i64 (tk + 1))) g h ⟨n, pt, pl, st, was, tk + 1, jt, jf, jo, dn⟩ 0 0) := hide (HT.out.put 5 _ rfl)
    go_upto_region 4 with fail
    clear HT c1 c3 c4 c5 cf f5
    generalize W.setCell ⟨g, 5, none⟩ (.int .i64 (tk + 1)) = W1 at *
    obtain ⟨_, c1, _, c3, c4, c5, _, _, _, _, cf⟩ := HT1.out.c.sh.cells
    go_quiet (fail)
    have HT2 : Hid (Tw w (W1.drewN nq) g h ⟨n, pt, pl, st, was, tk + 1, jt, jf, jo, dn⟩ 0 0) := hide (HT1.out.drewN nq)
    clear HT1 c1 c3 c4 c5 cf
    generalize W1.drewN nq = W2 at *
    go_wp2_with (go_at_call 31; refine (K31.out _ HT2.out.c.sh).mono ?_; rintro e W3 ⟨rfl, hc⟩; have HT3 := hide (HT2.out.chg hc); clear hc; obtain ⟨x0, x1, x2⟩ := HT3.out.cells)
    have HX := hide (HT3.out.out rk rw')
    refine bodyPost_ret (v := .agg #[.int .i64 rk, .int .i64 rw']) (by have x := HX.out.cells; simp [results, Try.results13, go_sem, x.1, x.2.1]) rfl ⟨rfl, HX.out.c⟩
end Go.Proofs.Ytjmmkkjabpcihaa
