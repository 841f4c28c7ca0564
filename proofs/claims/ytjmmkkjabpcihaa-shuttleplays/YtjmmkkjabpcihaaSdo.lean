/- The law's 'do': one call of a script; the beginning of a law's world. -/
import Derived.Test.YtjmmkkjabpcihaaSaw
import Derived.Test.YtjmmkkjabpcihaaSag
namespace Go.Proofs.Ytjmmkkjabpcihaa
open Go.RowKit
set_option linter.unusedVariables false

def doC (S : Sh) (o : Op) : Int := if o.kind = 1 then S.asC o.jt o.jf o.jo else if o.kind = 3 then S.mvC o.n else if o.kind = 4 then S.hdC 2 o.n else if o.kind = 5 then S.hdC 4 o.n else if o.kind = 6 then S.rsC else 0
def doS (S : Sh) (o : Op) : Sh := if o.kind = 1 then S.as o.jt o.jf o.jo else if o.kind = 2 then S.tick else if o.kind = 3 then S.mv o.n else if o.kind = 4 then S.pk o.n else if o.kind = 5 then S.dp o.n else if o.kind = 6 then S.rs else S
theorem do_no {S : Sh} {o : Op} (h : doC S o ≠ 0) : doS S o = S := by
  unfold doC at h
  unfold doS
  split at h
  · rename_i k; rw [if_pos k]; exact if_neg h
  rename_i k1; rw [if_neg k1]
  by_cases k2 : o.kind = 2
  · exact absurd (by simp [k2]) h
  rw [if_neg k2]
  split at h
  · rename_i k; rw [if_pos k]; exact if_neg h
  rename_i k3; rw [if_neg k3]
  split at h
  · rename_i k; rw [if_pos k]; exact if_neg h
  rename_i k4; rw [if_neg k4]
  split at h
  · rename_i k; rw [if_pos k]; exact if_neg h
  rename_i k5; rw [if_neg k5]
  split at h
  · rename_i k; rw [if_pos k]; exact if_neg h
  · exact absurd rfl h
theorem Sh.Ok.do {S : Sh} (h : S.Ok) (o : Op) : (doS S o).Ok := by
  unfold doS
  split
  · exact h.as _ _ _
  split
  · exact h.tick
  split
  · exact h.mv _
  split
  · exact h.pk _
  split
  · exact h.dp _
  split
  · exact h.rs
  · exact h
theorem Sh.dn_as (S : Sh) (t f o : Int) : (S.as t f o).dn = S.dn := by unfold Sh.as; split <;> rfl
theorem Sh.dn_tick (S : Sh) : S.tick.dn = S.dn := by unfold Sh.tick; split <;> (try split) <;> rfl
theorem Sh.dn_mv (S : Sh) (p : Int) : (S.mv p).dn = S.dn := by unfold Sh.mv; split <;> rfl
theorem Sh.dn_pk (S : Sh) (t : Int) : (S.pk t).dn = S.dn := by unfold Sh.pk; split <;> rfl
theorem Sh.dn_rs (S : Sh) : S.rs.dn = S.dn := by unfold Sh.rs; split <;> rfl
theorem Sh.dn_dp (S : Sh) (t : Int) : (S.dp t).dn = if S.hdC 4 t = 0 then S.dn + 1 else S.dn := by unfold Sh.dp; split <;> rfl
theorem do_dn (S : Sh) (o : Op) : S.dn ≤ (doS S o).dn ∧ (doS S o).dn ≤ S.dn + 1 := by
  unfold doS
  split
  · rw [Sh.dn_as]; omega
  split
  · rw [Sh.dn_tick]; omega
  split
  · rw [Sh.dn_mv]; omega
  split
  · rw [Sh.dn_pk]; omega
  split
  · rw [Sh.dn_dp]; split <;> omega
  split
  · rw [Sh.dn_rs]; omega
  · omega

/-- the settings' box -/
structure Hw (w0 w : World) (h : Nat) (n a p : Int) : Prop where
  bel : Below w0.heap.size w0 w
  bx : w.heap[h]? = some (.cells #[.int .i64 n, .int .i64 a, .int .i64 p] 23)
  hs : w0.heap.size ≤ h
theorem Hw.new (w : World) (n a p : Int) : Hw w (w.alloc (.cells #[.int .i64 n, .int .i64 a, .int .i64 p] 23)) w.heap.size n a p := ⟨(Below.refl _ _).alloc (Nat.le_refl _) _, heap_new _ _, Nat.le_refl _⟩
theorem Hw.keep {w0 w w' : World} {h : Nat} {n a p : Int} (x : Hw w0 w h n a p) (hb : Below w.heap.size w w') : Hw w0 w' h n a p := ⟨x.bel.trans (hb.mono x.bel.size), (hb.block _ (heap_lt x.bx)).trans x.bx, x.hs⟩
theorem Hw.cells {w0 w : World} {h : Nat} {n a p : Int} (x : Hw w0 w h n a p) : w.cell? ⟨h, 0, none⟩ = some (.int .i64 n) ∧ w.cell? ⟨h, 1, none⟩ = some (.int .i64 a) ∧ w.cell? ⟨h, 2, none⟩ = some (.int .i64 p) := ⟨(cells_at x.bx 0).1, (cells_at x.bx 1).1, (cells_at x.bx 2).1⟩

set_option maxRecDepth 100000 in
set_option maxHeartbeats 1000000 in
theorem do_any {w : World} {g : Nat} {S : Sh} (hS : Shb w g S) (hk : S.Ok) (hd : 0 ≤ S.dn ∧ S.dn ≤ 1000000) (o : Op) : Calls Try.prog 27 #[.pointer (some ⟨g, 0, none⟩), .agg #[.int .i64 o.kind, .int .i64 o.n, .int .i64 o.jt, .int .i64 o.jf, .int .i64 o.jo]] w fun e w' => e = .returned (.int .i64 (doC S o)) ∧ Chg w g (doS S o) w' := by
  obtain ⟨kd, nn, t, f, z⟩ := o
  have HC : Hid (Chg w g S (w.alloc (.cells #[.int .i64 kd, .int .i64 nn, .int .i64 t, .int .i64 f, .int .i64 z] 37))) := hide ((Chg.refl hS).keep ((Below.refl _ _).alloc (Nat.le_refl _) _))
  have HX := hide (heap_new w (.cells #[.int .i64 kd, .int .i64 nn, .int .i64 t, .int .i64 f, .int .i64 z] 37))
  obtain ⟨h, hh⟩ : ∃ h, w.heap.size = h := ⟨_, rfl⟩
  rw [hh] at HX
  have Hh := hide hh
  clear hh hS
  show Calls Try.prog 27 #[.pointer (some ⟨g, 0, none⟩), .agg #[.int .i64 kd, .int .i64 nn, .int .i64 t, .int .i64 f, .int .i64 z]] w _
  by_cases k1 : kd = 1
  · subst k1
    have e1 : doC S ⟨1, nn, t, f, z⟩ = S.asC t f z := rfl
    have e2 : doS S ⟨1, nn, t, f, z⟩ = S.as t f z := rfl
    rw [e1, e2]
    have K : Hid (∀ W, Shb W g S → _) := hide (fun W hW => as_any hW t f z)
    generalize S.asC t f z = cd at *
    generalize S.as t f z = R at *
    clear e1 e2 hk hd
    go_enter Try.func27, Try.ntmps27
    go_upto_region 1 with fail
    rw [Hh.out]
    generalize w.alloc (.cells #[.int .i64 1, .int .i64 nn, .int .i64 t, .int .i64 f, .int .i64 z] 37) = W at *
    have x0 : W.cell? ⟨h, 0, none⟩ = some (.int .i64 1) := (cells_at HX.out 0).1
    have x2 : W.cell? ⟨h, 2, none⟩ = some (.int .i64 t) := (cells_at HX.out 2).1
    have x3 : W.cell? ⟨h, 3, none⟩ = some (.int .i64 f) := (cells_at HX.out 3).1
    have x4 : W.cell? ⟨h, 4, none⟩ = some (.int .i64 z) := (cells_at HX.out 4).1
    go_wp2_with (go_at_call 11; refine (K.out _ HC.out.sh).mono ?_; rintro e W4 ⟨rfl, hc⟩; have HC3 := hide (HC.out.trans hc); clear hc)
    go_ret
    exact ⟨rfl, HC3.out⟩
  have b1 : (kd == 1) = false := beq_eq_false_iff_ne.2 k1
  by_cases k2 : kd = 2
  · subst k2
    have e1 : doC S ⟨2, nn, t, f, z⟩ = 0 := rfl
    have e2 : doS S ⟨2, nn, t, f, z⟩ = S.tick := rfl
    rw [e1, e2]
    have K : Hid (∀ W, Shb W g S → _) := hide (fun W hW => tick_any hW hk)
    generalize S.tickK = xk at *
    generalize S.tickW = xw at *
    generalize S.tick = R at *
    clear e1 e2 hk hd k1
    go_enter Try.func27, Try.ntmps27
    go_upto_region 1 with fail
    rw [Hh.out]
    generalize w.alloc (.cells #[.int .i64 2, .int .i64 nn, .int .i64 t, .int .i64 f, .int .i64 z] 37) = W at *
    have x0 : W.cell? ⟨h, 0, none⟩ = some (.int .i64 2) := (cells_at HX.out 0).1
    go_wp2_with (go_at_call 13; refine (K.out _ HC.out.sh).mono ?_; rintro e W4 ⟨rfl, hc⟩; have HC3 := hide (HC.out.trans hc); clear hc)
    go_ret
    exact ⟨rfl, HC3.out⟩
  have b2 : (kd == 2) = false := beq_eq_false_iff_ne.2 k2
  by_cases k3 : kd = 3
  · subst k3
    have e1 : doC S ⟨3, nn, t, f, z⟩ = S.mvC nn := rfl
    have e2 : doS S ⟨3, nn, t, f, z⟩ = S.mv nn := rfl
    rw [e1, e2]
    have K : Hid (∀ W, Shb W g S → _) := hide (fun W hW => mv_any hW nn)
    generalize S.mvC nn = cd at *
    generalize S.mv nn = R at *
    clear e1 e2 hk hd k1 k2
    go_enter Try.func27, Try.ntmps27
    go_upto_region 1 with fail
    rw [Hh.out]
    generalize w.alloc (.cells #[.int .i64 3, .int .i64 nn, .int .i64 t, .int .i64 f, .int .i64 z] 37) = W at *
    have x0 : W.cell? ⟨h, 0, none⟩ = some (.int .i64 3) := (cells_at HX.out 0).1
    have x1 : W.cell? ⟨h, 1, none⟩ = some (.int .i64 nn) := (cells_at HX.out 1).1
    go_wp2_with (go_at_call 15; refine (K.out _ HC.out.sh).mono ?_; rintro e W4 ⟨rfl, hc⟩; have HC3 := hide (HC.out.trans hc); clear hc)
    go_ret
    exact ⟨rfl, HC3.out⟩
  have b3 : (kd == 3) = false := beq_eq_false_iff_ne.2 k3
  by_cases k4 : kd = 4
  · subst k4
    have e1 : doC S ⟨4, nn, t, f, z⟩ = S.hdC 2 nn := rfl
    have e2 : doS S ⟨4, nn, t, f, z⟩ = S.pk nn := rfl
    rw [e1, e2]
    have K : Hid (∀ W, Shb W g S → _) := hide (fun W hW => pk_any hW nn)
    generalize S.hdC 2 nn = cd at *
    generalize S.pk nn = R at *
    clear e1 e2 hk hd k1 k2 k3
    go_enter Try.func27, Try.ntmps27
    go_upto_region 1 with fail
    rw [Hh.out]
    generalize w.alloc (.cells #[.int .i64 4, .int .i64 nn, .int .i64 t, .int .i64 f, .int .i64 z] 37) = W at *
    have x0 : W.cell? ⟨h, 0, none⟩ = some (.int .i64 4) := (cells_at HX.out 0).1
    have x1 : W.cell? ⟨h, 1, none⟩ = some (.int .i64 nn) := (cells_at HX.out 1).1
    go_wp2_with (go_at_call 17; refine (K.out _ HC.out.sh).mono ?_; rintro e W4 ⟨rfl, hc⟩; have HC3 := hide (HC.out.trans hc); clear hc)
    go_ret
    exact ⟨rfl, HC3.out⟩
  have b4 : (kd == 4) = false := beq_eq_false_iff_ne.2 k4
  by_cases k5 : kd = 5
  · subst k5
    have e1 : doC S ⟨5, nn, t, f, z⟩ = S.hdC 4 nn := rfl
    have e2 : doS S ⟨5, nn, t, f, z⟩ = S.dp nn := rfl
    rw [e1, e2]
    have K : Hid (∀ W, Shb W g S → _) := hide (fun W hW => dp_any hW nn hd)
    generalize S.hdC 4 nn = cd at *
    generalize S.dp nn = R at *
    clear e1 e2 hk hd k1 k2 k3 k4
    go_enter Try.func27, Try.ntmps27
    go_upto_region 1 with fail
    rw [Hh.out]
    generalize w.alloc (.cells #[.int .i64 5, .int .i64 nn, .int .i64 t, .int .i64 f, .int .i64 z] 37) = W at *
    have x0 : W.cell? ⟨h, 0, none⟩ = some (.int .i64 5) := (cells_at HX.out 0).1
    have x1 : W.cell? ⟨h, 1, none⟩ = some (.int .i64 nn) := (cells_at HX.out 1).1
    go_wp2_with (go_at_call 19; refine (K.out _ HC.out.sh).mono ?_; rintro e W4 ⟨rfl, hc⟩; have HC3 := hide (HC.out.trans hc); clear hc)
    go_ret
    exact ⟨rfl, HC3.out⟩
  have b5 : (kd == 5) = false := beq_eq_false_iff_ne.2 k5
  by_cases k6 : kd = 6
  · subst k6
    have e1 : doC S ⟨6, nn, t, f, z⟩ = S.rsC := rfl
    have e2 : doS S ⟨6, nn, t, f, z⟩ = S.rs := rfl
    rw [e1, e2]
    have K : Hid (∀ W, Shb W g S → _) := hide (fun W hW => rs_any hW)
    generalize S.rsC = cd at *
    generalize S.rs = R at *
    clear e1 e2 hk hd k1 k2 k3 k4 k5
    go_enter Try.func27, Try.ntmps27
    go_upto_region 1 with fail
    rw [Hh.out]
    generalize w.alloc (.cells #[.int .i64 6, .int .i64 nn, .int .i64 t, .int .i64 f, .int .i64 z] 37) = W at *
    have x0 : W.cell? ⟨h, 0, none⟩ = some (.int .i64 6) := (cells_at HX.out 0).1
    go_wp2_with (go_at_call 20; refine (K.out _ HC.out.sh).mono ?_; rintro e W4 ⟨rfl, hc⟩; have HC3 := hide (HC.out.trans hc); clear hc)
    go_ret
    exact ⟨rfl, HC3.out⟩
  have b6 : (kd == 6) = false := beq_eq_false_iff_ne.2 k6
  have e1 : doC S ⟨kd, nn, t, f, z⟩ = 0 := by simp [doC, k1, k3, k4, k5, k6]
  have e2 : doS S ⟨kd, nn, t, f, z⟩ = S := by simp [doS, k1, k2, k3, k4, k5, k6]
  rw [e1, e2]
  clear e1 e2 hk hd k1 k2 k3 k4 k5 k6
  go_enter Try.func27, Try.ntmps27
  go_upto_region 1 with fail
  rw [Hh.out]
  generalize w.alloc (.cells #[.int .i64 kd, .int .i64 nn, .int .i64 t, .int .i64 f, .int .i64 z] 37) = W at *
  have x0 : W.cell? ⟨h, 0, none⟩ = some (.int .i64 kd) := (cells_at HX.out 0).1
  go_wp2_with fail
  go_ret
  exact ⟨rfl, HC.out⟩
end Go.Proofs.Ytjmmkkjabpcihaa
