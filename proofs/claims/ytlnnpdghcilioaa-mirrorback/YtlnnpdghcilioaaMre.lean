/- A mirror's changes among other things: Moved, Apply. -/
import Derived.Test.YtlnnpdghcilioaaMrd
namespace Go.Proofs.Ytlnnpdghcilioaa
open Go.RowKit
set_option linter.unusedVariables false

section
variable {w0 w : World} {l : List It} {B g n m : Nat} {H : Nat × Nat} {es : List (Int × Int)} {S : Mr}
set_option maxRecDepth 100000 in
set_option maxHeartbeats 2000000 in
theorem movedS (h : Its w0 (.mir B g H n m es S :: l) w) (d t : Int) : Calls Try.prog 25 #[.pointer (some ⟨g, 0, none⟩), .int .i64 d, .int .i64 t] w fun e w' => e = .returned (.int .i64 (S.mov d t).1) ∧ Its w0 (.mir B g H n m es (S.mov d t).2 :: l) w' := by
  have h1 := h.one
  have hok := (mr_ok h1).mov d t
  have K1 := hide (isDev_m h1 d)
  have K2 := hide (isTote_any t w)
  have HI := hide h
  have e0 : S.mov d t = if (S.isD d && isT t) = false then (1, S) else if (S.dev d).tt = 0 then (4, S) else if (S.dev d).tt ≠ t then (160, S) else (0, ⟨(S.ts.set (S.dev d).fr.toNat 0).set (S.dev d).en.toNat t, S.ds.set (d - 1).toNat { S.dev d with tt := 0 }⟩) := rfl
  rw [e0] at hok ⊢
  cases hD : S.isD d with
  | false =>
    rw [hD] at K1
    rw [if_pos (show (false && isT t) = false from rfl)]
    clear hD e0 h h1 hok
    go_enter Try.func25, Try.ntmps25
    go_wp2_with (go_at_call 45; refine K1.out.mono ?_; rintro e w1 ⟨rfl, rfl⟩)
    go_ret
    exact ⟨rfl, HI.out⟩
  | true =>
  rw [hD] at K1 hok
  cases hT : isT t with
  | false =>
    rw [hT] at K2
    rw [if_pos (show (true && false) = false from rfl)]
    clear hD hT e0 h h1 hok
    go_enter Try.func25, Try.ntmps25
    go_wp2_with (first
      | (go_at_call 45; refine K1.out.mono ?_; rintro e w1 ⟨rfl, rfl⟩)
      | (go_at_call 42; refine K2.out.mono ?_; rintro e w1 ⟨rfl, rfl⟩))
    go_ret
    exact ⟨rfl, HI.out⟩
  | true =>
  rw [hT] at K2 hok
  rw [if_neg (show ¬ (true && true) = false by simp)] at hok ⊢
  obtain ⟨k, kf, ke, hd, hk, hk', hp, ef, hkf, ee, hke, hne, X0⟩ := rds_of h1 hD
  have X := hide (X0 w0 l)
  clear X0
  have K4 := hide (device_m h1 k hk)
  obtain ⟨c0, c1, c2, c3, c4, c5, c6, cq, cv, c7, c8, c9⟩ := X.out _ HI.out
  have f2 := c7 2 (by omega)
  have j0 : (0 : Int) ≤ (kf : Int) := by omega
  have j1 : (kf : Int) < (n : Int) := by omega
  have j2 : (0 : Int) ≤ (ke : Int) := by omega
  have j3 : (ke : Int) < (n : Int) := by omega
  have fi : Hid (MFact n m es S) := hide (mr_fact h1)
  have hbd : H.1 ≠ H.2 := fun q => by
    have q1 := own_cells (mr_ts h1) H.1 rfl
    have q2 := own_cells (mr_ds h1) H.2 rfl
    obtain ⟨a, q1, _⟩ := q1
    obtain ⟨b, q2, _⟩ := q2
    rw [q, q2] at q1
    simp only [Option.some.injEq, Obj.cells.injEq] at q1
    exact absurd q1.2.1 (show (73 : Nat) ≠ 3 by omega)
  by_cases z : (S.dev d).tt = 0
  case pos =>
    rw [if_pos z]
    rw [z] at c5
    subst hd
    clear hD hT e0 h h1 hp hk' ef ee hok hne z hbd
    generalize S.att (S.dev ((k : Int) + 1)).fr = xa at *
    generalize S.att (S.dev ((k : Int) + 1)).en = ya at *
    generalize S.dev ((k : Int) + 1) = D at *
    go_enter Try.func25, Try.ntmps25
    go_wp2_with (first
      | (go_at_call 45; refine K1.out.mono ?_; rintro e w1 ⟨rfl, rfl⟩)
      | (go_at_call 42; refine K2.out.mono ?_; rintro e w1 ⟨rfl, rfl⟩)
      | (go_at_call 46; refine K4.out.mono ?_; rintro e w1 ⟨rfl, rfl⟩))
    go_ret
    exact ⟨rfl, HI.out⟩
  case neg =>
  rw [if_neg z] at hok ⊢
  have ZT : (S.dev d).tt = t → (t == 0) = false := fun q => by rw [← q]; exact beq_eq_false_iff_ne.2 z
  have z' : ((S.dev d).tt == 0) = false := beq_eq_false_iff_ne.2 z
  by_cases y : (S.dev d).tt = t
  case neg =>
    rw [if_pos y]
    have y' : ((S.dev d).tt == t) = false := beq_eq_false_iff_ne.2 y
    subst hd
    clear hD hT e0 h h1 hp hk' ef ee hok hne hbd
    generalize S.att (S.dev ((k : Int) + 1)).fr = xa at *
    generalize S.att (S.dev ((k : Int) + 1)).en = ya at *
    generalize S.dev ((k : Int) + 1) = D at *
    go_enter Try.func25, Try.ntmps25
    go_wp2_with (first
      | (go_at_call 45; refine K1.out.mono ?_; rintro e w1 ⟨rfl, rfl⟩)
      | (go_at_call 42; refine K2.out.mono ?_; rintro e w1 ⟨rfl, rfl⟩)
      | (go_at_call 46; refine K4.out.mono ?_; rintro e w1 ⟨rfl, rfl⟩))
    go_ret
    exact ⟨rfl, HI.out⟩
  case pos =>
  rw [if_neg (by simpa using y)] at hok ⊢
  rw [ef, ee, hk', show ((kf : Int)).toNat = kf by omega, show ((ke : Int)).toNat = ke by omega] at hok ⊢
  have Y : Hid (∀ W, Its w0 (mparts B g H n m S ++ l) W → Its w0 (mparts B g H n m ⟨(S.ts.set kf 0).set ke t, S.ds⟩ ++ l) ((W.setCell ⟨H.1, kf, none⟩ (.int .i64 0)).setCell ⟨H.1, ke, none⟩ (.int .i64 t))) := hide (fun W hW => ((hW.swap.tset kf 0).tset ke t).swap)
  have Z : Hid (∀ W, Its w0 (mparts B g H n m ⟨(S.ts.set kf 0).set ke t, S.ds⟩ ++ l) W → W.cell? ⟨H.2, k * 6 + 2, none⟩ = some (.int .i64 t) ∧ W.frozen? ⟨H.2, k * 6 + 2, none⟩ = false ∧
      Its w0 (.mir B g H n m es ⟨(S.ts.set kf 0).set ke t, S.ds.set k { S.dev d with tt := 0 }⟩ :: l) (W.setCell ⟨H.2, k * 6 + 2, none⟩ (.int .i64 0))) := hide (fun W hW => by
    have o1 : dvE.Own W B (.slice (some ⟨H.2, 0, none⟩) m m) S.ds := hW.one
    have a1 := (dv_at o1.rd k _ hp).2.2.1
    rw [y] at a1
    have a2 := (o1.cell (k * 6 + 2) (by show k * 6 + 2 < S.ds.length * 6; have := idx_lt hp; omega)).2.1
    exact ⟨a1, a2, Its.mshut (S := ⟨(S.ts.set kf 0).set ke t, S.ds.set k { S.dev d with tt := 0 }⟩) (Its.dset hW hp { S.dev d with tt := 0 } 2 (.int .i64 0) (by omega) rfl) ⟨hok, fi.out.2⟩⟩)
  replace ZT := ZT y
  have HO := hide HI.out.mopen.1
  rw [y] at c5
  have hek : ke ≠ kf := fun q => hne q.symm
  subst hd
  generalize S.att (S.dev ((k : Int) + 1)).fr = xa at *
  generalize S.att (S.dev ((k : Int) + 1)).en = ya at *
  generalize S.dev ((k : Int) + 1) = D at *
  clear hD hT e0 h h1 hp hk' ef ee hok z y z' c7
  go_enter Try.func25, Try.ntmps25
  go_wp2_with (first
      | (go_at_call 45; refine K1.out.mono ?_; rintro e w1 ⟨rfl, rfl⟩)
      | (go_at_call 42; refine K2.out.mono ?_; rintro e w1 ⟨rfl, rfl⟩)
      | (go_at_call 46; refine K4.out.mono ?_; rintro e w1 ⟨rfl, rfl⟩))
  go_region
  have q1 : Its w0 (mparts B g H n m ⟨(S.ts.set kf 0).set ke t, S.ds⟩ ++ l) ((w1.setCell ⟨H.1, kf, none⟩ (.int .i64 0)).setCell ⟨H.1, ke, none⟩ (.int .i64 t)).drew := (Y.out _ HO.out).drew 1
  obtain ⟨y1, y2, y3⟩ := Z.out _ q1
  have HY := hide y3
  clear q1 y3 Y Z X HO HI K1 K2 K4 c0 c1 c2 c3 c4 c5 c6 c8 c9 cq cv f2
  generalize ((w1.setCell ⟨H.1, kf, none⟩ (.int .i64 0)).setCell ⟨H.1, ke, none⟩ (.int .i64 t)).drew = wz at *
  go_wp2_with fail
  go_ret
  exact ⟨rfl, HY.out⟩

set_option maxRecDepth 100000 in
set_option maxHeartbeats 2000000 in
theorem applyS (h : Its w0 (.mir B g H n m es S :: l) w) (x : Nt) : Calls Try.prog 15 #[.pointer (some ⟨g, 0, none⟩), .agg #[.int .i64 x.kind, .int .i64 x.a, .int .i64 x.b, .int .i64 x.c]] w fun e w' => e = .returned (.int .i64 (S.app x).1) ∧ Its w0 (.mir B g H n m es (S.app x).2 :: l) w' := by
  obtain ⟨w1, hw1⟩ : ∃ w1, w.alloc (.cells #[.int .i64 x.kind, .int .i64 x.a, .int .i64 x.b, .int .i64 x.c] 45) = w1 := ⟨_, rfl⟩
  have h1 : Its w0 (.mir B g H n m es S :: l) w1 := by rw [← hw1]; exact h.alloc _
  have b1 : w1.heap[w.heap.size]? = some (.cells #[.int .i64 x.kind, .int .i64 x.a, .int .i64 x.b, .int .i64 x.c] 45) := by rw [← hw1]; exact heap_new _ _
  have y0 : w1.cell? ⟨w.heap.size, 0, none⟩ = some (.int .i64 x.kind) := (cells_at b1 0).1
  have y1 : w1.cell? ⟨w.heap.size, 1, none⟩ = some (.int .i64 x.a) := (cells_at b1 1).1
  have y2 : w1.cell? ⟨w.heap.size, 2, none⟩ = some (.int .i64 x.b) := (cells_at b1 2).1
  have y3 : w1.cell? ⟨w.heap.size, 3, none⟩ = some (.int .i64 x.c) := (cells_at b1 3).1
  have HI := hide h1
  have K1 := hide (putS h1 x.a x.b)
  have K4 := hide (sendS h1 x.a x.b x.c)
  have K5 := hide (movedS h1 x.a x.b)
  have K7 := hide (dropS h1 x.a)
  have K8 := hide (maskS h1 x.a (decide (x.b = 1)))
  have e0 : S.app x = if x.kind = 1 then S.put x.a x.b else if x.kind = 4 then S.snd x.a x.b x.c else if x.kind = 5 then S.mov x.a x.b else if x.kind = 7 then S.drp x.a else if x.kind = 8 then S.msk x.a (decide (x.b = 1)) else (23, S) := rfl
  rw [e0]
  obtain ⟨kd, xa, xb, xc⟩ := x
  dsimp only at *
  subst hw1
  clear e0 h h1 b1
  by_cases k1 : kd = 1
  · subst k1
    rw [if_pos rfl]
    go_enter Try.func15, Try.ntmps15
    go_wp2_with (go_at_call 23; refine K1.out.mono ?_; rintro e w2 ⟨rfl, q⟩; have HQ := hide q; clear q)
    go_ret
    exact ⟨rfl, HQ.out⟩
  rw [if_neg k1]
  have k1' : (kd == 1) = false := beq_eq_false_iff_ne.2 k1
  by_cases k4 : kd = 4
  · subst k4
    rw [if_pos rfl]
    clear k1 k1'
    go_enter Try.func15, Try.ntmps15
    go_wp2_with (go_at_call 24; refine K4.out.mono ?_; rintro e w2 ⟨rfl, q⟩; have HQ := hide q; clear q)
    go_ret
    exact ⟨rfl, HQ.out⟩
  rw [if_neg k4]
  have k4' : (kd == 4) = false := beq_eq_false_iff_ne.2 k4
  by_cases k5 : kd = 5
  · subst k5
    rw [if_pos rfl]
    clear k1 k1' k4 k4'
    go_enter Try.func15, Try.ntmps15
    go_wp2_with (go_at_call 25; refine K5.out.mono ?_; rintro e w2 ⟨rfl, q⟩; have HQ := hide q; clear q)
    go_ret
    exact ⟨rfl, HQ.out⟩
  rw [if_neg k5]
  have k5' : (kd == 5) = false := beq_eq_false_iff_ne.2 k5
  by_cases k7 : kd = 7
  · subst k7
    rw [if_pos rfl]
    clear k1 k1' k4 k4' k5 k5'
    go_enter Try.func15, Try.ntmps15
    go_wp2_with (go_at_call 26; refine K7.out.mono ?_; rintro e w2 ⟨rfl, q⟩; have HQ := hide q; clear q)
    go_ret
    exact ⟨rfl, HQ.out⟩
  rw [if_neg k7]
  have k7' : (kd == 7) = false := beq_eq_false_iff_ne.2 k7
  by_cases k8 : kd = 8
  · subst k8
    rw [if_pos rfl]
    clear k1 k1' k4 k4' k5 k5' k7 k7'
    have eb : (xb == 1) = decide (xb = 1) := by by_cases q : xb = 1 <;> simp [q]
    generalize decide (xb = 1) = bb at *
    go_enter Try.func15, Try.ntmps15
    go_wp2_with (go_at_call 27; refine K8.out.mono ?_; rintro e w2 ⟨rfl, q⟩; have HQ := hide q; clear q)
    go_ret
    exact ⟨rfl, HQ.out⟩
  rw [if_neg k8]
  have k8' : (kd == 8) = false := beq_eq_false_iff_ne.2 k8
  go_enter Try.func15, Try.ntmps15
  go_wp2_with fail
  go_ret
  exact ⟨rfl, HI.out⟩
end
end Go.Proofs.Ytlnnpdghcilioaa
