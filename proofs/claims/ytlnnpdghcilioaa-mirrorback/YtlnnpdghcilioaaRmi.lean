/- The document's Apply. -/
import Derived.Test.YtlnnpdghcilioaaRmh
namespace Go.Proofs.Ytlnnpdghcilioaa
open Go.RowKit
set_option linter.unusedVariables false
section
variable {w0 w : World} {l : List It} {k : Nat} {V : Vm} {R : Rm} {a b : Option Addr} {c e n m : Nat} {ns : List Nd} {es : List Ed}
theorem Its.three9 (h : Its w0 (.dm w0.heap.size V R k :: l) w) (x : Nt) : Its w0 (.dm w0.heap.size V R k :: .box (w.heap.size + 1 + 1) #[.slice none 0 0, .slice none 0 0, .slice none 0 0, .slice none 0 0, .slice none 0 0, .slice none 0 0] 38 :: .box (w.heap.size + 1) #[.int .i64 x.kind, .int .i64 x.a, .int .i64 x.b, .int .i64 x.c] 45 :: .box w.heap.size #[.slice a n c, .slice b m e, .slice V.aS V.nS V.cS, .slice V.aT V.nT V.cT, .slice V.aD V.nD V.cD, .slice V.aL V.nL V.cL] 38 :: l) (((w.alloc (.cells #[.slice a n c, .slice b m e, .slice V.aS V.nS V.cS, .slice V.aT V.nT V.cT, .slice V.aD V.nD V.cD, .slice V.aL V.nL V.cL] 38)).alloc (.cells #[.int .i64 x.kind, .int .i64 x.a, .int .i64 x.b, .int .i64 x.c] 45)).alloc (.cells #[.slice none 0 0, .slice none 0 0, .slice none 0 0, .slice none 0 0, .slice none 0 0, .slice none 0 0] 38)) :=
  (((h.boxN #[.slice a n c, .slice b m e, .slice V.aS V.nS V.cS, .slice V.aT V.nT V.cT, .slice V.aD V.nD V.cD, .slice V.aL V.nL V.cL] 38 rfl).boxN #[.int .i64 x.kind, .int .i64 x.a, .int .i64 x.b, .int .i64 x.c] 45 (n := w.heap.size + 1) (by show (w.heap.push _).size = _; simp)).boxN #[.slice none 0 0, .slice none 0 0, .slice none 0 0, .slice none 0 0, .slice none 0 0, .slice none 0 0] 38 (n := w.heap.size + 1 + 1) (by show ((w.alloc (.cells #[.slice a n c, .slice b m e, .slice V.aS V.nS V.cS, .slice V.aT V.nT V.cT, .slice V.aD V.nD V.cD, .slice V.aL V.nL V.cL] 38)).heap.push _).size = _; show ((w.heap.push _).push _).size = _; simp)).rot4
theorem Its.shed9 {x y : It} {z : It} {W : World} (h : Its w0 (z :: x :: y :: l) W) : Its w0 (z :: l) W := h.rot3.tail.swap.tail
set_option maxRecDepth 100000 in
set_option maxHeartbeats 8000000 in
theorem rapplyS (h : Its w0 (.dm w0.heap.size V R k :: l) w) (L0 : Lyt w0 a b c e n m ns es) (hT : ∀ y ∈ R.td, 1 ≤ y.dev ∧ y.dev ≤ m) (hm : m ≤ 120) (hk : k + 1 ≤ 1000) (x : Nt) : Calls Try.prog 16 #[.agg #[.slice a n c, .slice b m e, .slice V.aS V.nS V.cS, .slice V.aT V.nT V.cT, .slice V.aD V.nD V.cD, .slice V.aL V.nL V.cL], .agg #[.int .i64 x.kind, .int .i64 x.a, .int .i64 x.b, .int .i64 x.c]] w fun r w' => RP w0 l a b c e n m (k + 1) (R.app n es x) r w' := by
  have h9 := h.three9 (a := a) (b := b) (c := c) (e := e) (n := n) (m := m) x
  have I1 := hide h9
  have hes := L0.hm
  have K1 : Hid (∀ W, Its w0 (.dm w0.heap.size V R k :: .box (w.heap.size + 1 + 1) #[.slice none 0 0, .slice none 0 0, .slice none 0 0, .slice none 0 0, .slice none 0 0, .slice none 0 0] 38 :: .box (w.heap.size + 1) #[.int .i64 x.kind, .int .i64 x.a, .int .i64 x.b, .int .i64 x.c] 45 :: .box w.heap.size #[.slice a n c, .slice b m e, .slice V.aS V.nS V.cS, .slice V.aT V.nT V.cT, .slice V.aD V.nD V.cD, .slice V.aL V.nL V.cL] 38 :: l) W → Calls Try.prog 33 #[.agg #[.slice a n c, .slice b m e, .slice V.aS V.nS V.cS, .slice V.aT V.nT V.cT, .slice V.aD V.nD V.cD, .slice V.aL V.nL V.cL], .int .i64 x.a, .int .i64 x.b] W fun r w' => RP w0 (.box (w.heap.size + 1 + 1) #[.slice none 0 0, .slice none 0 0, .slice none 0 0, .slice none 0 0, .slice none 0 0, .slice none 0 0] 38 :: .box (w.heap.size + 1) #[.int .i64 x.kind, .int .i64 x.a, .int .i64 x.b, .int .i64 x.c] 45 :: .box w.heap.size #[.slice a n c, .slice b m e, .slice V.aS V.nS V.cS, .slice V.aT V.nT V.cT, .slice V.aD V.nD V.cD, .slice V.aL V.nL V.cL] 38 :: l) a b c e n m (k + 1) (R.put n es x.a x.b) r w') := hide (fun W hW => rputS hW (L0.keep hW.bel) hT (by omega) hk x.a x.b)
  have K4 : Hid (∀ W, Its w0 (.dm w0.heap.size V R k :: .box (w.heap.size + 1 + 1) #[.slice none 0 0, .slice none 0 0, .slice none 0 0, .slice none 0 0, .slice none 0 0, .slice none 0 0] 38 :: .box (w.heap.size + 1) #[.int .i64 x.kind, .int .i64 x.a, .int .i64 x.b, .int .i64 x.c] 45 :: .box w.heap.size #[.slice a n c, .slice b m e, .slice V.aS V.nS V.cS, .slice V.aT V.nT V.cT, .slice V.aD V.nD V.cD, .slice V.aL V.nL V.cL] 38 :: l) W → Calls Try.prog 29 #[.agg #[.slice a n c, .slice b m e, .slice V.aS V.nS V.cS, .slice V.aT V.nT V.cT, .slice V.aD V.nD V.cD, .slice V.aL V.nL V.cL], .int .i64 x.a, .int .i64 x.b, .int .i64 x.c] W fun r w' => RP w0 (.box (w.heap.size + 1 + 1) #[.slice none 0 0, .slice none 0 0, .slice none 0 0, .slice none 0 0, .slice none 0 0, .slice none 0 0] 38 :: .box (w.heap.size + 1) #[.int .i64 x.kind, .int .i64 x.a, .int .i64 x.b, .int .i64 x.c] 45 :: .box w.heap.size #[.slice a n c, .slice b m e, .slice V.aS V.nS V.cS, .slice V.aT V.nT V.cT, .slice V.aD V.nD V.cD, .slice V.aL V.nL V.cL] 38 :: l) a b c e n m (k + 1) (R.snd n es x.a x.b x.c) r w') := hide (fun W hW => rsendS hW L0 hT hm hk x.a x.b x.c)
  have K5 : Hid (∀ W, Its w0 (.dm w0.heap.size V R k :: .box (w.heap.size + 1 + 1) #[.slice none 0 0, .slice none 0 0, .slice none 0 0, .slice none 0 0, .slice none 0 0, .slice none 0 0] 38 :: .box (w.heap.size + 1) #[.int .i64 x.kind, .int .i64 x.a, .int .i64 x.b, .int .i64 x.c] 45 :: .box w.heap.size #[.slice a n c, .slice b m e, .slice V.aS V.nS V.cS, .slice V.aT V.nT V.cT, .slice V.aD V.nD V.cD, .slice V.aL V.nL V.cL] 38 :: l) W → Calls Try.prog 34 #[.agg #[.slice a n c, .slice b m e, .slice V.aS V.nS V.cS, .slice V.aT V.nT V.cT, .slice V.aD V.nD V.cD, .slice V.aL V.nL V.cL], .int .i64 x.a, .int .i64 x.b] W fun r w' => RP w0 (.box (w.heap.size + 1 + 1) #[.slice none 0 0, .slice none 0 0, .slice none 0 0, .slice none 0 0, .slice none 0 0, .slice none 0 0] 38 :: .box (w.heap.size + 1) #[.int .i64 x.kind, .int .i64 x.a, .int .i64 x.b, .int .i64 x.c] 45 :: .box w.heap.size #[.slice a n c, .slice b m e, .slice V.aS V.nS V.cS, .slice V.aT V.nT V.cT, .slice V.aD V.nD V.cD, .slice V.aL V.nL V.cL] 38 :: l) a b c e n m (k + 1) (R.mov n es x.a x.b) r w') := hide (fun W hW => rmovedS hW L0 hm hk x.a x.b)
  have K7 : Hid (∀ W, Its w0 (.dm w0.heap.size V R k :: .box (w.heap.size + 1 + 1) #[.slice none 0 0, .slice none 0 0, .slice none 0 0, .slice none 0 0, .slice none 0 0, .slice none 0 0] 38 :: .box (w.heap.size + 1) #[.int .i64 x.kind, .int .i64 x.a, .int .i64 x.b, .int .i64 x.c] 45 :: .box w.heap.size #[.slice a n c, .slice b m e, .slice V.aS V.nS V.cS, .slice V.aT V.nT V.cT, .slice V.aD V.nD V.cD, .slice V.aL V.nL V.cL] 38 :: l) W → Calls Try.prog 30 #[.agg #[.slice a n c, .slice b m e, .slice V.aS V.nS V.cS, .slice V.aT V.nT V.cT, .slice V.aD V.nD V.cD, .slice V.aL V.nL V.cL], .int .i64 x.a] W fun r w' => RP w0 (.box (w.heap.size + 1 + 1) #[.slice none 0 0, .slice none 0 0, .slice none 0 0, .slice none 0 0, .slice none 0 0, .slice none 0 0] 38 :: .box (w.heap.size + 1) #[.int .i64 x.kind, .int .i64 x.a, .int .i64 x.b, .int .i64 x.c] 45 :: .box w.heap.size #[.slice a n c, .slice b m e, .slice V.aS V.nS V.cS, .slice V.aT V.nT V.cT, .slice V.aD V.nD V.cD, .slice V.aL V.nL V.cL] 38 :: l) a b c e n m (k + 1) (R.drp n es x.a) r w') := hide (fun W hW => rdropS hW hk hes x.a)
  have K8 : Hid (∀ W, Its w0 (.dm w0.heap.size V R k :: .box (w.heap.size + 1 + 1) #[.slice none 0 0, .slice none 0 0, .slice none 0 0, .slice none 0 0, .slice none 0 0, .slice none 0 0] 38 :: .box (w.heap.size + 1) #[.int .i64 x.kind, .int .i64 x.a, .int .i64 x.b, .int .i64 x.c] 45 :: .box w.heap.size #[.slice a n c, .slice b m e, .slice V.aS V.nS V.cS, .slice V.aT V.nT V.cT, .slice V.aD V.nD V.cD, .slice V.aL V.nL V.cL] 38 :: l) W → Calls Try.prog 35 #[.agg #[.slice a n c, .slice b m e, .slice V.aS V.nS V.cS, .slice V.aT V.nT V.cT, .slice V.aD V.nD V.cD, .slice V.aL V.nL V.cL], .int .i64 x.a, .bool (decide (x.b = 1))] W fun r w' => RP w0 (.box (w.heap.size + 1 + 1) #[.slice none 0 0, .slice none 0 0, .slice none 0 0, .slice none 0 0, .slice none 0 0, .slice none 0 0] 38 :: .box (w.heap.size + 1) #[.int .i64 x.kind, .int .i64 x.a, .int .i64 x.b, .int .i64 x.c] 45 :: .box w.heap.size #[.slice a n c, .slice b m e, .slice V.aS V.nS V.cS, .slice V.aT V.nT V.cT, .slice V.aD V.nD V.cD, .slice V.aL V.nL V.cL] 38 :: l) a b c e n m (k + 1) (R.msk n es x.a (decide (x.b = 1))) r w') := hide (fun W hW => rmaskS hW hk hes hm x.a (decide (x.b = 1)))
  have HS : Hid (∀ W (z : It), Its w0 (.dm w0.heap.size V R k :: z :: .box (w.heap.size + 1) #[.int .i64 x.kind, .int .i64 x.a, .int .i64 x.b, .int .i64 x.c] 45 :: .box w.heap.size #[.slice a n c, .slice b m e, .slice V.aS V.nS V.cS, .slice V.aT V.nT V.cT, .slice V.aD V.nD V.cD, .slice V.aL V.nL V.cL] 38 :: l) W → Its w0 (.dm w0.heap.size V R (k + 1) :: l) W) := hide (fun W z hW => (hW.swap.tail.shed9).dmono (by omega) hk)
  have e0 : R.app n es x = if x.kind = 1 then R.put n es x.a x.b else if x.kind = 4 then R.snd n es x.a x.b x.c else if x.kind = 5 then R.mov n es x.a x.b else if x.kind = 7 then R.drp n es x.a else if x.kind = 8 then R.msk n es x.a (decide (x.b = 1)) else (23, R) := rfl
  rw [e0]
  have hgen : ∀ (P Q : Int × Rm), P = Q → RP w0 l a b c e n m (k + 1) P = RP w0 l a b c e n m (k + 1) Q := fun P Q h => by rw [h]
  obtain ⟨kd, xa, xb, xc⟩ := x
  dsimp only at *
  clear e0 h h9 L0 hT hes hgen
  by_cases k1 : kd = 1
  · subst k1
    rw [if_pos rfl]
    clear K4 K5 K7 K8
    obtain ⟨P, hP⟩ : ∃ P, R.put n es xa xb = P := ⟨_, rfl⟩
    rw [hP] at K1 ⊢
    clear hP
    obtain ⟨aS, nS, cS, aT, nT, cT, aD, nD, cD, aL, nL, cL⟩ := V
    dsimp only at *
    go_enter Try.func16, Try.ntmps16
    go_upto_region 1 with fail
    generalize ((w.alloc (.cells #[.slice a n c, .slice b m e, .slice aS nS cS, .slice aT nT cT, .slice aD nD cD, .slice aL nL cL] 38)).alloc (.cells #[.int .i64 1, .int .i64 xa, .int .i64 xb, .int .i64 xc] 45)).alloc (.cells #[.slice none 0 0, .slice none 0 0, .slice none 0 0, .slice none 0 0, .slice none 0 0, .slice none 0 0] 38) = W1 at *
    obtain ⟨e0, e1, e2, e3, e4, e5, ef⟩ := Its.cells6 I1.out.tail
    obtain ⟨c0, c1, c2, c3, c4, c5, cf⟩ := Its.cells6 I1.out.tail.tail.tail
    have hn3 : W1.heap[w.heap.size + 1]? = some (.cells #[.int .i64 1, .int .i64 xa, .int .i64 xb, .int .i64 xc] 45) := I1.out.three
    have n0 : W1.cell? ⟨w.heap.size + 1, 0, none⟩ = some (.int .i64 1) := (cells_at hn3 0).1
    have n1 : W1.cell? ⟨w.heap.size + 1, 1, none⟩ = some (.int .i64 xa) := (cells_at hn3 1).1
    have n2 : W1.cell? ⟨w.heap.size + 1, 2, none⟩ = some (.int .i64 xb) := (cells_at hn3 2).1
    have n3 : W1.cell? ⟨w.heap.size + 1, 3, none⟩ = some (.int .i64 xc) := (cells_at hn3 3).1
    clear hn3
    go_wp2_with (go_at_call 33; refine (K1.out _ I1.out).mono ?_; rintro e1 W2 ⟨V2, rfl, q⟩; obtain ⟨bS, mS, dS, bT, mT, dT, bD, mD, dD, bL, mL, dL⟩ := V2; (try dsimp only); have I2 := hide q.swap; clear q; obtain ⟨f0, f1, f2, f3, f4, f5, ff⟩ := Its.cells6 I2.out)
    have HIe := hide (Its.out6 I2.out (.slice a n c) (.slice b m e) (.slice bS mS dS) (.slice bT mT dT) (.slice bD mD dD) (.slice bL mL dL))
    obtain ⟨y0, y1, y2, y3, y4, y5, _⟩ := Its.cells6 HIe.out
    exact bodyPost_ret (v := .tuple #[.agg #[.slice a n c, .slice b m e, .slice bS mS dS, .slice bT mT dT, .slice bD mD dD, .slice bL mL dL], .int .i64 P.1]) (by simp [results, Try.results16, go_sem, y0, y1, y2, y3, y4, y5]) rfl (RP.mk (V := ⟨bS, mS, dS, bT, mT, dT, bD, mD, dD, bL, mL, dL⟩) rfl HIe.out.tail.shed9)
  rw [if_neg k1]
  have k1' : (kd == 1) = false := beq_eq_false_iff_ne.2 k1
  by_cases k4 : kd = 4
  · subst k4
    rw [if_pos rfl]
    clear K1 K5 K7 K8 k1 k1'
    obtain ⟨P, hP⟩ : ∃ P, R.snd n es xa xb xc = P := ⟨_, rfl⟩
    rw [hP] at K4 ⊢
    clear hP
    obtain ⟨aS, nS, cS, aT, nT, cT, aD, nD, cD, aL, nL, cL⟩ := V
    dsimp only at *
    go_enter Try.func16, Try.ntmps16
    go_upto_region 1 with fail
    generalize ((w.alloc (.cells #[.slice a n c, .slice b m e, .slice aS nS cS, .slice aT nT cT, .slice aD nD cD, .slice aL nL cL] 38)).alloc (.cells #[.int .i64 4, .int .i64 xa, .int .i64 xb, .int .i64 xc] 45)).alloc (.cells #[.slice none 0 0, .slice none 0 0, .slice none 0 0, .slice none 0 0, .slice none 0 0, .slice none 0 0] 38) = W1 at *
    obtain ⟨e0, e1, e2, e3, e4, e5, ef⟩ := Its.cells6 I1.out.tail
    obtain ⟨c0, c1, c2, c3, c4, c5, cf⟩ := Its.cells6 I1.out.tail.tail.tail
    have hn3 : W1.heap[w.heap.size + 1]? = some (.cells #[.int .i64 4, .int .i64 xa, .int .i64 xb, .int .i64 xc] 45) := I1.out.three
    have n0 : W1.cell? ⟨w.heap.size + 1, 0, none⟩ = some (.int .i64 4) := (cells_at hn3 0).1
    have n1 : W1.cell? ⟨w.heap.size + 1, 1, none⟩ = some (.int .i64 xa) := (cells_at hn3 1).1
    have n2 : W1.cell? ⟨w.heap.size + 1, 2, none⟩ = some (.int .i64 xb) := (cells_at hn3 2).1
    have n3 : W1.cell? ⟨w.heap.size + 1, 3, none⟩ = some (.int .i64 xc) := (cells_at hn3 3).1
    clear hn3
    go_wp2_with (go_at_call 29; refine (K4.out _ I1.out).mono ?_; rintro e1 W2 ⟨V2, rfl, q⟩; obtain ⟨bS, mS, dS, bT, mT, dT, bD, mD, dD, bL, mL, dL⟩ := V2; (try dsimp only); have I2 := hide q.swap; clear q; obtain ⟨f0, f1, f2, f3, f4, f5, ff⟩ := Its.cells6 I2.out)
    have HIe := hide (Its.out6 I2.out (.slice a n c) (.slice b m e) (.slice bS mS dS) (.slice bT mT dT) (.slice bD mD dD) (.slice bL mL dL))
    obtain ⟨y0, y1, y2, y3, y4, y5, _⟩ := Its.cells6 HIe.out
    exact bodyPost_ret (v := .tuple #[.agg #[.slice a n c, .slice b m e, .slice bS mS dS, .slice bT mT dT, .slice bD mD dD, .slice bL mL dL], .int .i64 P.1]) (by simp [results, Try.results16, go_sem, y0, y1, y2, y3, y4, y5]) rfl (RP.mk (V := ⟨bS, mS, dS, bT, mT, dT, bD, mD, dD, bL, mL, dL⟩) rfl HIe.out.tail.shed9)
  rw [if_neg k4]
  have k4' : (kd == 4) = false := beq_eq_false_iff_ne.2 k4
  by_cases k5 : kd = 5
  · subst k5
    rw [if_pos rfl]
    clear K1 K4 K7 K8 k1 k1' k4 k4'
    obtain ⟨P, hP⟩ : ∃ P, R.mov n es xa xb = P := ⟨_, rfl⟩
    rw [hP] at K5 ⊢
    clear hP
    obtain ⟨aS, nS, cS, aT, nT, cT, aD, nD, cD, aL, nL, cL⟩ := V
    dsimp only at *
    go_enter Try.func16, Try.ntmps16
    go_upto_region 1 with fail
    generalize ((w.alloc (.cells #[.slice a n c, .slice b m e, .slice aS nS cS, .slice aT nT cT, .slice aD nD cD, .slice aL nL cL] 38)).alloc (.cells #[.int .i64 5, .int .i64 xa, .int .i64 xb, .int .i64 xc] 45)).alloc (.cells #[.slice none 0 0, .slice none 0 0, .slice none 0 0, .slice none 0 0, .slice none 0 0, .slice none 0 0] 38) = W1 at *
    obtain ⟨e0, e1, e2, e3, e4, e5, ef⟩ := Its.cells6 I1.out.tail
    obtain ⟨c0, c1, c2, c3, c4, c5, cf⟩ := Its.cells6 I1.out.tail.tail.tail
    have hn3 : W1.heap[w.heap.size + 1]? = some (.cells #[.int .i64 5, .int .i64 xa, .int .i64 xb, .int .i64 xc] 45) := I1.out.three
    have n0 : W1.cell? ⟨w.heap.size + 1, 0, none⟩ = some (.int .i64 5) := (cells_at hn3 0).1
    have n1 : W1.cell? ⟨w.heap.size + 1, 1, none⟩ = some (.int .i64 xa) := (cells_at hn3 1).1
    have n2 : W1.cell? ⟨w.heap.size + 1, 2, none⟩ = some (.int .i64 xb) := (cells_at hn3 2).1
    have n3 : W1.cell? ⟨w.heap.size + 1, 3, none⟩ = some (.int .i64 xc) := (cells_at hn3 3).1
    clear hn3
    go_wp2_with (go_at_call 34; refine (K5.out _ I1.out).mono ?_; rintro e1 W2 ⟨V2, rfl, q⟩; obtain ⟨bS, mS, dS, bT, mT, dT, bD, mD, dD, bL, mL, dL⟩ := V2; (try dsimp only); have I2 := hide q.swap; clear q; obtain ⟨f0, f1, f2, f3, f4, f5, ff⟩ := Its.cells6 I2.out)
    have HIe := hide (Its.out6 I2.out (.slice a n c) (.slice b m e) (.slice bS mS dS) (.slice bT mT dT) (.slice bD mD dD) (.slice bL mL dL))
    obtain ⟨y0, y1, y2, y3, y4, y5, _⟩ := Its.cells6 HIe.out
    exact bodyPost_ret (v := .tuple #[.agg #[.slice a n c, .slice b m e, .slice bS mS dS, .slice bT mT dT, .slice bD mD dD, .slice bL mL dL], .int .i64 P.1]) (by simp [results, Try.results16, go_sem, y0, y1, y2, y3, y4, y5]) rfl (RP.mk (V := ⟨bS, mS, dS, bT, mT, dT, bD, mD, dD, bL, mL, dL⟩) rfl HIe.out.tail.shed9)
  rw [if_neg k5]
  have k5' : (kd == 5) = false := beq_eq_false_iff_ne.2 k5
  by_cases k7 : kd = 7
  · subst k7
    rw [if_pos rfl]
    clear K1 K4 K5 K8 k1 k1' k4 k4' k5 k5'
    obtain ⟨P, hP⟩ : ∃ P, R.drp n es xa = P := ⟨_, rfl⟩
    rw [hP] at K7 ⊢
    clear hP
    obtain ⟨aS, nS, cS, aT, nT, cT, aD, nD, cD, aL, nL, cL⟩ := V
    dsimp only at *
    go_enter Try.func16, Try.ntmps16
    go_upto_region 1 with fail
    generalize ((w.alloc (.cells #[.slice a n c, .slice b m e, .slice aS nS cS, .slice aT nT cT, .slice aD nD cD, .slice aL nL cL] 38)).alloc (.cells #[.int .i64 7, .int .i64 xa, .int .i64 xb, .int .i64 xc] 45)).alloc (.cells #[.slice none 0 0, .slice none 0 0, .slice none 0 0, .slice none 0 0, .slice none 0 0, .slice none 0 0] 38) = W1 at *
    obtain ⟨e0, e1, e2, e3, e4, e5, ef⟩ := Its.cells6 I1.out.tail
    obtain ⟨c0, c1, c2, c3, c4, c5, cf⟩ := Its.cells6 I1.out.tail.tail.tail
    have hn3 : W1.heap[w.heap.size + 1]? = some (.cells #[.int .i64 7, .int .i64 xa, .int .i64 xb, .int .i64 xc] 45) := I1.out.three
    have n0 : W1.cell? ⟨w.heap.size + 1, 0, none⟩ = some (.int .i64 7) := (cells_at hn3 0).1
    have n1 : W1.cell? ⟨w.heap.size + 1, 1, none⟩ = some (.int .i64 xa) := (cells_at hn3 1).1
    have n2 : W1.cell? ⟨w.heap.size + 1, 2, none⟩ = some (.int .i64 xb) := (cells_at hn3 2).1
    have n3 : W1.cell? ⟨w.heap.size + 1, 3, none⟩ = some (.int .i64 xc) := (cells_at hn3 3).1
    clear hn3
    go_wp2_with (go_at_call 30; refine (K7.out _ I1.out).mono ?_; rintro e1 W2 ⟨V2, rfl, q⟩; obtain ⟨bS, mS, dS, bT, mT, dT, bD, mD, dD, bL, mL, dL⟩ := V2; (try dsimp only); have I2 := hide q.swap; clear q; obtain ⟨f0, f1, f2, f3, f4, f5, ff⟩ := Its.cells6 I2.out)
    have HIe := hide (Its.out6 I2.out (.slice a n c) (.slice b m e) (.slice bS mS dS) (.slice bT mT dT) (.slice bD mD dD) (.slice bL mL dL))
    obtain ⟨y0, y1, y2, y3, y4, y5, _⟩ := Its.cells6 HIe.out
    exact bodyPost_ret (v := .tuple #[.agg #[.slice a n c, .slice b m e, .slice bS mS dS, .slice bT mT dT, .slice bD mD dD, .slice bL mL dL], .int .i64 P.1]) (by simp [results, Try.results16, go_sem, y0, y1, y2, y3, y4, y5]) rfl (RP.mk (V := ⟨bS, mS, dS, bT, mT, dT, bD, mD, dD, bL, mL, dL⟩) rfl HIe.out.tail.shed9)
  rw [if_neg k7]
  have k7' : (kd == 7) = false := beq_eq_false_iff_ne.2 k7
  by_cases k8 : kd = 8
  · subst k8
    rw [if_pos rfl]
    clear K1 K4 K5 K7 k1 k1' k4 k4' k5 k5' k7 k7'
    obtain ⟨P, hP⟩ : ∃ P, R.msk n es xa (decide (xb = 1)) = P := ⟨_, rfl⟩
    rw [hP] at K8 ⊢
    clear hP
    obtain ⟨aS, nS, cS, aT, nT, cT, aD, nD, cD, aL, nL, cL⟩ := V
    dsimp only at *
    go_enter Try.func16, Try.ntmps16
    go_upto_region 1 with fail
    generalize ((w.alloc (.cells #[.slice a n c, .slice b m e, .slice aS nS cS, .slice aT nT cT, .slice aD nD cD, .slice aL nL cL] 38)).alloc (.cells #[.int .i64 8, .int .i64 xa, .int .i64 xb, .int .i64 xc] 45)).alloc (.cells #[.slice none 0 0, .slice none 0 0, .slice none 0 0, .slice none 0 0, .slice none 0 0, .slice none 0 0] 38) = W1 at *
    obtain ⟨e0, e1, e2, e3, e4, e5, ef⟩ := Its.cells6 I1.out.tail
    obtain ⟨c0, c1, c2, c3, c4, c5, cf⟩ := Its.cells6 I1.out.tail.tail.tail
    have hn3 : W1.heap[w.heap.size + 1]? = some (.cells #[.int .i64 8, .int .i64 xa, .int .i64 xb, .int .i64 xc] 45) := I1.out.three
    have n0 : W1.cell? ⟨w.heap.size + 1, 0, none⟩ = some (.int .i64 8) := (cells_at hn3 0).1
    have n1 : W1.cell? ⟨w.heap.size + 1, 1, none⟩ = some (.int .i64 xa) := (cells_at hn3 1).1
    have n2 : W1.cell? ⟨w.heap.size + 1, 2, none⟩ = some (.int .i64 xb) := (cells_at hn3 2).1
    have n3 : W1.cell? ⟨w.heap.size + 1, 3, none⟩ = some (.int .i64 xc) := (cells_at hn3 3).1
    clear hn3
    have eb : (xb == 1) = decide (xb = 1) := by by_cases z : xb = 1 <;> simp [z]
    generalize decide (xb = 1) = bb at *
    go_wp2_with (go_at_call 35; refine (K8.out _ I1.out).mono ?_; rintro e1 W2 ⟨V2, rfl, q⟩; obtain ⟨bS, mS, dS, bT, mT, dT, bD, mD, dD, bL, mL, dL⟩ := V2; (try dsimp only); have I2 := hide q.swap; clear q; obtain ⟨f0, f1, f2, f3, f4, f5, ff⟩ := Its.cells6 I2.out)
    have HIe := hide (Its.out6 I2.out (.slice a n c) (.slice b m e) (.slice bS mS dS) (.slice bT mT dT) (.slice bD mD dD) (.slice bL mL dL))
    obtain ⟨y0, y1, y2, y3, y4, y5, _⟩ := Its.cells6 HIe.out
    exact bodyPost_ret (v := .tuple #[.agg #[.slice a n c, .slice b m e, .slice bS mS dS, .slice bT mT dT, .slice bD mD dD, .slice bL mL dL], .int .i64 P.1]) (by simp [results, Try.results16, go_sem, y0, y1, y2, y3, y4, y5]) rfl (RP.mk (V := ⟨bS, mS, dS, bT, mT, dT, bD, mD, dD, bL, mL, dL⟩) rfl HIe.out.tail.shed9)
  rw [if_neg k8]
  have k8' : (kd == 8) = false := beq_eq_false_iff_ne.2 k8
  clear K1 K4 K5 K7 K8
  obtain ⟨aS, nS, cS, aT, nT, cT, aD, nD, cD, aL, nL, cL⟩ := V
  dsimp only at *
  go_enter Try.func16, Try.ntmps16
  go_upto_region 1 with fail
  generalize ((w.alloc (.cells #[.slice a n c, .slice b m e, .slice aS nS cS, .slice aT nT cT, .slice aD nD cD, .slice aL nL cL] 38)).alloc (.cells #[.int .i64 kd, .int .i64 xa, .int .i64 xb, .int .i64 xc] 45)).alloc (.cells #[.slice none 0 0, .slice none 0 0, .slice none 0 0, .slice none 0 0, .slice none 0 0, .slice none 0 0] 38) = W1 at *
  obtain ⟨e0, e1, e2, e3, e4, e5, ef⟩ := Its.cells6 I1.out.tail
  obtain ⟨c0, c1, c2, c3, c4, c5, cf⟩ := Its.cells6 I1.out.tail.tail.tail
  have hn3 : W1.heap[w.heap.size + 1]? = some (.cells #[.int .i64 kd, .int .i64 xa, .int .i64 xb, .int .i64 xc] 45) := I1.out.three
  have n0 : W1.cell? ⟨w.heap.size + 1, 0, none⟩ = some (.int .i64 kd) := (cells_at hn3 0).1
  clear hn3
  have HIe := hide (Its.out6 I1.out.swap (.slice a n c) (.slice b m e) (.slice aS nS cS) (.slice aT nT cT) (.slice aD nD cD) (.slice aL nL cL))
  go_wp2_with fail
  obtain ⟨y0, y1, y2, y3, y4, y5, _⟩ := Its.cells6 HIe.out
  exact bodyPost_ret (v := .tuple #[.agg #[.slice a n c, .slice b m e, .slice aS nS cS, .slice aT nT cT, .slice aD nD cD, .slice aL nL cL], .int .i64 23]) (by simp [results, Try.results16, go_sem, y0, y1, y2, y3, y4, y5]) rfl (RP.mk2 (V := ⟨aS, nS, cS, aT, nT, cT, aD, nD, cD, aL, nL, cL⟩) rfl (HS.out _ _ HIe.out.swap))
end
end Go.Proofs.Ytlnnpdghcilioaa
