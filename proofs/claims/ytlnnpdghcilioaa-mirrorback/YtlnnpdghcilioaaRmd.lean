/- Boxes of a mirror by value; the document's New, Drop. -/
import Derived.Test.YtlnnpdghcilioaaRmc
namespace Go.Proofs.Ytlnnpdghcilioaa
open Go.RowKit
set_option linter.unusedVariables false

theorem Its.put1 {w0 w : World} {b : Nat} {C : Array Value} {t : TypeId} {l : List It} (h : Its w0 (.box b C t :: l) w) (i : Nat) (x : Value) : Its w0 (.box b (C.setIfInBounds i x) t :: l) (w.setCell ⟨b, i, none⟩ x) :=
  h.chg (x' := .box b (C.setIfInBounds i x) t) (heap_put h.one x) (fun k hk => .inl hk) (Frm.set w b i x)
theorem Its.out6 {w0 w : World} {b : Nat} {p0 p1 p2 p3 p4 p5 : Value} {t : TypeId} {l : List It} (h : Its w0 (.box b #[p0, p1, p2, p3, p4, p5] t :: l) w) (x0 x1 x2 x3 x4 x5 : Value) :
    Its w0 (.box b #[x0, x1, x2, x3, x4, x5] t :: l) ((((((w.setCell ⟨b, 0, none⟩ x0).setCell ⟨b, 1, none⟩ x1).setCell ⟨b, 2, none⟩ x2).setCell ⟨b, 3, none⟩ x3).setCell ⟨b, 4, none⟩ x4).setCell ⟨b, 5, none⟩ x5) := (((((h.put1 0 x0).put1 1 x1).put1 2 x2).put1 3 x3).put1 4 x4).put1 5 x5
theorem Its.cells6 {w0 w : World} {b : Nat} {p0 p1 p2 p3 p4 p5 : Value} {t : TypeId} {l : List It} (h : Its w0 (.box b #[p0, p1, p2, p3, p4, p5] t :: l) w) : w.cell? ⟨b, 0, none⟩ = some p0 ∧ w.cell? ⟨b, 1, none⟩ = some p1 ∧ w.cell? ⟨b, 2, none⟩ = some p2 ∧ w.cell? ⟨b, 3, none⟩ = some p3 ∧ w.cell? ⟨b, 4, none⟩ = some p4 ∧ w.cell? ⟨b, 5, none⟩ = some p5 ∧ (∀ i, w.frozen? ⟨b, i, none⟩ = false) :=
  ⟨(cells_at h.one 0).1, (cells_at h.one 1).1, (cells_at h.one 2).1, (cells_at h.one 3).1, (cells_at h.one 4).1, (cells_at h.one 5).1, fun i => (cells_at h.one i).2⟩
theorem Its.boxN {w0 w : World} {l : List It} (h : Its w0 l w) (C : Array Value) (t : TypeId) {n : Nat} (hn : w.heap.size = n) : Its w0 (.box n C t :: l) (w.alloc (.cells C t)) := by
  subst hn
  exact h.box1 C t
theorem DF.mono {V : Vm} {R : Rm} {k k' : Nat} (h : DF V R k) (hk : k ≤ k') (h' : k' ≤ 1000) : DF V R k' := ⟨h.lS, h.lT, h.lD, h.lL, Nat.le_trans h.bS hk, Nat.le_trans h.bT hk, h.bD, Nat.le_trans h.bL hk, h'⟩
theorem Its.dmono {w0 w : World} {l : List It} {B k k' : Nat} {V : Vm} {R : Rm} (h : Its w0 (.dm B V R k :: l) w) (hk : k ≤ k') (h' : k' ≤ 1000) : Its w0 (.dm B V R k' :: l) w := h.dopen.1.dshut (h.dopen.2.mono hk h')
/-- a mirror of the document's that is handed back, with a code -/
def RP (w0 : World) (l : List It) (a b : Option Addr) (c e n m k : Nat) (P : Int × Rm) (r : Ending) (w' : World) : Prop := ∃ V : Vm, r = .returned (.tuple #[.agg #[.slice a n c, .slice b m e, .slice V.aS V.nS V.cS, .slice V.aT V.nT V.cT, .slice V.aD V.nD V.cD, .slice V.aL V.nL V.cL], .int .i64 P.1]) ∧ Its w0 (.dm w0.heap.size V P.2 k :: l) w'
theorem RP.mk {w0 : World} {l : List It} {a b : Option Addr} {c e n m k : Nat} {P : Int × Rm} {w' : World} (V : Vm) {x : Int} (hx : P.1 = x) (h : Its w0 (.dm w0.heap.size V P.2 k :: l) w') : RP w0 l a b c e n m k P (.returned (.tuple #[.agg #[.slice a n c, .slice b m e, .slice V.aS V.nS V.cS, .slice V.aT V.nT V.cT, .slice V.aD V.nD V.cD, .slice V.aL V.nL V.cL], .int .i64 x])) w' := ⟨V, by rw [hx], h⟩
theorem RP.mk2 {w0 : World} {l : List It} {a b : Option Addr} {c e n m k : Nat} {P : Int × Rm} {w' : World} (V : Vm) {x : Int} {R : Rm} (hP : P = (x, R)) (h : Its w0 (.dm w0.heap.size V R k :: l) w') : RP w0 l a b c e n m k P (.returned (.tuple #[.agg #[.slice a n c, .slice b m e, .slice V.aS V.nS V.cS, .slice V.aT V.nT V.cT, .slice V.aD V.nD V.cD, .slice V.aL V.nL V.cL], .int .i64 x])) w' := by subst hP; exact ⟨V, rfl, h⟩
section
variable {w0 w : World} {l : List It} {k : Nat} {V : Vm} {R : Rm} {a b : Option Addr} {c e n m : Nat} {ns : List Nd} {es : List Ed}
/-- both boxes of a call -/
theorem Its.two6 (h : Its w0 (.dm w0.heap.size V R k :: l) w) : Its w0 (.box (w.heap.size + 1) #[.slice none 0 0, .slice none 0 0, .slice none 0 0, .slice none 0 0, .slice none 0 0, .slice none 0 0] 38 :: .box w.heap.size #[.slice a n c, .slice b m e, .slice V.aS V.nS V.cS, .slice V.aT V.nT V.cT, .slice V.aD V.nD V.cD, .slice V.aL V.nL V.cL] 38 :: .dm w0.heap.size V R k :: l) ((w.alloc (.cells #[.slice a n c, .slice b m e, .slice V.aS V.nS V.cS, .slice V.aT V.nT V.cT, .slice V.aD V.nD V.cD, .slice V.aL V.nL V.cL] 38)).alloc (.cells #[.slice none 0 0, .slice none 0 0, .slice none 0 0, .slice none 0 0, .slice none 0 0, .slice none 0 0] 38)) :=
  (h.boxN #[.slice a n c, .slice b m e, .slice V.aS V.nS V.cS, .slice V.aT V.nT V.cT, .slice V.aD V.nD V.cD, .slice V.aL V.nL V.cL] 38 rfl).boxN #[.slice none 0 0, .slice none 0 0, .slice none 0 0, .slice none 0 0, .slice none 0 0, .slice none 0 0] 38 (n := w.heap.size + 1) (by show (w.heap.push _).size = _; simp)
set_option maxRecDepth 100000 in
set_option maxHeartbeats 4000000 in
theorem rdropS (h : Its w0 (.dm w0.heap.size V R k :: l) w) (hk : k + 1 ≤ 1000) (hm : es.length = m) (d : Int) : Calls Try.prog 30 #[.agg #[.slice a n c, .slice b m e, .slice V.aS V.nS V.cS, .slice V.aT V.nT V.cT, .slice V.aD V.nD V.cD, .slice V.aL V.nL V.cL], .int .i64 d] w fun r w' => RP w0 l a b c e n m (k + 1) (R.drp n es d) r w' := by
  have I1 := hide (h.two6 (a := a) (b := b) (c := c) (e := e) (n := n) (m := m))
  have hf := dm_f h.one
  have KO : Hid (∀ W : World, Calls Try.prog 51 #[.agg #[.slice a n c, .slice b m e, .slice V.aS V.nS V.cS, .slice V.aT V.nT V.cT, .slice V.aD V.nD V.cD, .slice V.aL V.nL V.cL], .int .i64 1, .int .i64 0, .int .i64 d] W fun e w' => e = .returned (.bool (Rm.out n m 1 0 d)) ∧ Below W.heap.size W w') := hide (fun W => outside_any W V 1 0 d)
  have KF : Hid (∀ W : World, (It.dm w0.heap.size V R k).P W → Calls Try.prog 39 #[.agg #[.slice a n c, .slice b m e, .slice V.aS V.nS V.cS, .slice V.aT V.nT V.cT, .slice V.aD V.nD V.cD, .slice V.aL V.nL V.cL], .int .i64 d] W fun e w' => e = .returned (.int .i64 (R.fnd d)) ∧ Below W.heap.size W w') := hide (fun W hW => rfnd_any hW d)
  have HF := hide hf
  have HS : Hid (∀ W, Its w0 (.box (w.heap.size + 1) #[.slice a n c, .slice b m e, .slice V.aS V.nS V.cS, .slice V.aT V.nT V.cT, .slice V.aD V.nD V.cD, .slice V.aL V.nL V.cL] 38 :: .box w.heap.size #[.slice a n c, .slice b m e, .slice V.aS V.nS V.cS, .slice V.aT V.nT V.cT, .slice V.aD V.nD V.cD, .slice V.aL V.nL V.cL] 38 :: .dm w0.heap.size V R k :: l) W → Its w0 (.dm w0.heap.size V R (k + 1) :: l) W) := hide (fun W hW => hW.tail.tail.dmono (by omega) hk)
  have eP : R.drp n es d = if Rm.out n es.length 1 0 d = true then (1, R) else if R.fnd d < 0 then (4, R) else (0, { R with td := R.td.eraseIdx (R.fnd d).toNat }) := rfl
  rw [eP, hm]
  have hfc := fx_cases (isDv d) R.td
  have hfn : R.fnd d = fx (isDv d) R.td := rfl
  rw [← hfn] at hfc
  clear h hf eP hfn hm
  generalize Rm.out n m 1 0 d = ob at *
  cases ob with
  | true =>
    rw [if_pos rfl]
    obtain ⟨aS, nS, cS, aT, nT, cT, aD, nD, cD, aL, nL, cL⟩ := V
    dsimp only at *
    go_enter Try.func30, Try.ntmps30
    go_upto_region 1 with fail
    generalize (w.alloc (.cells #[.slice a n c, .slice b m e, .slice aS nS cS, .slice aT nT cT, .slice aD nD cD, .slice aL nL cL] 38)).alloc (.cells #[.slice none 0 0, .slice none 0 0, .slice none 0 0, .slice none 0 0, .slice none 0 0, .slice none 0 0] 38) = W1 at *
    obtain ⟨e0, e1, e2, e3, e4, e5, ef⟩ := Its.cells6 I1.out; obtain ⟨c0, c1, c2, c3, c4, c5, cf⟩ := Its.cells6 I1.out.tail
    go_upto_region 2 with (go_at_call 51; refine (KO.out _).mono ?_; rintro e1 W2 ⟨rfl, q⟩; have I2 := hide (I1.out.keep q); clear q)
    clear e0 e1 e2 e3 e4 e5 ef c0 c1 c2 c3 c4 c5 cf
    obtain ⟨e0, e1, e2, e3, e4, e5, ef⟩ := Its.cells6 I2.out; obtain ⟨c0, c1, c2, c3, c4, c5, cf⟩ := Its.cells6 I2.out.tail
    have HIe := hide (Its.out6 I2.out (.slice a n c) (.slice b m e) (.slice aS nS cS) (.slice aT nT cT) (.slice aD nD cD) (.slice aL nL cL))
    go_wp2_with fail
    obtain ⟨y0, y1, y2, y3, y4, y5, _⟩ := Its.cells6 HIe.out
    exact bodyPost_ret (v := .tuple #[.agg #[.slice a n c, .slice b m e, .slice aS nS cS, .slice aT nT cT, .slice aD nD cD, .slice aL nL cL], .int .i64 1]) (by simp [results, Try.results30, go_sem, y0, y1, y2, y3, y4, y5]) rfl (RP.mk (V := ⟨aS, nS, cS, aT, nT, cT, aD, nD, cD, aL, nL, cL⟩) rfl (HS.out _ HIe.out))

  | false =>
    rw [if_neg (by simp)]
    rcases hfc with ⟨i, p, f1, f2, f3, f4⟩ | ⟨f1, f2⟩
    · rw [f4, if_neg (by omega), show ((i : Int)).toNat = i by omega]
      rw [f4] at KF
      have hi := idx_lt f1
      have hle : R.td.eraseIdx i = R.td.take i ++ R.td.drop (i + 1) := List.eraseIdx_eq_take_drop_succ _ _
      obtain ⟨nx, hnx⟩ : ∃ nx, (R.td.take i ++ R.td.drop (i + 1)).length = nx := ⟨_, rfl⟩
      have hnb : nx ≤ V.nT := by rw [← hnx, ← HF.out.lT]; simp; omega
      have KW : Hid (∀ W, Its w0 (.box (w.heap.size + 1) #[.slice none 0 0, .slice none 0 0, .slice none 0 0, .slice none 0 0, .slice none 0 0, .slice none 0 0] 38 :: .box w.heap.size #[.slice a n c, .slice b m e, .slice V.aS V.nS V.cS, .slice V.aT V.nT V.cT, .slice V.aD V.nD V.cD, .slice V.aL V.nL V.cL] 38 :: .dm w0.heap.size V R k :: l) W → Calls Try.prog 53 #[.slice V.aT V.nT V.cT, .int .i64 (i : Int)] W fun r w' => ∃ a' c', r = .returned (.slice a' nx c') ∧ Its w0 (.box (w.heap.size + 1) #[.slice none 0 0, .slice none 0 0, .slice none 0 0, .slice none 0 0, .slice none 0 0, .slice none 0 0] 38 :: .box w.heap.size #[.slice a n c, .slice b m e, .slice V.aS V.nS V.cS, .slice V.aT V.nT V.cT, .slice V.aD V.nD V.cD, .slice V.aL V.nL V.cL] 38 :: .dm w0.heap.size { V with aT := a', nT := nx, cT := c' } { R with td := R.td.eraseIdx i } (k + 1) :: l) w') := hide (fun W hW => by
        have q1 := hW.rot3.dopen.1
        refine (without_any i q1.swap HF.out.lT (by rw [← HF.out.lT]; exact hi) (by have := HF.out.bT; have := HF.out.bk; omega) hnx).mono ?_
        rintro r w' ⟨a', c', rfl, q⟩
        refine ⟨a', c', rfl, Its.rot3' (Its.dshut (V := { V with aT := a', nT := nx, cT := c' }) (R := { R with td := R.td.eraseIdx i }) ?_ ⟨HF.out.lS, by rw [hle]; exact hnx, HF.out.lD, HF.out.lL, by have := HF.out.bS; simp only; omega, by have := HF.out.bT; simp only; omega, HF.out.bD, by have := HF.out.bL; simp only; omega, hk⟩)⟩
        rw [hle] at *
        exact q.swap.tail.swap)
      have j0 : ¬ ((i : Int) < 0) := by omega
      clear f1 f2 f3 f4 hi hnx
      generalize { R with td := R.td.eraseIdx i } = R2 at *
      obtain ⟨aS, nS, cS, aT, nT, cT, aD, nD, cD, aL, nL, cL⟩ := V
      dsimp only at *
      go_enter Try.func30, Try.ntmps30
      go_upto_region 1 with fail
      generalize (w.alloc (.cells #[.slice a n c, .slice b m e, .slice aS nS cS, .slice aT nT cT, .slice aD nD cD, .slice aL nL cL] 38)).alloc (.cells #[.slice none 0 0, .slice none 0 0, .slice none 0 0, .slice none 0 0, .slice none 0 0, .slice none 0 0] 38) = W1 at *
      obtain ⟨e0, e1, e2, e3, e4, e5, ef⟩ := Its.cells6 I1.out; obtain ⟨c0, c1, c2, c3, c4, c5, cf⟩ := Its.cells6 I1.out.tail
      go_upto_region 7 with (first
        | (go_at_call 53; refine (KW.out _ I3.out).mono ?_; rintro e1 W4 ⟨a', c', rfl, q⟩; have I4 := hide q; clear q; obtain ⟨ue0, ue1, ue2, ue3, ue4, ue5, uef⟩ := Its.cells6 I4.out; obtain ⟨uc0, uc1, uc2, uc3, uc4, uc5, ucf⟩ := Its.cells6 I4.out.tail)
        | (go_at_call 39; refine (KF.out _ I2.out.three).mono ?_; rintro e1 W3 ⟨rfl, q⟩; have I3 := hide (I2.out.keep q); clear q; obtain ⟨te0, te1, te2, te3, te4, te5, tef⟩ := Its.cells6 I3.out; obtain ⟨tc0, tc1, tc2, tc3, tc4, tc5, tcf⟩ := Its.cells6 I3.out.tail)
        | (go_at_call 51; refine (KO.out _).mono ?_; rintro e1 W2 ⟨rfl, q⟩; have I2 := hide (I1.out.keep q); clear q; obtain ⟨se0, se1, se2, se3, se4, se5, sef⟩ := Its.cells6 I2.out; obtain ⟨sc0, sc1, sc2, sc3, sc4, sc5, scf⟩ := Its.cells6 I2.out.tail))
      have I5 : Hid (Its w0 (.box (w.heap.size + 1) #[.slice none 0 0, .slice none 0 0, .slice none 0 0, .slice none 0 0, .slice none 0 0, .slice none 0 0] 38 :: .box w.heap.size #[.slice a n c, .slice b m e, .slice aS nS cS, .slice a' nx c', .slice aD nD cD, .slice aL nL cL] 38 :: .dm w0.heap.size ⟨aS, nS, cS, a', nx, c', aD, nD, cD, aL, nL, cL⟩ R2 (k + 1) :: l) (W4.setCell ⟨w.heap.size, 3, none⟩ (.slice a' nx c'))) := hide (I4.out.swap.put1 3 (.slice a' nx c')).swap
      generalize W4.setCell ⟨w.heap.size, 3, none⟩ (.slice a' nx c') = W5 at *
      obtain ⟨ve0, ve1, ve2, ve3, ve4, ve5, vef⟩ := Its.cells6 I5.out; obtain ⟨vc0, vc1, vc2, vc3, vc4, vc5, vcf⟩ := Its.cells6 I5.out.tail
      have HIe := hide (Its.out6 I5.out (.slice a n c) (.slice b m e) (.slice aS nS cS) (.slice a' nx c') (.slice aD nD cD) (.slice aL nL cL))
      go_wp2_with fail
      obtain ⟨y0, y1, y2, y3, y4, y5, _⟩ := Its.cells6 HIe.out
      exact bodyPost_ret (v := .tuple #[.agg #[.slice a n c, .slice b m e, .slice aS nS cS, .slice a' nx c', .slice aD nD cD, .slice aL nL cL], .int .i64 0]) (by simp [results, Try.results30, go_sem, y0, y1, y2, y3, y4, y5]) rfl (RP.mk (V := ⟨aS, nS, cS, a', nx, c', aD, nD, cD, aL, nL, cL⟩) rfl HIe.out.tail.tail)

    · rw [f2, if_pos (by omega)]
      rw [f2] at KF
      clear f1 f2
      obtain ⟨aS, nS, cS, aT, nT, cT, aD, nD, cD, aL, nL, cL⟩ := V
      dsimp only at *
      go_enter Try.func30, Try.ntmps30
      go_upto_region 1 with fail
      generalize (w.alloc (.cells #[.slice a n c, .slice b m e, .slice aS nS cS, .slice aT nT cT, .slice aD nD cD, .slice aL nL cL] 38)).alloc (.cells #[.slice none 0 0, .slice none 0 0, .slice none 0 0, .slice none 0 0, .slice none 0 0, .slice none 0 0] 38) = W1 at *
      obtain ⟨e0, e1, e2, e3, e4, e5, ef⟩ := Its.cells6 I1.out; obtain ⟨c0, c1, c2, c3, c4, c5, cf⟩ := Its.cells6 I1.out.tail
      go_upto_region 5 with (first
        | (go_at_call 39; refine (KF.out _ I2.out.three).mono ?_; rintro e1 W3 ⟨rfl, q⟩; have I3 := hide (I2.out.keep q); clear q; obtain ⟨te0, te1, te2, te3, te4, te5, tef⟩ := Its.cells6 I3.out; obtain ⟨tc0, tc1, tc2, tc3, tc4, tc5, tcf⟩ := Its.cells6 I3.out.tail)
        | (go_at_call 51; refine (KO.out _).mono ?_; rintro e1 W2 ⟨rfl, q⟩; have I2 := hide (I1.out.keep q); clear q; obtain ⟨se0, se1, se2, se3, se4, se5, sef⟩ := Its.cells6 I2.out; obtain ⟨sc0, sc1, sc2, sc3, sc4, sc5, scf⟩ := Its.cells6 I2.out.tail))
      have HIe := hide (Its.out6 I3.out (.slice a n c) (.slice b m e) (.slice aS nS cS) (.slice aT nT cT) (.slice aD nD cD) (.slice aL nL cL))
      go_wp2_with fail
      obtain ⟨y0, y1, y2, y3, y4, y5, _⟩ := Its.cells6 HIe.out
      exact bodyPost_ret (v := .tuple #[.agg #[.slice a n c, .slice b m e, .slice aS nS cS, .slice aT nT cT, .slice aD nD cD, .slice aL nL cL], .int .i64 4]) (by simp [results, Try.results30, go_sem, y0, y1, y2, y3, y4, y5]) rfl (RP.mk (V := ⟨aS, nS, cS, aT, nT, cT, aD, nD, cD, aL, nL, cL⟩) rfl (HS.out _ HIe.out))

end
end Go.Proofs.Ytlnnpdghcilioaa
