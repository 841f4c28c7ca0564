/- The document's Moved. -/
import Derived.Test.YtlnnpdghcilioaaRmf
import Derived.BigRegion
namespace Go.Proofs.Ytlnnpdghcilioaa
open Go.RowKit
set_option linter.unusedVariables false
/-- the spots, as many as were gone through -/
def mvP (sp : List (Int × Int)) (t x : Int) (j : Nat) : List (Int × Int) := (sp.take j).map (Rm.mvS t x) ++ sp.drop j
theorem mvP_zero (sp : List (Int × Int)) (t x : Int) : mvP sp t x 0 = sp := by simp [mvP]
theorem mvP_end (sp : List (Int × Int)) (t x : Int) {n : Nat} (h : sp.length = n) : mvP sp t x n = sp.map (Rm.mvS t x) := by simp [mvP, ← h]
theorem mvP_len (sp : List (Int × Int)) (t x : Int) (j : Nat) : (mvP sp t x j).length = sp.length := by simp [mvP]; omega
theorem mvP_at (sp : List (Int × Int)) (t x : Int) {j : Nat} {p : Int × Int} (h : sp[j]? = some p) : (mvP sp t x j)[j]? = some p := by
  have hj := idx_lt h
  have hl : ((sp.take j).map (Rm.mvS t x)).length = j := by rw [List.length_map, List.length_take]; omega
  unfold mvP
  rw [List.getElem?_append_right (by omega), hl, Nat.sub_self, List.getElem?_drop, Nat.add_zero, h]
theorem mvP_set (sp : List (Int × Int)) (t x : Int) {j : Nat} {p : Int × Int} (h : sp[j]? = some p) : (mvP sp t x j).set j (Rm.mvS t x p) = mvP sp t x (j + 1) := by
  have hj := idx_lt h
  have hl : ((sp.take j).map (Rm.mvS t x)).length = j := by rw [List.length_map, List.length_take]; omega
  unfold mvP
  have hd : sp.drop j = p :: sp.drop (j + 1) := by
    rw [List.drop_eq_getElem_cons hj]
    congr 1
    have := List.getElem?_eq_getElem hj
    rw [h] at this
    exact (Option.some.inj this).symm
  rw [take_one h, List.map_append, List.set_append_right _ _ (by omega), hl, Nat.sub_self, hd, List.set_cons_zero, List.append_assoc]
  rfl
section
variable {w0 w : World} {l : List It} {k : Nat} {V : Vm} {R : Rm} {a b : Option Addr} {c e n m : Nat} {ns : List Nd} {es : List Ed}
set_option maxRecDepth 100000 in
set_option maxHeartbeats 4000000 in
theorem rmovedS (h : Its w0 (.dm w0.heap.size V R k :: l) w) (L0 : Lyt w0 a b c e n m ns es) (hm : m ≤ 120) (hk : k + 1 ≤ 1000) (d t : Int) : Calls Try.prog 34 #[.agg #[.slice a n c, .slice b m e, .slice V.aS V.nS V.cS, .slice V.aT V.nT V.cT, .slice V.aD V.nD V.cD, .slice V.aL V.nL V.cL], .int .i64 d, .int .i64 t] w fun r w' => RP w0 l a b c e n m (k + 1) (R.mov n es d t) r w' := by
  have L := L0.keep h.bel
  have I1 := hide (h.two6 (a := a) (b := b) (c := c) (e := e) (n := n) (m := m))
  have KO : Hid (∀ W : World, Calls Try.prog 51 #[.agg #[.slice a n c, .slice b m e, .slice V.aS V.nS V.cS, .slice V.aT V.nT V.cT, .slice V.aD V.nD V.cD, .slice V.aL V.nL V.cL], .int .i64 t, .int .i64 0, .int .i64 d] W fun e w' => e = .returned (.bool (Rm.out n m t 0 d)) ∧ Below W.heap.size W w') := hide (fun W => outside_any W V t 0 d)
  have KF : Hid (∀ W : World, (It.dm w0.heap.size V R k).P W → Calls Try.prog 39 #[.agg #[.slice a n c, .slice b m e, .slice V.aS V.nS V.cS, .slice V.aT V.nT V.cT, .slice V.aD V.nD V.cD, .slice V.aL V.nL V.cL], .int .i64 d] W fun e w' => e = .returned (.int .i64 (R.fnd d)) ∧ Below W.heap.size W w') := hide (fun W hW => rfnd_any hW d)
  have HF := hide (dm_f h.one)
  have HB1 : Hid (Below w.heap.size w ((w.alloc (.cells #[.slice a n c, .slice b m e, .slice V.aS V.nS V.cS, .slice V.aT V.nT V.cT, .slice V.aD V.nD V.cD, .slice V.aL V.nL V.cL] 38)).alloc (.cells #[.slice none 0 0, .slice none 0 0, .slice none 0 0, .slice none 0 0, .slice none 0 0, .slice none 0 0] 38))) := hide (((Below.refl _ _).alloc (Nat.le_refl _) _).alloc (below_new _ _).size _)
  have HS : Hid (∀ W, Its w0 (.box (w.heap.size + 1) #[.slice a n c, .slice b m e, .slice V.aS V.nS V.cS, .slice V.aT V.nT V.cT, .slice V.aD V.nD V.cD, .slice V.aL V.nL V.cL] 38 :: .box w.heap.size #[.slice a n c, .slice b m e, .slice V.aS V.nS V.cS, .slice V.aT V.nT V.cT, .slice V.aD V.nD V.cD, .slice V.aL V.nL V.cL] 38 :: .dm w0.heap.size V R k :: l) W → Its w0 (.dm w0.heap.size V R (k + 1) :: l) W) := hide (fun W hW => hW.tail.tail.dmono (by omega) hk)
  have eP : R.mov n es d t = if Rm.out n es.length t 0 d = true then (1, R) else if R.fnd d < 0 then (4, R) else if (R.td.getD (R.fnd d).toNat default).tote ≠ t then (160, R) else (0, { R with td := R.td.eraseIdx (R.fnd d).toNat, sp := R.sp.map (Rm.mvS t (edN es d)) }) := rfl
  rw [eP, L.hm]
  have hfc := fx_cases (isDv d) R.td
  have hfn : R.fnd d = fx (isDv d) R.td := rfl
  rw [← hfn] at hfc
  have hout : Rm.out n m t 0 d = false → 1 ≤ d ∧ d ≤ m := fun q => by
    unfold Rm.out at q
    simp only [Bool.or_eq_false_iff, decide_eq_false_iff_not] at q
    omega
  clear eP hfn
  generalize Rm.out n m t 0 d = ob at *
  cases ob with
  | true =>
    rw [if_pos rfl]
    clear h L L0
    obtain ⟨aS, nS, cS, aT, nT, cT, aD, nD, cD, aL, nL, cL⟩ := V
    dsimp only at *
    go_enter Try.func34, Try.ntmps34
    go_upto_region 1 with fail
    generalize (w.alloc (.cells #[.slice a n c, .slice b m e, .slice aS nS cS, .slice aT nT cT, .slice aD nD cD, .slice aL nL cL] 38)).alloc (.cells #[.slice none 0 0, .slice none 0 0, .slice none 0 0, .slice none 0 0, .slice none 0 0, .slice none 0 0] 38) = W1 at *
    obtain ⟨e0, e1, e2, e3, e4, e5, ef⟩ := Its.cells6 I1.out; obtain ⟨c0, c1, c2, c3, c4, c5, cf⟩ := Its.cells6 I1.out.tail
    go_upto_region 2 with (go_at_call 51; refine (KO.out _).mono ?_; rintro e1 W2 ⟨rfl, q⟩; have I2 := hide (I1.out.keep q); clear q; obtain ⟨se0, se1, se2, se3, se4, se5, sef⟩ := Its.cells6 I2.out; obtain ⟨sc0, sc1, sc2, sc3, sc4, sc5, scf⟩ := Its.cells6 I2.out.tail)
    have HIe := hide (Its.out6 I2.out (.slice a n c) (.slice b m e) (.slice aS nS cS) (.slice aT nT cT) (.slice aD nD cD) (.slice aL nL cL))
    go_wp2_with fail
    obtain ⟨y0, y1, y2, y3, y4, y5, _⟩ := Its.cells6 HIe.out
    exact bodyPost_ret (v := .tuple #[.agg #[.slice a n c, .slice b m e, .slice aS nS cS, .slice aT nT cT, .slice aD nD cD, .slice aL nL cL], .int .i64 1]) (by simp [results, Try.results34, go_sem, y0, y1, y2, y3, y4, y5]) rfl (RP.mk2 (V := ⟨aS, nS, cS, aT, nT, cT, aD, nD, cD, aL, nL, cL⟩) rfl (HS.out _ HIe.out))

  | false =>
    rw [if_neg (by simp)]
    obtain ⟨hd1, hd2⟩ := hout rfl
    clear hout
    rcases hfc with ⟨i, p, f1, f2, f3, f4⟩ | ⟨f1, f2⟩
    · rw [f4, if_neg (by omega), show ((i : Int)).toNat = i by omega]
      rw [f4] at KF
      have hi := idx_lt f1
      have hgp : (R.td.getD i default).tote = p.tote := by rw [List.getD_eq_getElem?_getD, f1]; rfl
      rw [hgp]
      have hiT : i < V.nT := by rw [← HF.out.lT]; exact hi
      have j0 : ¬ ((i : Int) < 0) := by omega
      have j1 : (0 : Int) ≤ (i : Int) := by omega
      have j2 : (i : Int) < (V.nT : Int) := by omega
      have XT : Hid (∀ W, (It.dm w0.heap.size V R k).P W → ∃ bb off, V.aT = some ⟨bb, off, none⟩ ∧ W.cell? ⟨bb, off + i * 3 + 1, none⟩ = some (.int .i64 p.tote)) := hide (fun W hW => by
        obtain ⟨bb, off, q1, q2, q3, q4⟩ := td_at (dm_t hW).rd i p f1
        exact ⟨bb, off, q1, q3⟩)
      obtain ⟨bb, off, hbb, _⟩ := XT.out _ h.one
      have XT2 : Hid (∀ W, (It.dm w0.heap.size V R k).P W → W.cell? ⟨bb, off + i * 3 + 1, none⟩ = some (.int .i64 p.tote)) := hide (fun W hW => by
        obtain ⟨b1, o1, q1, q3⟩ := XT.out W hW
        rw [hbb] at q1
        simp only [Option.some.injEq, Addr.mk.injEq] at q1
        obtain ⟨rfl, rfl, _⟩ := q1
        exact q3)
      clear XT hgp
      by_cases hpt : p.tote = t
      · rw [if_neg (by simpa using hpt)]
        obtain ⟨kd, hkd⟩ : ∃ kd : Nat, d = (kd : Int) + 1 := ⟨(d - 1).toNat, by omega⟩
        obtain ⟨ee, hee⟩ : ∃ ee, es[kd]? = some ee := ⟨_, List.getElem?_eq_getElem (by rw [L.hm]; omega)⟩
        have hed : edN es d = ee.2 := by unfold edN; rw [hkd, show ((kd : Int) + 1 - 1).toNat = kd by omega, hee]; rfl
        rw [hed]
        have XE : Hid (∀ W, Below w0.heap.size w0 W → ∃ be oe, b = some ⟨be, oe, none⟩ ∧ W.cell? ⟨be, oe + kd * 2 + 1, none⟩ = some (.int .i64 ee.2)) := hide (fun W hW => by
          obtain ⟨be, oe, q1, q2, q3⟩ := ed_at (L0.keep hW).hu kd ee hee
          exact ⟨be, oe, q1, q3⟩)
        obtain ⟨be, oe, hbe, _⟩ := XE.out _ (Below.refl _ _)
        have XE2 : Hid (∀ W, Below w0.heap.size w0 W → W.cell? ⟨be, oe + kd * 2 + 1, none⟩ = some (.int .i64 ee.2)) := hide (fun W hW => by
          obtain ⟨b1, o1, q1, q3⟩ := XE.out W hW
          rw [hbe] at q1
          simp only [Option.some.injEq, Addr.mk.injEq] at q1
          obtain ⟨rfl, rfl, _⟩ := q1
          exact q3)
        have hle : R.td.eraseIdx i = R.td.take i ++ R.td.drop (i + 1) := List.eraseIdx_eq_take_drop_succ _ _
        obtain ⟨nx, hnx⟩ : ∃ nx, (R.td.take i ++ R.td.drop (i + 1)).length = nx := ⟨_, rfl⟩
        have hnb : nx ≤ V.nT := by rw [← hnx, ← HF.out.lT]; simp; omega
        have hlS := HF.out.lS
        have KW : Hid (∀ W, Its w0 (.box (w.heap.size + 1) #[.slice none 0 0, .slice none 0 0, .slice none 0 0, .slice none 0 0, .slice none 0 0, .slice none 0 0] 38 :: .box w.heap.size #[.slice a n c, .slice b m e, .slice V.aS V.nS V.cS, .slice V.aT V.nT V.cT, .slice V.aD V.nD V.cD, .slice V.aL V.nL V.cL] 38 :: .dm w0.heap.size V R k :: l) W → Calls Try.prog 53 #[.slice V.aT V.nT V.cT, .int .i64 (i : Int)] W fun r w' => ∃ a' c', r = .returned (.slice a' nx c') ∧ Its w0 (.box (w.heap.size + 1) #[.slice none 0 0, .slice none 0 0, .slice none 0 0, .slice none 0 0, .slice none 0 0, .slice none 0 0] 38 :: .box w.heap.size #[.slice a n c, .slice b m e, .slice V.aS V.nS V.cS, .slice V.aT V.nT V.cT, .slice V.aD V.nD V.cD, .slice V.aL V.nL V.cL] 38 :: .dm w0.heap.size { V with aT := a', nT := nx, cT := c' } { R with td := R.td.eraseIdx i } (k + 1) :: l) w') := hide (fun W hW => by
          have q1 := hW.rot3.dopen.1
          refine (without_any i q1.swap HF.out.lT (by rw [← HF.out.lT]; exact hi) (by have := HF.out.bT; have := HF.out.bk; omega) hnx).mono ?_
          rintro r w' ⟨a', c', rfl, q⟩
          refine ⟨a', c', rfl, Its.rot3' (Its.dshut (V := { V with aT := a', nT := nx, cT := c' }) (R := { R with td := R.td.eraseIdx i }) ?_ ⟨HF.out.lS, by rw [hle]; exact hnx, HF.out.lD, HF.out.lL, by have := HF.out.bS; simp only; omega, by have := HF.out.bT; simp only; omega, HF.out.bD, by have := HF.out.bL; simp only; omega, hk⟩)⟩
          rw [hle] at *
          exact q.swap.tail.swap)
        have HDm : Hid (∀ (W : World) (a' : Option Addr) (c' : Nat) (a4 : Option Addr) (p4 : Nat) (x : It) (y : It), Its w0 (.row spE w0.heap.size (.slice a4 V.nS p4) (R.sp.map (Rm.mvS t ee.2)) :: x :: y :: .dm w0.heap.size { V with aT := a', nT := nx, cT := c' } { R with td := R.td.eraseIdx i } (k + 1) :: l) W → Its w0 (x :: y :: .dm w0.heap.size { V with aT := a', nT := nx, cT := c', aS := a4, cS := p4 } { R with td := R.td.eraseIdx i, sp := R.sp.map (Rm.mvS t ee.2) } (k + 1) :: l) W) := hide (fun W a' c' a4 p4 x y hW => by
          obtain ⟨q, qf⟩ := hW.rot4.dopen
          exact (Its.dshut (V := { V with aT := a', nT := nx, cT := c', aS := a4, cS := p4 }) (R := { R with td := R.td.eraseIdx i, sp := R.sp.map (Rm.mvS t ee.2) }) q.tail.rot4 ⟨by simp [hlS], qf.lT, qf.lD, qf.lL, qf.bS, qf.bT, qf.bD, qf.bL, qf.bk⟩).rot3')
        have HL1 : Hid (([] : List (Int × Int)).length + R.sp.length ≤ 1000000) := hide (by have := HF.out.bS; have := HF.out.bk; simp; omega)
        have HL3 : Hid (([] ++ R.sp).length = V.nS) := hide (by simp [hlS])
        have HlS := hide hlS
        have i5 : (V.nS : Int) ≤ 1000 := by have := HF.out.bS; have := HF.out.bk; omega
        have HRd : Hid (∀ (W : World) (V2 : Vm) (R2 : Rm) (k2 : Nat), (It.dm w0.heap.size V2 R2 k2).P W → spE.Rd W (.slice V2.aS V2.nS V2.cS) R2.sp) := hide (fun W V2 R2 k2 hW => (dm_s hW).rd)
        have r1 : wrap64 ((kd : Int) + 1 - 1) = (kd : Int) := by unfold wrap64; omega
        have r1' : IntKind.i64.wrap ((kd : Int) + 1 - 1) = (kd : Int) := by rw [IntKind.wrap_i64]; omega
        have r4 : IntKind.i64.wrap (kd : Int) = (kd : Int) := by rw [IntKind.wrap_i64]; omega
        have r2 : (kd : Int) < (m : Int) := by omega
        have r3 : (0 : Int) ≤ (kd : Int) := by omega
        subst hkd
        subst hpt
        subst hbe
        have HR1 : Hid (({ R with td := R.td.eraseIdx i } : Rm).sp = R.sp) := hide rfl
        generalize hR1 : ({ R with td := R.td.eraseIdx i } : Rm) = R1 at *
        generalize hR2 : ({ R with td := R.td.eraseIdx i, sp := R.sp.map (Rm.mvS p.tote ee.2) } : Rm) = R2 at *
        obtain ⟨ea, eb⟩ := ee
        dsimp only at *
        clear h L L0 f1 f2 f3 f4 hi XE hle hnx hnb hlS hee hed hR1 hR2
        generalize p.tote = pt at *
        obtain ⟨aS, nS, cS, aT, nT, cT, aD, nD, cD, aL, nL, cL⟩ := V
        dsimp only at *
        subst hbb
        go_enter Try.func34, Try.ntmps34
        go_upto_region 1 with fail
        generalize (w.alloc (.cells #[.slice a n c, .slice (some ⟨be, oe, none⟩) m e, .slice aS nS cS, .slice (some ⟨bb, off, none⟩) nT cT, .slice aD nD cD, .slice aL nL cL] 38)).alloc (.cells #[.slice none 0 0, .slice none 0 0, .slice none 0 0, .slice none 0 0, .slice none 0 0, .slice none 0 0] 38) = W1 at *
        obtain ⟨e0, e1, e2, e3, e4, e5, ef⟩ := Its.cells6 I1.out; obtain ⟨c0, c1, c2, c3, c4, c5, cf⟩ := Its.cells6 I1.out.tail
        go_upto_region 9 with (first
          | (go_at_call 53; refine (KW.out _ I3.out).mono ?_; rintro e1 W4 ⟨a', c', rfl, q⟩; have I4 := hide q; clear q; obtain ⟨ue0, ue1, ue2, ue3, ue4, ue5, uef⟩ := Its.cells6 I4.out; obtain ⟨uc0, uc1, uc2, uc3, uc4, uc5, ucf⟩ := Its.cells6 I4.out.tail)
          | (go_at_call 39; refine (KF.out _ I2.out.three).mono ?_; rintro e1 W3 ⟨rfl, q⟩; have I3 := hide (I2.out.keep q); clear q; obtain ⟨te0, te1, te2, te3, te4, te5, tef⟩ := Its.cells6 I3.out; obtain ⟨tc0, tc1, tc2, tc3, tc4, tc5, tcf⟩ := Its.cells6 I3.out.tail; have xt := XT2.out _ I3.out.three)
          | (go_at_call 51; refine (KO.out _).mono ?_; rintro e1 W2 ⟨rfl, q⟩; have I2 := hide (I1.out.keep q); clear q; obtain ⟨se0, se1, se2, se3, se4, se5, sef⟩ := Its.cells6 I2.out; obtain ⟨sc0, sc1, sc2, sc3, sc4, sc5, scf⟩ := Its.cells6 I2.out.tail))
        have I5 : Hid (Its w0 (.box (w.heap.size + 1) #[.slice none 0 0, .slice none 0 0, .slice none 0 0, .slice none 0 0, .slice none 0 0, .slice none 0 0] 38 :: .box w.heap.size #[.slice a n c, .slice (some ⟨be, oe, none⟩) m e, .slice aS nS cS, .slice a' nx c', .slice aD nD cD, .slice aL nL cL] 38 :: .dm w0.heap.size ⟨aS, nS, cS, a', nx, c', aD, nD, cD, aL, nL, cL⟩ R1 (k + 1) :: l) (W4.setCell ⟨w.heap.size, 3, none⟩ (.slice a' nx c'))) := hide (I4.out.swap.put1 3 (.slice a' nx c')).swap
        generalize W4.setCell ⟨w.heap.size, 3, none⟩ (.slice a' nx c') = W5 at *
        have HX1 : Hid (Its w0 (.row spE w0.heap.size (.slice (some ⟨W5.heap.size, 0, none⟩) 0 0) [] :: .box (w.heap.size + 1) #[.slice none 0 0, .slice none 0 0, .slice none 0 0, .slice none 0 0, .slice none 0 0, .slice none 0 0] 38 :: .box w.heap.size #[.slice a n c, .slice (some ⟨be, oe, none⟩) m e, .slice aS nS cS, .slice a' nx c', .slice aD nD cD, .slice aL nL cL] 38 :: .dm w0.heap.size ⟨aS, nS, cS, a', nx, c', aD, nD, cD, aL, nL, cL⟩ R1 (k + 1) :: l) (W5.alloc (.cells #[] 93))) := hide (I5.out.fresh (El.Own.new spE W5 W5.heap.size (Nat.le_refl _) #[] [] rfl (by simp) W5.heap.size 0 0 rfl rfl rfl) (below_new W5 _))
        have hrd := HRd.out _ _ _ _ HX1.out.four
        rw [HR1.out] at hrd
        have Hrd := hide hrd
        clear hrd
        obtain ⟨xe0, xe1, xe2, xe3, xe4, xe5, xef⟩ := Its.cells6 HX1.out.tail.tail
        go_upto_region 10 with (at_builtin; refine spE.wpB (B := w0.heap.size) HX1.out.size (by rfl) _ _ rfl _ _ rfl rfl [] R.sp HX1.out.one Hrd.out HL1.out ?_; intro v6 W6 ho hg hs; obtain ⟨a4, p4, hf4⟩ := ho.rd.form; rw [HL3.out] at hf4; subst hf4; have HX2 := hide (HX1.out.grow ho hg hs); clear ho hg hs; obtain ⟨we0, we1, we2, we3, we4, we5, wef⟩ := Its.cells6 HX2.out.tail.tail)
        have I7 : Hid (Its w0 (.row spE w0.heap.size (.slice a4 nS p4) (mvP R.sp pt eb 0) :: .box (w.heap.size + 1) #[.slice none 0 0, .slice none 0 0, .slice none 0 0, .slice none 0 0, .slice none 0 0, .slice none 0 0] 38 :: .box w.heap.size #[.slice a n c, .slice (some ⟨be, oe, none⟩) m e, .slice a4 nS p4, .slice a' nx c', .slice aD nD cD, .slice aL nL cL] 38 :: .dm w0.heap.size ⟨aS, nS, cS, a', nx, c', aD, nD, cD, aL, nL, cL⟩ R1 (k + 1) :: l) (W6.setCell ⟨w.heap.size, 2, none⟩ (.slice a4 nS p4))) := hide (by rw [mvP_zero]; exact (HX2.out.rot3.put1 2 (.slice a4 nS p4)).rot3')
        generalize W6.setCell ⟨w.heap.size, 2, none⟩ (.slice a4 nS p4) = W7 at *
        obtain ⟨ye0, ye1, ye2, ye3, ye4, ye5, yef⟩ := Its.cells6 I7.out.tail.tail
        clear I1 I2 I3 I4 I5 HX1 HX2 Hrd KO KF KW XT2 HS HB1
        go_wp2_with fail
        go_loopw [43] (fun v43 wr => ∃ j : Nat, v43 = .int .i64 j ∧ j ≤ nS ∧ Hid (Its w0 (.row spE w0.heap.size (.slice a4 nS p4) (mvP R.sp pt eb j) :: .box (w.heap.size + 1) #[.slice none 0 0, .slice none 0 0, .slice none 0 0, .slice none 0 0, .slice none 0 0, .slice none 0 0] 38 :: .box w.heap.size #[.slice a n c, .slice (some ⟨be, oe, none⟩) m e, .slice a4 nS p4, .slice a' nx c', .slice aD nD cD, .slice aL nL cL] 38 :: .dm w0.heap.size ⟨aS, nS, cS, a', nx, c', aD, nD, cD, aL, nL, cL⟩ R1 (k + 1) :: l) wr)) (fun v43 _ => nS - (intOf v43).toNat)
        case atStart => exact ⟨0, rfl, Nat.zero_le _, I7⟩
        case round =>
          obtain ⟨j, rfl, hj, HR⟩ := hrel
          by_cases hjn : j < nS
          case pos =>
            obtain ⟨q, hq⟩ : ∃ q, R.sp[j]? = some q := ⟨_, List.getElem?_eq_getElem (by rw [HlS.out]; exact hjn)⟩
            have hat := mvP_at R.sp pt eb hq
            have hset := mvP_set R.sp pt eb hq
            have o1 : spE.Own wr w0.heap.size (.slice a4 nS p4) (mvP R.sp pt eb j) := HR.out.one
            obtain ⟨g4, q4, hv4, _⟩ := El.Own.some o1 (fun z => by rw [z] at hat; cases hat)
            simp only [Value.slice.injEq] at hv4
            obtain ⟨rfl, hl4, hp4⟩ := hv4
            have hllen : j * 2 + 1 < (mvP R.sp pt eb j).length * 2 := by rw [mvP_len, HlS.out]; omega
            have fz := (El.Own.cell o1 (j * 2 + 1) hllen).2.1
            obtain ⟨b1, off1, hb1, d0, d1⟩ := sp_at o1.rd j q hat
            simp only [Option.some.injEq, Addr.mk.injEq, and_true] at hb1
            obtain ⟨rfl, rfl⟩ := hb1
            simp only [Nat.zero_add] at d0 d1
            obtain ⟨ze0, ze1, ze2, ze3, ze4, ze5, zef⟩ := Its.cells6 HR.out.tail.tail
            have xe := XE2.out _ HR.out.bel
            have k1 : (0 : Int) ≤ (j : Int) := by omega
            have k2 : (j : Int) < (nS : Int) := by omega
            by_cases hqt : q.1 = pt
            · have hmv : Rm.mvS pt eb q = (q.1, eb) := by unfold Rm.mvS; rw [if_pos hqt]
              rw [hmv] at hset
              have HN : Hid (Its w0 (.row spE w0.heap.size (.slice (some ⟨g4, 0, none⟩) nS p4) (mvP R.sp pt eb (j + 1)) :: .box (w.heap.size + 1) #[.slice none 0 0, .slice none 0 0, .slice none 0 0, .slice none 0 0, .slice none 0 0, .slice none 0 0] 38 :: .box w.heap.size #[.slice a n c, .slice (some ⟨be, oe, none⟩) m e, .slice (some ⟨g4, 0, none⟩) nS p4, .slice a' nx c', .slice aD nD cD, .slice aL nL cL] 38 :: .dm w0.heap.size ⟨aS, nS, cS, a', nx, c', aD, nD, cD, aL, nL, cL⟩ R1 (k + 1) :: l) (wr.setCell ⟨g4, j * 2 + 1, none⟩ (.int .i64 eb)).drew) := hide (by
                have := HR.out.chg (x' := .row spE w0.heap.size (.slice (some ⟨g4, 0, none⟩) nS p4) ((mvP R.sp pt eb j).set j (q.1, eb))) (own_setC (E := spE) o1 (i := j) (j := 1) (u := .int .i64 eb) hat (by decide) rfl) (fun _ hk => .inl hk) ((Frm.set wr g4 (j * 2 + 1) (.int .i64 eb)).mono (fun z _ hz => by subst hz; rfl))
                rw [hset] at this
                exact this.drew 1)
              have hqb : (q.1 == pt) = true := by rw [hqt]; simp
              have HQ := hide hqt
              obtain ⟨qa, qb⟩ := q
              dsimp only at *
              clear hq hat hset o1 hl4 hp4 hllen hmv hqt
              go_upto_region 14 with fail
              go_region
              generalize (wr.setCell ⟨g4, j * 2 + 1, none⟩ (.int .i64 eb)).drew = wq at *
              go_wp2_with fail
              go_roundw
              case rel => exact ⟨j + 1, by go_num, by omega, HN⟩
              case measure => simp [intOf]; omega
            · have hmv : Rm.mvS pt eb q = q := by unfold Rm.mvS; rw [if_neg hqt]
              rw [hmv, set_same hat] at hset
              have Hset := hide hset
              have hqb : (q.1 == pt) = false := beq_eq_false_iff_ne.2 hqt
              obtain ⟨qa, qb⟩ := q
              dsimp only at *
              clear hq hat hset o1 hl4 hp4 hllen hmv
              go_wp2_with fail
              go_roundw
              case rel => exact ⟨j + 1, by go_num, by omega, hide (by rw [← Hset.out]; exact HR.out)⟩
              case measure => simp [intOf]; omega
          case neg =>
            have hjn2 : j = nS := by omega
            have k2 : ¬ (j : Int) < (nS : Int) := by omega
            rw [hjn2, mvP_end R.sp pt eb HlS.out] at HR
            clear hjn2
            have I9 := hide (HDm.out _ a' c' a4 p4 _ _ HR.out)
            obtain ⟨ze0, ze1, ze2, ze3, ze4, ze5, zef⟩ := Its.cells6 I9.out; obtain ⟨zc0, zc1, zc2, zc3, zc4, zc5, zcf⟩ := Its.cells6 I9.out.tail
            go_upto_region 16 with fail
            have HIe := hide (Its.out6 I9.out (.slice a n c) (.slice (some ⟨be, oe, none⟩) m e) (.slice a4 nS p4) (.slice a' nx c') (.slice aD nD cD) (.slice aL nL cL))
            go_wp2_with fail
            obtain ⟨y0, y1, y2, y3, y4, y5, _⟩ := Its.cells6 HIe.out
            exact bodyPost_ret (v := .tuple #[.agg #[.slice a n c, .slice (some ⟨be, oe, none⟩) m e, .slice a4 nS p4, .slice a' nx c', .slice aD nD cD, .slice aL nL cL], .int .i64 0]) (by simp [results, Try.results34, go_sem, y0, y1, y2, y3, y4, y5]) rfl (RP.mk2 (V := ⟨a4, nS, p4, a', nx, c', aD, nD, cD, aL, nL, cL⟩) rfl HIe.out.tail.tail)

      · rw [if_pos hpt]
        have hpb : (p.tote == t) = false := beq_eq_false_iff_ne.2 hpt
        clear h L L0 f1 f2 f3 f4 hi
        generalize p.tote = pt at *
        obtain ⟨aS, nS, cS, aT, nT, cT, aD, nD, cD, aL, nL, cL⟩ := V
        dsimp only at *
        subst hbb
        go_enter Try.func34, Try.ntmps34
        go_upto_region 1 with fail
        generalize (w.alloc (.cells #[.slice a n c, .slice b m e, .slice aS nS cS, .slice (some ⟨bb, off, none⟩) nT cT, .slice aD nD cD, .slice aL nL cL] 38)).alloc (.cells #[.slice none 0 0, .slice none 0 0, .slice none 0 0, .slice none 0 0, .slice none 0 0, .slice none 0 0] 38) = W1 at *
        obtain ⟨e0, e1, e2, e3, e4, e5, ef⟩ := Its.cells6 I1.out; obtain ⟨c0, c1, c2, c3, c4, c5, cf⟩ := Its.cells6 I1.out.tail
        go_upto_region 7 with (first
          | (go_at_call 39; refine (KF.out _ I2.out.three).mono ?_; rintro e1 W3 ⟨rfl, q⟩; have I3 := hide (I2.out.keep q); clear q; obtain ⟨te0, te1, te2, te3, te4, te5, tef⟩ := Its.cells6 I3.out; obtain ⟨tc0, tc1, tc2, tc3, tc4, tc5, tcf⟩ := Its.cells6 I3.out.tail; have xt := XT2.out _ I3.out.three)
          | (go_at_call 51; refine (KO.out _).mono ?_; rintro e1 W2 ⟨rfl, q⟩; have I2 := hide (I1.out.keep q); clear q; obtain ⟨se0, se1, se2, se3, se4, se5, sef⟩ := Its.cells6 I2.out; obtain ⟨sc0, sc1, sc2, sc3, sc4, sc5, scf⟩ := Its.cells6 I2.out.tail))
        have HIe := hide (Its.out6 I3.out (.slice a n c) (.slice b m e) (.slice aS nS cS) (.slice (some ⟨bb, off, none⟩) nT cT) (.slice aD nD cD) (.slice aL nL cL))
        go_wp2_with fail
        obtain ⟨y0, y1, y2, y3, y4, y5, _⟩ := Its.cells6 HIe.out
        exact bodyPost_ret (v := .tuple #[.agg #[.slice a n c, .slice b m e, .slice aS nS cS, .slice (some ⟨bb, off, none⟩) nT cT, .slice aD nD cD, .slice aL nL cL], .int .i64 160]) (by simp [results, Try.results34, go_sem, y0, y1, y2, y3, y4, y5]) rfl (RP.mk2 (V := ⟨aS, nS, cS, some ⟨bb, off, none⟩, nT, cT, aD, nD, cD, aL, nL, cL⟩) rfl (HS.out _ HIe.out))

    · rw [f2, if_pos (by omega)]
      rw [f2] at KF
      clear f1 f2 h L L0
      obtain ⟨aS, nS, cS, aT, nT, cT, aD, nD, cD, aL, nL, cL⟩ := V
      dsimp only at *
      go_enter Try.func34, Try.ntmps34
      go_upto_region 1 with fail
      generalize (w.alloc (.cells #[.slice a n c, .slice b m e, .slice aS nS cS, .slice aT nT cT, .slice aD nD cD, .slice aL nL cL] 38)).alloc (.cells #[.slice none 0 0, .slice none 0 0, .slice none 0 0, .slice none 0 0, .slice none 0 0, .slice none 0 0] 38) = W1 at *
      obtain ⟨e0, e1, e2, e3, e4, e5, ef⟩ := Its.cells6 I1.out; obtain ⟨c0, c1, c2, c3, c4, c5, cf⟩ := Its.cells6 I1.out.tail
      go_upto_region 5 with (first
        | (go_at_call 39; refine (KF.out _ I2.out.three).mono ?_; rintro e1 W3 ⟨rfl, q⟩; have I3 := hide (I2.out.keep q); clear q; obtain ⟨te0, te1, te2, te3, te4, te5, tef⟩ := Its.cells6 I3.out; obtain ⟨tc0, tc1, tc2, tc3, tc4, tc5, tcf⟩ := Its.cells6 I3.out.tail)
        | (go_at_call 51; refine (KO.out _).mono ?_; rintro e1 W2 ⟨rfl, q⟩; have I2 := hide (I1.out.keep q); clear q; obtain ⟨se0, se1, se2, se3, se4, se5, sef⟩ := Its.cells6 I2.out; obtain ⟨sc0, sc1, sc2, sc3, sc4, sc5, scf⟩ := Its.cells6 I2.out.tail))
      have HIe := hide (Its.out6 I3.out (.slice a n c) (.slice b m e) (.slice aS nS cS) (.slice aT nT cT) (.slice aD nD cD) (.slice aL nL cL))
      go_wp2_with fail
      obtain ⟨y0, y1, y2, y3, y4, y5, _⟩ := Its.cells6 HIe.out
      exact bodyPost_ret (v := .tuple #[.agg #[.slice a n c, .slice b m e, .slice aS nS cS, .slice aT nT cT, .slice aD nD cD, .slice aL nL cL], .int .i64 4]) (by simp [results, Try.results34, go_sem, y0, y1, y2, y3, y4, y5]) rfl (RP.mk2 (V := ⟨aS, nS, cS, aT, nT, cT, aD, nD, cD, aL, nL, cL⟩) rfl (HS.out _ HIe.out))

end
end Go.Proofs.Ytlnnpdghcilioaa
