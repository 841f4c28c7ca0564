/- The document's Send. -/
import Derived.Test.YtlnnpdghcilioaaRmg
import Derived.Deep.RegionWith
namespace Go.Proofs.Ytlnnpdghcilioaa
open Go.RowKit
set_option linter.unusedVariables false
theorem td_new (w : World) (p : Td) (g : Nat) (hg : g = w.heap.size) : tdE.Rd (w.alloc (.cells #[.int .i64 p.dev, .int .i64 p.tote, .int .i64 p.seq] 79)) (.slice (some ⟨g, 0, none⟩) 1 1) [p] :=
  (El.Own.new tdE w w.heap.size (Nat.le_refl _) _ [p] rfl (by simp) _ _ _ hg rfl rfl).rd
def laP (la : List Td) (x : Td) (j : Nat) : List Td := x :: (la.take j).filter (fun y => decide (y.dev ≠ x.dev))
theorem laP_succ {la : List Td} (x : Td) {j : Nat} {p : Td} (h : la[j]? = some p) : laP la x (j + 1) = laP la x j ++ (if p.dev = x.dev then [] else [p]) := by
  unfold laP
  rw [take_one h, List.filter_append, List.cons_append]
  congr 2
  by_cases q : p.dev = x.dev <;> simp [q]
theorem laP_len (la : List Td) (x : Td) (j : Nat) : (laP la x j).length ≤ la.length + 1 := by
  unfold laP
  have := List.length_filter_le (fun y : Td => decide (y.dev ≠ x.dev)) (la.take j)
  rw [List.length_take] at this
  simp only [List.length_cons]; omega
section
variable {w0 w : World} {l : List It} {k : Nat} {V : Vm} {R : Rm} {a b : Option Addr} {c e n m : Nat} {ns : List Nd} {es : List Ed}
set_option maxRecDepth 100000 in
set_option maxHeartbeats 8000000 in
theorem rsendS (h : Its w0 (.dm w0.heap.size V R k :: l) w) (L0 : Lyt w0 a b c e n m ns es) (hT : ∀ y ∈ R.td, 1 ≤ y.dev ∧ y.dev ≤ m) (hm : m ≤ 120) (hk : k + 1 ≤ 1000) (d t q : Int) : Calls Try.prog 29 #[.agg #[.slice a n c, .slice b m e, .slice V.aS V.nS V.cS, .slice V.aT V.nT V.cT, .slice V.aD V.nD V.cD, .slice V.aL V.nL V.cL], .int .i64 d, .int .i64 t, .int .i64 q] w fun r w' => RP w0 l a b c e n m (k + 1) (R.snd n es d t q) r w' := by
  have I1 := hide (h.two6 (a := a) (b := b) (c := c) (e := e) (n := n) (m := m))
  have KO : Hid (∀ W : World, Calls Try.prog 51 #[.agg #[.slice a n c, .slice b m e, .slice V.aS V.nS V.cS, .slice V.aT V.nT V.cT, .slice V.aD V.nD V.cD, .slice V.aL V.nL V.cL], .int .i64 t, .int .i64 0, .int .i64 d] W fun e w' => e = .returned (.bool (Rm.out n m t 0 d)) ∧ Below W.heap.size W w') := hide (fun W => outside_any W V t 0 d)
  have KD : Hid (∀ W : World, (It.dm w0.heap.size V R k).P W → Calls Try.prog 52 #[.agg #[.slice a n c, .slice b m e, .slice V.aS V.nS V.cS, .slice V.aT V.nT V.cT, .slice V.aD V.nD V.cD, .slice V.aL V.nL V.cL], .int .i64 d] W fun e w' => e = .returned (.bool (R.isDn d)) ∧ Below W.heap.size W w') := hide (fun W hW => rdown_any hW d)
  have KF : Hid (∀ W : World, (It.dm w0.heap.size V R k).P W → Calls Try.prog 39 #[.agg #[.slice a n c, .slice b m e, .slice V.aS V.nS V.cS, .slice V.aT V.nT V.cT, .slice V.aD V.nD V.cD, .slice V.aL V.nL V.cL], .int .i64 d] W fun e w' => e = .returned (.int .i64 (R.fnd d)) ∧ Below W.heap.size W w') := hide (fun W hW => rfnd_any hW d)
  have KW : Hid (∀ W : World, (It.dm w0.heap.size V R k).P W → Calls Try.prog 36 #[.agg #[.slice a n c, .slice b m e, .slice V.aS V.nS V.cS, .slice V.aT V.nT V.cT, .slice V.aD V.nD V.cD, .slice V.aL V.nL V.cL], .int .i64 t] W fun e w' => e = .returned (.int .i64 (R.whr t)) ∧ Below W.heap.size W w') := hide (fun W hW => rwhere_any hW t)
  have KT : Hid (∀ (W : World) (x : Int), Below w0.heap.size w0 W → (It.dm w0.heap.size V R k).P W → Calls Try.prog 38 #[.agg #[.slice a n c, .slice b m e, .slice V.aS V.nS V.cS, .slice V.aT V.nT V.cT, .slice V.aD V.nD V.cD, .slice V.aL V.nL V.cL], .int .i64 x] W fun e w' => e = .returned (.bool (R.tak es x)) ∧ Below W.heap.size W w') := hide (fun W x hb hW => rtaken_any hW (L0.keep hb) hT (by omega) x)
  have HF := hide (dm_f h.one)
  have HS : Hid (∀ W, Its w0 (.box (w.heap.size + 1) #[.slice a n c, .slice b m e, .slice V.aS V.nS V.cS, .slice V.aT V.nT V.cT, .slice V.aD V.nD V.cD, .slice V.aL V.nL V.cL] 38 :: .box w.heap.size #[.slice a n c, .slice b m e, .slice V.aS V.nS V.cS, .slice V.aT V.nT V.cT, .slice V.aD V.nD V.cD, .slice V.aL V.nL V.cL] 38 :: .dm w0.heap.size V R k :: l) W → Its w0 (.dm w0.heap.size V R (k + 1) :: l) W) := hide (fun W hW => hW.tail.tail.dmono (by omega) hk)
  have eP : R.snd n es d t q = if (Rm.out n es.length t 0 d || decide (q < 0) || decide (65535 < q)) = true then (1, R) else if (R.isDn d || decide (0 ≤ R.fnd d)) = true then (140, R) else if R.whr t ≠ edF es d then (160, R) else if R.td.any (hasTo t) = true then (160, R) else if R.tak es (edN es d) = true then (100, R) else (0, { R with td := R.td ++ [⟨d, t, q⟩], la := ⟨d, t, q⟩ :: R.la.filter (fun x => decide (x.dev ≠ d)) }) := rfl
  obtain ⟨P, hP⟩ : ∃ P, R.snd n es d t q = P := ⟨_, rfl⟩
  rw [hP]
  rw [eP, L0.hm] at hP
  have hout : Rm.out n m t 0 d = false → 1 ≤ d ∧ d ≤ m := fun z => by
    unfold Rm.out at z
    simp only [Bool.or_eq_false_iff, decide_eq_false_iff_not] at z
    omega
  clear eP
  generalize Rm.out n m t 0 d = ob at *
  cases ob with
  | true =>
    have HPP : Hid (P = (1, R)) := hide (by rw [← hP]; simp)
    clear h L0 hP
    obtain ⟨aS, nS, cS, aT, nT, cT, aD, nD, cD, aL, nL, cL⟩ := V
    dsimp only at *
    go_enter Try.func29, Try.ntmps29
    go_upto_region 1 with fail
    generalize (w.alloc (.cells #[.slice a n c, .slice b m e, .slice aS nS cS, .slice aT nT cT, .slice aD nD cD, .slice aL nL cL] 38)).alloc (.cells #[.slice none 0 0, .slice none 0 0, .slice none 0 0, .slice none 0 0, .slice none 0 0, .slice none 0 0] 38) = W1 at *
    obtain ⟨e0, e1, e2, e3, e4, e5, ef⟩ := Its.cells6 I1.out; obtain ⟨c0, c1, c2, c3, c4, c5, cf⟩ := Its.cells6 I1.out.tail
    go_upto_region 2 with (go_at_call 51; refine (KO.out _).mono ?_; rintro e1 W2 ⟨rfl, q⟩; have I2 := hide (I1.out.keep q); clear q; obtain ⟨se0, se1, se2, se3, se4, se5, sef⟩ := Its.cells6 I2.out; obtain ⟨sc0, sc1, sc2, sc3, sc4, sc5, scf⟩ := Its.cells6 I2.out.tail)
    have HIe := hide (Its.out6 I2.out (.slice a n c) (.slice b m e) (.slice aS nS cS) (.slice aT nT cT) (.slice aD nD cD) (.slice aL nL cL))
    go_wp2_with fail
    obtain ⟨y0, y1, y2, y3, y4, y5, _⟩ := Its.cells6 HIe.out
    exact bodyPost_ret (v := .tuple #[.agg #[.slice a n c, .slice b m e, .slice aS nS cS, .slice aT nT cT, .slice aD nD cD, .slice aL nL cL], .int .i64 1]) (by simp [results, Try.results29, go_sem, y0, y1, y2, y3, y4, y5]) rfl (RP.mk2 (V := ⟨aS, nS, cS, aT, nT, cT, aD, nD, cD, aL, nL, cL⟩) HPP.out (HS.out _ HIe.out))

  | false =>
  obtain ⟨hd1, hd2⟩ := hout rfl
  clear hout
  by_cases hq0 : q < 0
  · have HPP : Hid (P = (1, R)) := hide (by rw [← hP]; simp [hq0])
    clear h L0 hP
    obtain ⟨aS, nS, cS, aT, nT, cT, aD, nD, cD, aL, nL, cL⟩ := V
    dsimp only at *
    go_enter Try.func29, Try.ntmps29
    go_upto_region 1 with fail
    generalize (w.alloc (.cells #[.slice a n c, .slice b m e, .slice aS nS cS, .slice aT nT cT, .slice aD nD cD, .slice aL nL cL] 38)).alloc (.cells #[.slice none 0 0, .slice none 0 0, .slice none 0 0, .slice none 0 0, .slice none 0 0, .slice none 0 0] 38) = W1 at *
    obtain ⟨e0, e1, e2, e3, e4, e5, ef⟩ := Its.cells6 I1.out; obtain ⟨c0, c1, c2, c3, c4, c5, cf⟩ := Its.cells6 I1.out.tail
    go_upto_region 2 with (go_at_call 51; refine (KO.out _).mono ?_; rintro e1 W2 ⟨rfl, q⟩; have I2 := hide (I1.out.keep q); clear q; obtain ⟨se0, se1, se2, se3, se4, se5, sef⟩ := Its.cells6 I2.out; obtain ⟨sc0, sc1, sc2, sc3, sc4, sc5, scf⟩ := Its.cells6 I2.out.tail)
    have HIe := hide (Its.out6 I2.out (.slice a n c) (.slice b m e) (.slice aS nS cS) (.slice aT nT cT) (.slice aD nD cD) (.slice aL nL cL))
    go_wp2_with fail
    obtain ⟨y0, y1, y2, y3, y4, y5, _⟩ := Its.cells6 HIe.out
    exact bodyPost_ret (v := .tuple #[.agg #[.slice a n c, .slice b m e, .slice aS nS cS, .slice aT nT cT, .slice aD nD cD, .slice aL nL cL], .int .i64 1]) (by simp [results, Try.results29, go_sem, y0, y1, y2, y3, y4, y5]) rfl (RP.mk2 (V := ⟨aS, nS, cS, aT, nT, cT, aD, nD, cD, aL, nL, cL⟩) HPP.out (HS.out _ HIe.out))

  by_cases hq1 : 65535 < q
  · have HPP : Hid (P = (1, R)) := hide (by rw [← hP]; simp [hq1])
    clear h L0 hP
    obtain ⟨aS, nS, cS, aT, nT, cT, aD, nD, cD, aL, nL, cL⟩ := V
    dsimp only at *
    go_enter Try.func29, Try.ntmps29
    go_upto_region 1 with fail
    generalize (w.alloc (.cells #[.slice a n c, .slice b m e, .slice aS nS cS, .slice aT nT cT, .slice aD nD cD, .slice aL nL cL] 38)).alloc (.cells #[.slice none 0 0, .slice none 0 0, .slice none 0 0, .slice none 0 0, .slice none 0 0, .slice none 0 0] 38) = W1 at *
    obtain ⟨e0, e1, e2, e3, e4, e5, ef⟩ := Its.cells6 I1.out; obtain ⟨c0, c1, c2, c3, c4, c5, cf⟩ := Its.cells6 I1.out.tail
    go_upto_region 2 with (go_at_call 51; refine (KO.out _).mono ?_; rintro e1 W2 ⟨rfl, q⟩; have I2 := hide (I1.out.keep q); clear q; obtain ⟨se0, se1, se2, se3, se4, se5, sef⟩ := Its.cells6 I2.out; obtain ⟨sc0, sc1, sc2, sc3, sc4, sc5, scf⟩ := Its.cells6 I2.out.tail)
    have HIe := hide (Its.out6 I2.out (.slice a n c) (.slice b m e) (.slice aS nS cS) (.slice aT nT cT) (.slice aD nD cD) (.slice aL nL cL))
    go_wp2_with fail
    obtain ⟨y0, y1, y2, y3, y4, y5, _⟩ := Its.cells6 HIe.out
    exact bodyPost_ret (v := .tuple #[.agg #[.slice a n c, .slice b m e, .slice aS nS cS, .slice aT nT cT, .slice aD nD cD, .slice aL nL cL], .int .i64 1]) (by simp [results, Try.results29, go_sem, y0, y1, y2, y3, y4, y5]) rfl (RP.mk2 (V := ⟨aS, nS, cS, aT, nT, cT, aD, nD, cD, aL, nL, cL⟩) HPP.out (HS.out _ HIe.out))

  rw [if_neg (by simp [hq0, hq1])] at hP
  cases hdn : R.isDn d with
  | true =>
    rw [hdn] at KD hP
    have HPP : Hid (P = (140, R)) := hide (by rw [← hP]; simp)
    clear h L0 hP hdn
    obtain ⟨aS, nS, cS, aT, nT, cT, aD, nD, cD, aL, nL, cL⟩ := V
    dsimp only at *
    go_enter Try.func29, Try.ntmps29
    go_upto_region 1 with fail
    generalize (w.alloc (.cells #[.slice a n c, .slice b m e, .slice aS nS cS, .slice aT nT cT, .slice aD nD cD, .slice aL nL cL] 38)).alloc (.cells #[.slice none 0 0, .slice none 0 0, .slice none 0 0, .slice none 0 0, .slice none 0 0, .slice none 0 0] 38) = W1 at *
    obtain ⟨e0, e1, e2, e3, e4, e5, ef⟩ := Its.cells6 I1.out; obtain ⟨c0, c1, c2, c3, c4, c5, cf⟩ := Its.cells6 I1.out.tail
    go_upto_region 4 with (first
      | (go_at_call 52; refine (KD.out _ I2.out.three).mono ?_; rintro e1 W3 ⟨rfl, q⟩; have I3 := hide (I2.out.keep q); clear q; obtain ⟨te0, te1, te2, te3, te4, te5, tef⟩ := Its.cells6 I3.out; obtain ⟨tc0, tc1, tc2, tc3, tc4, tc5, tcf⟩ := Its.cells6 I3.out.tail)
      | (go_at_call 51; refine (KO.out _).mono ?_; rintro e1 W2 ⟨rfl, q⟩; have I2 := hide (I1.out.keep q); clear q; obtain ⟨se0, se1, se2, se3, se4, se5, sef⟩ := Its.cells6 I2.out; obtain ⟨sc0, sc1, sc2, sc3, sc4, sc5, scf⟩ := Its.cells6 I2.out.tail))
    have HIe := hide (Its.out6 I3.out (.slice a n c) (.slice b m e) (.slice aS nS cS) (.slice aT nT cT) (.slice aD nD cD) (.slice aL nL cL))
    go_wp2_with fail
    obtain ⟨y0, y1, y2, y3, y4, y5, _⟩ := Its.cells6 HIe.out
    exact bodyPost_ret (v := .tuple #[.agg #[.slice a n c, .slice b m e, .slice aS nS cS, .slice aT nT cT, .slice aD nD cD, .slice aL nL cL], .int .i64 140]) (by simp [results, Try.results29, go_sem, y0, y1, y2, y3, y4, y5]) rfl (RP.mk2 (V := ⟨aS, nS, cS, aT, nT, cT, aD, nD, cD, aL, nL, cL⟩) HPP.out (HS.out _ HIe.out))

  | false =>
  rw [hdn] at KD hP
  by_cases hfd : 0 ≤ R.fnd d
  · rw [if_pos (by simp [hfd])] at hP
    have HPP : Hid (P = (140, R)) := hide hP.symm
    generalize R.fnd d = fd at *
    clear h L0 hP hdn
    obtain ⟨aS, nS, cS, aT, nT, cT, aD, nD, cD, aL, nL, cL⟩ := V
    dsimp only at *
    go_enter Try.func29, Try.ntmps29
    go_upto_region 1 with fail
    generalize (w.alloc (.cells #[.slice a n c, .slice b m e, .slice aS nS cS, .slice aT nT cT, .slice aD nD cD, .slice aL nL cL] 38)).alloc (.cells #[.slice none 0 0, .slice none 0 0, .slice none 0 0, .slice none 0 0, .slice none 0 0, .slice none 0 0] 38) = W1 at *
    obtain ⟨e0, e1, e2, e3, e4, e5, ef⟩ := Its.cells6 I1.out; obtain ⟨c0, c1, c2, c3, c4, c5, cf⟩ := Its.cells6 I1.out.tail
    go_upto_region 4 with (first
      | (go_at_call 39; refine (KF.out _ I3.out.three).mono ?_; rintro e1 W4 ⟨rfl, q⟩; have I4 := hide (I3.out.keep q); clear q; obtain ⟨ue0, ue1, ue2, ue3, ue4, ue5, uef⟩ := Its.cells6 I4.out; obtain ⟨uc0, uc1, uc2, uc3, uc4, uc5, ucf⟩ := Its.cells6 I4.out.tail)
      | (go_at_call 52; refine (KD.out _ I2.out.three).mono ?_; rintro e1 W3 ⟨rfl, q⟩; have I3 := hide (I2.out.keep q); clear q; obtain ⟨te0, te1, te2, te3, te4, te5, tef⟩ := Its.cells6 I3.out; obtain ⟨tc0, tc1, tc2, tc3, tc4, tc5, tcf⟩ := Its.cells6 I3.out.tail)
      | (go_at_call 51; refine (KO.out _).mono ?_; rintro e1 W2 ⟨rfl, q⟩; have I2 := hide (I1.out.keep q); clear q; obtain ⟨se0, se1, se2, se3, se4, se5, sef⟩ := Its.cells6 I2.out; obtain ⟨sc0, sc1, sc2, sc3, sc4, sc5, scf⟩ := Its.cells6 I2.out.tail))
    have HIe := hide (Its.out6 I4.out (.slice a n c) (.slice b m e) (.slice aS nS cS) (.slice aT nT cT) (.slice aD nD cD) (.slice aL nL cL))
    go_wp2_with fail
    obtain ⟨y0, y1, y2, y3, y4, y5, _⟩ := Its.cells6 HIe.out
    exact bodyPost_ret (v := .tuple #[.agg #[.slice a n c, .slice b m e, .slice aS nS cS, .slice aT nT cT, .slice aD nD cD, .slice aL nL cL], .int .i64 140]) (by simp [results, Try.results29, go_sem, y0, y1, y2, y3, y4, y5]) rfl (RP.mk2 (V := ⟨aS, nS, cS, aT, nT, cT, aD, nD, cD, aL, nL, cL⟩) HPP.out (HS.out _ HIe.out))

  rw [if_neg (by simp; omega)] at hP
  generalize R.fnd d = fd at *
  obtain ⟨kd, hkd⟩ : ∃ kd : Nat, d = (kd : Int) + 1 := ⟨(d - 1).toNat, by omega⟩
  obtain ⟨ee, hee⟩ : ∃ ee, es[kd]? = some ee := ⟨_, List.getElem?_eq_getElem (by rw [L0.hm]; omega)⟩
  have hed : edN es d = ee.2 ∧ edF es d = ee.1 := by unfold edN edF; rw [hkd, show ((kd : Int) + 1 - 1).toNat = kd by omega, hee]; exact ⟨rfl, rfl⟩
  rw [hed.1, hed.2] at hP
  have XE : Hid (∀ W, Below w0.heap.size w0 W → ∃ be oe, b = some ⟨be, oe, none⟩ ∧ W.cell? ⟨be, oe + kd * 2, none⟩ = some (.int .i64 ee.1) ∧ W.cell? ⟨be, oe + kd * 2 + 1, none⟩ = some (.int .i64 ee.2)) := hide (fun W hW => ed_at (L0.keep hW).hu kd ee hee)
  obtain ⟨be, oe, hbe, _⟩ := XE.out _ (Below.refl _ _)
  have XE2 : Hid (∀ W, Below w0.heap.size w0 W → W.cell? ⟨be, oe + kd * 2, none⟩ = some (.int .i64 ee.1) ∧ W.cell? ⟨be, oe + kd * 2 + 1, none⟩ = some (.int .i64 ee.2)) := hide (fun W hW => by
    obtain ⟨b1, o1, q1, q3⟩ := XE.out W hW
    rw [hbe] at q1
    simp only [Option.some.injEq, Addr.mk.injEq] at q1
    obtain ⟨rfl, rfl, _⟩ := q1
    exact q3)
  obtain ⟨ea, eb⟩ := ee
  dsimp only at *
  have r1 : wrap64 ((kd : Int) + 1 - 1) = (kd : Int) := by unfold wrap64; omega
  have r2 : (kd : Int) < (m : Int) := by omega
  have r3 : (0 : Int) ≤ (kd : Int) := by omega
  have hfd' : ¬ (0 ≤ fd) := hfd
  clear XE hee hed hdn
  have KT2 := hide (fun W => KT.out W eb)
  generalize R.whr t = wt at *
  generalize hTk : R.tak es eb = tk at *
  have Hl := hide HF.out.lT
  have i5 : (V.nT : Int) ≤ 1000 := by have := HF.out.bT; have := HF.out.bk; omega
  have HDm : Hid (∀ (W : World) (a5 : Option Addr) (p5 : Nat) (a7 : Option Addr) (n7 p7 : Nat) (x y : It), (laP R.la ⟨d, t, q⟩ V.nL).length = n7 → Its w0 (.row tdE w0.heap.size (.slice a7 n7 p7) (laP R.la ⟨d, t, q⟩ V.nL) :: .row tdE w0.heap.size (.slice a5 (V.nT + 1) p5) (R.td ++ [⟨d, t, q⟩]) :: x :: y :: .dm w0.heap.size V R k :: l) W → Its w0 (x :: y :: .dm w0.heap.size { V with aT := a5, nT := V.nT + 1, cT := p5, aL := a7, nL := n7, cL := p7 } { R with td := R.td ++ [⟨d, t, q⟩], la := ⟨d, t, q⟩ :: R.la.filter (fun x => decide (x.dev ≠ d)) } (k + 1) :: l) W) := hide (fun W a5 p5 a7 n7 p7 x y hl hW => by
    have hla : laP R.la ⟨d, t, q⟩ V.nL = ⟨d, t, q⟩ :: R.la.filter (fun x => decide (x.dev ≠ d)) := by unfold laP; rw [List.take_of_length_le (by rw [HF.out.lL]; exact Nat.le_refl _)]
    have hll := laP_len R.la ⟨d, t, q⟩ V.nL
    rw [hl, HF.out.lL] at hll
    rw [hla] at hW hl
    have q9 := hW.fifth.dopen.1.rot4.tail.swap.tail.rot4.swap
    exact (Its.dshut (V := { V with aT := a5, nT := V.nT + 1, cT := p5, aL := a7, nL := n7, cL := p7 }) (R := { R with td := R.td ++ [⟨d, t, q⟩], la := ⟨d, t, q⟩ :: R.la.filter (fun x => decide (x.dev ≠ d)) }) q9 ⟨HF.out.lS, by simp [HF.out.lT], HF.out.lD, hl, by have := HF.out.bS; simp only; omega, by have := HF.out.bT; simp only; omega, HF.out.bD, by have := HF.out.bL; simp only; omega, hk⟩).rot3')
  have HRT : Hid (∀ W, (It.dm w0.heap.size V R k).P W → tdE.Rd W (.slice V.aT V.nT V.cT) R.td) := hide (fun W hW => (dm_t hW).rd)
  have HRL : Hid (∀ W, (It.dm w0.heap.size V R k).P W → tdE.Rd W (.slice V.aL V.nL V.cL) R.la) := hide (fun W hW => (dm_l hW).rd)
  have HL1 : Hid (([] : List Td).length + R.td.length ≤ 1000000) := hide (by have := HF.out.lT; have := HF.out.bT; simp; omega)
  have HL2 : Hid (([] ++ R.td).length + [(⟨d, t, q⟩ : Td)].length ≤ 1000000) := hide (by have := HF.out.lT; have := HF.out.bT; simp; omega)
  have HL3 : Hid (([] ++ R.td).length = V.nT) := hide (by simp [HF.out.lT])
  have HL4 : Hid (([] ++ R.td ++ [(⟨d, t, q⟩ : Td)]).length = V.nT + 1) := hide (by simp [HF.out.lT])
  have HL5 : Hid (∀ (j : Nat) (p : Td), (laP R.la ⟨d, t, q⟩ j).length + [p].length ≤ 1000000) := hide (fun j p => by have := laP_len R.la ⟨d, t, q⟩ j; have := HF.out.lL; have := HF.out.bL; simp only [List.length_singleton]; omega)
  have HlL := hide HF.out.lL
  have i6 : (V.nL : Int) ≤ 1000 := by have := HF.out.bL; have := HF.out.bk; omega
  have HTd : Hid (∀ y ∈ R.td, hasTo t y = true → R.td.any (hasTo t) = true) := hide (fun y hy hz => List.any_eq_true.2 ⟨y, hy, hz⟩)
  have HTn : Hid ((∀ y ∈ R.td, hasTo t y = false) → R.td.any (hasTo t) = false) := hide (fun hz => List.any_eq_false.2 (fun y hy => by rw [hz y hy]; simp))
  generalize hR2 : ({ R with td := R.td ++ [⟨d, t, q⟩], la := ⟨d, t, q⟩ :: R.la.filter (fun x => decide (x.dev ≠ d)) } : Rm) = R2 at *
  have Hk1 := hide hkd
  have Htk := hide hTk
  clear hR2 h L0 hT hTk HF
  subst hbe
  by_cases hwe : wt = ea
  case neg =>
    rw [if_pos hwe] at hP
    have HPP : Hid (P = (160, R)) := hide hP.symm
    have hwb : (wt == ea) = false := beq_eq_false_iff_ne.2 hwe
    clear hP
    rw [hkd] at *
    obtain ⟨aS, nS, cS, aT, nT, cT, aD, nD, cD, aL, nL, cL⟩ := V
    dsimp only at *
    go_enter Try.func29, Try.ntmps29
    go_upto_region 1 with fail
    generalize (w.alloc (.cells #[.slice a n c, .slice (some ⟨be, oe, none⟩) m e, .slice aS nS cS, .slice aT nT cT, .slice aD nD cD, .slice aL nL cL] 38)).alloc (.cells #[.slice none 0 0, .slice none 0 0, .slice none 0 0, .slice none 0 0, .slice none 0 0, .slice none 0 0] 38) = W1 at *
    obtain ⟨e0, e1, e2, e3, e4, e5, ef⟩ := Its.cells6 I1.out; obtain ⟨c0, c1, c2, c3, c4, c5, cf⟩ := Its.cells6 I1.out.tail
    go_upto_region 6 with (first
      | (go_at_call 39; refine (KF.out _ I3.out.three).mono ?_; rintro e1 W4 ⟨rfl, q⟩; have I4 := hide (I3.out.keep q); clear q; obtain ⟨ue0, ue1, ue2, ue3, ue4, ue5, uef⟩ := Its.cells6 I4.out; obtain ⟨uc0, uc1, uc2, uc3, uc4, uc5, ucf⟩ := Its.cells6 I4.out.tail; obtain ⟨xf0, xf1⟩ := XE2.out _ I4.out.bel)
      | (go_at_call 52; refine (KD.out _ I2.out.three).mono ?_; rintro e1 W3 ⟨rfl, q⟩; have I3 := hide (I2.out.keep q); clear q; obtain ⟨te0, te1, te2, te3, te4, te5, tef⟩ := Its.cells6 I3.out; obtain ⟨tc0, tc1, tc2, tc3, tc4, tc5, tcf⟩ := Its.cells6 I3.out.tail)
      | (go_at_call 51; refine (KO.out _).mono ?_; rintro e1 W2 ⟨rfl, q⟩; have I2 := hide (I1.out.keep q); clear q; obtain ⟨se0, se1, se2, se3, se4, se5, sef⟩ := Its.cells6 I2.out; obtain ⟨sc0, sc1, sc2, sc3, sc4, sc5, scf⟩ := Its.cells6 I2.out.tail))
    have I5 : Hid (Its w0 (.box W4.heap.size #[.int .i64 ea, .int .i64 eb] 42 :: .box (w.heap.size + 1) #[.slice none 0 0, .slice none 0 0, .slice none 0 0, .slice none 0 0, .slice none 0 0, .slice none 0 0] 38 :: .box w.heap.size #[.slice a n c, .slice (some ⟨be, oe, none⟩) m e, .slice aS nS cS, .slice aT nT cT, .slice aD nD cD, .slice aL nL cL] 38 :: .dm w0.heap.size ⟨aS, nS, cS, aT, nT, cT, aD, nD, cD, aL, nL, cL⟩ R k :: l) (W4.alloc (.cells #[.int .i64 ea, .int .i64 eb] 42))) := hide (I4.out.box1 _ _)
    have I5d : Hid (Its w0 (.box W4.heap.size #[.int .i64 ea, .int .i64 eb] 42 :: .box (w.heap.size + 1) #[.slice none 0 0, .slice none 0 0, .slice none 0 0, .slice none 0 0, .slice none 0 0, .slice none 0 0] 38 :: .box w.heap.size #[.slice a n c, .slice (some ⟨be, oe, none⟩) m e, .slice aS nS cS, .slice aT nT cT, .slice aD nD cD, .slice aL nL cL] 38 :: .dm w0.heap.size ⟨aS, nS, cS, aT, nT, cT, aD, nD, cD, aL, nL, cL⟩ R k :: l) (W4.alloc (.cells #[.int .i64 ea, .int .i64 eb] 42)).drew) := hide (I5.out.drew 1)
    have XB : Hid (∀ (W : World) (g : Nat), Its w0 (.box g #[.int .i64 ea, .int .i64 eb] 42 :: .box (w.heap.size + 1) #[.slice none 0 0, .slice none 0 0, .slice none 0 0, .slice none 0 0, .slice none 0 0, .slice none 0 0] 38 :: .box w.heap.size #[.slice a n c, .slice (some ⟨be, oe, none⟩) m e, .slice aS nS cS, .slice aT nT cT, .slice aD nD cD, .slice aL nL cL] 38 :: .dm w0.heap.size ⟨aS, nS, cS, aT, nT, cT, aD, nD, cD, aL, nL, cL⟩ R k :: l) W → W.cell? ⟨g, 0, none⟩ = some (.int .i64 ea) ∧ W.cell? ⟨g, 1, none⟩ = some (.int .i64 eb)) := hide (fun W g hW => ⟨(cells_at hW.one 0).1, (cells_at hW.one 1).1⟩)
    obtain ⟨lb0, lb1⟩ := XB.out _ _ I5.out
    obtain ⟨me0, me1, me2, me3, me4, me5, mef⟩ := Its.cells6 I5.out.tail.tail
    generalize hgb : W4.heap.size = gb at *
    replace hgb := hide hgb
    generalize W4.alloc (.cells #[.int .i64 ea, .int .i64 eb] 42) = W5 at *
    go_cut [49] (fun v49 wx => v49 = .bool true ∧ Hid (Its w0 (.box gb #[.int .i64 ea, .int .i64 eb] 42 :: .box (w.heap.size + 1) #[.slice none 0 0, .slice none 0 0, .slice none 0 0, .slice none 0 0, .slice none 0 0, .slice none 0 0] 38 :: .box w.heap.size #[.slice a n c, .slice (some ⟨be, oe, none⟩) m e, .slice aS nS cS, .slice aT nT cT, .slice aD nD cD, .slice aL nL cL] 38 :: .dm w0.heap.size ⟨aS, nS, cS, aT, nT, cT, aD, nD, cD, aL, nL, cL⟩ R k :: l) wx))
    case first =>
      go_region_with (go_at_call 36; refine (KW.out _ I5d.out.four).mono ?_; rintro e1 W6 ⟨rfl, q6⟩; have I6 := hide (I5d.out.keep q6); clear q6; obtain ⟨nb0, nb1⟩ := XB.out _ _ I6.out)
      all_goals go_wp2_with fail
      all_goals go_meet
      all_goals exact ⟨congrArg Value.bool (by simp [bne, hwb]), I6⟩
    case rest =>
    obtain ⟨rfl, I7⟩ := hcut
    obtain ⟨W7, rfl⟩ : ∃ W, W = wc := ⟨_, rfl⟩
    clear I1 I2 I3 I4 I5 I5d KO KD KF KW
    obtain ⟨ob0, ob1⟩ := XB.out _ _ I7.out
    obtain ⟨pe0, pe1, pe2, pe3, pe4, pe5, pef⟩ := Its.cells6 I7.out.tail
    obtain ⟨qe0, qe1, qe2, qe3, qe4, qe5, qef⟩ := Its.cells6 I7.out.tail.tail
    go_upto_region 7 with fail
    have I8 := hide I7.out.tail
    have HIe := hide (Its.out6 I8.out (.slice a n c) (.slice (some ⟨be, oe, none⟩) m e) (.slice aS nS cS) (.slice aT nT cT) (.slice aD nD cD) (.slice aL nL cL))
    go_wp2_with fail
    obtain ⟨y0, y1, y2, y3, y4, y5, _⟩ := Its.cells6 HIe.out
    exact bodyPost_ret (v := .tuple #[.agg #[.slice a n c, .slice (some ⟨be, oe, none⟩) m e, .slice aS nS cS, .slice aT nT cT, .slice aD nD cD, .slice aL nL cL], .int .i64 160]) (by simp [results, Try.results29, go_sem, y0, y1, y2, y3, y4, y5]) rfl (RP.mk2 (V := ⟨aS, nS, cS, aT, nT, cT, aD, nD, cD, aL, nL, cL⟩) HPP.out (HS.out _ HIe.out))

  case pos =>
    rw [if_neg (by simpa using hwe)] at hP
    subst hwe
    rw [hkd] at *
    obtain ⟨aS, nS, cS, aT, nT, cT, aD, nD, cD, aL, nL, cL⟩ := V
    dsimp only at *
    go_enter Try.func29, Try.ntmps29
    go_upto_region 1 with fail
    generalize (w.alloc (.cells #[.slice a n c, .slice (some ⟨be, oe, none⟩) m e, .slice aS nS cS, .slice aT nT cT, .slice aD nD cD, .slice aL nL cL] 38)).alloc (.cells #[.slice none 0 0, .slice none 0 0, .slice none 0 0, .slice none 0 0, .slice none 0 0, .slice none 0 0] 38) = W1 at *
    obtain ⟨e0, e1, e2, e3, e4, e5, ef⟩ := Its.cells6 I1.out; obtain ⟨c0, c1, c2, c3, c4, c5, cf⟩ := Its.cells6 I1.out.tail
    go_upto_region 6 with (first
      | (go_at_call 39; refine (KF.out _ I3.out.three).mono ?_; rintro e1 W4 ⟨rfl, q⟩; have I4 := hide (I3.out.keep q); clear q; obtain ⟨ue0, ue1, ue2, ue3, ue4, ue5, uef⟩ := Its.cells6 I4.out; obtain ⟨uc0, uc1, uc2, uc3, uc4, uc5, ucf⟩ := Its.cells6 I4.out.tail; obtain ⟨xf0, xf1⟩ := XE2.out _ I4.out.bel)
      | (go_at_call 52; refine (KD.out _ I2.out.three).mono ?_; rintro e1 W3 ⟨rfl, q⟩; have I3 := hide (I2.out.keep q); clear q; obtain ⟨te0, te1, te2, te3, te4, te5, tef⟩ := Its.cells6 I3.out; obtain ⟨tc0, tc1, tc2, tc3, tc4, tc5, tcf⟩ := Its.cells6 I3.out.tail)
      | (go_at_call 51; refine (KO.out _).mono ?_; rintro e1 W2 ⟨rfl, q⟩; have I2 := hide (I1.out.keep q); clear q; obtain ⟨se0, se1, se2, se3, se4, se5, sef⟩ := Its.cells6 I2.out; obtain ⟨sc0, sc1, sc2, sc3, sc4, sc5, scf⟩ := Its.cells6 I2.out.tail))
    have I5 : Hid (Its w0 (.box W4.heap.size #[.int .i64 wt, .int .i64 eb] 42 :: .box (w.heap.size + 1) #[.slice none 0 0, .slice none 0 0, .slice none 0 0, .slice none 0 0, .slice none 0 0, .slice none 0 0] 38 :: .box w.heap.size #[.slice a n c, .slice (some ⟨be, oe, none⟩) m e, .slice aS nS cS, .slice aT nT cT, .slice aD nD cD, .slice aL nL cL] 38 :: .dm w0.heap.size ⟨aS, nS, cS, aT, nT, cT, aD, nD, cD, aL, nL, cL⟩ R k :: l) (W4.alloc (.cells #[.int .i64 wt, .int .i64 eb] 42))) := hide (I4.out.box1 _ _)
    have I5d : Hid (Its w0 (.box W4.heap.size #[.int .i64 wt, .int .i64 eb] 42 :: .box (w.heap.size + 1) #[.slice none 0 0, .slice none 0 0, .slice none 0 0, .slice none 0 0, .slice none 0 0, .slice none 0 0] 38 :: .box w.heap.size #[.slice a n c, .slice (some ⟨be, oe, none⟩) m e, .slice aS nS cS, .slice aT nT cT, .slice aD nD cD, .slice aL nL cL] 38 :: .dm w0.heap.size ⟨aS, nS, cS, aT, nT, cT, aD, nD, cD, aL, nL, cL⟩ R k :: l) (W4.alloc (.cells #[.int .i64 wt, .int .i64 eb] 42)).drew) := hide (I5.out.drew 1)
    have XB : Hid (∀ (W : World) (g : Nat), Its w0 (.box g #[.int .i64 wt, .int .i64 eb] 42 :: .box (w.heap.size + 1) #[.slice none 0 0, .slice none 0 0, .slice none 0 0, .slice none 0 0, .slice none 0 0, .slice none 0 0] 38 :: .box w.heap.size #[.slice a n c, .slice (some ⟨be, oe, none⟩) m e, .slice aS nS cS, .slice aT nT cT, .slice aD nD cD, .slice aL nL cL] 38 :: .dm w0.heap.size ⟨aS, nS, cS, aT, nT, cT, aD, nD, cD, aL, nL, cL⟩ R k :: l) W → W.cell? ⟨g, 0, none⟩ = some (.int .i64 wt) ∧ W.cell? ⟨g, 1, none⟩ = some (.int .i64 eb)) := hide (fun W g hW => ⟨(cells_at hW.one 0).1, (cells_at hW.one 1).1⟩)
    obtain ⟨lb0, lb1⟩ := XB.out _ _ I5.out
    obtain ⟨me0, me1, me2, me3, me4, me5, mef⟩ := Its.cells6 I5.out.tail.tail
    generalize hgb : W4.heap.size = gb at *
    replace hgb := hide hgb
    generalize W4.alloc (.cells #[.int .i64 wt, .int .i64 eb] 42) = W5 at *
    go_cut [49] (fun v49 wx => v49 = .bool false ∧ Hid (Its w0 (.box gb #[.int .i64 wt, .int .i64 eb] 42 :: .box (w.heap.size + 1) #[.slice none 0 0, .slice none 0 0, .slice none 0 0, .slice none 0 0, .slice none 0 0, .slice none 0 0] 38 :: .box w.heap.size #[.slice a n c, .slice (some ⟨be, oe, none⟩) m e, .slice aS nS cS, .slice aT nT cT, .slice aD nD cD, .slice aL nL cL] 38 :: .dm w0.heap.size ⟨aS, nS, cS, aT, nT, cT, aD, nD, cD, aL, nL, cL⟩ R k :: l) wx))
    case first =>
      go_region_with (go_at_call 36; refine (KW.out _ I5d.out.four).mono ?_; rintro e1 W6 ⟨rfl, q6⟩; have I6 := hide (I5d.out.keep q6); clear q6; obtain ⟨nb0, nb1⟩ := XB.out _ _ I6.out)
      all_goals go_wp2_with fail
      all_goals go_meet
      all_goals exact ⟨congrArg Value.bool (by simp), I6⟩
    case rest =>
    obtain ⟨rfl, I7⟩ := hcut
    obtain ⟨W7, rfl⟩ : ∃ W, W = wc := ⟨_, rfl⟩
    clear I1 I2 I3 I4 I5 I5d KO KD KF KW
    obtain ⟨ob0, ob1⟩ := XB.out _ _ I7.out
    obtain ⟨pe0, pe1, pe2, pe3, pe4, pe5, pef⟩ := Its.cells6 I7.out.tail
    obtain ⟨qe0, qe1, qe2, qe3, qe4, qe5, qef⟩ := Its.cells6 I7.out.tail.tail
    have hTT : ∀ b : Bool, R.td.any (hasTo t) = b → P = if b = true then (160, R) else if tk = true then (100, R) else (0, R2) := fun b hb => by rw [← hP, hb]
    have HTT := hide hTT
    clear hTT hP
    go_wp2_with fail
    go_loopw [54] (fun v54 wr => ∃ j : Nat, v54 = .int .i64 j ∧ j ≤ nT ∧ wr = W7 ∧ Hid (∀ i y, i < j → R.td[i]? = some y → hasTo t y = false)) (fun v54 _ => nT - (intOf v54).toNat)
    case atStart => exact ⟨0, rfl, Nat.zero_le _, rfl, hide (fun i y h => by omega)⟩
    case round =>
      obtain ⟨j, rfl, hj, rfl, HX⟩ := hrel
      by_cases hjn : j < nT
      case pos =>
        obtain ⟨p, hp⟩ : ∃ p, R.td[j]? = some p := ⟨_, List.getElem?_eq_getElem (by rw [Hl.out]; exact hjn)⟩
        obtain ⟨bt, ot, rfl, d0, d1, d2⟩ := td_at (HRT.out _ I7.out.four) j p hp
        have k1 : (0 : Int) ≤ (j : Int) := by omega
        have k2 : (j : Int) < (nT : Int) := by omega
        have Hmem := hide (List.mem_of_getElem? hp)
        have Hp := hide hp
        clear hp
        by_cases hpt : p.tote = t
        · have HPP : Hid (P = (160, R)) := hide (by rw [HTT.out true (HTd.out p Hmem.out (decide_eq_true hpt))]; rfl)
          have hpb : (p.tote == t) = true := by rw [hpt]; simp
          have HQ := hide hpt
          clear hpt
          go_upto_region 12 with fail
          have I8 := hide I7.out.tail
          have HIe := hide (Its.out6 I8.out (.slice a n c) (.slice (some ⟨be, oe, none⟩) m e) (.slice aS nS cS) (.slice (some ⟨bt, ot, none⟩) nT cT) (.slice aD nD cD) (.slice aL nL cL))
          go_wp2_with fail
          obtain ⟨y0, y1, y2, y3, y4, y5, _⟩ := Its.cells6 HIe.out
          exact bodyPost_ret (v := .tuple #[.agg #[.slice a n c, .slice (some ⟨be, oe, none⟩) m e, .slice aS nS cS, .slice (some ⟨bt, ot, none⟩) nT cT, .slice aD nD cD, .slice aL nL cL], .int .i64 160]) (by simp [results, Try.results29, go_sem, y0, y1, y2, y3, y4, y5]) rfl (RP.mk2 (V := ⟨aS, nS, cS, some ⟨bt, ot, none⟩, nT, cT, aD, nD, cD, aL, nL, cL⟩) HPP.out (HS.out _ HIe.out))

        · have hpb : (p.tote == t) = false := beq_eq_false_iff_ne.2 hpt
          have HX1 : Hid (∀ i y, i < j + 1 → R.td[i]? = some y → hasTo t y = false) := hide (fun i y hi hy => by
            rcases Nat.lt_or_ge i j with g | g
            · exact HX.out i y g hy
            · obtain rfl : i = j := by omega
              rw [Hp.out] at hy
              cases hy
              exact decide_eq_false hpt)
          go_wp2_with fail
          go_roundw
          case rel => exact ⟨j + 1, by go_num, by omega, trivial, HX1⟩
          case measure => simp [intOf]; omega
      case neg =>
        have k2 : ¬ (j : Int) < (nT : Int) := by omega
        have hno := HTn.out (fun y hy => by
          obtain ⟨i, hi⟩ := List.getElem?_of_mem hy
          exact HX.out i y (by have := idx_lt hi; rw [Hl.out] at this; omega) hi)
        have HP2 := hide (HTT.out false hno)
        clear hno HX HTd HTn
        have KU := hide (KT2.out _ I7.out.bel I7.out.four)
        clear KT KT2
        cases tk with
        | true =>
          have HPP : Hid (P = (100, R)) := hide (by rw [HP2.out]; rfl)
          go_upto_region 15 with (go_at_call 38; refine KU.out.mono ?_; rintro e1 W8 ⟨rfl, q8⟩; have I8 := hide (I7.out.tail.keep q8); clear q8; obtain ⟨re0, re1, re2, re3, re4, re5, ref⟩ := Its.cells6 I8.out; obtain ⟨rc0, rc1, rc2, rc3, rc4, rc5, rcf⟩ := Its.cells6 I8.out.tail)
          have HIe := hide (Its.out6 I8.out (.slice a n c) (.slice (some ⟨be, oe, none⟩) m e) (.slice aS nS cS) (.slice aT nT cT) (.slice aD nD cD) (.slice aL nL cL))
          go_wp2_with fail
          obtain ⟨y0, y1, y2, y3, y4, y5, _⟩ := Its.cells6 HIe.out
          exact bodyPost_ret (v := .tuple #[.agg #[.slice a n c, .slice (some ⟨be, oe, none⟩) m e, .slice aS nS cS, .slice aT nT cT, .slice aD nD cD, .slice aL nL cL], .int .i64 100]) (by simp [results, Try.results29, go_sem, y0, y1, y2, y3, y4, y5]) rfl (RP.mk2 (V := ⟨aS, nS, cS, aT, nT, cT, aD, nD, cD, aL, nL, cL⟩) HPP.out (HS.out _ HIe.out))

        | false =>
          have HPP : Hid (P = (0, R2)) := hide (by rw [HP2.out]; rfl)
          go_upto_region 16 with (go_at_call 38; refine KU.out.mono ?_; rintro e1 W8 ⟨rfl, q8⟩; have I8 := hide (I7.out.tail.keep q8); clear q8; obtain ⟨re0, re1, re2, re3, re4, re5, ref⟩ := Its.cells6 I8.out; obtain ⟨rc0, rc1, rc2, rc3, rc4, rc5, rcf⟩ := Its.cells6 I8.out.tail)
          have HX1 : Hid (Its w0 (.row tdE w0.heap.size (.slice (some ⟨W8.heap.size, 0, none⟩) 0 0) [] :: .box (w.heap.size + 1) #[.slice none 0 0, .slice none 0 0, .slice none 0 0, .slice none 0 0, .slice none 0 0, .slice none 0 0] 38 :: .box w.heap.size #[.slice a n c, .slice (some ⟨be, oe, none⟩) m e, .slice aS nS cS, .slice aT nT cT, .slice aD nD cD, .slice aL nL cL] 38 :: .dm w0.heap.size ⟨aS, nS, cS, aT, nT, cT, aD, nD, cD, aL, nL, cL⟩ R k :: l) (W8.alloc (.cells #[] 79))) := hide (I8.out.fresh (El.Own.new tdE W8 W8.heap.size (Nat.le_refl _) #[] [] rfl (by simp) W8.heap.size 0 0 rfl rfl rfl) (below_new W8 _))
          obtain ⟨xe0, xe1, xe2, xe3, xe4, xe5, xef⟩ := Its.cells6 HX1.out.tail.tail
          go_upto_region 17 with (first
            | (at_builtin; refine tdE.wpB (B := w0.heap.size) HX2.out.size (by rfl) _ _ rfl _ _ rfl rfl ([] ++ R.td) [⟨(kd : Int) + 1, t, q⟩] HX2.out.one HS2.out HL2.out ?_; intro v5 W10 ho hg hs; obtain ⟨a5, p5, hf5⟩ := ho.rd.form; rw [HL4.out] at hf5; subst hf5; have HI5 := hide (HX2.out.grow ho hg hs); clear ho hg hs; obtain ⟨we0, we1, we2, we3, we4, we5, wef⟩ := Its.cells6 HI5.out.tail.tail)
            | (at_builtin; refine tdE.wpB (B := w0.heap.size) HX1.out.size (by rfl) _ _ rfl _ _ rfl rfl [] R.td HX1.out.one (HRT.out _ HX1.out.four) HL1.out ?_; intro v4 W9 ho hg hs; obtain ⟨a4, p4, hf4⟩ := ho.rd.form; rw [HL3.out] at hf4; subst hf4; have HX2 := hide ((HX1.out.grow ho hg hs).alloc (.cells #[.int .i64 ((kd : Int) + 1), .int .i64 t, .int .i64 q] 79)); have HS2 := hide (td_new W9 ⟨(kd : Int) + 1, t, q⟩ W9.heap.size rfl); clear ho hg hs; obtain ⟨ye0, ye1, ye2, ye3, ye4, ye5, yef⟩ := Its.cells6 HX2.out.tail.tail))
          have J1 : Hid (Its w0 (.row tdE w0.heap.size (.slice a5 (nT + 1) p5) (R.td ++ [⟨(kd : Int) + 1, t, q⟩]) :: .box (w.heap.size + 1) #[.slice none 0 0, .slice none 0 0, .slice none 0 0, .slice none 0 0, .slice none 0 0, .slice none 0 0] 38 :: .box w.heap.size #[.slice a n c, .slice (some ⟨be, oe, none⟩) m e, .slice aS nS cS, .slice a5 (nT + 1) p5, .slice aD nD cD, .slice aL nL cL] 38 :: .dm w0.heap.size ⟨aS, nS, cS, aT, nT, cT, aD, nD, cD, aL, nL, cL⟩ R k :: l) (W10.setCell ⟨w.heap.size, 3, none⟩ (.slice a5 (nT + 1) p5))) := hide (HI5.out.rot3.put1 3 (.slice a5 (nT + 1) p5)).rot3'
          generalize W10.setCell ⟨w.heap.size, 3, none⟩ (.slice a5 (nT + 1) p5) = W11 at *
          have J2 : Hid (Its w0 (.row tdE w0.heap.size (.slice (some ⟨W11.heap.size, 0, none⟩) 1 1) (laP R.la ⟨(kd : Int) + 1, t, q⟩ 0) :: .row tdE w0.heap.size (.slice a5 (nT + 1) p5) (R.td ++ [⟨(kd : Int) + 1, t, q⟩]) :: .box (w.heap.size + 1) #[.slice none 0 0, .slice none 0 0, .slice none 0 0, .slice none 0 0, .slice none 0 0, .slice none 0 0] 38 :: .box w.heap.size #[.slice a n c, .slice (some ⟨be, oe, none⟩) m e, .slice aS nS cS, .slice a5 (nT + 1) p5, .slice aD nD cD, .slice aL nL cL] 38 :: .dm w0.heap.size ⟨aS, nS, cS, aT, nT, cT, aD, nD, cD, aL, nL, cL⟩ R k :: l) (W11.alloc (.cells #[.int .i64 ((kd : Int) + 1), .int .i64 t, .int .i64 q] 79))) := hide (J1.out.fresh (El.Own.new tdE W11 W11.heap.size (Nat.le_refl _) _ (laP R.la ⟨(kd : Int) + 1, t, q⟩ 0) (by simp [laP]; rfl) (by simp [laP]) W11.heap.size 1 1 rfl (by simp [laP]) (by simp [laP])) (below_new W11 _))
          clear I7 I8 HX1 HX2 HI5 HS2 KU HTT HP2 XB
          go_upto_region 18 with fail
          generalize W11.alloc (.cells #[.int .i64 ((kd : Int) + 1), .int .i64 t, .int .i64 q] 79) = W12 at *
          obtain ⟨se0, se1, se2, se3, se4, se5, sef⟩ := Its.cells6 J2.out.tail.tail.tail
          go_wp2_with fail
          go_loopw [12, 91] (fun v12 v91 wr => ∃ (j : Nat) (a7 : Option Addr) (n7 p7 : Nat), v12 = .slice a7 n7 p7 ∧ v91 = .int .i64 j ∧ j ≤ nL ∧ Hid ((laP R.la ⟨(kd : Int) + 1, t, q⟩ j).length = n7) ∧ Hid (Its w0 (.row tdE w0.heap.size (.slice a7 n7 p7) (laP R.la ⟨(kd : Int) + 1, t, q⟩ j) :: .row tdE w0.heap.size (.slice a5 (nT + 1) p5) (R.td ++ [⟨(kd : Int) + 1, t, q⟩]) :: .box (w.heap.size + 1) #[.slice none 0 0, .slice none 0 0, .slice none 0 0, .slice none 0 0, .slice none 0 0, .slice none 0 0] 38 :: .box w.heap.size #[.slice a n c, .slice (some ⟨be, oe, none⟩) m e, .slice aS nS cS, .slice a5 (nT + 1) p5, .slice aD nD cD, .slice aL nL cL] 38 :: .dm w0.heap.size ⟨aS, nS, cS, aT, nT, cT, aD, nD, cD, aL, nL, cL⟩ R k :: l) wr)) (fun _ v91 _ => nL - (intOf v91).toNat)
          case atStart => exact ⟨0, _, 1, 1, rfl, rfl, Nat.zero_le _, hide (by simp [laP]), J2⟩
          case round =>
            obtain ⟨i, a7, n7, p7, rfl, rfl, hi, HN, HR⟩ := hrel
            obtain ⟨te0, te1, te2, te3, te4, te5, tef⟩ := Its.cells6 HR.out.tail.tail.tail
            by_cases hin : i < nL
            case pos =>
              obtain ⟨y, hy⟩ : ∃ y, R.la[i]? = some y := ⟨_, List.getElem?_eq_getElem (by rw [HlL.out]; exact hin)⟩
              have hdm : (It.dm w0.heap.size ⟨aS, nS, cS, aT, nT, cT, aD, nD, cD, aL, nL, cL⟩ R k).P wr := HR.out.all _ (by simp)
              obtain ⟨bl, ol, rfl, d0, d1, d2⟩ := td_at (HRL.out _ hdm) i y hy
              have k3 : (0 : Int) ≤ (i : Int) := by omega
              have k4 : (i : Int) < (nL : Int) := by omega
              have HSu := hide (laP_succ ⟨(kd : Int) + 1, t, q⟩ hy)
              have HX := hide (HR.out.alloc (.cells #[.int .i64 y.dev, .int .i64 y.tote, .int .i64 y.seq] 79))
              have HSn := hide (td_new wr y wr.heap.size rfl)
              have Hle := hide (HL5.out i y)
              clear hy hdm
              generalize hdl : laP R.la ⟨(kd : Int) + 1, t, q⟩ i = dl at *
              replace hdl := hide hdl
              by_cases hyd : y.dev = (kd : Int) + 1
              · have hyb : (y.dev == (kd : Int) + 1) = true := by rw [hyd]; simp
                have HE : Hid (laP R.la ⟨(kd : Int) + 1, t, q⟩ (i + 1) = dl) := hide (by rw [HSu.out, if_pos hyd, List.append_nil])
                go_wp2_with fail
                go_roundw
                case rel => exact ⟨i + 1, a7, n7, p7, rfl, by go_num, by omega, hide (by rw [HE.out]; exact HN.out), hide (by rw [HE.out]; exact HR.out)⟩
                case measure => simp [intOf]; omega
              · have hyb : (y.dev == (kd : Int) + 1) = false := beq_eq_false_iff_ne.2 hyd
                have HE : Hid (laP R.la ⟨(kd : Int) + 1, t, q⟩ (i + 1) = dl ++ [y]) := hide (by rw [HSu.out, if_neg hyd])
                go_wp2_with (at_builtin; refine tdE.wpB (B := w0.heap.size) HX.out.size (by rfl) _ _ rfl _ _ rfl rfl dl [y] HX.out.one HSn.out Hle.out ?_; intro v6 W13 ho hg hs; obtain ⟨a6, p6, hf6⟩ := ho.rd.form; obtain ⟨n6, hn6⟩ : ∃ n6, (dl ++ [y]).length = n6 := ⟨_, rfl⟩; rw [hn6] at hf6; subst hf6; have HI6 := hide (HX.out.grow ho hg hs); have Hn6 := hide hn6; clear ho hg hs hn6)
                go_roundw
                case rel => exact ⟨i + 1, a6, n6, p6, rfl, by go_num, by omega, hide (by rw [HE.out]; exact Hn6.out), hide (by rw [HE.out]; exact HI6.out)⟩
                case measure => simp [intOf]; omega
            case neg =>
              have hin2 : i = nL := by omega
              have k4 : ¬ (i : Int) < (nL : Int) := by omega
              rw [hin2] at HN HR
              clear hin2
              have J5 := hide (HDm.out _ a5 p5 a7 n7 p7 _ _ HN.out HR.out)
              have J6 : Hid (Its w0 (.box (w.heap.size + 1) #[.slice none 0 0, .slice none 0 0, .slice none 0 0, .slice none 0 0, .slice none 0 0, .slice none 0 0] 38 :: .box w.heap.size #[.slice a n c, .slice (some ⟨be, oe, none⟩) m e, .slice aS nS cS, .slice a5 (nT + 1) p5, .slice aD nD cD, .slice a7 n7 p7] 38 :: .dm w0.heap.size ⟨aS, nS, cS, a5, nT + 1, p5, aD, nD, cD, a7, n7, p7⟩ R2 (k + 1) :: l) (wr.setCell ⟨w.heap.size, 5, none⟩ (.slice a7 n7 p7))) := hide (J5.out.swap.put1 5 (.slice a7 n7 p7)).swap
              go_upto_region 25 with fail
              generalize wr.setCell ⟨w.heap.size, 5, none⟩ (.slice a7 n7 p7) = W14 at *
              obtain ⟨ze0, ze1, ze2, ze3, ze4, ze5, zef⟩ := Its.cells6 J6.out; obtain ⟨zc0, zc1, zc2, zc3, zc4, zc5, zcf⟩ := Its.cells6 J6.out.tail
              have HIe := hide (Its.out6 J6.out (.slice a n c) (.slice (some ⟨be, oe, none⟩) m e) (.slice aS nS cS) (.slice a5 (nT + 1) p5) (.slice aD nD cD) (.slice a7 n7 p7))
              go_wp2_with fail
              obtain ⟨y0, y1, y2, y3, y4, y5, _⟩ := Its.cells6 HIe.out
              exact bodyPost_ret (v := .tuple #[.agg #[.slice a n c, .slice (some ⟨be, oe, none⟩) m e, .slice aS nS cS, .slice a5 (nT + 1) p5, .slice aD nD cD, .slice a7 n7 p7], .int .i64 0]) (by simp [results, Try.results29, go_sem, y0, y1, y2, y3, y4, y5]) rfl (RP.mk2 (V := ⟨aS, nS, cS, a5, nT + 1, p5, aD, nD, cD, a7, n7, p7⟩) HPP.out HIe.out.tail.tail)

end
end Go.Proofs.Ytlnnpdghcilioaa
