/- Boxes of the document's plant; its New, Put. -/
import Derived.Test.YthcdfclhenmleaaDpa
import Derived.Test.YthcdfclhenmleaaRgd
namespace Go.Proofs.Ythcdfclhenmleaa
open Go.RowKit
set_option linter.unusedVariables false

theorem Its.out6 {w0 w : World} {b : Nat} {p0 p1 p2 p3 p4 p5 : Value} {t : TypeId} {l : List It} (h : Its w0 (.box b #[p0, p1, p2, p3, p4, p5] t :: l) w) (x0 x1 x2 x3 x4 x5 : Value) :
    Its w0 (.box b #[x0, x1, x2, x3, x4, x5] t :: l) ((((((w.setCell ⟨b, 0, none⟩ x0).setCell ⟨b, 1, none⟩ x1).setCell ⟨b, 2, none⟩ x2).setCell ⟨b, 3, none⟩ x3).setCell ⟨b, 4, none⟩ x4).setCell ⟨b, 5, none⟩ x5) := (((((h.put1 0 x0).put1 1 x1).put1 2 x2).put1 3 x3).put1 4 x4).put1 5 x5
theorem Its.cells6 {w0 w : World} {b : Nat} {p0 p1 p2 p3 p4 p5 : Value} {t : TypeId} {l : List It} (h : Its w0 (.box b #[p0, p1, p2, p3, p4, p5] t :: l) w) : w.cell? ⟨b, 0, none⟩ = some p0 ∧ w.cell? ⟨b, 1, none⟩ = some p1 ∧ w.cell? ⟨b, 2, none⟩ = some p2 ∧ w.cell? ⟨b, 3, none⟩ = some p3 ∧ w.cell? ⟨b, 4, none⟩ = some p4 ∧ w.cell? ⟨b, 5, none⟩ = some p5 ∧ (∀ i, w.frozen? ⟨b, i, none⟩ = false) :=
  ⟨(cells_at h.one 0).1, (cells_at h.one 1).1, (cells_at h.one 2).1, (cells_at h.one 3).1, (cells_at h.one 4).1, (cells_at h.one 5).1, fun i => (cells_at h.one i).2⟩
theorem Its.fifth {w0 w : World} {x y z t u : It} {l : List It} (h : Its w0 (x :: y :: z :: t :: u :: l) w) : Its w0 (u :: x :: y :: z :: t :: l) w :=
  h.perm ((List.Perm.cons x ((List.Perm.cons y ((List.Perm.cons z (.swap u t l)).trans (.swap u z _))).trans (.swap u y _))).trans (.swap u x _))
theorem DF.mono {V : Vp} {R : Rp} {k k' : Nat} (h : DF V R k) (hk : k ≤ k') (h' : k' ≤ 1000) : DF V R k' := ⟨h.lS, h.lD, h.lL, Nat.le_trans h.bS hk, Nat.le_trans h.bD hk, Nat.le_trans h.bL hk, h', h.mv.1, by have := h.mv.2; omega⟩
theorem Its.dmono {w0 w : World} {l : List It} {B k k' : Nat} {V : Vp} {R : Rp} (h : Its w0 (.dm B V R k :: l) w) (hk : k ≤ k') (h' : k' ≤ 1000) : Its w0 (.dm B V R k' :: l) w := h.dopen.1.dshut (h.dopen.2.mono hk h')
/-- a plant of the document's that is handed back, with a code -/
def RP (w0 : World) (l : List It) (a b : Option Addr) (c e n m k : Nat) (P : Int × Rp) (r : Ending) (w' : World) : Prop := ∃ V : Vp, r = .returned (.tuple #[.agg #[.slice a n c, .slice b m e, .slice V.aS V.nS V.cS, .slice V.aD V.nD V.cD, .slice V.aL V.nL V.cL, .int .i64 P.2.mv], .int .i64 P.1]) ∧ Its w0 (.dm w0.heap.size V P.2 k :: l) w'
theorem RP.mk2 {w0 : World} {l : List It} {a b : Option Addr} {c e n m k : Nat} {P : Int × Rp} {w' : World} (V : Vp) {x : Int} {R : Rp} {v : Int} (hP : P = (x, R)) (hv : R.mv = v) (h : Its w0 (.dm w0.heap.size V R k :: l) w') : RP w0 l a b c e n m k P (.returned (.tuple #[.agg #[.slice a n c, .slice b m e, .slice V.aS V.nS V.cS, .slice V.aD V.nD V.cD, .slice V.aL V.nL V.cL, .int .i64 v], .int .i64 x])) w' := by subst hP; subst hv; exact ⟨V, rfl, h⟩
theorem sp_new (w : World) (p : Int × Int) (g : Nat) (hg : g = w.heap.size) : spE.Rd (w.alloc (.cells #[.int .i64 p.1, .int .i64 p.2] 79)) (.slice (some ⟨g, 0, none⟩) 1 1) [p] :=
  (El.Own.new spE w w.heap.size (Nat.le_refl _) _ [p] rfl (by simp) _ _ _ hg rfl rfl).rd
def R0 : Rp := ⟨[], [], [], 0⟩
def V0 : Vp := ⟨none, 0, 0, none, 0, 0, none, 0, 0⟩
theorem Its.dnil {w0 w : World} {l : List It} (h : Its w0 l w) : Its w0 (.dm w0.heap.size V0 R0 0 :: l) w :=
  Its.dshut (((h.empty lsE).empty intE).empty spE) ⟨rfl, rfl, rfl, Nat.le_refl _, Nat.le_refl _, Nat.le_refl _, by decide, by decide, by decide⟩
section
variable {w0 w : World} {l : List It} {k : Nat} {V : Vp} {R : Rp} {a b : Option Addr} {c e n m : Nat} {ns : List Nd} {es : List Ed}
/-- both boxes of a call -/
theorem Its.two6 (h : Its w0 (.dm w0.heap.size V R k :: l) w) : Its w0 (.box (w.heap.size + 1) #[.slice none 0 0, .slice none 0 0, .slice none 0 0, .slice none 0 0, .slice none 0 0, .int .i64 0] 38 :: .box w.heap.size #[.slice a n c, .slice b m e, .slice V.aS V.nS V.cS, .slice V.aD V.nD V.cD, .slice V.aL V.nL V.cL, .int .i64 R.mv] 38 :: .dm w0.heap.size V R k :: l) ((w.alloc (.cells #[.slice a n c, .slice b m e, .slice V.aS V.nS V.cS, .slice V.aD V.nD V.cD, .slice V.aL V.nL V.cL, .int .i64 R.mv] 38)).alloc (.cells #[.slice none 0 0, .slice none 0 0, .slice none 0 0, .slice none 0 0, .slice none 0 0, .int .i64 0] 38)) :=
  (h.boxN #[.slice a n c, .slice b m e, .slice V.aS V.nS V.cS, .slice V.aD V.nD V.cD, .slice V.aL V.nL V.cL, .int .i64 R.mv] 38 rfl).boxN #[.slice none 0 0, .slice none 0 0, .slice none 0 0, .slice none 0 0, .slice none 0 0, .int .i64 0] 38 (n := w.heap.size + 1) (by show (w.heap.push _).size = _; simp)
set_option maxRecDepth 100000 in
set_option maxHeartbeats 4000000 in
theorem rnew_any (h : Its w0 l w) (L : Lyt w a b c e n m ns es) : Calls Try.prog 13 #[.agg #[.slice a n c, .slice b m e]] w fun r w' => (good ns es = true → r = .returned (.tuple #[.agg #[.slice a n c, .slice b m e, .slice none 0 0, .slice none 0 0, .slice none 0 0, .int .i64 0], .int .i64 0])) ∧ (good ns es = false → r = .returned (.tuple #[.agg #[.slice none 0 0, .slice none 0 0, .slice none 0 0, .slice none 0 0, .slice none 0 0, .int .i64 0], .int .i64 61])) ∧ Its w0 (.dm w0.heap.size V0 R0 0 :: l) w' := by
  have I1 := hide ((h.boxN #[.slice a n c, .slice b m e] 25 rfl).boxN #[.slice none 0 0, .slice none 0 0, .slice none 0 0, .slice none 0 0, .slice none 0 0, .int .i64 0] 38 (n := w.heap.size + 1) (by show (w.heap.push _).size = _; simp))
  have h1 := L.hn
  have h2 := L.hm
  have KG : Hid (∀ W, Below w.heap.size w W → Calls Try.prog 28 #[.agg #[.slice a n c, .slice b m e]] W fun e w' => e = .returned (.bool (good ns es)) ∧ Below W.heap.size W w') := hide (fun W hW => by
    subst h1
    subst h2
    exact rgood_any a b c e ns es W (L.keep hW).hv (L.keep hW).hu)
  have HB : Hid (Below w.heap.size w ((w.alloc (.cells #[.slice a n c, .slice b m e] 25)).alloc (.cells #[.slice none 0 0, .slice none 0 0, .slice none 0 0, .slice none 0 0, .slice none 0 0, .int .i64 0] 38))) := hide (((Below.refl _ _).alloc (Nat.le_refl _) _).alloc (below_new _ _).size _)
  clear L h h1 h2
  generalize good ns es = gd at *
  go_enter Try.func13, Try.ntmps13
  go_upto_region 1 with fail
  generalize (w.alloc (.cells #[.slice a n c, .slice b m e] 25)).alloc (.cells #[.slice none 0 0, .slice none 0 0, .slice none 0 0, .slice none 0 0, .slice none 0 0, .int .i64 0] 38) = W1 at *
  obtain ⟨e0, e1, e2, e3, e4, e5, ef⟩ := Its.cells6 I1.out
  obtain ⟨l0, l1⟩ := Its.lbox1 I1.out.tail
  cases gd with
  | true =>
    go_upto_region 3 with (go_at_call 28; refine (KG.out _ HB.out).mono ?_; rintro e1 W2 ⟨rfl, q⟩; have I2 := hide (I1.out.keep q); clear q; obtain ⟨f0, f1, f2, f3, f4, f5, ff⟩ := Its.cells6 I2.out; obtain ⟨m0, m1⟩ := Its.lbox1 I2.out.tail)
    have HIe := hide (Its.out6 I2.out (.slice a n c) (.slice b m e) (.slice none 0 0) (.slice none 0 0) (.slice none 0 0) (.int .i64 0))
    go_wp2_with fail
    obtain ⟨y0, y1, y2, y3, y4, y5, _⟩ := Its.cells6 HIe.out
    exact bodyPost_ret (v := .tuple #[.agg #[.slice a n c, .slice b m e, .slice none 0 0, .slice none 0 0, .slice none 0 0, .int .i64 0], .int .i64 0]) (by simp [results, Try.results13, go_sem, y0, y1, y2, y3, y4, y5]) rfl ⟨rfl, HIe.out.tail.tail.dnil⟩
  | false =>
    go_upto_region 2 with (go_at_call 28; refine (KG.out _ HB.out).mono ?_; rintro e1 W2 ⟨rfl, q⟩; have I2 := hide (I1.out.keep q); clear q; obtain ⟨f0, f1, f2, f3, f4, f5, ff⟩ := Its.cells6 I2.out; obtain ⟨m0, m1⟩ := Its.lbox1 I2.out.tail)
    have HIe := hide (Its.out6 I2.out (.slice none 0 0) (.slice none 0 0) (.slice none 0 0) (.slice none 0 0) (.slice none 0 0) (.int .i64 0))
    go_wp2_with fail
    obtain ⟨y0, y1, y2, y3, y4, y5, _⟩ := Its.cells6 HIe.out
    exact bodyPost_ret (v := .tuple #[.agg #[.slice none 0 0, .slice none 0 0, .slice none 0 0, .slice none 0 0, .slice none 0 0, .int .i64 0], .int .i64 61]) (by simp [results, Try.results13, go_sem, y0, y1, y2, y3, y4, y5]) rfl ⟨rfl, HIe.out.tail.tail.dnil⟩
set_option maxRecDepth 100000 in
set_option maxHeartbeats 4000000 in
theorem rputS (h : Its w0 (.dm w0.heap.size V R k :: l) w) (hk : k + 1 ≤ 1000) (t x : Int) : Calls Try.prog 16 #[.agg #[.slice a n c, .slice b m e, .slice V.aS V.nS V.cS, .slice V.aD V.nD V.cD, .slice V.aL V.nL V.cL, .int .i64 R.mv], .int .i64 t, .int .i64 x] w fun r w' => RP w0 l a b c e n m (k + 1) (R.put n t x) r w' := by
  have I1 := hide (h.two6 (a := a) (b := b) (c := c) (e := e) (n := n) (m := m))
  have KF : Hid (∀ W : World, (It.dm w0.heap.size V R k).P W → Calls Try.prog 31 #[.agg #[.slice a n c, .slice b m e, .slice V.aS V.nS V.cS, .slice V.aD V.nD V.cD, .slice V.aL V.nL V.cL, .int .i64 R.mv], .int .i64 t] W fun e w' => e = .returned (.int .i64 (R.whr t)) ∧ Below W.heap.size W w') := hide (fun W hW => rwhere_any hW t)
  have KT : Hid (∀ W : World, (It.dm w0.heap.size V R k).P W → Calls Try.prog 32 #[.agg #[.slice a n c, .slice b m e, .slice V.aS V.nS V.cS, .slice V.aD V.nD V.cD, .slice V.aL V.nL V.cL, .int .i64 R.mv], .int .i64 x] W fun e w' => e = .returned (.int .i64 (R.att x)) ∧ Below W.heap.size W w') := hide (fun W hW => rat_any hW x)
  have HF := hide (dm_f h.one)
  have HS : Hid (∀ W, Its w0 (.box (w.heap.size + 1) #[.slice a n c, .slice b m e, .slice V.aS V.nS V.cS, .slice V.aD V.nD V.cD, .slice V.aL V.nL V.cL, .int .i64 R.mv] 38 :: .box w.heap.size #[.slice a n c, .slice b m e, .slice V.aS V.nS V.cS, .slice V.aD V.nD V.cD, .slice V.aL V.nL V.cL, .int .i64 R.mv] 38 :: .dm w0.heap.size V R k :: l) W → Its w0 (.dm w0.heap.size V R (k + 1) :: l) W) := hide (fun W hW => hW.tail.tail.dmono (by omega) hk)
  have eP : R.put n t x = if (decide (t < 1) || decide (30 < t) || decide (x < 0) || decide ((n : Int) ≤ x)) = true then (1, R) else if 0 ≤ R.whr t then (2, R) else if 0 < R.att x then (100, R) else (0, { R with sp := R.sp ++ [(t, x)] }) := rfl
  rw [eP]
  obtain ⟨ob, hob⟩ : ∃ ob, (decide (t < 1) || decide (30 < t) || decide (x < 0) || decide ((n : Int) ≤ x)) = ob := ⟨_, rfl⟩
  rw [hob]
  have Hob := hide hob
  clear h eP hob
  generalize R.whr t = wt at *
  generalize R.att x = tk at *
  obtain ⟨P, hP⟩ : ∃ P : Int × Rp, (if ob = true then (1, R) else if 0 ≤ wt then (2, R) else if 0 < tk then (100, R) else (0, { R with sp := R.sp ++ [(t, x)] })) = P := ⟨_, rfl⟩
  rw [hP]
  have HPP := hide hP
  clear hP
  have HDm : Hid (∀ W (a5 : Option Addr) (p5 : Nat), Its w0 (.box w.heap.size #[.slice a n c, .slice b m e, .slice a5 (V.nS + 1) p5, .slice V.aD V.nD V.cD, .slice V.aL V.nL V.cL, .int .i64 R.mv] 38 :: .row spE w0.heap.size (.slice a5 (V.nS + 1) p5) (R.sp ++ [(t, x)]) :: .box (w.heap.size + 1) #[.slice none 0 0, .slice none 0 0, .slice none 0 0, .slice none 0 0, .slice none 0 0, .int .i64 0] 38 :: .dm w0.heap.size V R k :: l) W → Its w0 (.box (w.heap.size + 1) #[.slice none 0 0, .slice none 0 0, .slice none 0 0, .slice none 0 0, .slice none 0 0, .int .i64 0] 38 :: .box w.heap.size #[.slice a n c, .slice b m e, .slice a5 (V.nS + 1) p5, .slice V.aD V.nD V.cD, .slice V.aL V.nL V.cL, .int .i64 R.mv] 38 :: .dm w0.heap.size { V with aS := a5, nS := V.nS + 1, cS := p5 } { R with sp := R.sp ++ [(t, x)] } (k + 1) :: l) W) := hide (fun W a5 p5 hW => by
    have q := hW.rot4.dopen.1.tail
    have q2 : Its w0 (.row spE w0.heap.size (.slice a5 (V.nS + 1) p5) (R.sp ++ [(t, x)]) :: .ints w0.heap.size (.slice V.aD V.nD V.cD) R.bk :: .row lsE w0.heap.size (.slice V.aL V.nL V.cL) R.la :: .box w.heap.size #[.slice a n c, .slice b m e, .slice a5 (V.nS + 1) p5, .slice V.aD V.nD V.cD, .slice V.aL V.nL V.cL, .int .i64 R.mv] 38 :: .box (w.heap.size + 1) #[.slice none 0 0, .slice none 0 0, .slice none 0 0, .slice none 0 0, .slice none 0 0, .int .i64 0] 38 :: l) W := q.rot4
    exact (Its.dshut (V := { V with aS := a5, nS := V.nS + 1, cS := p5 }) (R := { R with sp := R.sp ++ [(t, x)] }) q2 ⟨by simp [HF.out.lS], HF.out.lD, HF.out.lL, by have := HF.out.bS; simp only; omega, by have := HF.out.bD; simp only; omega, by have := HF.out.bL; simp only; omega, hk, HF.out.mv.1, by have := HF.out.mv.2; simp only; omega⟩).rot3'.swap)
  have HL1 : Hid (([] : List (Int × Int)).length + R.sp.length ≤ 1000000) := hide (by have := HF.out.lS; have := HF.out.bS; simp; omega)
  have HL2 : Hid (([] ++ R.sp).length + [(t, x)].length ≤ 1000000) := hide (by have := HF.out.lS; have := HF.out.bS; simp; omega)
  have HL3 : Hid (([] ++ R.sp).length = V.nS) := hide (by simp [HF.out.lS])
  have HL4 : Hid (([] ++ R.sp ++ [(t, x)]).length = V.nS + 1) := hide (by simp [HF.out.lS])
  have HRd : Hid (∀ W, (It.dm w0.heap.size V R k).P W → spE.Rd W (.slice V.aS V.nS V.cS) R.sp) := hide (fun W hW => (dm_s hW).rd)
  obtain ⟨mv, hmv⟩ : ∃ mv, R.mv = mv := ⟨_, rfl⟩
  have Hmv := hide hmv
  rw [hmv] at I1 KF KT HS HDm
  rw [hmv]
  clear hmv
  obtain ⟨aS, nS, cS, aD, nD, cD, aL, nL, cL⟩ := V
  dsimp only at *
  go_enter Try.func16, Try.ntmps16
  go_upto_region 1 with fail
  generalize (w.alloc (.cells #[.slice a n c, .slice b m e, .slice aS nS cS, .slice aD nD cD, .slice aL nL cL, .int .i64 mv] 38)).alloc (.cells #[.slice none 0 0, .slice none 0 0, .slice none 0 0, .slice none 0 0, .slice none 0 0, .int .i64 0] 38) = W1 at *
  obtain ⟨e0, e1, e2, e3, e4, e5, ef⟩ := Its.cells6 I1.out; obtain ⟨c0, c1, c2, c3, c4, c5, cf⟩ := Its.cells6 I1.out.tail
  go_cut [25] (fun v25 wx => v25 = .bool ob ∧ wx = W1)
  case first =>
    by_cases h0 : t < 1
    · have hr : ob = true := by rw [← Hob.out]; simp [h0]
      subst hr
      go_wp2_with fail
      go_meet
      exact ⟨rfl, rfl⟩
    by_cases h1 : 30 < t
    · have hr : ob = true := by rw [← Hob.out]; simp [h1]
      subst hr
      go_wp2_with fail
      go_meet
      exact ⟨rfl, rfl⟩
    by_cases h2 : x < 0
    · have hr : ob = true := by rw [← Hob.out]; simp [h2]
      subst hr
      go_wp2_with fail
      go_meet
      exact ⟨rfl, rfl⟩
    by_cases h3 : (n : Int) ≤ x
    · have hr : ob = true := by rw [← Hob.out]; simp [h3]
      subst hr
      go_wp2_with fail
      go_meet
      exact ⟨rfl, rfl⟩
    have hr : ob = false := by rw [← Hob.out, decide_eq_false h0, decide_eq_false h1, decide_eq_false h2, decide_eq_false h3]; rfl
    subst hr
    go_wp2_with fail
    go_meet
    exact ⟨rfl, rfl⟩
  case rest =>
  obtain ⟨rfl, rfl⟩ := hcut
  cases ob with
  | true =>
    go_upto_region 2 with fail
    have HIe := hide (Its.out6 I1.out (.slice a n c) (.slice b m e) (.slice aS nS cS) (.slice aD nD cD) (.slice aL nL cL) (.int .i64 mv))
    go_wp2_with fail
    obtain ⟨y0, y1, y2, y3, y4, y5, _⟩ := Its.cells6 HIe.out
    exact bodyPost_ret (v := .tuple #[.agg #[.slice a n c, .slice b m e, .slice aS nS cS, .slice aD nD cD, .slice aL nL cL, .int .i64 mv], .int .i64 1]) (by simp [results, Try.results16, go_sem, y0, y1, y2, y3, y4, y5]) rfl (RP.mk2 (V := ⟨aS, nS, cS, aD, nD, cD, aL, nL, cL⟩) (by rw [← HPP.out]; simp) Hmv.out (HS.out _ HIe.out))
  | false =>
    by_cases hw : 0 ≤ wt
    · go_upto_region 4 with (go_at_call 31; refine (KF.out _ I1.out.three).mono ?_; rintro e1 W2 ⟨rfl, q⟩; have I2 := hide (I1.out.keep q); clear q; obtain ⟨se0, se1, se2, se3, se4, se5, sef⟩ := Its.cells6 I2.out; obtain ⟨sc0, sc1, sc2, sc3, sc4, sc5, scf⟩ := Its.cells6 I2.out.tail)
      have HIe := hide (Its.out6 I2.out (.slice a n c) (.slice b m e) (.slice aS nS cS) (.slice aD nD cD) (.slice aL nL cL) (.int .i64 mv))
      go_wp2_with fail
      obtain ⟨y0, y1, y2, y3, y4, y5, _⟩ := Its.cells6 HIe.out
      exact bodyPost_ret (v := .tuple #[.agg #[.slice a n c, .slice b m e, .slice aS nS cS, .slice aD nD cD, .slice aL nL cL, .int .i64 mv], .int .i64 2]) (by simp [results, Try.results16, go_sem, y0, y1, y2, y3, y4, y5]) rfl (RP.mk2 (V := ⟨aS, nS, cS, aD, nD, cD, aL, nL, cL⟩) (by rw [← HPP.out]; simp [hw]) Hmv.out (HS.out _ HIe.out))
    · by_cases ht : 0 < tk
      · go_upto_region 6 with (first
          | (go_at_call 32; refine (KT.out _ I2.out.three).mono ?_; rintro e1 W3 ⟨rfl, q⟩; have I3 := hide (I2.out.keep q); clear q; obtain ⟨te0, te1, te2, te3, te4, te5, tef⟩ := Its.cells6 I3.out; obtain ⟨tc0, tc1, tc2, tc3, tc4, tc5, tcf⟩ := Its.cells6 I3.out.tail)
          | (go_at_call 31; refine (KF.out _ I1.out.three).mono ?_; rintro e1 W2 ⟨rfl, q⟩; have I2 := hide (I1.out.keep q); clear q; obtain ⟨se0, se1, se2, se3, se4, se5, sef⟩ := Its.cells6 I2.out; obtain ⟨sc0, sc1, sc2, sc3, sc4, sc5, scf⟩ := Its.cells6 I2.out.tail))
        have HIe := hide (Its.out6 I3.out (.slice a n c) (.slice b m e) (.slice aS nS cS) (.slice aD nD cD) (.slice aL nL cL) (.int .i64 mv))
        go_wp2_with fail
        obtain ⟨y0, y1, y2, y3, y4, y5, _⟩ := Its.cells6 HIe.out
        exact bodyPost_ret (v := .tuple #[.agg #[.slice a n c, .slice b m e, .slice aS nS cS, .slice aD nD cD, .slice aL nL cL, .int .i64 mv], .int .i64 100]) (by simp [results, Try.results16, go_sem, y0, y1, y2, y3, y4, y5]) rfl (RP.mk2 (V := ⟨aS, nS, cS, aD, nD, cD, aL, nL, cL⟩) (by rw [← HPP.out]; simp [hw, ht]) Hmv.out (HS.out _ HIe.out))
      · go_upto_region 7 with (first
          | (go_at_call 32; refine (KT.out _ I2.out.three).mono ?_; rintro e1 W3 ⟨rfl, q⟩; have I3 := hide (I2.out.keep q); clear q; obtain ⟨te0, te1, te2, te3, te4, te5, tef⟩ := Its.cells6 I3.out; obtain ⟨tc0, tc1, tc2, tc3, tc4, tc5, tcf⟩ := Its.cells6 I3.out.tail)
          | (go_at_call 31; refine (KF.out _ I1.out.three).mono ?_; rintro e1 W2 ⟨rfl, q⟩; have I2 := hide (I1.out.keep q); clear q; obtain ⟨se0, se1, se2, se3, se4, se5, sef⟩ := Its.cells6 I2.out; obtain ⟨sc0, sc1, sc2, sc3, sc4, sc5, scf⟩ := Its.cells6 I2.out.tail))
        have HX1 : Hid (Its w0 (.row spE w0.heap.size (.slice (some ⟨W3.heap.size, 0, none⟩) 0 0) [] :: .box (w.heap.size + 1) #[.slice none 0 0, .slice none 0 0, .slice none 0 0, .slice none 0 0, .slice none 0 0, .int .i64 0] 38 :: .box w.heap.size #[.slice a n c, .slice b m e, .slice aS nS cS, .slice aD nD cD, .slice aL nL cL, .int .i64 mv] 38 :: .dm w0.heap.size ⟨aS, nS, cS, aD, nD, cD, aL, nL, cL⟩ R k :: l) (W3.alloc (.cells #[] 79))) := hide (I3.out.fresh (El.Own.new spE W3 W3.heap.size (Nat.le_refl _) #[] [] rfl (by simp) W3.heap.size 0 0 rfl rfl rfl) (below_new W3 _))
        obtain ⟨ue0, ue1, ue2, ue3, ue4, ue5, uef⟩ := Its.cells6 HX1.out.tail.tail
        go_upto_region 8 with (first
          | (at_builtin; refine spE.wpB (B := w0.heap.size) HX2.out.size (by rfl) _ _ rfl _ _ rfl rfl ([] ++ R.sp) [(t, x)] HX2.out.one HS2.out HL2.out ?_; intro v5 W5 ho hg hs; obtain ⟨a5, p5, hf5⟩ := ho.rd.form; rw [HL4.out] at hf5; subst hf5; have HI5 := hide (HX2.out.grow ho hg hs); clear ho hg hs; obtain ⟨we0, we1, we2, we3, we4, we5, wef⟩ := Its.cells6 HI5.out.tail.tail)
          | (at_builtin; refine spE.wpB (B := w0.heap.size) HX1.out.size (by rfl) _ _ rfl _ _ rfl rfl [] R.sp HX1.out.one (HRd.out _ HX1.out.four) HL1.out ?_; intro v4 W4 ho hg hs; obtain ⟨a4, p4, hf4⟩ := ho.rd.form; rw [HL3.out] at hf4; subst hf4; have HX2 := hide ((HX1.out.grow ho hg hs).alloc (.cells #[.int .i64 t, .int .i64 x] 79)); have HS2 := hide (sp_new W4 (t, x) W4.heap.size rfl); clear ho hg hs; obtain ⟨xe0, xe1, xe2, xe3, xe4, xe5, xef⟩ := Its.cells6 HX2.out.tail.tail))
        have I6 := hide (HDm.out _ a5 p5 (HI5.out.rot3.put1 2 (.slice a5 (nS + 1) p5)))
        generalize W5.setCell ⟨w.heap.size, 2, none⟩ (.slice a5 (nS + 1) p5) = W6 at *
        obtain ⟨ve0, ve1, ve2, ve3, ve4, ve5, vef⟩ := Its.cells6 I6.out; obtain ⟨vc0, vc1, vc2, vc3, vc4, vc5, vcf⟩ := Its.cells6 I6.out.tail
        have HIe := hide (Its.out6 I6.out (.slice a n c) (.slice b m e) (.slice a5 (nS + 1) p5) (.slice aD nD cD) (.slice aL nL cL) (.int .i64 mv))
        go_wp2_with fail
        obtain ⟨y0, y1, y2, y3, y4, y5, _⟩ := Its.cells6 HIe.out
        exact bodyPost_ret (v := .tuple #[.agg #[.slice a n c, .slice b m e, .slice a5 (nS + 1) p5, .slice aD nD cD, .slice aL nL cL, .int .i64 mv], .int .i64 0]) (by simp [results, Try.results16, go_sem, y0, y1, y2, y3, y4, y5]) rfl (RP.mk2 (V := ⟨a5, nS + 1, p5, aD, nD, cD, aL, nL, cL⟩) (R := ⟨R.sp ++ [(t, x)], R.bk, R.la, mv⟩) (by rw [← HPP.out, if_neg (show ¬ (false = true) by simp), if_neg (show ¬ 0 ≤ wt by omega), if_neg (show ¬ 0 < tk by omega), Hmv.out]) rfl HIe.out.tail.tail)
end
end Go.Proofs.Ythcdfclhenmleaa
