/- The document's Hear, one of its ways. -/
import Derived.Test.YthcdfclhenmleaaDph
import Derived.BigRegion
import Derived.Deep.RegionWith
namespace Go.Proofs.Ythcdfclhenmleaa
open Go.RowKit
set_option linter.unusedVariables false
section
variable {w0 w : World} {l : List It} {k : Nat} {V : Vp} {R : Rp} {a b : Option Addr} {c e n m : Nat} {ns : List Nd} {es : List Ed}
set_option maxRecDepth 100000 in
set_option maxHeartbeats 8000000 in
theorem rhearD (h : Its w0 (.dm w0.heap.size V R k :: l) w) (L0 : Lyt w0 a b c e n m ns es) (hm : m ≤ 120) (hk : k + 1 ≤ 1000) (t : Tl) (ht : t.In) (hlb : R.wrk m t.d = true → 0 ≤ (R.lst t.d).1.seq ∧ (R.lst t.d).1.seq ≤ 65535) (hM : R.wrk m t.d = true ∧ t.k = 1 ∧ Rp.jst (R.lst t.d) t = false ∧ Rp.lte (R.lst t.d) t = false ∧ (decide (t.a = 0) || decide (R.att (edE2 es t.d).1 ≠ t.a)) = false ∧ ¬ 0 < R.att (edE2 es t.d).2) : Calls Try.prog 18 #[.agg #[.slice a n c, .slice b m e, .slice V.aS V.nS V.cS, .slice V.aD V.nD V.cD, .slice V.aL V.nL V.cL, .int .i64 R.mv], tv t] w fun r w' => RH w0 l a b c e n m (k + 1) (R.hear es t) r w' := by
  obtain ⟨tk, td, ts, ta, tb⟩ := t
  unfold tv
  dsimp only at *
  have HM := hide hM
  clear hM
  have I1 : Hid (Its w0 (.box (w.heap.size + 1 + 1 + 1) #[.int .u8 0, .int .u16 0, .int .u16 0, .int .u16 0, .int .u16 0] 45 :: .box (w.heap.size + 1 + 1) #[.slice none 0 0, .slice none 0 0, .slice none 0 0, .slice none 0 0, .slice none 0 0, .int .i64 0] 38 :: .box (w.heap.size + 1) #[.int .u8 tk, .int .u16 td, .int .u16 ts, .int .u16 ta, .int .u16 tb] 45 :: .box w.heap.size #[.slice a n c, .slice b m e, .slice V.aS V.nS V.cS, .slice V.aD V.nD V.cD, .slice V.aL V.nL V.cL, .int .i64 R.mv] 38 :: .dm w0.heap.size V R k :: l) ((((w.alloc (.cells #[.slice a n c, .slice b m e, .slice V.aS V.nS V.cS, .slice V.aD V.nD V.cD, .slice V.aL V.nL V.cL, .int .i64 R.mv] 38)).alloc (.cells #[.int .u8 tk, .int .u16 td, .int .u16 ts, .int .u16 ta, .int .u16 tb] 45)).alloc (.cells #[.slice none 0 0, .slice none 0 0, .slice none 0 0, .slice none 0 0, .slice none 0 0, .int .i64 0] 38)).alloc (.cells #[.int .u8 0, .int .u16 0, .int .u16 0, .int .u16 0, .int .u16 0] 45))) := hide ((((h.boxN #[.slice a n c, .slice b m e, .slice V.aS V.nS V.cS, .slice V.aD V.nD V.cD, .slice V.aL V.nL V.cL, .int .i64 R.mv] 38 rfl).boxN #[.int .u8 tk, .int .u16 td, .int .u16 ts, .int .u16 ta, .int .u16 tb] 45 (n := w.heap.size + 1) (by show (w.heap.push _).size = _; simp)).boxN #[.slice none 0 0, .slice none 0 0, .slice none 0 0, .slice none 0 0, .slice none 0 0, .int .i64 0] 38 (n := w.heap.size + 1 + 1) (by show ((w.heap.push _).push _).size = _; simp)).boxN #[.int .u8 0, .int .u16 0, .int .u16 0, .int .u16 0, .int .u16 0] 45 (n := w.heap.size + 1 + 1 + 1) (by show (((w.heap.push _).push _).push _).size = _; simp))
  have HF := hide (dm_f h.one)
  have HS : Hid (∀ W, Its w0 (.dm w0.heap.size V R k :: l) W → Its w0 (.dm w0.heap.size V R (k + 1) :: l) W) := hide (fun W hW => hW.dmono (by omega) hk)
  have KW : Hid (∀ W : World, (It.dm w0.heap.size V R k).P W → Calls Try.prog 35 #[.agg #[.slice a n c, .slice b m e, .slice V.aS V.nS V.cS, .slice V.aD V.nD V.cD, .slice V.aL V.nL V.cL, .int .i64 R.mv], .int .i64 td] W fun e w' => e = .returned (.bool (R.wrk m td)) ∧ Below W.heap.size W w') := hide (fun W hW => rworks_any hW td)
  have KL : Hid (∀ W : World, (It.dm w0.heap.size V R k).P W → Calls Try.prog 36 #[.agg #[.slice a n c, .slice b m e, .slice V.aS V.nS V.cS, .slice V.aD V.nD V.cD, .slice V.aL V.nL V.cL, .int .i64 R.mv], .int .i64 td] W fun r9 w' => r9 = .returned (.tuple #[.agg #[.int .i64 (R.lst td).1.dev, .int .u16 (R.lst td).1.seq, .int .u16 (R.lst td).1.tote], .bool (R.lst td).2]) ∧ Below W.heap.size W w') := hide (fun W hW => rlast_any hW td)
  have KA : Hid (∀ (x : Int) (W : World), (It.dm w0.heap.size V R k).P W → Calls Try.prog 32 #[.agg #[.slice a n c, .slice b m e, .slice V.aS V.nS V.cS, .slice V.aD V.nD V.cD, .slice V.aL V.nL V.cL, .int .i64 R.mv], .int .i64 x] W fun e w' => e = .returned (.int .i64 (R.att x)) ∧ Below W.heap.size W w') := hide (fun x W hW => rat_any hW x)
  have HwD : R.wrk m td = true → 1 ≤ td ∧ td ≤ m := fun z => by
    unfold Rp.wrk at z
    simp only [Bool.and_eq_true, decide_eq_true_eq] at z
    exact z.2
  obtain ⟨hi0, hi1, hi2, hi3, hi4⟩ := ht
  dsimp only at hi0 hi1 hi2 hi3 hi4
  obtain ⟨P, hP⟩ : ∃ P, R.hear es ⟨tk, td, ts, ta, tb⟩ = P := ⟨_, rfl⟩
  rw [hP]
  unfold Rp.hear at hP
  dsimp only at hP
  rw [L0.hm] at hP
  have HL0 := hide L0
  obtain ⟨mv, hmv⟩ : ∃ mv, R.mv = mv := ⟨_, rfl⟩
  have Hmv := hide hmv
  have Hmb : Hid (0 ≤ mv ∧ mv ≤ 1000) := hide (by have h1 := HF.out.mv; have h2 := HF.out.bk; rw [hmv] at h1; omega)
  rw [hmv] at I1 KW KL KA ⊢
  clear hmv h L0
  obtain ⟨td0, td1⟩ := hi1
  obtain ⟨tk0, tk1⟩ := hi0
  obtain ⟨ta0, ta1⟩ := hi3
  have Hts := hide hi2
  clear hi4 hi2
  generalize R.wrk m td = wk at *
  cases wk with
  | false =>
    exact absurd HM.out.1 (by simp)
  | true =>
  rw [if_neg (show ¬ (true = false) by simp)] at hP
  obtain ⟨hd1, hd2⟩ := HwD rfl
  have hq := hlb rfl
  clear HwD hlb
  obtain ⟨ql, hql⟩ : ∃ ql, R.lst td = ql := ⟨_, rfl⟩
  rw [hql] at hP KL hq
  try rw [hql] at HM
  clear hql
  obtain ⟨⟨ld, lq, lt⟩, lb⟩ := ql
  dsimp only at *
  obtain ⟨kd, hkd⟩ : ∃ kd : Nat, td = (kd : Int) + 1 := ⟨(td - 1).toNat, by omega⟩
  obtain ⟨ee, hee⟩ : ∃ ee, es[kd]? = some ee := ⟨_, List.getElem?_eq_getElem (by rw [HL0.out.hm]; omega)⟩
  have hed : edE2 es td = ee := by unfold edE2; rw [show (td - 1).toNat = kd by omega, hee]; rfl
  rw [hed] at hP
  try rw [hed] at HM
  have XE : Hid (∀ W, Below w0.heap.size w0 W → ∃ be oe, b = some ⟨be, oe, none⟩ ∧ W.cell? ⟨be, oe + kd * 2, none⟩ = some (.int .i64 ee.1) ∧ W.cell? ⟨be, oe + kd * 2 + 1, none⟩ = some (.int .i64 ee.2)) := hide (fun W hW => ed_at (HL0.out.keep hW).hu kd ee hee)
  have Hkd := hide hkd
  have Hgo : Hid (R.go es ⟨1, td, ts, ta, tb⟩ = ⟨R.sp.map (mvS ta ee.2), R.bk, ⟨td, ts, ta⟩ :: R.la.filter (fun x => decide (x.dev ≠ td)), R.mv + 1⟩) := hide (by unfold Rp.go; rw [hed])
  have hkm : kd < m := by omega
  obtain ⟨ea, eb⟩ := ee
  dsimp only at *
  obtain ⟨aS, nS, cS, aD, nD, cD, aL, nL, cL⟩ := V
  dsimp only at *
  clear hee hed hkd
  go_enter Try.func18, Try.ntmps18
  go_upto_region 1 with fail
  generalize ((((w.alloc (.cells #[.slice a n c, .slice b m e, .slice aS nS cS, .slice aD nD cD, .slice aL nL cL, .int .i64 mv] 38)).alloc (.cells #[.int .u8 tk, .int .u16 td, .int .u16 ts, .int .u16 ta, .int .u16 tb] 45)).alloc (.cells #[.slice none 0 0, .slice none 0 0, .slice none 0 0, .slice none 0 0, .slice none 0 0, .int .i64 0] 38)).alloc (.cells #[.int .u8 0, .int .u16 0, .int .u16 0, .int .u16 0, .int .u16 0] 45)) = W1 at *
  obtain ⟨a0, a1, a2, a3, a4, af⟩ := Its.cells5 I1.out; obtain ⟨e0, e1, e2, e3, e4, e5, ef⟩ := Its.cells6 I1.out.tail; obtain ⟨t0, t1, t2, t3, t4, tf⟩ := Its.cells5 I1.out.tail.tail; obtain ⟨c0, c1, c2, c3, c4, c5, cf⟩ := Its.cells6 I1.out.tail.tail.tail
  go_upto_region 5 with (first
    | (go_at_call 36; refine (KL.out _ (I2.out.pick 4 rfl).one).mono ?_; rintro e1 W3 ⟨rfl, q⟩; have I3 := hide (I2.out.keep q); clear q)
    | (go_at_call 35; refine (KW.out _ (I1.out.pick 4 rfl).one).mono ?_; rintro e1 W2 ⟨rfl, q⟩; have I2 := hide (I1.out.keep q); clear q; obtain ⟨sa0, sa1, sa2, sa3, sa4, saf⟩ := Its.cells5 I2.out; obtain ⟨se0, se1, se2, se3, se4, se5, sef⟩ := Its.cells6 I2.out.tail; obtain ⟨st0, st1, st2, st3, st4, stf⟩ := Its.cells5 I2.out.tail.tail; obtain ⟨sc0, sc1, sc2, sc3, sc4, sc5, scf⟩ := Its.cells6 I2.out.tail.tail.tail))
  clear a0 a1 a2 a3 a4 af e0 e1 e2 e3 e4 e5 ef t0 t1 t2 t3 t4 tf c0 c1 c2 c3 c4 c5 cf
  clear sa0 sa1 sa2 sa3 sa4 saf se0 se1 se2 se3 se4 se5 sef st0 st1 st2 st3 st4 stf sc0 sc1 sc2 sc3 sc4 sc5 scf
  obtain ⟨gl, hgl⟩ : ∃ gl, W3.heap.size = gl := ⟨_, rfl⟩
  have I4 : Hid (Its w0 (.box gl #[.int .i64 ld, .int .u16 lq, .int .u16 lt] 84 :: .box (w.heap.size + 1 + 1 + 1) #[.int .u8 0, .int .u16 0, .int .u16 0, .int .u16 0, .int .u16 0] 45 :: .box (w.heap.size + 1 + 1) #[.slice none 0 0, .slice none 0 0, .slice none 0 0, .slice none 0 0, .slice none 0 0, .int .i64 0] 38 :: .box (w.heap.size + 1) #[.int .u8 tk, .int .u16 td, .int .u16 ts, .int .u16 ta, .int .u16 tb] 45 :: .box w.heap.size #[.slice a n c, .slice b m e, .slice aS nS cS, .slice aD nD cD, .slice aL nL cL, .int .i64 mv] 38 :: .dm w0.heap.size ⟨aS, nS, cS, aD, nD, cD, aL, nL, cL⟩ R k :: l) (W3.alloc (.cells #[.int .i64 ld, .int .u16 lq, .int .u16 lt] 84))) := hide (I3.out.boxN #[.int .i64 ld, .int .u16 lq, .int .u16 lt] 84 hgl)
  try rw [hgl]
  clear I1 I2 I3 KW KL hgl
  generalize W3.alloc (.cells #[.int .i64 ld, .int .u16 lq, .int .u16 lt] 84) = W4 at *
  obtain ⟨a0, a1, a2, a3, a4, af⟩ := Its.cells5 I4.out.tail; obtain ⟨e0, e1, e2, e3, e4, e5, ef⟩ := Its.cells6 I4.out.tail.tail; obtain ⟨t0, t1, t2, t3, t4, tf⟩ := Its.cells5 I4.out.tail.tail.tail; obtain ⟨c0, c1, c2, c3, c4, c5, cf⟩ := Its.cells6 I4.out.tail.tail.tail.tail
  obtain ⟨l0, l1, l2, lf⟩ := Its.cells3 I4.out
  by_cases k6 : tk = 6
  case pos =>
    exact absurd HM.out.2.1 (by omega)
  case neg =>
  rw [if_neg k6] at hP
  have k6' : (tk == 6) = false := beq_eq_false_iff_ne.2 k6
  by_cases k1 : tk = 1
  case neg =>
    exact absurd HM.out.2.1 k1
  case pos =>
  subst k1
  rw [if_neg (show ¬ ((1 : Int) ≠ 1) by simp)] at hP
  have HP := hide hP
  clear hP k6 k6'
  go_upto_region 10 with fail
  clear a0 a1 a2 a3 a4 af e0 e1 e2 e3 e4 e5 ef t0 t1 t2 t3 t4 tf c0 c1 c2 c3 c4 c5 cf
  clear l0 l1 l2 lf
  obtain ⟨gd, hgd⟩ : ∃ gd, W4.heap.size = gd := ⟨_, rfl⟩
  have I5 : Hid (Its w0 (.box gd #[.int .u8 2, .int .u16 td, .int .u16 ts, .int .u16 ta, .int .u16 0] 45 :: .box gl #[.int .i64 ld, .int .u16 lq, .int .u16 lt] 84 :: .box (w.heap.size + 1 + 1 + 1) #[.int .u8 0, .int .u16 0, .int .u16 0, .int .u16 0, .int .u16 0] 45 :: .box (w.heap.size + 1 + 1) #[.slice none 0 0, .slice none 0 0, .slice none 0 0, .slice none 0 0, .slice none 0 0, .int .i64 0] 38 :: .box (w.heap.size + 1) #[.int .u8 1, .int .u16 td, .int .u16 ts, .int .u16 ta, .int .u16 tb] 45 :: .box w.heap.size #[.slice a n c, .slice b m e, .slice aS nS cS, .slice aD nD cD, .slice aL nL cL, .int .i64 mv] 38 :: .dm w0.heap.size ⟨aS, nS, cS, aD, nD, cD, aL, nL, cL⟩ R k :: l) (W4.alloc (.cells #[.int .u8 2, .int .u16 td, .int .u16 ts, .int .u16 ta, .int .u16 0] 45))) := hide (I4.out.boxN #[.int .u8 2, .int .u16 td, .int .u16 ts, .int .u16 ta, .int .u16 0] 45 hgd)
  try rw [hgd]
  clear I4 hgd
  generalize W4.alloc (.cells #[.int .u8 2, .int .u16 td, .int .u16 ts, .int .u16 ta, .int .u16 0] 45) = W5 at *
  obtain ⟨a0, a1, a2, a3, a4, af⟩ := Its.cells5 I5.out.tail.tail; obtain ⟨e0, e1, e2, e3, e4, e5, ef⟩ := Its.cells6 I5.out.tail.tail.tail; obtain ⟨t0, t1, t2, t3, t4, tf⟩ := Its.cells5 I5.out.tail.tail.tail.tail; obtain ⟨c0, c1, c2, c3, c4, c5, cf⟩ := Its.cells6 I5.out.tail.tail.tail.tail.tail
  obtain ⟨l0, l1, l2, lf⟩ := Its.cells3 I5.out.tail; obtain ⟨b0, b1, b2, b3, b4, bf⟩ := Its.cells5 I5.out
  obtain ⟨jj, hjj⟩ : ∃ jj, Rp.jst (⟨ld, lq, lt⟩, lb) ⟨1, td, ts, ta, tb⟩ = jj := ⟨_, rfl⟩
  obtain ⟨ll, hll⟩ : ∃ ll, Rp.lte (⟨ld, lq, lt⟩, lb) ⟨1, td, ts, ta, tb⟩ = ll := ⟨_, rfl⟩
  replace HP := HP.out
  rw [hjj, hll] at HP
  try rw [hjj] at HM
  try rw [hll] at HM
  have HP2 := hide HP
  have Hjj := hide hjj
  have Hll := hide hll
  clear HP hjj hll
  go_cut [71] (fun v71 wx => v71 = .bool jj ∧ wx = W5)
  case first =>
    cases lb with
    | false =>
      obtain rfl : jj = false := by rw [← Hjj.out]; rfl
      go_wp2_with fail
      go_meet
      exact ⟨rfl, rfl⟩
    | true =>
      by_cases z1 : lq = ts
      · by_cases z2 : lt = ta
        · obtain rfl : jj = true := by rw [← Hjj.out]; simp [Rp.jst, z1, z2]
          have z1' : (lq == ts) = true := by rw [z1]; simp
          have z2' : (lt == ta) = true := by rw [z2]; simp
          clear z1 z2
          go_wp2_with fail
          go_meet
          exact ⟨rfl, rfl⟩
        · obtain rfl : jj = false := by rw [← Hjj.out]; simp [Rp.jst, z2]
          have z1' : (lq == ts) = true := by rw [z1]; simp
          have z2' : (lt == ta) = false := beq_eq_false_iff_ne.2 z2
          clear z1 z2
          go_wp2_with fail
          go_meet
          exact ⟨rfl, rfl⟩
      · obtain rfl : jj = false := by rw [← Hjj.out]; simp [Rp.jst, z1]
        have z1' : (lq == ts) = false := beq_eq_false_iff_ne.2 z1
        clear z1
        go_wp2_with fail
        go_meet
        exact ⟨rfl, rfl⟩
  case rest =>
  obtain ⟨rfl, rfl⟩ := hcut
  clear Hjj
  cases jj with
  | true =>
    exact absurd HM.out.2.2.1 (by simp)
  | false =>
  replace HP2 := HP2.out
  rw [if_neg (show ¬ (false = true) by simp)] at HP2
  have HP3 := hide HP2
  clear HP2
  have KD : Hid (∀ W : World, Calls Try.prog 37 #[.int .u16 lq, .int .u16 ts] W fun e w' => e = .returned (.int .i64 (dst lq ts)) ∧ w' = W) := hide (fun W => rdist_any lq ts W hq Hts.out)
  obtain ⟨wA, rfl⟩ : ∃ W, W = wc := ⟨_, rfl⟩
  go_upto_region 12 with fail
  go_cut [82] (fun v82 wx => v82 = .bool ll ∧ wx = wA)
  case first =>
    cases lb with
    | false =>
      obtain rfl : ll = false := by rw [← Hll.out]; rfl
      go_wp2_with fail
      go_meet
      exact ⟨rfl, rfl⟩
    | true =>
      have hl2 : ll = decide (dst lq ts ≤ 0) := by rw [← Hll.out]; simp [Rp.lte]
      generalize dst lq ts = dd at *
      by_cases z : dd ≤ 0
      · obtain rfl : ll = true := by rw [hl2]; exact decide_eq_true z
        have z3 : decide (dd ≤ 0) = true := decide_eq_true z
        clear hl2
        go_wp2_with (go_at_call 37; refine (KD.out _).mono ?_; rintro e1 W6 ⟨rfl, rfl⟩)
        go_meet
        exact ⟨by first | rfl | exact congrArg Value.bool z3, rfl⟩
      · obtain rfl : ll = false := by rw [hl2]; exact decide_eq_false z
        have z3 : decide (dd ≤ 0) = false := decide_eq_false z
        clear hl2
        go_wp2_with (go_at_call 37; refine (KD.out _).mono ?_; rintro e1 W6 ⟨rfl, rfl⟩)
        go_meet
        exact ⟨by first | rfl | exact congrArg Value.bool z3, rfl⟩
  case rest =>
  obtain ⟨rfl, rfl⟩ := hcut
  clear Hll KD
  cases ll with
  | true =>
    exact absurd HM.out.2.2.2.1 (by simp)
  | false =>
  replace HP3 := HP3.out
  rw [if_neg (show ¬ (false = true) by simp)] at HP3
  have HP4 := hide HP3
  clear HP3 hq
  obtain ⟨W5, rfl⟩ : ∃ W, W = wc := ⟨_, rfl⟩
  obtain ⟨be, oe, rfl, _⟩ := XE.out _ I5.out.bel
  have XF : Hid (∀ W, Below w0.heap.size w0 W → W.cell? ⟨be, oe + kd * 2, none⟩ = some (.int .i64 ea) ∧ W.cell? ⟨be, oe + kd * 2 + 1, none⟩ = some (.int .i64 eb)) := hide (fun W hW => by
    obtain ⟨b1, o1, q1, q3⟩ := XE.out W hW
    simp only [Option.some.injEq, Addr.mk.injEq] at q1
    obtain ⟨rfl, rfl, _⟩ := q1
    exact q3)
  clear XE
  obtain ⟨x0, x1⟩ := XF.out _ I5.out.bel
  have r1 : td.toNat - 1 = kd := by have := Hkd.out; omega
  rw [← r1] at x0 x1
  clear r1
  clear a0 a1 a2 a3 a4 af e0 e1 e2 e3 e4 e5 ef t0 t1 t2 t3 t4 tf c0 c2 c3 c4 c5 cf l0 l1 l2 lf b0 b1 b2 b3 b4 bf
  go_upto_region 15 with fail
  clear x0 x1 c1
  obtain ⟨ge, hge⟩ : ∃ ge, W5.heap.size = ge := ⟨_, rfl⟩
  have I6 : Hid (Its w0 (.box ge #[.int .i64 ea, .int .i64 eb] 42 :: .box gd #[.int .u8 2, .int .u16 td, .int .u16 ts, .int .u16 ta, .int .u16 0] 45 :: .box gl #[.int .i64 ld, .int .u16 lq, .int .u16 lt] 84 :: .box (w.heap.size + 1 + 1 + 1) #[.int .u8 0, .int .u16 0, .int .u16 0, .int .u16 0, .int .u16 0] 45 :: .box (w.heap.size + 1 + 1) #[.slice none 0 0, .slice none 0 0, .slice none 0 0, .slice none 0 0, .slice none 0 0, .int .i64 0] 38 :: .box (w.heap.size + 1) #[.int .u8 1, .int .u16 td, .int .u16 ts, .int .u16 ta, .int .u16 tb] 45 :: .box w.heap.size #[.slice a n c, .slice (some ⟨be, oe, none⟩) m e, .slice aS nS cS, .slice aD nD cD, .slice aL nL cL, .int .i64 mv] 38 :: .dm w0.heap.size ⟨aS, nS, cS, aD, nD, cD, aL, nL, cL⟩ R k :: l) (W5.alloc (.cells #[.int .i64 ea, .int .i64 eb] 42))) := hide (I5.out.boxN #[.int .i64 ea, .int .i64 eb] 42 hge)
  try rw [hge]
  clear I5 hge
  generalize W5.alloc (.cells #[.int .i64 ea, .int .i64 eb] 42) = W6 at *
  obtain ⟨t0, t1, t2, t3, t4, tf⟩ := Its.cells5 (I6.out.pick 5 rfl)
  obtain ⟨c0, c1, c2, c3, c4, c5, cf⟩ := Its.cells6 (I6.out.pick 6 rfl)
  obtain ⟨g0, g1⟩ := cells2 I6.out
  obtain ⟨av, hav⟩ : ∃ av, R.att ea = av := ⟨_, rfl⟩
  have KAe := hide (KA.out ea)
  obtain ⟨av2, hav2⟩ : ∃ av2, R.att eb = av2 := ⟨_, rfl⟩
  have KAb := hide (KA.out eb)
  obtain ⟨rr, hrr⟩ : ∃ rr, (decide (ta = 0) || decide (av ≠ ta)) = rr := ⟨_, rfl⟩
  replace HP4 := HP4.out
  rw [hav, hav2, hrr] at HP4
  rw [hav, hav2, hrr] at HM
  rw [hav] at KAe
  rw [hav2] at KAb
  have HP5 := hide HP4
  have Hrr := hide hrr
  have ra : IntKind.i64.wrap ta = ta := by rw [IntKind.wrap_i64]; omega
  clear HP4 hav hav2 hrr KA
  go_cut [104] (fun v104 wx => v104 = .bool rr ∧ Hid (Its w0 (.box ge #[.int .i64 ea, .int .i64 eb] 42 :: .box gd #[.int .u8 2, .int .u16 td, .int .u16 ts, .int .u16 ta, .int .u16 0] 45 :: .box gl #[.int .i64 ld, .int .u16 lq, .int .u16 lt] 84 :: .box (w.heap.size + 1 + 1 + 1) #[.int .u8 0, .int .u16 0, .int .u16 0, .int .u16 0, .int .u16 0] 45 :: .box (w.heap.size + 1 + 1) #[.slice none 0 0, .slice none 0 0, .slice none 0 0, .slice none 0 0, .slice none 0 0, .int .i64 0] 38 :: .box (w.heap.size + 1) #[.int .u8 1, .int .u16 td, .int .u16 ts, .int .u16 ta, .int .u16 tb] 45 :: .box w.heap.size #[.slice a n c, .slice (some ⟨be, oe, none⟩) m e, .slice aS nS cS, .slice aD nD cD, .slice aL nL cL, .int .i64 mv] 38 :: .dm w0.heap.size ⟨aS, nS, cS, aD, nD, cD, aL, nL, cL⟩ R k :: l) wx))
  case first =>
    by_cases z : ta = 0
    · have this := Hrr.out
      rw [HM.out.2.2.2.2.1] at this
      simp [z] at this
    · have z' : (ta == 0) = false := beq_eq_false_iff_ne.2 z
      have I6d : Hid (Its w0 (.box ge #[.int .i64 ea, .int .i64 eb] 42 :: .box gd #[.int .u8 2, .int .u16 td, .int .u16 ts, .int .u16 ta, .int .u16 0] 45 :: .box gl #[.int .i64 ld, .int .u16 lq, .int .u16 lt] 84 :: .box (w.heap.size + 1 + 1 + 1) #[.int .u8 0, .int .u16 0, .int .u16 0, .int .u16 0, .int .u16 0] 45 :: .box (w.heap.size + 1 + 1) #[.slice none 0 0, .slice none 0 0, .slice none 0 0, .slice none 0 0, .slice none 0 0, .int .i64 0] 38 :: .box (w.heap.size + 1) #[.int .u8 1, .int .u16 td, .int .u16 ts, .int .u16 ta, .int .u16 tb] 45 :: .box w.heap.size #[.slice a n c, .slice (some ⟨be, oe, none⟩) m e, .slice aS nS cS, .slice aD nD cD, .slice aL nL cL, .int .i64 mv] 38 :: .dm w0.heap.size ⟨aS, nS, cS, aD, nD, cD, aL, nL, cL⟩ R k :: l) W6.drew) := hide (I6.out.drew 1)
      have XC : Hid (∀ W, Its w0 (.box ge #[.int .i64 ea, .int .i64 eb] 42 :: .box gd #[.int .u8 2, .int .u16 td, .int .u16 ts, .int .u16 ta, .int .u16 0] 45 :: .box gl #[.int .i64 ld, .int .u16 lq, .int .u16 lt] 84 :: .box (w.heap.size + 1 + 1 + 1) #[.int .u8 0, .int .u16 0, .int .u16 0, .int .u16 0, .int .u16 0] 45 :: .box (w.heap.size + 1 + 1) #[.slice none 0 0, .slice none 0 0, .slice none 0 0, .slice none 0 0, .slice none 0 0, .int .i64 0] 38 :: .box (w.heap.size + 1) #[.int .u8 1, .int .u16 td, .int .u16 ts, .int .u16 ta, .int .u16 tb] 45 :: .box w.heap.size #[.slice a n c, .slice (some ⟨be, oe, none⟩) m e, .slice aS nS cS, .slice aD nD cD, .slice aL nL cL, .int .i64 mv] 38 :: .dm w0.heap.size ⟨aS, nS, cS, aD, nD, cD, aL, nL, cL⟩ R k :: l) W → W.cell? ⟨w.heap.size + 1, 3, none⟩ = some (.int .u16 ta) ∧ W.cell? ⟨ge, 0, none⟩ = some (.int .i64 ea)) := hide (fun W hW => ⟨(Its.cells5 hW.tail.tail.tail.tail.tail).2.2.2.1, (cells2 hW).1⟩)
      by_cases y : av = ta
      · obtain rfl : rr = false := by rw [← Hrr.out]; simp [z, y]
        have y' : (av == ta) = true := by rw [y]; simp
        clear z y
        go_region_with (go_at_call 32; refine (KAe.out _ (I6d.out.pick 7 rfl).one).mono ?_; rintro e1 W7 ⟨rfl, q⟩; have I7 := hide (I6d.out.keep q); clear q; obtain ⟨nb0, nb1⟩ := XC.out _ I7.out)
        all_goals go_wp2_with fail
        all_goals go_meet
        all_goals exact ⟨by first | rfl | exact congrArg Value.bool (by simp [bne, y']), I7⟩
      · have this := Hrr.out
        rw [HM.out.2.2.2.2.1] at this
        simp [y] at this
  case rest =>
  obtain ⟨rfl, I7⟩ := hcut
  obtain ⟨W7, rfl⟩ : ∃ W, W = wc := ⟨_, rfl⟩
  clear t0 t1 t2 t3 t4 tf c0 c1 c2 c3 c4 c5 cf g0 g1
  clear I6 KAe Hrr
  cases rr with
  | true =>
    exact absurd HM.out.2.2.2.2.1 (by simp)
  | false =>
  replace HP5 := HP5.out
  rw [if_neg (show ¬ (false = true) by simp)] at HP5
  have HP6 := hide HP5
  clear HP5
  by_cases u : 0 < av2
  case pos =>
    exact absurd u (Int.not_lt.2 HM.out.2.2.2.2.2)
  case neg =>
  have HPP : Hid (P = ((⟨2, td, ts, ta, 0⟩, true), R.go es ⟨1, td, ts, ta, tb⟩)) := hide (by have := HP6.out; rw [if_neg u] at this; exact this.symm)
  clear HP6
  obtain ⟨c0, c1, c2, c3, c4, c5, cf⟩ := Its.cells6 (I7.out.pick 6 rfl)
  obtain ⟨g0, g1⟩ := cells2 I7.out
  go_upto_region 19 with (go_at_call 32; refine (KAb.out _ (I7.out.pick 7 rfl).one).mono ?_; rintro e1 W8 ⟨rfl, q⟩; have I8 : Hid (Its w0 (.box ge #[.int .i64 ea, .int .i64 eb] 42 :: .box gd #[.int .u8 2, .int .u16 td, .int .u16 ts, .int .u16 ta, .int .u16 0] 45 :: .box (w.heap.size + 1 + 1 + 1) #[.int .u8 0, .int .u16 0, .int .u16 0, .int .u16 0, .int .u16 0] 45 :: .box (w.heap.size + 1 + 1) #[.slice none 0 0, .slice none 0 0, .slice none 0 0, .slice none 0 0, .slice none 0 0, .int .i64 0] 38 :: .box (w.heap.size + 1) #[.int .u8 1, .int .u16 td, .int .u16 ts, .int .u16 ta, .int .u16 tb] 45 :: .box w.heap.size #[.slice a n c, .slice (some ⟨be, oe, none⟩) m e, .slice aS nS cS, .slice aD nD cD, .slice aL nL cL, .int .i64 mv] 38 :: .dm w0.heap.size ⟨aS, nS, cS, aD, nD, cD, aL, nL, cL⟩ R k :: l) _) := hide ((I7.out.keep q).pick 2 rfl).tail; clear q)
  clear c0 c1 c2 c3 c4 c5 cf g0 g1
  clear I7 KAb
  have HX1 : Hid (Its w0 (.row spE w0.heap.size (.slice (some ⟨W8.heap.size, 0, none⟩) 0 0) [] :: .box ge #[.int .i64 ea, .int .i64 eb] 42 :: .box gd #[.int .u8 2, .int .u16 td, .int .u16 ts, .int .u16 ta, .int .u16 0] 45 :: .box (w.heap.size + 1 + 1 + 1) #[.int .u8 0, .int .u16 0, .int .u16 0, .int .u16 0, .int .u16 0] 45 :: .box (w.heap.size + 1 + 1) #[.slice none 0 0, .slice none 0 0, .slice none 0 0, .slice none 0 0, .slice none 0 0, .int .i64 0] 38 :: .box (w.heap.size + 1) #[.int .u8 1, .int .u16 td, .int .u16 ts, .int .u16 ta, .int .u16 tb] 45 :: .box w.heap.size #[.slice a n c, .slice (some ⟨be, oe, none⟩) m e, .slice aS nS cS, .slice aD nD cD, .slice aL nL cL, .int .i64 mv] 38 :: .dm w0.heap.size ⟨aS, nS, cS, aD, nD, cD, aL, nL, cL⟩ R k :: l) (W8.alloc (.cells #[] 79))) := hide (I8.out.fresh (El.Own.new spE W8 W8.heap.size (Nat.le_refl _) #[] [] rfl (by simp) W8.heap.size 0 0 rfl rfl rfl) (below_new W8 _))
  have HRdS : Hid (∀ W, (It.dm w0.heap.size ⟨aS, nS, cS, aD, nD, cD, aL, nL, cL⟩ R k).P W → spE.Rd W (.slice aS nS cS) R.sp) := hide (fun W hW => (dm_s hW).rd)
  have HRdL : Hid (∀ W, (It.dm w0.heap.size ⟨aS, nS, cS, aD, nD, cD, aL, nL, cL⟩ R k).P W → lsE.Rd W (.slice aL nL cL) R.la) := hide (fun W hW => (dm_l hW).rd)
  have HlS := hide HF.out.lS
  have HlL := hide HF.out.lL
  have HL1 : Hid (([] : List (Int × Int)).length + R.sp.length ≤ 1000000) := hide (by have := HF.out.bS; have := HF.out.bk; have := HF.out.lS; simp; dsimp only at *; omega)
  have HL3 : Hid (([] ++ R.sp).length = nS) := hide (by simp [HF.out.lS])
  have i5 : (nS : Int) ≤ 1000 := by have := HF.out.bS; have := HF.out.bk; dsimp only at *; omega
  have i6 : (nL : Int) ≤ 1000 := by have := HF.out.bL; have := HF.out.bk; dsimp only at *; omega
  have hrd := hide (HRdS.out _ (HX1.out.pick 7 rfl).one)
  obtain ⟨c0, c1, c2, c3, c4, c5, cf⟩ := Its.cells6 HX1.out.tail.tail.tail.tail.tail.tail
  go_upto_region 20 with (at_builtin; refine spE.wpB (B := w0.heap.size) HX1.out.size (by rfl) _ _ rfl _ _ rfl rfl [] R.sp HX1.out.one hrd.out HL1.out ?_; intro v9 W9 ho hg hs; obtain ⟨a4, p4, hf4⟩ := ho.rd.form; rw [HL3.out] at hf4; subst hf4; have HX2 := hide (HX1.out.grow ho hg hs); clear ho hg hs; obtain ⟨wc0, wc1, wc2, wc3, wc4, wc5, wcf⟩ := Its.cells6 HX2.out.tail.tail.tail.tail.tail.tail)
  have I9 : Hid (Its w0 (.box w.heap.size #[.slice a n c, .slice (some ⟨be, oe, none⟩) m e, .slice a4 nS p4, .slice aD nD cD, .slice aL nL cL, .int .i64 mv] 38 :: .row spE w0.heap.size (.slice a4 nS p4) (mvP R.sp ta eb 0) :: .box ge #[.int .i64 ea, .int .i64 eb] 42 :: .box gd #[.int .u8 2, .int .u16 td, .int .u16 ts, .int .u16 ta, .int .u16 0] 45 :: .box (w.heap.size + 1 + 1 + 1) #[.int .u8 0, .int .u16 0, .int .u16 0, .int .u16 0, .int .u16 0] 45 :: .box (w.heap.size + 1 + 1) #[.slice none 0 0, .slice none 0 0, .slice none 0 0, .slice none 0 0, .slice none 0 0, .int .i64 0] 38 :: .box (w.heap.size + 1) #[.int .u8 1, .int .u16 td, .int .u16 ts, .int .u16 ta, .int .u16 tb] 45 :: .dm w0.heap.size ⟨aS, nS, cS, aD, nD, cD, aL, nL, cL⟩ R k :: l) (W9.setCell ⟨w.heap.size, 2, none⟩ (.slice a4 nS p4))) := hide (by rw [mvP_zero]; exact (HX2.out.pick 6 rfl).put1 2 (.slice a4 nS p4))
  clear c0 c1 c2 c3 c4 c5 cf wc0 wc1 wc2 wc3 wc4 wc5 wcf HX1 HX2 hrd I8
  generalize W9.setCell ⟨w.heap.size, 2, none⟩ (.slice a4 nS p4) = W10 at *
  obtain ⟨c0, c1, c2, c3, c4, c5, cf⟩ := Its.cells6 I9.out
  go_wp2_with fail
  go_loopw [134] (fun v134 wr => ∃ j : Nat, v134 = .int .i64 j ∧ j ≤ nS ∧ Hid (Its w0 (.box w.heap.size #[.slice a n c, .slice (some ⟨be, oe, none⟩) m e, .slice a4 nS p4, .slice aD nD cD, .slice aL nL cL, .int .i64 mv] 38 :: .row spE w0.heap.size (.slice a4 nS p4) (mvP R.sp ta eb j) :: .box ge #[.int .i64 ea, .int .i64 eb] 42 :: .box gd #[.int .u8 2, .int .u16 td, .int .u16 ts, .int .u16 ta, .int .u16 0] 45 :: .box (w.heap.size + 1 + 1 + 1) #[.int .u8 0, .int .u16 0, .int .u16 0, .int .u16 0, .int .u16 0] 45 :: .box (w.heap.size + 1 + 1) #[.slice none 0 0, .slice none 0 0, .slice none 0 0, .slice none 0 0, .slice none 0 0, .int .i64 0] 38 :: .box (w.heap.size + 1) #[.int .u8 1, .int .u16 td, .int .u16 ts, .int .u16 ta, .int .u16 tb] 45 :: .dm w0.heap.size ⟨aS, nS, cS, aD, nD, cD, aL, nL, cL⟩ R k :: l) wr)) (fun v134 _ => nS - (intOf v134).toNat)
  case atStart => exact ⟨0, rfl, Nat.zero_le _, I9⟩
  case round =>
  clear I9 c0 c1 c2 c3 c4 c5 cf
  obtain ⟨j, rfl, hj, HR⟩ := hrel
  obtain ⟨c0, c1, c2, c3, c4, c5, cf⟩ := Its.cells6 HR.out
  obtain ⟨g0, g1⟩ := cells2 HR.out.tail.tail
  obtain ⟨t0, t1, t2, t3, t4, tf⟩ := Its.cells5 HR.out.tail.tail.tail.tail.tail.tail
  by_cases hjn : j < nS
  case pos =>
    obtain ⟨q, hq⟩ : ∃ q, R.sp[j]? = some q := ⟨_, List.getElem?_eq_getElem (by rw [HlS.out]; exact hjn)⟩
    have hat := mvP_at R.sp ta eb hq
    have hset := mvP_set R.sp ta eb hq
    have o1 : spE.Own wr w0.heap.size (.slice a4 nS p4) (mvP R.sp ta eb j) := HR.out.two
    obtain ⟨g4, q4, hv4, _⟩ := El.Own.some o1 (fun z => by rw [z] at hat; cases hat)
    simp only [Value.slice.injEq] at hv4
    obtain ⟨rfl, hl4, hp4⟩ := hv4
    have hllen : j * 2 + 1 < (mvP R.sp ta eb j).length * 2 := by rw [mvP_len, HlS.out]; (try dsimp only); omega
    have fz := (El.Own.cell o1 (j * 2 + 1) hllen).2.1
    obtain ⟨b1, off1, hb1, d0, d1⟩ := sp_at o1.rd j q hat
    simp only [Option.some.injEq, Addr.mk.injEq, and_true] at hb1
    obtain ⟨rfl, rfl⟩ := hb1
    simp only [Nat.zero_add] at d0 d1
    have j0 : (0 : Int) ≤ (j : Int) := by omega
    have j1 : (j : Int) < (nS : Int) := by omega
    have HSet : Hid (∀ W, Its w0 (.box w.heap.size #[.slice a n c, .slice (some ⟨be, oe, none⟩) m e, .slice (some ⟨g4, 0, none⟩) nS p4, .slice aD nD cD, .slice aL nL cL, .int .i64 mv] 38 :: .row spE w0.heap.size (.slice (some ⟨g4, 0, none⟩) nS p4) (mvP R.sp ta eb j) :: .box ge #[.int .i64 ea, .int .i64 eb] 42 :: .box gd #[.int .u8 2, .int .u16 td, .int .u16 ts, .int .u16 ta, .int .u16 0] 45 :: .box (w.heap.size + 1 + 1 + 1) #[.int .u8 0, .int .u16 0, .int .u16 0, .int .u16 0, .int .u16 0] 45 :: .box (w.heap.size + 1 + 1) #[.slice none 0 0, .slice none 0 0, .slice none 0 0, .slice none 0 0, .slice none 0 0, .int .i64 0] 38 :: .box (w.heap.size + 1) #[.int .u8 1, .int .u16 td, .int .u16 ts, .int .u16 ta, .int .u16 tb] 45 :: .dm w0.heap.size ⟨aS, nS, cS, aD, nD, cD, aL, nL, cL⟩ R k :: l) W → q.1 = ta → Its w0 (.box w.heap.size #[.slice a n c, .slice (some ⟨be, oe, none⟩) m e, .slice (some ⟨g4, 0, none⟩) nS p4, .slice aD nD cD, .slice aL nL cL, .int .i64 mv] 38 :: .row spE w0.heap.size (.slice (some ⟨g4, 0, none⟩) nS p4) (mvP R.sp ta eb (j + 1)) :: .box ge #[.int .i64 ea, .int .i64 eb] 42 :: .box gd #[.int .u8 2, .int .u16 td, .int .u16 ts, .int .u16 ta, .int .u16 0] 45 :: .box (w.heap.size + 1 + 1 + 1) #[.int .u8 0, .int .u16 0, .int .u16 0, .int .u16 0, .int .u16 0] 45 :: .box (w.heap.size + 1 + 1) #[.slice none 0 0, .slice none 0 0, .slice none 0 0, .slice none 0 0, .slice none 0 0, .int .i64 0] 38 :: .box (w.heap.size + 1) #[.int .u8 1, .int .u16 td, .int .u16 ts, .int .u16 ta, .int .u16 tb] 45 :: .dm w0.heap.size ⟨aS, nS, cS, aD, nD, cD, aL, nL, cL⟩ R k :: l) (W.setCell ⟨g4, j * 2 + 1, none⟩ (.int .i64 eb))) := hide (fun W hW he => by
      have a1 := hW.swap.chg (x' := .row spE w0.heap.size (.slice (some ⟨g4, 0, none⟩) nS p4) ((mvP R.sp ta eb j).set j (q.1, eb))) (own_setC (E := spE) (z := (q.1, eb)) (u := .int .i64 eb) (Its.one hW.swap) (i := j) (j := 1) hat (by decide) rfl) (fun _ hk => .inl hk) ((Frm.set W g4 (j * 2 + 1) (.int .i64 eb)).mono (fun _ _ hj => by subst hj; rfl))
      have e : (q.1, eb) = mvS ta eb q := by unfold mvS; rw [if_pos he]
      rw [e, hset] at a1
      exact a1.swap)
    have HKeep : Hid (q.1 ≠ ta → mvP R.sp ta eb (j + 1) = mvP R.sp ta eb j) := hide (fun he => by
      have e : mvS ta eb q = q := by unfold mvS; rw [if_neg he]
      rw [← hset, e]
      exact set_same hat)
    obtain ⟨q1, q2⟩ := q
    dsimp only at *
    clear hq hat hset o1 hl4 hp4 hllen
    go_upto_region 23 with fail
    by_cases he : q1 = ta
    · have he' : (q1 == ta) = true := by rw [he]; simp
      have HE := hide he
      clear he
      go_quiet (fail)
      have HR2 := hide (HR.out.drew nq)
      clear c0 c1 c2 c3 c4 c5 cf g0 g1 t0 t1 t2 t3 t4 tf fz d0 d1
      generalize wr.drewN nq = wq at *
      obtain ⟨c0, c1, c2, c3, c4, c5, cf⟩ := Its.cells6 HR2.out
      obtain ⟨g0, g1⟩ := cells2 HR2.out.tail.tail
      have o1 : spE.Own wq w0.heap.size (.slice (some ⟨g4, 0, none⟩) nS p4) (mvP R.sp ta eb j) := HR2.out.two
      have fz := (El.Own.cell o1 (j * 2 + 1) (by rw [mvP_len, HlS.out]; show j * 2 + 1 < nS * 2; omega)).2.1
      have d1 : ∃ v, wq.cell? ⟨g4, j * 2 + 1, none⟩ = some v := by
        obtain ⟨y, hy⟩ : ∃ y, (mvP R.sp ta eb j)[j]? = some y := ⟨_, List.getElem?_eq_getElem (by rw [mvP_len, HlS.out]; exact hjn)⟩
        obtain ⟨b1, off1, hb1, d0, d1⟩ := sp_at o1.rd j y hy
        simp only [Option.some.injEq, Addr.mk.injEq, and_true] at hb1
        obtain ⟨rfl, rfl⟩ := hb1
        simp only [Nat.zero_add] at d1
        exact ⟨_, d1⟩
      obtain ⟨dv, d1⟩ := d1
      have HR3 := hide (HSet.out _ HR2.out HE.out)
      clear o1
      go_wp2_with fail
      go_roundw
      case rel => exact ⟨j + 1, by go_num, by omega, HR3⟩
      case measure => simp [intOf]; omega
    · have he' : (q1 == ta) = false := beq_eq_false_iff_ne.2 he
      have HR3 : Hid (mvP R.sp ta eb (j + 1) = mvP R.sp ta eb j) := hide (HKeep.out he)
      clear he
      go_quiet (fail)
      have HR2 := hide (HR.out.drew nq)
      go_wp2_with fail
      go_roundw
      case rel => exact ⟨j + 1, by go_num, by omega, hide (by rw [HR3.out]; exact HR2.out)⟩
      case measure => simp [intOf]; omega
  case neg =>
  have hjS : j = nS := by omega
  have j1 : ¬ (j : Int) < (nS : Int) := by omega
  have I11 : Hid (Its w0 (.box w.heap.size #[.slice a n c, .slice (some ⟨be, oe, none⟩) m e, .slice a4 nS p4, .slice aD nD cD, .slice aL nL cL, .int .i64 mv] 38 :: .row spE w0.heap.size (.slice a4 nS p4) (R.sp.map (mvS ta eb)) :: .box ge #[.int .i64 ea, .int .i64 eb] 42 :: .box gd #[.int .u8 2, .int .u16 td, .int .u16 ts, .int .u16 ta, .int .u16 0] 45 :: .box (w.heap.size + 1 + 1 + 1) #[.int .u8 0, .int .u16 0, .int .u16 0, .int .u16 0, .int .u16 0] 45 :: .box (w.heap.size + 1 + 1) #[.slice none 0 0, .slice none 0 0, .slice none 0 0, .slice none 0 0, .slice none 0 0, .int .i64 0] 38 :: .box (w.heap.size + 1) #[.int .u8 1, .int .u16 td, .int .u16 ts, .int .u16 ta, .int .u16 tb] 45 :: .dm w0.heap.size ⟨aS, nS, cS, aD, nD, cD, aL, nL, cL⟩ R k :: l) wr) := hide (by have := HR.out; rw [hjS, mvP_end R.sp ta eb HlS.out] at this; exact this)
  clear HR hjS
  go_upto_region 27 with fail
  have I12 : Hid (Its w0 (.row lsE w0.heap.size (.slice (some ⟨wr.heap.size, 0, none⟩) 1 1) (laP R.la ⟨td, ts, ta⟩ 0) :: .box w.heap.size #[.slice a n c, .slice (some ⟨be, oe, none⟩) m e, .slice a4 nS p4, .slice aD nD cD, .slice aL nL cL, .int .i64 mv] 38 :: .row spE w0.heap.size (.slice a4 nS p4) (R.sp.map (mvS ta eb)) :: .box ge #[.int .i64 ea, .int .i64 eb] 42 :: .box gd #[.int .u8 2, .int .u16 td, .int .u16 ts, .int .u16 ta, .int .u16 0] 45 :: .box (w.heap.size + 1 + 1 + 1) #[.int .u8 0, .int .u16 0, .int .u16 0, .int .u16 0, .int .u16 0] 45 :: .box (w.heap.size + 1 + 1) #[.slice none 0 0, .slice none 0 0, .slice none 0 0, .slice none 0 0, .slice none 0 0, .int .i64 0] 38 :: .box (w.heap.size + 1) #[.int .u8 1, .int .u16 td, .int .u16 ts, .int .u16 ta, .int .u16 tb] 45 :: .dm w0.heap.size ⟨aS, nS, cS, aD, nD, cD, aL, nL, cL⟩ R k :: l) (wr.alloc (.cells #[.int .i64 td, .int .u16 ts, .int .u16 ta] 84))) := hide (I11.out.fresh (El.Own.new lsE wr wr.heap.size (Nat.le_refl _) #[.int .i64 td, .int .u16 ts, .int .u16 ta] (laP R.la ⟨td, ts, ta⟩ 0) rfl (by simp [laP]) wr.heap.size 1 1 rfl rfl rfl) (below_new wr _))
  obtain ⟨gz, hgz⟩ : ∃ gz, wr.heap.size = gz := ⟨_, rfl⟩
  rw [hgz] at I12
  try rw [hgz]
  clear c0 c1 c2 c3 c4 c5 cf g0 g1 t0 t1 t2 t3 t4 tf hgz
  generalize wr.alloc (.cells #[.int .i64 td, .int .u16 ts, .int .u16 ta] 84) = W12 at *
  obtain ⟨c0, c1, c2, c3, c4, c5, cf⟩ := Its.cells6 I12.out.tail
  have HL5 : Hid (∀ (j : Nat) (p : Ls), (laP R.la ⟨td, ts, ta⟩ j).length + [p].length ≤ 1000000) := hide (fun j p => by have := laP_len R.la ⟨td, ts, ta⟩ j; have := HlL.out; simp only [List.length_singleton]; omega)
  go_wp2_with fail
  obtain ⟨wB, rfl⟩ : ∃ W, W = wr := ⟨_, rfl⟩
  go_loopw [13, 165] (fun v13 v165 wr => ∃ (j : Nat) (al : Option Addr) (nl cl : Nat), v13 = .slice al nl cl ∧ v165 = .int .i64 (j : Int) ∧ j ≤ nL ∧ Hid ((laP R.la ⟨td, ts, ta⟩ j).length = nl) ∧ Hid (Its w0 (.row lsE w0.heap.size (.slice al nl cl) (laP R.la ⟨td, ts, ta⟩ j) :: .box w.heap.size #[.slice a n c, .slice (some ⟨be, oe, none⟩) m e, .slice a4 nS p4, .slice aD nD cD, .slice aL nL cL, .int .i64 mv] 38 :: .row spE w0.heap.size (.slice a4 nS p4) (R.sp.map (mvS ta eb)) :: .box ge #[.int .i64 ea, .int .i64 eb] 42 :: .box gd #[.int .u8 2, .int .u16 td, .int .u16 ts, .int .u16 ta, .int .u16 0] 45 :: .box (w.heap.size + 1 + 1 + 1) #[.int .u8 0, .int .u16 0, .int .u16 0, .int .u16 0, .int .u16 0] 45 :: .box (w.heap.size + 1 + 1) #[.slice none 0 0, .slice none 0 0, .slice none 0 0, .slice none 0 0, .slice none 0 0, .int .i64 0] 38 :: .box (w.heap.size + 1) #[.int .u8 1, .int .u16 td, .int .u16 ts, .int .u16 ta, .int .u16 tb] 45 :: .dm w0.heap.size ⟨aS, nS, cS, aD, nD, cD, aL, nL, cL⟩ R k :: l) wr)) (fun _ v165 _ => nL - (intOf v165).toNat)
  case atStart => exact ⟨0, some ⟨gz, 0, none⟩, 1, 1, rfl, rfl, Nat.zero_le _, hide (by simp [laP]), I12⟩
  case round =>
  clear I11 I12 c0 c1 c2 c3 c4 c5 cf hj j1
  obtain ⟨jA, rfl⟩ : ∃ jA, jA = j := ⟨_, rfl⟩
  obtain ⟨j, al, nl, cl, rfl, rfl, hj, HN, HR⟩ := hrel
  obtain ⟨c0, c1, c2, c3, c4, c5, cf⟩ := Its.cells6 HR.out.tail
  by_cases hjn : j < nL
  case pos =>
    obtain ⟨p, hp⟩ : ∃ p, R.la[j]? = some p := ⟨_, List.getElem?_eq_getElem (by rw [HlL.out]; exact hjn)⟩
    obtain ⟨bb, off, rfl, d0, d1, d2⟩ := ls_at (HRdL.out _ (HR.out.pick 8 rfl).one) j p hp
    have j0 : (0 : Int) ≤ (j : Int) := by omega
    have j1 : (j : Int) < (nL : Int) := by omega
    have HT := hide (laP_succ ⟨td, ts, ta⟩ hp)
    clear hp
    by_cases he : p.dev = td
    · have he' : (p.dev == td) = true := by rw [he]; simp
      have hT2 : Hid (laP R.la ⟨td, ts, ta⟩ (j + 1) = laP R.la ⟨td, ts, ta⟩ j) := hide (by rw [HT.out, if_pos he, List.append_nil])
      clear he HT
      go_wp2_with fail
      go_roundw
      case rel => exact ⟨j + 1, al, nl, cl, rfl, by go_num, by omega, hide (by rw [hT2.out]; exact HN.out), hide (by rw [hT2.out]; exact HR.out)⟩
      case measure => simp [intOf]; omega
    · have he' : (p.dev == td) = false := beq_eq_false_iff_ne.2 he
      have hT2 : Hid (laP R.la ⟨td, ts, ta⟩ (j + 1) = laP R.la ⟨td, ts, ta⟩ j ++ [p]) := hide (by rw [HT.out, if_neg he])
      clear he HT
      have HX := hide (HR.out.alloc (.cells #[.int .i64 p.dev, .int .u16 p.seq, .int .u16 p.tote] 84))
      have HSn := hide (ls_new wr p wr.heap.size rfl)
      have HLn := hide (HL5.out j p)
      generalize hdl : laP R.la ⟨td, ts, ta⟩ j = dl at *
      clear hdl
      go_wp2_with (at_builtin; refine lsE.wpB (B := w0.heap.size) HX.out.size (by rfl) _ _ rfl _ _ rfl rfl dl [p] HX.out.one HSn.out HLn.out ?_; intro v4 W4 ho hg hs; obtain ⟨a5, p5, hf5⟩ := ho.rd.form; obtain ⟨n5, hn5⟩ : ∃ n5, (dl ++ [p]).length = n5 := ⟨_, rfl⟩; rw [hn5] at hf5; subst hf5; have HI4 := hide (HX.out.grow ho hg hs); have Hn5 := hide hn5; clear ho hg hs hn5)
      go_roundw
      case rel => exact ⟨j + 1, a5, n5, p5, rfl, by go_num, by omega, hide (by rw [hT2.out]; exact Hn5.out), hide (by rw [hT2.out]; exact HI4.out)⟩
      case measure => simp [intOf]; omega
  case neg =>
  have j1 : ¬ (j : Int) < (nL : Int) := by omega
  have hla : Hid (laP R.la ⟨td, ts, ta⟩ j = ⟨td, ts, ta⟩ :: R.la.filter (fun x => decide (x.dev ≠ td))) := hide (by unfold laP; rw [List.take_of_length_le (by rw [HlL.out]; omega)])
  have hnl : Hid (nl ≤ nL + 1) := hide (by have := laP_len R.la ⟨td, ts, ta⟩ j; rw [HN.out, HlL.out] at this; exact this)
  replace HN := HN.out
  replace HR := HR.out
  rw [hla.out] at HN HR
  have HNl := hide HN
  have HRl := hide HR
  clear HN HR hla
  go_upto_region 33 with fail
  have J1 : Hid (Its w0 (.box w.heap.size #[.slice a n c, .slice (some ⟨be, oe, none⟩) m e, .slice a4 nS p4, .slice aD nD cD, .slice al nl cl, .int .i64 (mv + 1)] 38 :: .row lsE w0.heap.size (.slice al nl cl) (⟨td, ts, ta⟩ :: R.la.filter (fun x => decide (x.dev ≠ td))) :: .row spE w0.heap.size (.slice a4 nS p4) (R.sp.map (mvS ta eb)) :: .box ge #[.int .i64 ea, .int .i64 eb] 42 :: .box gd #[.int .u8 2, .int .u16 td, .int .u16 ts, .int .u16 ta, .int .u16 0] 45 :: .box (w.heap.size + 1 + 1 + 1) #[.int .u8 0, .int .u16 0, .int .u16 0, .int .u16 0, .int .u16 0] 45 :: .box (w.heap.size + 1 + 1) #[.slice none 0 0, .slice none 0 0, .slice none 0 0, .slice none 0 0, .slice none 0 0, .int .i64 0] 38 :: .box (w.heap.size + 1) #[.int .u8 1, .int .u16 td, .int .u16 ts, .int .u16 ta, .int .u16 tb] 45 :: .dm w0.heap.size ⟨aS, nS, cS, aD, nD, cD, aL, nL, cL⟩ R k :: l) ((wr.setCell ⟨w.heap.size, 4, none⟩ (.slice al nl cl)).setCell ⟨w.heap.size, 5, none⟩ (.int .i64 (mv + 1)))) := hide ((HRl.out.swap.put1 4 (.slice al nl cl)).put1 5 (.int .i64 (mv + 1)))
  have m0 := Hmb.out
  have r5 : wrap64 (mv + 1) = mv + 1 := by unfold wrap64; omega
  go_upto_region 35 with fail
  clear r5 m0 c0 c1 c2 c3 c4 c5 cf HRl
  generalize (wr.setCell ⟨w.heap.size, 4, none⟩ (.slice al nl cl)).setCell ⟨w.heap.size, 5, none⟩ (.int .i64 (mv + 1)) = W14 at *
  obtain ⟨c0, c1, c2, c3, c4, c5, cf⟩ := Its.cells6 J1.out
  obtain ⟨b0, b1, b2, b3, b4, bf⟩ := Its.cells5 J1.out.tail.tail.tail.tail
  obtain ⟨a0, a1, a2, a3, a5, af⟩ := Its.cells5 J1.out.tail.tail.tail.tail.tail
  obtain ⟨e0, e1, e2, e3, e4, e5, ef⟩ := Its.cells6 J1.out.tail.tail.tail.tail.tail.tail
  have HI6 : Hid (Its w0 (.box (w.heap.size + 1 + 1) #[.slice a n c, .slice (some ⟨be, oe, none⟩) m e, .slice a4 nS p4, .slice aD nD cD, .slice al nl cl, .int .i64 (mv + 1)] 38 :: .box w.heap.size #[.slice a n c, .slice (some ⟨be, oe, none⟩) m e, .slice a4 nS p4, .slice aD nD cD, .slice al nl cl, .int .i64 (mv + 1)] 38 :: .row lsE w0.heap.size (.slice al nl cl) (⟨td, ts, ta⟩ :: R.la.filter (fun x => decide (x.dev ≠ td))) :: .row spE w0.heap.size (.slice a4 nS p4) (R.sp.map (mvS ta eb)) :: .box ge #[.int .i64 ea, .int .i64 eb] 42 :: .box gd #[.int .u8 2, .int .u16 td, .int .u16 ts, .int .u16 ta, .int .u16 0] 45 :: .box (w.heap.size + 1 + 1 + 1) #[.int .u8 0, .int .u16 0, .int .u16 0, .int .u16 0, .int .u16 0] 45 :: .box (w.heap.size + 1) #[.int .u8 1, .int .u16 td, .int .u16 ts, .int .u16 ta, .int .u16 tb] 45 :: .dm w0.heap.size ⟨aS, nS, cS, aD, nD, cD, aL, nL, cL⟩ R k :: l) ((((((W14.setCell ⟨w.heap.size + 1 + 1, 0, none⟩ (.slice a n c)).setCell ⟨w.heap.size + 1 + 1, 1, none⟩ (.slice (some ⟨be, oe, none⟩) m e)).setCell ⟨w.heap.size + 1 + 1, 2, none⟩ (.slice a4 nS p4)).setCell ⟨w.heap.size + 1 + 1, 3, none⟩ (.slice aD nD cD)).setCell ⟨w.heap.size + 1 + 1, 4, none⟩ (.slice al nl cl)).setCell ⟨w.heap.size + 1 + 1, 5, none⟩ (.int .i64 (mv + 1)))) := hide (Its.out6 (J1.out.pick 6 rfl) (.slice a n c) (.slice (some ⟨be, oe, none⟩) m e) (.slice a4 nS p4) (.slice aD nD cD) (.slice al nl cl) (.int .i64 (mv + 1)))
  obtain ⟨wb0, wb1, wb2, wb3, wb4, wbf⟩ := Its.cells5 HI6.out.tail.tail.tail.tail.tail
  obtain ⟨wa0, wa1, wa2, wa3, wa4, waf⟩ := Its.cells5 HI6.out.tail.tail.tail.tail.tail.tail
  go_region
  have HIe : Hid (Its w0 (.box (w.heap.size + 1 + 1 + 1) #[.int .u8 2, .int .u16 td, .int .u16 ts, .int .u16 ta, .int .u16 0] 45 :: .box (w.heap.size + 1 + 1) #[.slice a n c, .slice (some ⟨be, oe, none⟩) m e, .slice a4 nS p4, .slice aD nD cD, .slice al nl cl, .int .i64 (mv + 1)] 38 :: .box w.heap.size #[.slice a n c, .slice (some ⟨be, oe, none⟩) m e, .slice a4 nS p4, .slice aD nD cD, .slice al nl cl, .int .i64 (mv + 1)] 38 :: .row lsE w0.heap.size (.slice al nl cl) (⟨td, ts, ta⟩ :: R.la.filter (fun x => decide (x.dev ≠ td))) :: .row spE w0.heap.size (.slice a4 nS p4) (R.sp.map (mvS ta eb)) :: .box ge #[.int .i64 ea, .int .i64 eb] 42 :: .box gd #[.int .u8 2, .int .u16 td, .int .u16 ts, .int .u16 ta, .int .u16 0] 45 :: .box (w.heap.size + 1) #[.int .u8 1, .int .u16 td, .int .u16 ts, .int .u16 ta, .int .u16 tb] 45 :: .dm w0.heap.size ⟨aS, nS, cS, aD, nD, cD, aL, nL, cL⟩ R k :: l) (((((((((((W14.setCell ⟨w.heap.size + 1 + 1, 0, none⟩ (.slice a n c)).setCell ⟨w.heap.size + 1 + 1, 1, none⟩ (.slice (some ⟨be, oe, none⟩) m e)).setCell ⟨w.heap.size + 1 + 1, 2, none⟩ (.slice a4 nS p4)).setCell ⟨w.heap.size + 1 + 1, 3, none⟩ (.slice aD nD cD)).setCell ⟨w.heap.size + 1 + 1, 4, none⟩ (.slice al nl cl)).setCell ⟨w.heap.size + 1 + 1, 5, none⟩ (.int .i64 (mv + 1))).setCell ⟨w.heap.size + 1 + 1 + 1, 0, none⟩ (.int .u8 2)).setCell ⟨w.heap.size + 1 + 1 + 1, 1, none⟩ (.int .u16 td)).setCell ⟨w.heap.size + 1 + 1 + 1, 2, none⟩ (.int .u16 ts)).setCell ⟨w.heap.size + 1 + 1 + 1, 3, none⟩ (.int .u16 ta)).setCell ⟨w.heap.size + 1 + 1 + 1, 4, none⟩ (.int .u16 0)).drew) := hide ((Its.out5 (HI6.out.pick 6 rfl) (.int .u8 2) (.int .u16 td) (.int .u16 ts) (.int .u16 ta) (.int .u16 0)).drew 1)
  clear HI6
  generalize (((((((((((W14.setCell ⟨w.heap.size + 1 + 1, 0, none⟩ (.slice a n c)).setCell ⟨w.heap.size + 1 + 1, 1, none⟩ (.slice (some ⟨be, oe, none⟩) m e)).setCell ⟨w.heap.size + 1 + 1, 2, none⟩ (.slice a4 nS p4)).setCell ⟨w.heap.size + 1 + 1, 3, none⟩ (.slice aD nD cD)).setCell ⟨w.heap.size + 1 + 1, 4, none⟩ (.slice al nl cl)).setCell ⟨w.heap.size + 1 + 1, 5, none⟩ (.int .i64 (mv + 1))).setCell ⟨w.heap.size + 1 + 1 + 1, 0, none⟩ (.int .u8 2)).setCell ⟨w.heap.size + 1 + 1 + 1, 1, none⟩ (.int .u16 td)).setCell ⟨w.heap.size + 1 + 1 + 1, 2, none⟩ (.int .u16 ts)).setCell ⟨w.heap.size + 1 + 1 + 1, 3, none⟩ (.int .u16 ta)).setCell ⟨w.heap.size + 1 + 1 + 1, 4, none⟩ (.int .u16 0)).drew = WE at *
  have HD : Hid (Its w0 (.dm w0.heap.size ⟨a4, nS, p4, aD, nD, cD, al, nl, cl⟩ ⟨R.sp.map (mvS ta eb), R.bk, ⟨td, ts, ta⟩ :: R.la.filter (fun x => decide (x.dev ≠ td)), mv + 1⟩ (k + 1) :: l) WE) := hide (by
    have q0 : Its w0 (.row spE w0.heap.size (.slice aS nS cS) R.sp :: .ints w0.heap.size (.slice aD nD cD) R.bk :: .row lsE w0.heap.size (.slice aL nL cL) R.la :: .row lsE w0.heap.size (.slice al nl cl) (⟨td, ts, ta⟩ :: R.la.filter (fun x => decide (x.dev ≠ td))) :: .row spE w0.heap.size (.slice a4 nS p4) (R.sp.map (mvS ta eb)) :: .box ge #[.int .i64 ea, .int .i64 eb] 42 :: .box gd #[.int .u8 2, .int .u16 td, .int .u16 ts, .int .u16 ta, .int .u16 0] 45 :: .box (w.heap.size + 1) #[.int .u8 1, .int .u16 td, .int .u16 ts, .int .u16 ta, .int .u16 tb] 45 :: l) WE := (HIe.out.tail.tail.tail.pick 5 rfl).dopen.1
    have q1 : Its w0 (.ints w0.heap.size (.slice aD nD cD) R.bk :: .row lsE w0.heap.size (.slice al nl cl) (⟨td, ts, ta⟩ :: R.la.filter (fun x => decide (x.dev ≠ td))) :: .row spE w0.heap.size (.slice a4 nS p4) (R.sp.map (mvS ta eb)) :: .box ge #[.int .i64 ea, .int .i64 eb] 42 :: .box gd #[.int .u8 2, .int .u16 td, .int .u16 ts, .int .u16 ta, .int .u16 0] 45 :: .box (w.heap.size + 1) #[.int .u8 1, .int .u16 td, .int .u16 ts, .int .u16 ta, .int .u16 tb] 45 :: l) WE := (q0.tail.pick 1 rfl).tail
    have q2 : Its w0 (.ints w0.heap.size (.slice aD nD cD) R.bk :: .row lsE w0.heap.size (.slice al nl cl) (⟨td, ts, ta⟩ :: R.la.filter (fun x => decide (x.dev ≠ td))) :: .row spE w0.heap.size (.slice a4 nS p4) (R.sp.map (mvS ta eb)) :: l) WE := (((((q1.pick 3 rfl).tail).pick 3 rfl).tail).pick 3 rfl).tail
    exact Its.dshut (V := ⟨a4, nS, p4, aD, nD, cD, al, nl, cl⟩) (R := ⟨R.sp.map (mvS ta eb), R.bk, ⟨td, ts, ta⟩ :: R.la.filter (fun x => decide (x.dev ≠ td)), mv + 1⟩) (k := k + 1) (q2.pick 2 rfl) ⟨by simp [HlS.out], HF.out.lD, HNl.out, by have := HF.out.bS; simp only at this ⊢; omega, by have := HF.out.bD; simp only at this ⊢; omega, by have := HF.out.bL; have := hnl.out; simp only at *; omega, hk, by have := Hmb.out; simp only; omega, by have := HF.out.mv; rw [Hmv.out] at this; simp only; omega⟩)
  go_wp2_with fail
  obtain ⟨y0, y1, y2, y3, y4, _⟩ := Its.cells5 HIe.out
  obtain ⟨z0, z1, z2, z3, z4, z5, _⟩ := Its.cells6 HIe.out.tail
  exact bodyPost_ret (v := .tuple #[.agg #[.slice a n c, .slice (some ⟨be, oe, none⟩) m e, .slice a4 nS p4, .slice aD nD cD, .slice al nl cl, .int .i64 (mv + 1)], .agg #[.int .u8 2, .int .u16 td, .int .u16 ts, .int .u16 ta, .int .u16 0], .bool true]) (by simp [results, Try.results18, go_sem, y0, y1, y2, y3, y4, z0, z1, z2, z3, z4, z5]) rfl (RH.mk ⟨a4, nS, p4, aD, nD, cD, al, nl, cl⟩ ⟨2, td, ts, ta, 0⟩ _ (by rw [HPP.out, Hgo.out, Hmv.out]) rfl HD.out)

end
end Go.Proofs.Ythcdfclhenmleaa

