/- The document's Hear, one of its ways. -/
import Derived.Test.YthcdfclhenmleaaDph
import Derived.BigRegion
import Derived.Deep.RegionWith
namespace Go.Proofs.Ythcdfclhenmleaa
open Go.RowKit
set_option linter.unusedVariables false
section
variable {w0 w : World} {l : List It} {k : Nat} {V : Vp} {R : Rp} {a b : Option Addr} {c e n m : Nat} {ns : List Nd} {es : List Ed}
set_option maxRecDepth 100000 in
set_option maxHeartbeats 8000000 in
theorem rhearC (h : Its w0 (.dm w0.heap.size V R k :: l) w) (L0 : Lyt w0 a b c e n m ns es) (hm : m ≤ 120) (hk : k + 1 ≤ 1000) (t : Tl) (ht : t.In) (hlb : R.wrk m t.d = true → 0 ≤ (R.lst t.d).1.seq ∧ (R.lst t.d).1.seq ≤ 65535) (hM : R.wrk m t.d = true ∧ t.k = 1 ∧ Rp.jst (R.lst t.d) t = false ∧ Rp.lte (R.lst t.d) t = false ∧ (decide (t.a = 0) || decide (R.att (edE2 es t.d).1 ≠ t.a)) = true) : Calls Try.prog 18 #[.agg #[.slice a n c, .slice b m e, .slice V.aS V.nS V.cS, .slice V.aD V.nD V.cD, .slice V.aL V.nL V.cL, .int .i64 R.mv], tv t] w fun r w' => RH w0 l a b c e n m (k + 1) (R.hear es t) r w' := by
  obtain ⟨tk, td, ts, ta, tb⟩ := t
  unfold tv
  dsimp only at *
  have HM := hide hM
  clear hM
  have I1 : Hid (Its w0 (.box (w.heap.size + 1 + 1 + 1) #[.int .u8 0, .int .u16 0, .int .u16 0, .int .u16 0, .int .u16 0] 45 :: .box (w.heap.size + 1 + 1) #[.slice none 0 0, .slice none 0 0, .slice none 0 0, .slice none 0 0, .slice none 0 0, .int .i64 0] 38 :: .box (w.heap.size + 1) #[.int .u8 tk, .int .u16 td, .int .u16 ts, .int .u16 ta, .int .u16 tb] 45 :: .box w.heap.size #[.slice a n c, .slice b m e, .slice V.aS V.nS V.cS, .slice V.aD V.nD V.cD, .slice V.aL V.nL V.cL, .int .i64 R.mv] 38 :: .dm w0.heap.size V R k :: l) ((((w.alloc (.cells #[.slice a n c, .slice b m e, .slice V.aS V.nS V.cS, .slice V.aD V.nD V.cD, .slice V.aL V.nL V.cL, .int .i64 R.mv] 38)).alloc (.cells #[.int .u8 tk, .int .u16 td, .int .u16 ts, .int .u16 ta, .int .u16 tb] 45)).alloc (.cells #[.slice none 0 0, .slice none 0 0, .slice none 0 0, .slice none 0 0, .slice none 0 0, .int .i64 0] 38)).alloc (.cells #[.int .u8 0, .int .u16 0, .int .u16 0, .int .u16 0, .int .u16 0] 45))) := hide ((((h.boxN #[.slice a n c, .slice b m e, .slice V.aS V.nS V.cS, .slice V.aD V.nD V.cD, .slice V.aL V.nL V.cL, .int .i64 R.mv] 38 rfl).boxN #[.int .u8 tk, .int .u16 td, .int .u16 ts, .int .u16 ta, .int .u16 tb] 45 (n := w.heap.size + 1) (by show (w.heap.push _).size = _; simp)).boxN #[.slice none 0 0, .slice none 0 0, .slice none 0 0, .slice none 0 0, .slice none 0 0, .int .i64 0] 38 (n := w.heap.size + 1 + 1) (by show ((w.heap.push _).push _).size = _; simp)).boxN #[.int .u8 0, .int .u16 0, .int .u16 0, .int .u16 0, .int .u16 0] 45 (n := w.heap.size + 1 + 1 + 1) (by show (((w.heap.push _).push _).push _).size = _; simp))
  have HF := hide (dm_f h.one)
  have HS : Hid (∀ W, Its w0 (.dm w0.heap.size V R k :: l) W → Its w0 (.dm w0.heap.size V R (k + 1) :: l) W) := hide (fun W hW => hW.dmono (by omega) hk)
  have KW : Hid (∀ W : World, (It.dm w0.heap.size V R k).P W → Calls Try.prog 35 #[.agg #[.slice a n c, .slice b m e, .slice V.aS V.nS V.cS, .slice V.aD V.nD V.cD, .slice V.aL V.nL V.cL, .int .i64 R.mv], .int .i64 td] W fun e w' => e = .returned (.bool (R.wrk m td)) ∧ Below W.heap.size W w') := hide (fun W hW => rworks_any hW td)
  have KL : Hid (∀ W : World, (It.dm w0.heap.size V R k).P W → Calls Try.prog 36 #[.agg #[.slice a n c, .slice b m e, .slice V.aS V.nS V.cS, .slice V.aD V.nD V.cD, .slice V.aL V.nL V.cL, .int .i64 R.mv], .int .i64 td] W fun r9 w' => r9 = .returned (.tuple #[.agg #[.int .i64 (R.lst td).1.dev, .int .u16 (R.lst td).1.seq, .int .u16 (R.lst td).1.tote], .bool (R.lst td).2]) ∧ Below W.heap.size W w') := hide (fun W hW => rlast_any hW td)
  have KA : Hid (∀ (x : Int) (W : World), (It.dm w0.heap.size V R k).P W → Calls Try.prog 32 #[.agg #[.slice a n c, .slice b m e, .slice V.aS V.nS V.cS, .slice V.aD V.nD V.cD, .slice V.aL V.nL V.cL, .int .i64 R.mv], .int .i64 x] W fun e w' => e = .returned (.int .i64 (R.att x)) ∧ Below W.heap.size W w') := hide (fun x W hW => rat_any hW x)
  have HwD : R.wrk m td = true → 1 ≤ td ∧ td ≤ m := fun z => by
    unfold Rp.wrk at z
    simp only [Bool.and_eq_true, decide_eq_true_eq] at z
    exact z.2
  obtain ⟨hi0, hi1, hi2, hi3, hi4⟩ := ht
  dsimp only at hi0 hi1 hi2 hi3 hi4
  obtain ⟨P, hP⟩ : ∃ P, R.hear es ⟨tk, td, ts, ta, tb⟩ = P := ⟨_, rfl⟩
  rw [hP]
  unfold Rp.hear at hP
  dsimp only at hP
  rw [L0.hm] at hP
  have HL0 := hide L0
  obtain ⟨mv, hmv⟩ : ∃ mv, R.mv = mv := ⟨_, rfl⟩
  have Hmv := hide hmv
  have Hmb : Hid (0 ≤ mv ∧ mv ≤ 1000) := hide (by have h1 := HF.out.mv; have h2 := HF.out.bk; rw [hmv] at h1; omega)
  rw [hmv] at I1 KW KL KA ⊢
  clear hmv h L0
  obtain ⟨td0, td1⟩ := hi1
  obtain ⟨tk0, tk1⟩ := hi0
  obtain ⟨ta0, ta1⟩ := hi3
  have Hts := hide hi2
  clear hi4 hi2
  generalize R.wrk m td = wk at *
  cases wk with
  | false =>
    exact absurd HM.out.1 (by simp)
  | true =>
  rw [if_neg (show ¬ (true = false) by simp)] at hP
  obtain ⟨hd1, hd2⟩ := HwD rfl
  have hq := hlb rfl
  clear HwD hlb
  obtain ⟨ql, hql⟩ : ∃ ql, R.lst td = ql := ⟨_, rfl⟩
  rw [hql] at hP KL hq
  try rw [hql] at HM
  clear hql
  obtain ⟨⟨ld, lq, lt⟩, lb⟩ := ql
  dsimp only at *
  obtain ⟨kd, hkd⟩ : ∃ kd : Nat, td = (kd : Int) + 1 := ⟨(td - 1).toNat, by omega⟩
  obtain ⟨ee, hee⟩ : ∃ ee, es[kd]? = some ee := ⟨_, List.getElem?_eq_getElem (by rw [HL0.out.hm]; omega)⟩
  have hed : edE2 es td = ee := by unfold edE2; rw [show (td - 1).toNat = kd by omega, hee]; rfl
  rw [hed] at hP
  try rw [hed] at HM
  have XE : Hid (∀ W, Below w0.heap.size w0 W → ∃ be oe, b = some ⟨be, oe, none⟩ ∧ W.cell? ⟨be, oe + kd * 2, none⟩ = some (.int .i64 ee.1) ∧ W.cell? ⟨be, oe + kd * 2 + 1, none⟩ = some (.int .i64 ee.2)) := hide (fun W hW => ed_at (HL0.out.keep hW).hu kd ee hee)
  have Hkd := hide hkd
  have Hgo : Hid (R.go es ⟨1, td, ts, ta, tb⟩ = ⟨R.sp.map (mvS ta ee.2), R.bk, ⟨td, ts, ta⟩ :: R.la.filter (fun x => decide (x.dev ≠ td)), R.mv + 1⟩) := hide (by unfold Rp.go; rw [hed])
  have hkm : kd < m := by omega
  obtain ⟨ea, eb⟩ := ee
  dsimp only at *
  obtain ⟨aS, nS, cS, aD, nD, cD, aL, nL, cL⟩ := V
  dsimp only at *
  clear hee hed hkd
  go_enter Try.func18, Try.ntmps18
  go_upto_region 1 with fail
  generalize ((((w.alloc (.cells #[.slice a n c, .slice b m e, .slice aS nS cS, .slice aD nD cD, .slice aL nL cL, .int .i64 mv] 38)).alloc (.cells #[.int .u8 tk, .int .u16 td, .int .u16 ts, .int .u16 ta, .int .u16 tb] 45)).alloc (.cells #[.slice none 0 0, .slice none 0 0, .slice none 0 0, .slice none 0 0, .slice none 0 0, .int .i64 0] 38)).alloc (.cells #[.int .u8 0, .int .u16 0, .int .u16 0, .int .u16 0, .int .u16 0] 45)) = W1 at *
  obtain ⟨a0, a1, a2, a3, a4, af⟩ := Its.cells5 I1.out; obtain ⟨e0, e1, e2, e3, e4, e5, ef⟩ := Its.cells6 I1.out.tail; obtain ⟨t0, t1, t2, t3, t4, tf⟩ := Its.cells5 I1.out.tail.tail; obtain ⟨c0, c1, c2, c3, c4, c5, cf⟩ := Its.cells6 I1.out.tail.tail.tail
  go_upto_region 5 with (first
    | (go_at_call 36; refine (KL.out _ (I2.out.pick 4 rfl).one).mono ?_; rintro e1 W3 ⟨rfl, q⟩; have I3 := hide (I2.out.keep q); clear q)
    | (go_at_call 35; refine (KW.out _ (I1.out.pick 4 rfl).one).mono ?_; rintro e1 W2 ⟨rfl, q⟩; have I2 := hide (I1.out.keep q); clear q; obtain ⟨sa0, sa1, sa2, sa3, sa4, saf⟩ := Its.cells5 I2.out; obtain ⟨se0, se1, se2, se3, se4, se5, sef⟩ := Its.cells6 I2.out.tail; obtain ⟨st0, st1, st2, st3, st4, stf⟩ := Its.cells5 I2.out.tail.tail; obtain ⟨sc0, sc1, sc2, sc3, sc4, sc5, scf⟩ := Its.cells6 I2.out.tail.tail.tail))
  clear a0 a1 a2 a3 a4 af e0 e1 e2 e3 e4 e5 ef t0 t1 t2 t3 t4 tf c0 c1 c2 c3 c4 c5 cf
  clear sa0 sa1 sa2 sa3 sa4 saf se0 se1 se2 se3 se4 se5 sef st0 st1 st2 st3 st4 stf sc0 sc1 sc2 sc3 sc4 sc5 scf
  obtain ⟨gl, hgl⟩ : ∃ gl, W3.heap.size = gl := ⟨_, rfl⟩
  have I4 : Hid (Its w0 (.box gl #[.int .i64 ld, .int .u16 lq, .int .u16 lt] 84 :: .box (w.heap.size + 1 + 1 + 1) #[.int .u8 0, .int .u16 0, .int .u16 0, .int .u16 0, .int .u16 0] 45 :: .box (w.heap.size + 1 + 1) #[.slice none 0 0, .slice none 0 0, .slice none 0 0, .slice none 0 0, .slice none 0 0, .int .i64 0] 38 :: .box (w.heap.size + 1) #[.int .u8 tk, .int .u16 td, .int .u16 ts, .int .u16 ta, .int .u16 tb] 45 :: .box w.heap.size #[.slice a n c, .slice b m e, .slice aS nS cS, .slice aD nD cD, .slice aL nL cL, .int .i64 mv] 38 :: .dm w0.heap.size ⟨aS, nS, cS, aD, nD, cD, aL, nL, cL⟩ R k :: l) (W3.alloc (.cells #[.int .i64 ld, .int .u16 lq, .int .u16 lt] 84))) := hide (I3.out.boxN #[.int .i64 ld, .int .u16 lq, .int .u16 lt] 84 hgl)
  try rw [hgl]
  clear I1 I2 I3 KW KL hgl
  generalize W3.alloc (.cells #[.int .i64 ld, .int .u16 lq, .int .u16 lt] 84) = W4 at *
  obtain ⟨a0, a1, a2, a3, a4, af⟩ := Its.cells5 I4.out.tail; obtain ⟨e0, e1, e2, e3, e4, e5, ef⟩ := Its.cells6 I4.out.tail.tail; obtain ⟨t0, t1, t2, t3, t4, tf⟩ := Its.cells5 I4.out.tail.tail.tail; obtain ⟨c0, c1, c2, c3, c4, c5, cf⟩ := Its.cells6 I4.out.tail.tail.tail.tail
  obtain ⟨l0, l1, l2, lf⟩ := Its.cells3 I4.out
  by_cases k6 : tk = 6
  case pos =>
    exact absurd HM.out.2.1 (by omega)
  case neg =>
  rw [if_neg k6] at hP
  have k6' : (tk == 6) = false := beq_eq_false_iff_ne.2 k6
  by_cases k1 : tk = 1
  case neg =>
    exact absurd HM.out.2.1 k1
  case pos =>
  subst k1
  rw [if_neg (show ¬ ((1 : Int) ≠ 1) by simp)] at hP
  have HP := hide hP
  clear hP k6 k6'
  go_upto_region 10 with fail
  clear a0 a1 a2 a3 a4 af e0 e1 e2 e3 e4 e5 ef t0 t1 t2 t3 t4 tf c0 c1 c2 c3 c4 c5 cf
  clear l0 l1 l2 lf
  obtain ⟨gd, hgd⟩ : ∃ gd, W4.heap.size = gd := ⟨_, rfl⟩
  have I5 : Hid (Its w0 (.box gd #[.int .u8 2, .int .u16 td, .int .u16 ts, .int .u16 ta, .int .u16 0] 45 :: .box gl #[.int .i64 ld, .int .u16 lq, .int .u16 lt] 84 :: .box (w.heap.size + 1 + 1 + 1) #[.int .u8 0, .int .u16 0, .int .u16 0, .int .u16 0, .int .u16 0] 45 :: .box (w.heap.size + 1 + 1) #[.slice none 0 0, .slice none 0 0, .slice none 0 0, .slice none 0 0, .slice none 0 0, .int .i64 0] 38 :: .box (w.heap.size + 1) #[.int .u8 1, .int .u16 td, .int .u16 ts, .int .u16 ta, .int .u16 tb] 45 :: .box w.heap.size #[.slice a n c, .slice b m e, .slice aS nS cS, .slice aD nD cD, .slice aL nL cL, .int .i64 mv] 38 :: .dm w0.heap.size ⟨aS, nS, cS, aD, nD, cD, aL, nL, cL⟩ R k :: l) (W4.alloc (.cells #[.int .u8 2, .int .u16 td, .int .u16 ts, .int .u16 ta, .int .u16 0] 45))) := hide (I4.out.boxN #[.int .u8 2, .int .u16 td, .int .u16 ts, .int .u16 ta, .int .u16 0] 45 hgd)
  try rw [hgd]
  clear I4 hgd
  generalize W4.alloc (.cells #[.int .u8 2, .int .u16 td, .int .u16 ts, .int .u16 ta, .int .u16 0] 45) = W5 at *
  obtain ⟨a0, a1, a2, a3, a4, af⟩ := Its.cells5 I5.out.tail.tail; obtain ⟨e0, e1, e2, e3, e4, e5, ef⟩ := Its.cells6 I5.out.tail.tail.tail; obtain ⟨t0, t1, t2, t3, t4, tf⟩ := Its.cells5 I5.out.tail.tail.tail.tail; obtain ⟨c0, c1, c2, c3, c4, c5, cf⟩ := Its.cells6 I5.out.tail.tail.tail.tail.tail
  obtain ⟨l0, l1, l2, lf⟩ := Its.cells3 I5.out.tail; obtain ⟨b0, b1, b2, b3, b4, bf⟩ := Its.cells5 I5.out
  obtain ⟨jj, hjj⟩ : ∃ jj, Rp.jst (⟨ld, lq, lt⟩, lb) ⟨1, td, ts, ta, tb⟩ = jj := ⟨_, rfl⟩
  obtain ⟨ll, hll⟩ : ∃ ll, Rp.lte (⟨ld, lq, lt⟩, lb) ⟨1, td, ts, ta, tb⟩ = ll := ⟨_, rfl⟩
  replace HP := HP.out
  rw [hjj, hll] at HP
  try rw [hjj] at HM
  try rw [hll] at HM
  have HP2 := hide HP
  have Hjj := hide hjj
  have Hll := hide hll
  clear HP hjj hll
  go_cut [71] (fun v71 wx => v71 = .bool jj ∧ wx = W5)
  case first =>
    cases lb with
    | false =>
      obtain rfl : jj = false := by rw [← Hjj.out]; rfl
      go_wp2_with fail
      go_meet
      exact ⟨rfl, rfl⟩
    | true =>
      by_cases z1 : lq = ts
      · by_cases z2 : lt = ta
        · obtain rfl : jj = true := by rw [← Hjj.out]; simp [Rp.jst, z1, z2]
          have z1' : (lq == ts) = true := by rw [z1]; simp
          have z2' : (lt == ta) = true := by rw [z2]; simp
          clear z1 z2
          go_wp2_with fail
          go_meet
          exact ⟨rfl, rfl⟩
        · obtain rfl : jj = false := by rw [← Hjj.out]; simp [Rp.jst, z2]
          have z1' : (lq == ts) = true := by rw [z1]; simp
          have z2' : (lt == ta) = false := beq_eq_false_iff_ne.2 z2
          clear z1 z2
          go_wp2_with fail
          go_meet
          exact ⟨rfl, rfl⟩
      · obtain rfl : jj = false := by rw [← Hjj.out]; simp [Rp.jst, z1]
        have z1' : (lq == ts) = false := beq_eq_false_iff_ne.2 z1
        clear z1
        go_wp2_with fail
        go_meet
        exact ⟨rfl, rfl⟩
  case rest =>
  obtain ⟨rfl, rfl⟩ := hcut
  clear Hjj
  cases jj with
  | true =>
    exact absurd HM.out.2.2.1 (by simp)
  | false =>
  replace HP2 := HP2.out
  rw [if_neg (show ¬ (false = true) by simp)] at HP2
  have HP3 := hide HP2
  clear HP2
  have KD : Hid (∀ W : World, Calls Try.prog 37 #[.int .u16 lq, .int .u16 ts] W fun e w' => e = .returned (.int .i64 (dst lq ts)) ∧ w' = W) := hide (fun W => rdist_any lq ts W hq Hts.out)
  obtain ⟨wA, rfl⟩ : ∃ W, W = wc := ⟨_, rfl⟩
  go_upto_region 12 with fail
  go_cut [82] (fun v82 wx => v82 = .bool ll ∧ wx = wA)
  case first =>
    cases lb with
    | false =>
      obtain rfl : ll = false := by rw [← Hll.out]; rfl
      go_wp2_with fail
      go_meet
      exact ⟨rfl, rfl⟩
    | true =>
      have hl2 : ll = decide (dst lq ts ≤ 0) := by rw [← Hll.out]; simp [Rp.lte]
      generalize dst lq ts = dd at *
      by_cases z : dd ≤ 0
      · obtain rfl : ll = true := by rw [hl2]; exact decide_eq_true z
        have z3 : decide (dd ≤ 0) = true := decide_eq_true z
        clear hl2
        go_wp2_with (go_at_call 37; refine (KD.out _).mono ?_; rintro e1 W6 ⟨rfl, rfl⟩)
        go_meet
        exact ⟨by first | rfl | exact congrArg Value.bool z3, rfl⟩
      · obtain rfl : ll = false := by rw [hl2]; exact decide_eq_false z
        have z3 : decide (dd ≤ 0) = false := decide_eq_false z
        clear hl2
        go_wp2_with (go_at_call 37; refine (KD.out _).mono ?_; rintro e1 W6 ⟨rfl, rfl⟩)
        go_meet
        exact ⟨by first | rfl | exact congrArg Value.bool z3, rfl⟩
  case rest =>
  obtain ⟨rfl, rfl⟩ := hcut
  clear Hll KD
  cases ll with
  | true =>
    exact absurd HM.out.2.2.2.1 (by simp)
  | false =>
  replace HP3 := HP3.out
  rw [if_neg (show ¬ (false = true) by simp)] at HP3
  have HP4 := hide HP3
  clear HP3 hq
  obtain ⟨W5, rfl⟩ : ∃ W, W = wc := ⟨_, rfl⟩
  obtain ⟨be, oe, rfl, _⟩ := XE.out _ I5.out.bel
  have XF : Hid (∀ W, Below w0.heap.size w0 W → W.cell? ⟨be, oe + kd * 2, none⟩ = some (.int .i64 ea) ∧ W.cell? ⟨be, oe + kd * 2 + 1, none⟩ = some (.int .i64 eb)) := hide (fun W hW => by
    obtain ⟨b1, o1, q1, q3⟩ := XE.out W hW
    simp only [Option.some.injEq, Addr.mk.injEq] at q1
    obtain ⟨rfl, rfl, _⟩ := q1
    exact q3)
  clear XE
  obtain ⟨x0, x1⟩ := XF.out _ I5.out.bel
  have r1 : td.toNat - 1 = kd := by have := Hkd.out; omega
  rw [← r1] at x0 x1
  clear r1
  clear a0 a1 a2 a3 a4 af e0 e1 e2 e3 e4 e5 ef t0 t1 t2 t3 t4 tf c0 c2 c3 c4 c5 cf l0 l1 l2 lf b0 b1 b2 b3 b4 bf
  go_upto_region 15 with fail
  clear x0 x1 c1
  obtain ⟨ge, hge⟩ : ∃ ge, W5.heap.size = ge := ⟨_, rfl⟩
  have I6 : Hid (Its w0 (.box ge #[.int .i64 ea, .int .i64 eb] 42 :: .box gd #[.int .u8 2, .int .u16 td, .int .u16 ts, .int .u16 ta, .int .u16 0] 45 :: .box gl #[.int .i64 ld, .int .u16 lq, .int .u16 lt] 84 :: .box (w.heap.size + 1 + 1 + 1) #[.int .u8 0, .int .u16 0, .int .u16 0, .int .u16 0, .int .u16 0] 45 :: .box (w.heap.size + 1 + 1) #[.slice none 0 0, .slice none 0 0, .slice none 0 0, .slice none 0 0, .slice none 0 0, .int .i64 0] 38 :: .box (w.heap.size + 1) #[.int .u8 1, .int .u16 td, .int .u16 ts, .int .u16 ta, .int .u16 tb] 45 :: .box w.heap.size #[.slice a n c, .slice (some ⟨be, oe, none⟩) m e, .slice aS nS cS, .slice aD nD cD, .slice aL nL cL, .int .i64 mv] 38 :: .dm w0.heap.size ⟨aS, nS, cS, aD, nD, cD, aL, nL, cL⟩ R k :: l) (W5.alloc (.cells #[.int .i64 ea, .int .i64 eb] 42))) := hide (I5.out.boxN #[.int .i64 ea, .int .i64 eb] 42 hge)
  try rw [hge]
  clear I5 hge
  generalize W5.alloc (.cells #[.int .i64 ea, .int .i64 eb] 42) = W6 at *
  obtain ⟨t0, t1, t2, t3, t4, tf⟩ := Its.cells5 (I6.out.pick 5 rfl)
  obtain ⟨c0, c1, c2, c3, c4, c5, cf⟩ := Its.cells6 (I6.out.pick 6 rfl)
  obtain ⟨g0, g1⟩ := cells2 I6.out
  obtain ⟨av, hav⟩ : ∃ av, R.att ea = av := ⟨_, rfl⟩
  have KAe := hide (KA.out ea)
  obtain ⟨av2, hav2⟩ : ∃ av2, R.att eb = av2 := ⟨_, rfl⟩
  have KAb := hide (KA.out eb)
  obtain ⟨rr, hrr⟩ : ∃ rr, (decide (ta = 0) || decide (av ≠ ta)) = rr := ⟨_, rfl⟩
  replace HP4 := HP4.out
  rw [hav, hav2, hrr] at HP4
  rw [hav, hrr] at HM
  rw [hav] at KAe
  rw [hav2] at KAb
  have HP5 := hide HP4
  have Hrr := hide hrr
  have ra : IntKind.i64.wrap ta = ta := by rw [IntKind.wrap_i64]; omega
  clear HP4 hav hav2 hrr KA
  go_cut [104] (fun v104 wx => v104 = .bool rr ∧ Hid (Its w0 (.box ge #[.int .i64 ea, .int .i64 eb] 42 :: .box gd #[.int .u8 2, .int .u16 td, .int .u16 ts, .int .u16 ta, .int .u16 0] 45 :: .box gl #[.int .i64 ld, .int .u16 lq, .int .u16 lt] 84 :: .box (w.heap.size + 1 + 1 + 1) #[.int .u8 0, .int .u16 0, .int .u16 0, .int .u16 0, .int .u16 0] 45 :: .box (w.heap.size + 1 + 1) #[.slice none 0 0, .slice none 0 0, .slice none 0 0, .slice none 0 0, .slice none 0 0, .int .i64 0] 38 :: .box (w.heap.size + 1) #[.int .u8 1, .int .u16 td, .int .u16 ts, .int .u16 ta, .int .u16 tb] 45 :: .box w.heap.size #[.slice a n c, .slice (some ⟨be, oe, none⟩) m e, .slice aS nS cS, .slice aD nD cD, .slice aL nL cL, .int .i64 mv] 38 :: .dm w0.heap.size ⟨aS, nS, cS, aD, nD, cD, aL, nL, cL⟩ R k :: l) wx))
  case first =>
    by_cases z : ta = 0
    · obtain rfl : rr = true := by rw [← Hrr.out]; simp [z]
      have z' : (ta == 0) = true := by rw [z]; rfl
      clear z
      go_quiet (fail)
      have I7 := hide (I6.out.drew nq)
      go_wp2_with fail
      go_meet
      exact ⟨rfl, I7⟩
    · have z' : (ta == 0) = false := beq_eq_false_iff_ne.2 z
      have I6d : Hid (Its w0 (.box ge #[.int .i64 ea, .int .i64 eb] 42 :: .box gd #[.int .u8 2, .int .u16 td, .int .u16 ts, .int .u16 ta, .int .u16 0] 45 :: .box gl #[.int .i64 ld, .int .u16 lq, .int .u16 lt] 84 :: .box (w.heap.size + 1 + 1 + 1) #[.int .u8 0, .int .u16 0, .int .u16 0, .int .u16 0, .int .u16 0] 45 :: .box (w.heap.size + 1 + 1) #[.slice none 0 0, .slice none 0 0, .slice none 0 0, .slice none 0 0, .slice none 0 0, .int .i64 0] 38 :: .box (w.heap.size + 1) #[.int .u8 1, .int .u16 td, .int .u16 ts, .int .u16 ta, .int .u16 tb] 45 :: .box w.heap.size #[.slice a n c, .slice (some ⟨be, oe, none⟩) m e, .slice aS nS cS, .slice aD nD cD, .slice aL nL cL, .int .i64 mv] 38 :: .dm w0.heap.size ⟨aS, nS, cS, aD, nD, cD, aL, nL, cL⟩ R k :: l) W6.drew) := hide (I6.out.drew 1)
      have XC : Hid (∀ W, Its w0 (.box ge #[.int .i64 ea, .int .i64 eb] 42 :: .box gd #[.int .u8 2, .int .u16 td, .int .u16 ts, .int .u16 ta, .int .u16 0] 45 :: .box gl #[.int .i64 ld, .int .u16 lq, .int .u16 lt] 84 :: .box (w.heap.size + 1 + 1 + 1) #[.int .u8 0, .int .u16 0, .int .u16 0, .int .u16 0, .int .u16 0] 45 :: .box (w.heap.size + 1 + 1) #[.slice none 0 0, .slice none 0 0, .slice none 0 0, .slice none 0 0, .slice none 0 0, .int .i64 0] 38 :: .box (w.heap.size + 1) #[.int .u8 1, .int .u16 td, .int .u16 ts, .int .u16 ta, .int .u16 tb] 45 :: .box w.heap.size #[.slice a n c, .slice (some ⟨be, oe, none⟩) m e, .slice aS nS cS, .slice aD nD cD, .slice aL nL cL, .int .i64 mv] 38 :: .dm w0.heap.size ⟨aS, nS, cS, aD, nD, cD, aL, nL, cL⟩ R k :: l) W → W.cell? ⟨w.heap.size + 1, 3, none⟩ = some (.int .u16 ta) ∧ W.cell? ⟨ge, 0, none⟩ = some (.int .i64 ea)) := hide (fun W hW => ⟨(Its.cells5 hW.tail.tail.tail.tail.tail).2.2.2.1, (cells2 hW).1⟩)
      by_cases y : av = ta
      · obtain rfl : rr = false := by rw [← Hrr.out]; simp [z, y]
        exact absurd HM.out.2.2.2.2 (by simp)
      · obtain rfl : rr = true := by rw [← Hrr.out]; simp [y]
        have y' : (av == ta) = false := beq_eq_false_iff_ne.2 y
        clear z y
        go_region_with (go_at_call 32; refine (KAe.out _ (I6d.out.pick 7 rfl).one).mono ?_; rintro e1 W7 ⟨rfl, q⟩; have I7 := hide (I6d.out.keep q); clear q; obtain ⟨nb0, nb1⟩ := XC.out _ I7.out)
        all_goals go_wp2_with fail
        all_goals go_meet
        all_goals exact ⟨by first | rfl | exact congrArg Value.bool (by simp [bne, y']), I7⟩
  case rest =>
  obtain ⟨rfl, I7⟩ := hcut
  obtain ⟨W7, rfl⟩ : ∃ W, W = wc := ⟨_, rfl⟩
  clear t0 t1 t2 t3 t4 tf c0 c1 c2 c3 c4 c5 cf g0 g1
  clear I6 KAe Hrr
  cases rr with
  | true =>
    have HPP : Hid (P = ((⟨3, td, ts, ta, 1⟩, true), R)) := hide (by have := HP5.out; rw [if_pos rfl] at this; exact this.symm)
    obtain ⟨a0, a1, a2, a3, a4, af⟩ := Its.cells5 I7.out.tail.tail.tail; obtain ⟨e0, e1, e2, e3, e4, e5, ef⟩ := Its.cells6 I7.out.tail.tail.tail.tail; obtain ⟨t0, t1, t2, t3, t4, tf⟩ := Its.cells5 I7.out.tail.tail.tail.tail.tail; obtain ⟨c0, c1, c2, c3, c4, c5, cf⟩ := Its.cells6 I7.out.tail.tail.tail.tail.tail.tail
    obtain ⟨l0, l1, l2, lf⟩ := Its.cells3 I7.out.tail.tail; obtain ⟨b0, b1, b2, b3, b4, bf⟩ := Its.cells5 I7.out.tail; obtain ⟨g0, g1⟩ := cells2 I7.out
    go_upto_region 16 with fail
    have HI6 : Hid (Its w0 (.box (w.heap.size + 1 + 1) #[.slice a n c, .slice (some ⟨be, oe, none⟩) m e, .slice aS nS cS, .slice aD nD cD, .slice aL nL cL, .int .i64 mv] 38 :: .box ge #[.int .i64 ea, .int .i64 eb] 42 :: .box gd #[.int .u8 2, .int .u16 td, .int .u16 ts, .int .u16 ta, .int .u16 0] 45 :: .box gl #[.int .i64 ld, .int .u16 lq, .int .u16 lt] 84 :: .box (w.heap.size + 1 + 1 + 1) #[.int .u8 0, .int .u16 0, .int .u16 0, .int .u16 0, .int .u16 0] 45 :: .box (w.heap.size + 1) #[.int .u8 1, .int .u16 td, .int .u16 ts, .int .u16 ta, .int .u16 tb] 45 :: .box w.heap.size #[.slice a n c, .slice (some ⟨be, oe, none⟩) m e, .slice aS nS cS, .slice aD nD cD, .slice aL nL cL, .int .i64 mv] 38 :: .dm w0.heap.size ⟨aS, nS, cS, aD, nD, cD, aL, nL, cL⟩ R k :: l) ((((((W7.setCell ⟨w.heap.size + 1 + 1, 0, none⟩ (.slice a n c)).setCell ⟨w.heap.size + 1 + 1, 1, none⟩ (.slice (some ⟨be, oe, none⟩) m e)).setCell ⟨w.heap.size + 1 + 1, 2, none⟩ (.slice aS nS cS)).setCell ⟨w.heap.size + 1 + 1, 3, none⟩ (.slice aD nD cD)).setCell ⟨w.heap.size + 1 + 1, 4, none⟩ (.slice aL nL cL)).setCell ⟨w.heap.size + 1 + 1, 5, none⟩ (.int .i64 mv))) := hide (Its.out6 (I7.out.pick 4 rfl) (.slice a n c) (.slice (some ⟨be, oe, none⟩) m e) (.slice aS nS cS) (.slice aD nD cD) (.slice aL nL cL) (.int .i64 mv))
    obtain ⟨wa0, wa1, wa2, wa3, wa4, waf⟩ := Its.cells5 HI6.out.tail.tail.tail.tail
    obtain ⟨wt0, wt1, wt2, wt3, wt4, wtf⟩ := Its.cells5 HI6.out.tail.tail.tail.tail.tail
    obtain ⟨wl0, wl1, wl2, wlf⟩ := Its.cells3 HI6.out.tail.tail.tail
    obtain ⟨wb0, wb1, wb2, wb3, wb4, wbf⟩ := Its.cells5 HI6.out.tail.tail
    go_region
    have HIe : Hid (Its w0 (.box (w.heap.size + 1 + 1 + 1) #[.int .u8 3, .int .u16 td, .int .u16 ts, .int .u16 ta, .int .u16 1] 45 :: .box (w.heap.size + 1 + 1) #[.slice a n c, .slice (some ⟨be, oe, none⟩) m e, .slice aS nS cS, .slice aD nD cD, .slice aL nL cL, .int .i64 mv] 38 :: .box ge #[.int .i64 ea, .int .i64 eb] 42 :: .box gd #[.int .u8 2, .int .u16 td, .int .u16 ts, .int .u16 ta, .int .u16 0] 45 :: .box gl #[.int .i64 ld, .int .u16 lq, .int .u16 lt] 84 :: .box (w.heap.size + 1) #[.int .u8 1, .int .u16 td, .int .u16 ts, .int .u16 ta, .int .u16 tb] 45 :: .box w.heap.size #[.slice a n c, .slice (some ⟨be, oe, none⟩) m e, .slice aS nS cS, .slice aD nD cD, .slice aL nL cL, .int .i64 mv] 38 :: .dm w0.heap.size ⟨aS, nS, cS, aD, nD, cD, aL, nL, cL⟩ R k :: l) (((((((((((W7.setCell ⟨w.heap.size + 1 + 1, 0, none⟩ (.slice a n c)).setCell ⟨w.heap.size + 1 + 1, 1, none⟩ (.slice (some ⟨be, oe, none⟩) m e)).setCell ⟨w.heap.size + 1 + 1, 2, none⟩ (.slice aS nS cS)).setCell ⟨w.heap.size + 1 + 1, 3, none⟩ (.slice aD nD cD)).setCell ⟨w.heap.size + 1 + 1, 4, none⟩ (.slice aL nL cL)).setCell ⟨w.heap.size + 1 + 1, 5, none⟩ (.int .i64 mv)).setCell ⟨w.heap.size + 1 + 1 + 1, 0, none⟩ (.int .u8 3)).setCell ⟨w.heap.size + 1 + 1 + 1, 1, none⟩ (.int .u16 td)).setCell ⟨w.heap.size + 1 + 1 + 1, 2, none⟩ (.int .u16 ts)).setCell ⟨w.heap.size + 1 + 1 + 1, 3, none⟩ (.int .u16 ta)).setCell ⟨w.heap.size + 1 + 1 + 1, 4, none⟩ (.int .u16 1)).drew) := hide ((Its.out5 (HI6.out.pick 4 rfl) (.int .u8 3) (.int .u16 td) (.int .u16 ts) (.int .u16 ta) (.int .u16 1)).drew 1)
    have HI9 := hide HIe.out.tail.tail.tail.tail.tail.tail.tail
    clear HI6
    generalize (((((((((((W7.setCell ⟨w.heap.size + 1 + 1, 0, none⟩ (.slice a n c)).setCell ⟨w.heap.size + 1 + 1, 1, none⟩ (.slice (some ⟨be, oe, none⟩) m e)).setCell ⟨w.heap.size + 1 + 1, 2, none⟩ (.slice aS nS cS)).setCell ⟨w.heap.size + 1 + 1, 3, none⟩ (.slice aD nD cD)).setCell ⟨w.heap.size + 1 + 1, 4, none⟩ (.slice aL nL cL)).setCell ⟨w.heap.size + 1 + 1, 5, none⟩ (.int .i64 mv)).setCell ⟨w.heap.size + 1 + 1 + 1, 0, none⟩ (.int .u8 3)).setCell ⟨w.heap.size + 1 + 1 + 1, 1, none⟩ (.int .u16 td)).setCell ⟨w.heap.size + 1 + 1 + 1, 2, none⟩ (.int .u16 ts)).setCell ⟨w.heap.size + 1 + 1 + 1, 3, none⟩ (.int .u16 ta)).setCell ⟨w.heap.size + 1 + 1 + 1, 4, none⟩ (.int .u16 1)).drew = WE at *
    go_wp2_with fail
    obtain ⟨y0, y1, y2, y3, y4, _⟩ := Its.cells5 HIe.out
    obtain ⟨z0, z1, z2, z3, z4, z5, _⟩ := Its.cells6 HIe.out.tail
    exact bodyPost_ret (v := .tuple #[.agg #[.slice a n c, .slice (some ⟨be, oe, none⟩) m e, .slice aS nS cS, .slice aD nD cD, .slice aL nL cL, .int .i64 mv], .agg #[.int .u8 3, .int .u16 td, .int .u16 ts, .int .u16 ta, .int .u16 1], .bool true]) (by simp [results, Try.results18, go_sem, y0, y1, y2, y3, y4, z0, z1, z2, z3, z4, z5]) rfl (RH.mk ⟨aS, nS, cS, aD, nD, cD, aL, nL, cL⟩ ⟨3, td, ts, ta, 1⟩ R (HPP.out) Hmv.out (HS.out _ HI9.out))
  | false =>
  replace HP5 := HP5.out
  rw [if_neg (show ¬ (false = true) by simp)] at HP5
  have HP6 := hide HP5
  clear HP5
  by_cases u : 0 < av2
  case pos =>
    exact absurd HM.out.2.2.2.2 (by simp)
  case neg =>
  exact absurd HM.out.2.2.2.2 (by simp)

end
end Go.Proofs.Ythcdfclhenmleaa

