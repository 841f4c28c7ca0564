/- The walk of MirrorBack. -/
import Derived.Test.YtlnnpdghcilioaaMcm
import Derived.Test.YtlnnpdghcilioaaMbm
import Derived.Test.YtlnnpdghcilioaaRtl
import Derived.Test.YtlnnpdghcilioaaMaw
import Derived.Deep.CutBlock
namespace Go.Proofs.Ytlnnpdghcilioaa
open Go.RowKit
set_option linter.unusedVariables false
set_option maxRecDepth 100000 in
set_option maxHeartbeats 8000000 in
theorem back_any (a b : Option Addr) (c e n m : Nat) (ns : List Nd) (es : List Ed) (an : Option Addr) (ln cn : Nat) (zn : List Nt) (kd xa xb xc : Int) (w : World) (L : Lyt w a b c e n m ns es) (hln : zn.length = ln) (hn : ntE.Rd w (.slice an ln cn) zn) :
    Calls Try.prog 7 #[.agg #[.slice a n c, .slice b m e], .slice an ln cn, .agg #[.int .i64 kd, .int .i64 xa, .int .i64 xb, .int .i64 xc]] w fun e w' => e = .returned (.bool true) ∧ Below w.heap.size w w' := by
  have I1 : Hid (Its w [.box w.heap.size #[.slice a n c, .slice b m e] 25, .box (w.heap.size + 1) #[.int .i64 kd, .int .i64 xa, .int .i64 xb, .int .i64 xc] 45] ((w.alloc (.cells #[.slice a n c, .slice b m e] 25)).alloc (.cells #[.int .i64 kd, .int .i64 xa, .int .i64 xb, .int .i64 xc] 45))) := hide (((Its.nil w).box1 #[.slice a n c, .slice b m e] 25).boxN #[.int .i64 kd, .int .i64 xa, .int .i64 xb, .int .i64 xc] 45 (n := w.heap.size + 1) (by show (w.heap.push _).size = _; simp)).swap
  have XL : Hid (∀ W, Its w [.box w.heap.size #[.slice a n c, .slice b m e] 25, .box (w.heap.size + 1) #[.int .i64 kd, .int .i64 xa, .int .i64 xb, .int .i64 xc] 45] W → W.cell? ⟨w.heap.size, 0, none⟩ = some (.slice a n c) ∧ W.cell? ⟨w.heap.size, 1, none⟩ = some (.slice b m e)) := hide (fun W h => h.lbox1)
  obtain ⟨u0, u1⟩ := XL.out _ I1.out
  have HL := hide L
  have Hln := hide hln
  have Hn := hide hn
  clear hln hn
  by_cases hfew : n ≤ 60 ∧ m ≤ 200
  case neg =>
    have hd : decide (n ≤ 60 ∧ m ≤ 200) = false := decide_eq_false hfew
    clear L hfew
    go_enter Try.func7, Try.ntmps7
    go_wp2_with (first
      | (go_at_call 9; refine (awake_any _).mono ?_; rintro e1 W4 ⟨rfl, q⟩; have I4 := hide (I3.out.keep q); clear q)
      | (go_at_call 10; refine few_any.mono ?_; rintro e1 W3 ⟨rfl, q⟩; have I3 := hide (I2.out.keep q); clear q; obtain ⟨y0, y1⟩ := XL.out _ I3.out)
      | (go_at_call 9; refine (awake_any _).mono ?_; rintro e1 W2 ⟨rfl, q⟩; have I2 := hide (I1.out.keep q); clear q; obtain ⟨u0, u1⟩ := XL.out _ I2.out))
    go_ret
    exact ⟨rfl, I4.out.bel⟩
  case pos =>
  have hd : decide (n ≤ 60 ∧ m ≤ 200) = true := decide_eq_true hfew
  clear hfew
  cases hg : good ns es with
  | false =>
    have KN : Hid (∀ W, Its w [.box w.heap.size #[.slice a n c, .slice b m e] 25, .box (w.heap.size + 1) #[.int .i64 kd, .int .i64 xa, .int .i64 xb, .int .i64 xc] 45] W → Calls Try.prog 12 #[.agg #[.slice a n c, .slice b m e]] W fun e w' => e = .returned (.tuple #[.pointer none, .int .i64 61]) ∧ Below W.heap.size W w') := hide (fun W h => new_no (h.keepL L) hg)
    have KR := hide (fun W (h : Its w [.box w.heap.size #[.slice a n c, .slice b m e] 25, .box (w.heap.size + 1) #[.int .i64 kd, .int .i64 xa, .int .i64 xb, .int .i64 xc] 45] W) => rnew9n h L hg)
    clear L hg
    go_enter Try.func7, Try.ntmps7
    go_wp2_with (first
      | (go_at_call 13; refine (KR.out _ I5.out).mono ?_; rintro e1 W6 ⟨rfl, q⟩; have I6 := hide q; clear q)
      | (go_at_call 12; refine (KN.out _ I3.out).mono ?_; rintro e1 W5 ⟨rfl, q⟩; have I5 := hide (I3.out.keep q); clear q; obtain ⟨v0, v1⟩ := XL.out _ I5.out)
      | (go_at_call 10; refine few_any.mono ?_; rintro e1 W3 ⟨rfl, q⟩; have I3 := hide (I2.out.keep q); clear q; obtain ⟨y0, y1⟩ := XL.out _ I3.out)
      | (go_at_call 9; refine (awake_any _).mono ?_; rintro e1 W2 ⟨rfl, q⟩; have I2 := hide (I1.out.keep q); clear q; obtain ⟨u0, u1⟩ := XL.out _ I2.out))
    go_ret
    exact ⟨by first | rfl | simp, (I6.out.alloc _).bel⟩
  | true =>
  have KN : Hid (∀ W, Its w [.box w.heap.size #[.slice a n c, .slice b m e] 25, .box (w.heap.size + 1) #[.int .i64 kd, .int .i64 xa, .int .i64 xb, .int .i64 xc] 45] W → Calls Try.prog 12 #[.agg #[.slice a n c, .slice b m e]] W fun e w' => NewP W n m es e w') := hide (fun W h => new_ok (h.keepL L) hg)
  have KR := hide (fun W g H S (h : Its w (.mir w.heap.size g H n m es S :: [.box w.heap.size #[.slice a n c, .slice b m e] 25, .box (w.heap.size + 1) #[.int .i64 kd, .int .i64 xa, .int .i64 xb, .int .i64 xc] 45]) W) => rnew9 h L hg)
  have HRel0 := hide (rel_new L hg)
  obtain ⟨S0, hS0⟩ : ∃ S0, Mr.nw n es = S0 := ⟨_, rfl⟩
  rw [hS0] at HRel0
  replace hS0 := hide hS0
  have i0 : m ≤ 120 := by obtain ⟨g1, g2, g3⟩ := good_he hg; rw [L.hm] at g2; exact g2
  clear L hg
  go_enter Try.func7, Try.ntmps7
  go_upto_region 7 with (first
    | (go_at_call 13; refine (KR.out _ _ _ _ I5.out).mono ?_; rintro e1 W6 ⟨rfl, q⟩; have I6 := hide q; clear q)
    | (go_at_call 12; refine (KN.out _ I3.out).mono ?_; rintro e1 W5 ⟨g, H, rfl, q⟩; have I5 := hide (I3.out.addm q); rw [hS0.out] at I5; clear q; obtain ⟨v0, v1⟩ := I5.out.lbox)
    | (go_at_call 10; refine few_any.mono ?_; rintro e1 W3 ⟨rfl, q⟩; have I3 := hide (I2.out.keep q); clear q; obtain ⟨y0, y1⟩ := XL.out _ I3.out)
    | (go_at_call 9; refine (awake_any _).mono ?_; rintro e1 W2 ⟨rfl, q⟩; have I2 := hide (I1.out.keep q); clear q; obtain ⟨u0, u1⟩ := XL.out _ I2.out))
  have I7 : Hid (Its w (.mir w.heap.size g H n m es S0 :: .dm w.heap.size V0 R0 0 :: .box W6.heap.size #[.slice a n c, .slice b m e, .slice none 0 0, .slice none 0 0, .slice none 0 0, .slice none 0 0] 38 :: .box w.heap.size #[.slice a n c, .slice b m e] 25 :: [.box (w.heap.size + 1) #[.int .i64 kd, .int .i64 xa, .int .i64 xb, .int .i64 xc] 45]) (W6.alloc (.cells #[.slice a n c, .slice b m e, .slice none 0 0, .slice none 0 0, .slice none 0 0, .slice none 0 0] 38))) := hide (I6.out.box1 #[.slice a n c, .slice b m e, .slice none 0 0, .slice none 0 0, .slice none 0 0, .slice none 0 0] 38).rot3'.swap
  obtain ⟨gr, hgr⟩ : ∃ gr, W6.heap.size = gr := ⟨_, rfl⟩
  rw [hgr] at I7
  generalize W6.alloc (.cells #[.slice a n c, .slice b m e, .slice none 0 0, .slice none 0 0, .slice none 0 0, .slice none 0 0] 38) = W7 at *
  try rw [hgr]
  clear y0 y1 u0 u1 v0 v1 KN KR I5 I6 hgr I1 I2 I3 XL
  go_upto_block 0 with fail
  go_cut [11] (fun v11 wx => ∃ (k : Nat) (S : Mr) (V : Vm) (R : Rm), k ≤ 100 ∧ Hid (Rel S R n es) ∧ Hid (Its w (.mir w.heap.size g H n m es S :: .dm w.heap.size V R k :: .box gr #[.slice a n c, .slice b m e, .slice V.aS V.nS V.cS, .slice V.aT V.nT V.cT, .slice V.aD V.nD V.cD, .slice V.aL V.nL V.cL] 38 :: .box w.heap.size #[.slice a n c, .slice b m e] 25 :: [.box (w.heap.size + 1) #[.int .i64 kd, .int .i64 xa, .int .i64 xb, .int .i64 xc] 45]) wx))
  case first =>
    go_wp2_with fail
    go_loopw [11] (fun v11 wr => ∃ (i : Nat) (S : Mr) (V : Vm) (R : Rm), v11 = .int .i64 i ∧ i ≤ 100 ∧ Hid (Rel S R n es) ∧ Hid (Its w (.mir w.heap.size g H n m es S :: .dm w.heap.size V R i :: .box gr #[.slice a n c, .slice b m e, .slice V.aS V.nS V.cS, .slice V.aT V.nT V.cT, .slice V.aD V.nD V.cD, .slice V.aL V.nL V.cL] 38 :: .box w.heap.size #[.slice a n c, .slice b m e] 25 :: [.box (w.heap.size + 1) #[.int .i64 kd, .int .i64 xa, .int .i64 xb, .int .i64 xc] 45]) wr)) (fun v11 _ => 100 - (intOf v11).toNat)
    case atStart => exact ⟨0, S0, V0, R0, rfl, by omega, HRel0, I7⟩
    case round =>
      clear HRel0 I7
      obtain ⟨i, S, ⟨aS, nS, cS, aT, nT, cT, aD, nD, cD, aL, nL, cL⟩, R, rfl, hi, HRel, HR⟩ := hrel
      dsimp only at *
      by_cases hil : i < ln
      case neg =>
        have q1 : ¬ (i : Int) < (ln : Int) := by omega
        go_wp2_with fail
        go_meet
        exact ⟨i, S, ⟨aS, nS, cS, aT, nT, cT, aD, nD, cD, aL, nL, cL⟩, R, by omega, HRel, HR⟩
      case pos =>
      have q1 : (i : Int) < (ln : Int) := by omega
      by_cases hi5 : i < 100
      case neg =>
        have q2 : ¬ (i : Int) < 100 := by omega
        go_wp2_with fail
        go_meet
        exact ⟨i, S, ⟨aS, nS, cS, aT, nT, cT, aD, nD, cD, aL, nL, cL⟩, R, by omega, HRel, HR⟩
      case pos =>
      have q2 : (i : Int) < 100 := by omega
      have q0 : (0 : Int) ≤ (i : Int) := by omega
      obtain ⟨p, hp⟩ : ∃ p, zn[i]? = some p := ⟨_, List.getElem?_eq_getElem (by rw [Hln.out]; exact hil)⟩
      have XN : Hid (∀ W, Below w.heap.size w W → ∃ b0 o0, an = some ⟨b0, o0, none⟩ ∧ W.cell? ⟨b0, o0 + i * 4, none⟩ = some (.int .i64 p.kind) ∧ W.cell? ⟨b0, o0 + i * 4 + 1, none⟩ = some (.int .i64 p.a) ∧ W.cell? ⟨b0, o0 + i * 4 + 2, none⟩ = some (.int .i64 p.b) ∧ W.cell? ⟨b0, o0 + i * 4 + 3, none⟩ = some (.int .i64 p.c)) := hide (fun W h => nt_at (Hn.out.keep h) i p hp)
      obtain ⟨b0, o0, rfl, n0, n1, n2, n3⟩ := XN.out _ HR.out.bel
      have XM : Hid (∀ W, Below w.heap.size w W → W.cell? ⟨b0, o0 + i * 4, none⟩ = some (.int .i64 p.kind) ∧ W.cell? ⟨b0, o0 + i * 4 + 1, none⟩ = some (.int .i64 p.a) ∧ W.cell? ⟨b0, o0 + i * 4 + 2, none⟩ = some (.int .i64 p.b) ∧ W.cell? ⟨b0, o0 + i * 4 + 3, none⟩ = some (.int .i64 p.c)) := hide (fun W h => by
        obtain ⟨b1, o1, q1, q2⟩ := XN.out W h
        simp only [Option.some.injEq, Addr.mk.injEq] at q1
        obtain ⟨rfl, rfl, _⟩ := q1
        exact q2)
      clear XN hp
      obtain ⟨P, hP⟩ : ∃ P, S.app p = P := ⟨_, rfl⟩
      have KA := hide (app9 HR.out p hP)
      have KR := hide (fun W (hW : Its w (.mir w.heap.size g H n m es P.2 :: .dm w.heap.size ⟨aS, nS, cS, aT, nT, cT, aD, nD, cD, aL, nL, cL⟩ R i :: .box gr #[.slice a n c, .slice b m e, .slice aS nS cS, .slice aT nT cT, .slice aD nD cD, .slice aL nL cL] 38 :: .box w.heap.size #[.slice a n c, .slice b m e] 25 :: [.box (w.heap.size + 1) #[.int .i64 kd, .int .i64 xa, .int .i64 xb, .int .i64 xc] 45]) W) => rapp9 (V := ⟨aS, nS, cS, aT, nT, cT, aD, nD, cD, aL, nL, cL⟩) hW.swap HL.out i0 HRel.out (show i + 1 ≤ 1000 by omega) p hP)
      clear hP HRel
      obtain ⟨yd, ya, yb, yc⟩ := p
      obtain ⟨code, S1⟩ := P
      dsimp only at *
      go_upto_region 11 with (go_at_call 15; refine KA.out.mono ?_; rintro e1 W7 ⟨rfl, q⟩; have I7 := hide q; clear q)
      clear n0 n1 n2 n3 KA
      obtain ⟨n0, n1, n2, n3⟩ := XM.out _ I7.out.bel
      obtain ⟨c0, c1, c2, c3, c4, c5, cf⟩ := Its.cells6 I7.out.tail.tail
      have HD : Hid (Its w (.mir w.heap.size g H n m es S1 :: .dm w.heap.size ⟨aS, nS, cS, aT, nT, cT, aD, nD, cD, aL, nL, cL⟩ R i :: .box gr #[.slice a n c, .slice b m e, .slice aS nS cS, .slice aT nT cT, .slice aD nD cD, .slice aL nL cL] 38 :: .box w.heap.size #[.slice a n c, .slice b m e] 25 :: [.box (w.heap.size + 1) #[.int .i64 kd, .int .i64 xa, .int .i64 xb, .int .i64 xc] 45]) W7.drew) := hide (I7.out.drew 1)
      have KQ := hide (KR.out _ HD.out)
      clear KR
      go_region_with (go_at_call 16; refine KQ.out.mono ?_; rintro e1 W3 ⟨⟨bS, mS, dS, bT, mT, dT, bD, mD, dD, bL, mL, dL⟩, R3, rfl, hr3, q⟩; (try dsimp only); have HRel := hide hr3; have I3 := hide q.rot3; clear q hr3; obtain ⟨f0, f1, f2, f3, f4, f5, ff⟩ := Its.cells6 I3.out)
      all_goals go_wp2_with fail
      all_goals have I4 := hide (Its.rput (V := ⟨aS, nS, cS, aT, nT, cT, aD, nD, cD, aL, nL, cL⟩) I3.out ⟨bS, mS, dS, bT, mT, dT, bD, mD, dD, bL, mL, dL⟩)
      all_goals dsimp only at I4
      all_goals go_roundw
      all_goals first
        | exact ⟨i + 1, S1, ⟨bS, mS, dS, bT, mT, dT, bD, mD, dD, bL, mL, dL⟩, R3, by go_num, by omega, HRel, hide I4.out.rot3'.swap⟩
        | (simp [intOf]; omega)
  case rest =>
  clear HRel0 I7 Hln Hn
  obtain ⟨k, S, ⟨aS, nS, cS, aT, nT, cT, aD, nD, cD, aL, nL, cL⟩, R, hk, HRel, HR⟩ := hcut
  obtain ⟨wA, rfl⟩ : ∃ W, W = wc := ⟨_, rfl⟩
  dsimp only at *
  have XT : Hid (∀ W : World, W.heap[w.heap.size + 1]? = some (.cells #[.int .i64 kd, .int .i64 xa, .int .i64 xb, .int .i64 xc] 45) → W.cell? ⟨w.heap.size + 1, 1, none⟩ = some (.int .i64 xa) ∧ W.cell? ⟨w.heap.size + 1, 2, none⟩ = some (.int .i64 xb) ∧ W.cell? ⟨w.heap.size + 1, 3, none⟩ = some (.int .i64 xc)) := hide (fun W h => ⟨(cells_at h 1).1, (cells_at h 2).1, (cells_at h 3).1⟩)
  obtain ⟨z1, z2, z3⟩ := XT.out _ HR.out.tail.four
  by_cases hc : (S.snd xa xb xc).1 = 0
  case neg =>
    have KS := hide (sendS HR.out xa xb xc)
    rw [snd_no hc] at KS
    obtain ⟨code, hcode⟩ : ∃ x, (S.snd xa xb xc).1 = x := ⟨_, rfl⟩
    rw [hcode] at hc KS
    have hc' : (code == 0) = false := beq_eq_false_iff_ne.2 hc
    have KT := hide (fun W (hW : Its w (.mir w.heap.size g H n m es S :: .dm w.heap.size ⟨aS, nS, cS, aT, nT, cT, aD, nD, cD, aL, nL, cL⟩ R k :: .box gr #[.slice a n c, .slice b m e, .slice aS nS cS, .slice aT nT cT, .slice aD nD cD, .slice aL nL cL] 38 :: .box w.heap.size #[.slice a n c, .slice b m e] 25 :: [.box (w.heap.size + 1) #[.int .i64 kd, .int .i64 xa, .int .i64 xb, .int .i64 xc] 45]) W) => tellsS hW HL.out HRel.out)
    clear hcode
    go_wp2_with (first
      | (go_at_call 17; refine (KT.out _ I8.out).mono ?_; rintro e1 W9 ⟨rfl, q⟩; have I9 := hide q.bel; clear q)
      | (go_at_call 24; refine KS.out.mono ?_; rintro e1 W8 ⟨rfl, q⟩; have I8 := hide q; clear q; obtain ⟨c0, c1, c2, c3, c4, c5, cf⟩ := Its.cells6 I8.out.tail.tail))
    go_ret
    exact ⟨rfl, I9.out⟩
  case pos =>
  obtain ⟨k0, fr, en, g0, g1, g2, g3, g4, g5, g6, g7⟩ := snd_back HRel.out.ok hc
  have HX0 := hide g0
  obtain ⟨P, hP⟩ : ∃ P, S.snd xa xb xc = P := ⟨_, rfl⟩
  have KS := hide (sendS HR.out xa xb xc)
  have KRs := hide (fun W l (hW : Its w (.dm w.heap.size ⟨aS, nS, cS, aT, nT, cT, aD, nD, cD, aL, nL, cL⟩ R k :: l) W) => rsnd9 (V := ⟨aS, nS, cS, aT, nT, cT, aD, nD, cD, aL, nL, cL⟩) hW HL.out i0 HRel.out (show k + 1 ≤ 1000 by omega) xa xb xc hP)
  rw [hP] at hc g3 g4 g5 g6 g7 KS
  clear hP
  obtain ⟨code, S1⟩ := P
  dsimp only at *
  subst hc
  obtain ⟨P, hP⟩ : ∃ P, S1.drp xa = P := ⟨_, rfl⟩
  have KTo := hide (fun W (hW : Its w (.mir w.heap.size g H n m es S1 :: .dm w.heap.size ⟨aS, nS, cS, aT, nT, cT, aD, nD, cD, aL, nL, cL⟩ R k :: .box gr #[.slice a n c, .slice b m e, .slice aS nS cS, .slice aT nT cT, .slice aD nD cD, .slice aL nL cL] 38 :: .box w.heap.size #[.slice a n c, .slice b m e] 25 :: [.box (w.heap.size + 1) #[.int .i64 kd, .int .i64 xa, .int .i64 xb, .int .i64 xc] 45]) W) => toldS hW xa)
  have KTk := hide (fun W (hW : Its w (.mir w.heap.size g H n m es S1 :: .dm w.heap.size ⟨aS, nS, cS, aT, nT, cT, aD, nD, cD, aL, nL, cL⟩ R k :: .box gr #[.slice a n c, .slice b m e, .slice aS nS cS, .slice aT nT cT, .slice aD nD cD, .slice aL nL cL] 38 :: .box w.heap.size #[.slice a n c, .slice b m e] 25 :: [.box (w.heap.size + 1) #[.int .i64 kd, .int .i64 xa, .int .i64 xb, .int .i64 xc] 45]) W) => takenS hW en)
  have KDr := hide (fun W (hW : Its w (.mir w.heap.size g H n m es S1 :: .dm w.heap.size ⟨aS, nS, cS, aT, nT, cT, aD, nD, cD, aL, nL, cL⟩ R k :: .box gr #[.slice a n c, .slice b m e, .slice aS nS cS, .slice aT nT cT, .slice aD nD cD, .slice aL nL cL] 38 :: .box w.heap.size #[.slice a n c, .slice b m e] 25 :: [.box (w.heap.size + 1) #[.int .i64 kd, .int .i64 xa, .int .i64 xb, .int .i64 xc] 45]) W) => dropS hW xa)
  have KRd := hide (fun W V R l (hW : Its w (.dm w.heap.size V R (k + 1) :: l) W) (hr : Rel S1 R n es) => rdrp9 hW HL.out hr (show k + 1 + 1 ≤ 1000 by omega) xa hP)
  rw [hP] at g5 g6 g7 KDr
  rw [g3] at KTo
  rw [g4] at KTk
  clear hP
  obtain ⟨code, S2⟩ := P
  dsimp only at *
  subst g5
  have KLa := hide (fun W (hW : Its w (.mir w.heap.size g H n m es S2 :: .dm w.heap.size ⟨aS, nS, cS, aT, nT, cT, aD, nD, cD, aL, nL, cL⟩ R k :: .box gr #[.slice a n c, .slice b m e, .slice aS nS cS, .slice aT nT cT, .slice aD nD cD, .slice aL nL cL] 38 :: .box w.heap.size #[.slice a n c, .slice b m e] 25 :: [.box (w.heap.size + 1) #[.int .i64 kd, .int .i64 xa, .int .i64 xb, .int .i64 xc] 45]) W) => lastS hW xa)
  rw [g6] at KLa
  have KW := hide (fun W l (hW : Its w (.mir w.heap.size g H n m es S2 :: l) W) => where_m hW.one xb)
  rw [g7] at KW
  dsimp only at KLa KTo KTk KDr
  have KT := hide (fun W V R k l (hW : Its w (.mir w.heap.size g H n m es S2 :: .dm w.heap.size V R k :: l) W) (hr : Rel S2 R n es) => tellsS hW HL.out hr)
  have XE : Hid (∀ W, Below w.heap.size w W → ∃ be oe, b = some ⟨be, oe, none⟩ ∧ W.cell? ⟨be, oe + k0 * 2, none⟩ = some (.int .i64 fr) ∧ W.cell? ⟨be, oe + k0 * 2 + 1, none⟩ = some (.int .i64 en)) := hide (fun W hW => ed_at (HL.out.keep hW).hu k0 _ g2)
  rw [HL.out.hm] at g1
  have r1 : wrap64 (xa - 1) = (k0 : Int) := by have := HX0.out; unfold wrap64; omega
  have r1' : IntKind.i64.wrap (xa - 1) = (k0 : Int) := by have := HX0.out; rw [IntKind.wrap_i64]; omega
  have r4 : IntKind.i64.wrap (k0 : Int) = (k0 : Int) := by rw [IntKind.wrap_i64]; omega
  have r2 : (k0 : Int) < (m : Int) := by omega
  have r3 : (0 : Int) ≤ (k0 : Int) := by omega
  clear HRel g0 g2 g3 g4 g6 g7 i0
  obtain ⟨be, oe, rfl, ce0, ce1⟩ := XE.out _ HR.out.bel
  have XF : Hid (∀ W, Below w.heap.size w W → W.cell? ⟨be, oe + k0 * 2, none⟩ = some (.int .i64 fr) ∧ W.cell? ⟨be, oe + k0 * 2 + 1, none⟩ = some (.int .i64 en)) := hide (fun W hW => by
    obtain ⟨b1, o1, q1, q2⟩ := XE.out W hW
    simp only [Option.some.injEq, Addr.mk.injEq] at q1
    obtain ⟨rfl, rfl, _⟩ := q1
    exact q2)
  clear XE
  go_upto_region 20 with (first
    | (go_at_call 28; refine (KLa.out _ J4.out).mono ?_; rintro e1 W5 ⟨rfl, q⟩; have J5 := hide q; clear q; obtain ⟨z1, z2, z3⟩ := XT.out _ J5.out.tail.four; obtain ⟨c0, c1, c2, c3, c4, c5, cf⟩ := Its.cells6 J5.out.tail.tail)
    | (go_at_call 26; refine (KDr.out _ J3.out).mono ?_; rintro e1 W4 ⟨rfl, q⟩; have J4 := hide q; clear q; obtain ⟨z1, z2, z3⟩ := XT.out _ J4.out.tail.four)
    | (go_at_call 22; refine (KTk.out _ J2.out).mono ?_; rintro e1 W3 ⟨rfl, q⟩; have J3 := hide q; clear q; obtain ⟨z1, z2, z3⟩ := XT.out _ J3.out.tail.four)
    | (go_at_call 21; refine (KTo.out _ J1.out).mono ?_; rintro e1 W2 ⟨rfl, q⟩; have J2 := hide q; clear q; obtain ⟨z1, z2, z3⟩ := XT.out _ J2.out.tail.four; obtain ⟨l0, l1⟩ := J2.out.tail.tail.lbox; obtain ⟨ce0, ce1⟩ := XF.out _ J2.out.bel)
    | (go_at_call 24; refine KS.out.mono ?_; rintro e1 W1 ⟨rfl, q⟩; have J1 := hide q; clear q; obtain ⟨z1, z2, z3⟩ := XT.out _ J1.out.tail.four))
  clear KLa KDr KTk KTo KS J1 J2 J3 J4 HR
  have KQ := hide (KRs.out _ _ J5.out.swap)
  go_upto_region 21 with (go_at_call 29; refine KQ.out.mono ?_; rintro e1 W6 ⟨⟨bS, mS, dS, bT, mT, dT, bD, mD, dD, bL, mL, dL⟩, R6, rfl, hr6, q⟩; (try dsimp only); have HRel6 := hide hr6; have J6 := hide q.rot3; clear q hr6; obtain ⟨f0, f1, f2, f3, f4, f5, ff⟩ := Its.cells6 J6.out)
  have J7 := hide (Its.rput (V := ⟨aS, nS, cS, aT, nT, cT, aD, nD, cD, aL, nL, cL⟩) J6.out ⟨bS, mS, dS, bT, mT, dT, bD, mD, dD, bL, mL, dL⟩)
  dsimp only at J7
  generalize (World.setCell (World.setCell (World.setCell (World.setCell (World.setCell (World.setCell W6 ⟨gr, 0, none⟩ (.slice a n c)) ⟨gr, 1, none⟩ (.slice (some ⟨be, oe, none⟩) m e)) ⟨gr, 2, none⟩ (.slice bS mS dS)) ⟨gr, 3, none⟩ (.slice bT mT dT)) ⟨gr, 4, none⟩ (.slice bD mD dD)) ⟨gr, 5, none⟩ (.slice bL mL dL)) = W7 at *
  clear f0 f1 f2 f3 f4 f5 ff J5 J6 KQ z1 z2 z3 c0 c1 c2 c3 c4 c5 cf KRs
  obtain ⟨z1, z2, z3⟩ := XT.out _ J7.out.p5
  obtain ⟨c0, c1, c2, c3, c4, c5, cf⟩ := Its.cells6 J7.out
  have KQ := hide (KRd.out _ ⟨bS, mS, dS, bT, mT, dT, bD, mD, dD, bL, mL, dL⟩ R6 _ J7.out.swap HRel6.out)
  dsimp only at KQ
  go_upto_region 22 with (go_at_call 30; refine KQ.out.mono ?_; rintro e1 W8 ⟨⟨eS, pS, fS, eT, pT, fT, eD, pD, fD, eL, pL, fL⟩, R8, rfl, hr8, q⟩; (try dsimp only); have HRel8 := hide hr8; have J8 := hide q.swap; clear q hr8; obtain ⟨f0, f1, f2, f3, f4, f5, ff⟩ := Its.cells6 J8.out)
  have J9 := hide (Its.rput (V := ⟨bS, mS, dS, bT, mT, dT, bD, mD, dD, bL, mL, dL⟩) J8.out ⟨eS, pS, fS, eT, pT, fT, eD, pD, fD, eL, pL, fL⟩)
  dsimp only at J9
  generalize (World.setCell (World.setCell (World.setCell (World.setCell (World.setCell (World.setCell W8 ⟨gr, 0, none⟩ (.slice a n c)) ⟨gr, 1, none⟩ (.slice (some ⟨be, oe, none⟩) m e)) ⟨gr, 2, none⟩ (.slice eS pS fS)) ⟨gr, 3, none⟩ (.slice eT pT fT)) ⟨gr, 4, none⟩ (.slice eD pD fD)) ⟨gr, 5, none⟩ (.slice eL pL fL)) = W9 at *
  clear f0 f1 f2 f3 f4 f5 ff J7 J8 KQ z1 z2 z3 c0 c1 c2 c3 c4 c5 cf KRd ce0 ce1
  have J10 := hide (J9.out.rot3'.swap.drew 1)
  obtain ⟨z1, z2, z3⟩ := XT.out _ J9.out.p5
  obtain ⟨c0, c1, c2, c3, c4, c5, cf⟩ := Its.cells6 J9.out
  have KQ := hide (fun W (h : Its w (.mir w.heap.size g H n m es S2 :: .dm w.heap.size ⟨eS, pS, fS, eT, pT, fT, eD, pD, fD, eL, pL, fL⟩ R8 (k + 1 + 1) :: .box gr #[.slice a n c, .slice (some ⟨be, oe, none⟩) m e, .slice eS pS fS, .slice eT pT fT, .slice eD pD fD, .slice eL pL fL] 38 :: .box w.heap.size #[.slice a n c, .slice (some ⟨be, oe, none⟩) m e] 25 :: [.box (w.heap.size + 1) #[.int .i64 kd, .int .i64 xa, .int .i64 xb, .int .i64 xc] 45]) W) => KT.out _ ⟨eS, pS, fS, eT, pT, fT, eD, pD, fD, eL, pL, fL⟩ R8 _ _ h HRel8.out)
  dsimp only at KQ
  clear KT HRel8 HRel6
  obtain ⟨S0, hS0⟩ : ∃ Sx : World → Prop, Sx = fun W => Its w (.mir w.heap.size g H n m es S2 :: .dm w.heap.size ⟨eS, pS, fS, eT, pT, fT, eD, pD, fD, eL, pL, fL⟩ R8 (k + 1 + 1) :: .box gr #[.slice a n c, .slice (some ⟨be, oe, none⟩) m e, .slice eS pS fS, .slice eT pT fT, .slice eD pD fD, .slice eL pL fL] 38 :: .box w.heap.size #[.slice a n c, .slice (some ⟨be, oe, none⟩) m e] 25 :: [.box (w.heap.size + 1) #[.int .i64 kd, .int .i64 xa, .int .i64 xb, .int .i64 xc] 45]) W := ⟨_, rfl⟩
  have SI : Hid (∀ W, Its w (.mir w.heap.size g H n m es S2 :: .dm w.heap.size ⟨eS, pS, fS, eT, pT, fT, eD, pD, fD, eL, pL, fL⟩ R8 (k + 1 + 1) :: .box gr #[.slice a n c, .slice (some ⟨be, oe, none⟩) m e, .slice eS pS fS, .slice eT pT fT, .slice eD pD fD, .slice eL pL fL] 38 :: .box w.heap.size #[.slice a n c, .slice (some ⟨be, oe, none⟩) m e] 25 :: [.box (w.heap.size + 1) #[.int .i64 kd, .int .i64 xa, .int .i64 xb, .int .i64 xc] 45]) W → S0 W) := hide (fun W h => by rw [hS0]; exact h)
  have SO : Hid (∀ W, S0 W → Its w (.mir w.heap.size g H n m es S2 :: .dm w.heap.size ⟨eS, pS, fS, eT, pT, fT, eD, pD, fD, eL, pL, fL⟩ R8 (k + 1 + 1) :: .box gr #[.slice a n c, .slice (some ⟨be, oe, none⟩) m e, .slice eS pS fS, .slice eT pT fT, .slice eD pD fD, .slice eL pL fL] 38 :: .box w.heap.size #[.slice a n c, .slice (some ⟨be, oe, none⟩) m e] 25 :: [.box (w.heap.size + 1) #[.int .i64 kd, .int .i64 xa, .int .i64 xb, .int .i64 xc] 45]) W) := hide (fun W h => by rw [hS0] at h; exact h)
  have SC : Hid (∀ W, S0 W → W.cell? ⟨gr, 0, none⟩ = some (.slice a n c) ∧ W.cell? ⟨gr, 1, none⟩ = some (.slice (some ⟨be, oe, none⟩) m e) ∧ W.cell? ⟨gr, 2, none⟩ = some (.slice eS pS fS) ∧ W.cell? ⟨gr, 3, none⟩ = some (.slice eT pT fT) ∧ W.cell? ⟨gr, 4, none⟩ = some (.slice eD pD fD) ∧ W.cell? ⟨gr, 5, none⟩ = some (.slice eL pL fL) ∧ W.cell? ⟨w.heap.size + 1, 1, none⟩ = some (.int .i64 xa) ∧ W.cell? ⟨w.heap.size + 1, 2, none⟩ = some (.int .i64 xb) ∧ W.cell? ⟨w.heap.size, 1, none⟩ = some (.slice (some ⟨be, oe, none⟩) m e) ∧ W.cell? ⟨be, oe + k0 * 2, none⟩ = some (.int .i64 fr)) := hide (fun W h => by
    have q0 := SO.out W h
    have q := Its.cells6 q0.tail.tail
    have t := XT.out _ q0.p5
    exact ⟨q.1, q.2.1, q.2.2.1, q.2.2.2.1, q.2.2.2.2.1, q.2.2.2.2.2.1, t.1, t.2.1, q0.tail.tail.lbox.2, (XF.out _ q0.bel).1⟩)
  have hSd := SI.out _ J10.out
  clear hS0 J9 J10 z1 z2 z3 c0 c1 c2 c3 c4 c5 cf
  refine wp_region_held_drew (S := S0) (by kernel_rfl) hSd (fun hS => ?_)
  refine wpAnyH_take (i := 0) (v := .pointer (some ⟨g, 0, none⟩)) rfl (by kernel_rfl) (by kernel_rfl) (by kernel_rfl) (fun _ _ _ h => h) (Or.inl ⟨by kernel_rfl, fun W' hW => by go_simp⟩) hS ?_
  refine wpAnyH_take (i := 1) (v := .agg #[.slice a n c, .slice (some ⟨be, oe, none⟩) m e, .slice eS pS fS, .slice eT pT fT, .slice eD pD fD, .slice eL pL fL]) rfl (by kernel_rfl) (by kernel_rfl) (by kernel_rfl) (fun _ _ _ h => h) (Or.inl ⟨by kernel_rfl, fun W' hW => by have ⟨c0, c1, c2, c3, c4, c5, z1, z2, l1, ce0⟩ := SC.out W' hW; go_simp⟩) hS ?_
  refine wpAnyH_ready (rs := [2]) (by kernel_rfl) (by simp) ?_
  refine AllReadyH.cons rfl (fun K hK => ?_) AllReadyH.nil
  go_simp
  go_at_call 17
  refine (KQ.out _ (SO.out _ hS)).mono ?_; rintro e1 W11 ⟨rfl, q⟩; have s11 := SI.out _ q; clear q
  go_simp
  refine hK.out _ _ s11 (fun _ => ?_)
  clear hK K
  refine wpAnyH_take (i := 3) (v := .bool true) rfl (by kernel_rfl) (by kernel_rfl) (by kernel_rfl) (fun _ _ _ h => h) (Or.inl ⟨by kernel_rfl, fun W' hW => by go_simp⟩) s11 ?_
  refine wpAnyH_take (i := 4) (v := .pointer (some ⟨g, 0, none⟩)) rfl (by kernel_rfl) (by kernel_rfl) (by kernel_rfl) (fun _ _ _ h => h) (Or.inl ⟨by kernel_rfl, fun W' hW => by go_simp⟩) s11 ?_
  refine wpAnyH_take (i := 5) (v := .pointer (some ⟨w.heap.size + 1, 2, none⟩)) rfl (by kernel_rfl) (by kernel_rfl) (by kernel_rfl) (fun _ _ _ h => h) (Or.inl ⟨by kernel_rfl, fun W' hW => by go_simp⟩) s11 ?_
  refine wpAnyH_take (i := 6) (v := .int .i64 xb) rfl (by kernel_rfl) (by kernel_rfl) (by kernel_rfl) (fun _ _ _ h => h) (Or.inl ⟨by kernel_rfl, fun W' hW => by have ⟨c0, c1, c2, c3, c4, c5, z1, z2, l1, ce0⟩ := SC.out W' hW; go_simp⟩) s11 ?_
  refine wpAnyH_take (i := 8) (v := .pointer (some ⟨w.heap.size, 1, none⟩)) rfl (by kernel_rfl) (by kernel_rfl) (by kernel_rfl) (fun _ _ _ h => h) (Or.inl ⟨by kernel_rfl, fun W' hW => by go_simp⟩) s11 ?_
  refine wpAnyH_take (i := 9) (v := .slice (some ⟨be, oe, none⟩) m e) rfl (by kernel_rfl) (by kernel_rfl) (by kernel_rfl) (fun _ _ _ h => h) (Or.inl ⟨by kernel_rfl, fun W' hW => by have ⟨c0, c1, c2, c3, c4, c5, z1, z2, l1, ce0⟩ := SC.out W' hW; go_simp⟩) s11 ?_
  refine wpAnyH_take (i := 10) (v := .pointer (some ⟨w.heap.size + 1, 1, none⟩)) rfl (by kernel_rfl) (by kernel_rfl) (by kernel_rfl) (fun _ _ _ h => h) (Or.inl ⟨by kernel_rfl, fun W' hW => by go_simp⟩) s11 ?_
  refine wpAnyH_take (i := 11) (v := .int .i64 xa) rfl (by kernel_rfl) (by kernel_rfl) (by kernel_rfl) (fun _ _ _ h => h) (Or.inl ⟨by kernel_rfl, fun W' hW => by have ⟨c0, c1, c2, c3, c4, c5, z1, z2, l1, ce0⟩ := SC.out W' hW; go_simp⟩) s11 ?_
  refine wpAnyH_take (i := 12) (v := .int .i64 (k0 : Int)) rfl (by kernel_rfl) (by kernel_rfl) (by kernel_rfl) (fun _ _ _ h => h) (Or.inl ⟨by kernel_rfl, fun W' hW => by go_simp⟩) s11 ?_
  refine wpAnyH_take (i := 13) (v := .pointer (some ⟨be, oe + k0 * 2, none⟩)) rfl (by kernel_rfl) (by kernel_rfl) (by kernel_rfl) (fun _ _ _ h => h) (Or.inl ⟨by kernel_rfl, fun W' hW => by go_simp⟩) s11 ?_
  refine wpAnyH_take (i := 14) (v := .pointer (some ⟨be, oe + k0 * 2, none⟩)) rfl (by kernel_rfl) (by kernel_rfl) (by kernel_rfl) (fun _ _ _ h => h) (Or.inl ⟨by kernel_rfl, fun W' hW => by go_simp⟩) s11 ?_
  refine wpAnyH_take (i := 15) (v := .int .i64 fr) rfl (by kernel_rfl) (by kernel_rfl) (by kernel_rfl) (fun _ _ _ h => h) (Or.inl ⟨by kernel_rfl, fun W' hW => by have ⟨c0, c1, c2, c3, c4, c5, z1, z2, l1, ce0⟩ := SC.out W' hW; go_simp⟩) s11 ?_
  refine wpAnyH_ready (rs := [7]) (by kernel_rfl) (by simp) ?_
  refine AllReadyH.cons rfl (fun K hK => ?_) AllReadyH.nil
  go_simp
  go_at_call 19
  refine (KW.out _ _ (SO.out _ s11)).mono ?_; rintro e1 W12 ⟨rfl, rfl⟩; have s12 := s11
  go_simp
  refine hK.out _ _ s12 (fun _ => ?_)
  clear hK K
  refine wpAnyH_take (i := 16) (v := .bool true) rfl (by kernel_rfl) (by kernel_rfl) (by kernel_rfl) (fun _ _ _ h => h) (Or.inl ⟨by kernel_rfl, fun W' hW => by go_simp⟩) s12 ?_
  refine wpAnyH_take (i := 17) (v := .bool true) rfl (by kernel_rfl) (by kernel_rfl) (by kernel_rfl) (fun _ _ _ h => h) (Or.inl ⟨by kernel_rfl, fun W' hW => by go_simp⟩) s12 ?_
  refine wpAnyH_ready (rs := [18]) (by kernel_rfl) (by simp) ?_
  refine AllReadyH.cons rfl (fun K hK => ?_) AllReadyH.nil
  go_simp
  refine hK.out _ _ s12 (fun _ => ?_)
  clear hK K
  refine wpAnyH_done (by kernel_rfl) ?_ _
  go_wp2_with fail
  go_ret
  exact ⟨by first | rfl | simp, (SO.out _ s12).bel⟩
end Go.Proofs.Ytlnnpdghcilioaa

