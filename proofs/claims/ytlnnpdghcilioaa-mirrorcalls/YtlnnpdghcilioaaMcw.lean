/- The walk of MirrorCalls. -/
import Derived.Test.YtlnnpdghcilioaaMcm
import Derived.Test.YtlnnpdghcilioaaRtl
import Derived.Test.YtlnnpdghcilioaaMaw
import Derived.Deep.CutBlock
namespace Go.Proofs.Ytlnnpdghcilioaa
open Go.RowKit
set_option linter.unusedVariables false
set_option maxRecDepth 100000 in
set_option maxHeartbeats 8000000 in
theorem calls_any (a b : Option Addr) (c e n m : Nat) (ns : List Nd) (es : List Ed) (an : Option Addr) (ln cn : Nat) (zn : List Nt) (w : World) (L : Lyt w a b c e n m ns es) (hln : zn.length = ln) (hn : ntE.Rd w (.slice an ln cn) zn) :
    Calls Try.prog 6 #[.agg #[.slice a n c, .slice b m e], .slice an ln cn] w fun e w' => e = .returned (.bool true) ∧ Below w.heap.size w w' := by
  have I1 : Hid (Its w [.box w.heap.size #[.slice a n c, .slice b m e] 25] (w.alloc (.cells #[.slice a n c, .slice b m e] 25))) := hide ((Its.nil w).box1 #[.slice a n c, .slice b m e] 25)
  have XL : Hid (∀ W, Its w [.box w.heap.size #[.slice a n c, .slice b m e] 25] W → W.cell? ⟨w.heap.size, 0, none⟩ = some (.slice a n c) ∧ W.cell? ⟨w.heap.size, 1, none⟩ = some (.slice b m e)) := hide (fun W h => h.lbox1)
  obtain ⟨u0, u1⟩ := XL.out _ I1.out
  have HL := hide L
  have Hln := hide hln
  have Hn := hide hn
  clear hln hn
  by_cases hfew : n ≤ 60 ∧ m ≤ 200
  case neg =>
    have hd : decide (n ≤ 60 ∧ m ≤ 200) = false := decide_eq_false hfew
    clear L hfew
    go_enter Try.func6, Try.ntmps6
    go_wp2_with (first
      | (go_at_call 9; refine (awake_any _).mono ?_; rintro e1 W4 ⟨rfl, q⟩; have I4 := hide (I3.out.keep q); clear q)
      | (go_at_call 10; refine few_any.mono ?_; rintro e1 W3 ⟨rfl, q⟩; have I3 := hide (I2.out.keep q); clear q; obtain ⟨y0, y1⟩ := XL.out _ I3.out)
      | (go_at_call 9; refine (awake_any _).mono ?_; rintro e1 W2 ⟨rfl, q⟩; have I2 := hide (I1.out.keep q); clear q; obtain ⟨u0, u1⟩ := XL.out _ I2.out))
    go_ret
    exact ⟨rfl, I4.out.bel⟩
  case pos =>
  have hd : decide (n ≤ 60 ∧ m ≤ 200) = true := decide_eq_true hfew
  clear hfew
  cases hg : good ns es with
  | false =>
    have KN : Hid (∀ W, Its w [.box w.heap.size #[.slice a n c, .slice b m e] 25] W → Calls Try.prog 12 #[.agg #[.slice a n c, .slice b m e]] W fun e w' => e = .returned (.tuple #[.pointer none, .int .i64 61]) ∧ Below W.heap.size W w') := hide (fun W h => new_no (h.keepL L) hg)
    have KR := hide (fun W (h : Its w [.box w.heap.size #[.slice a n c, .slice b m e] 25] W) => rnew9n h L hg)
    clear L hg
    go_enter Try.func6, Try.ntmps6
    go_wp2_with (first
      | (go_at_call 13; refine (KR.out _ I5.out).mono ?_; rintro e1 W6 ⟨rfl, q⟩; have I6 := hide q; clear q)
      | (go_at_call 12; refine (KN.out _ I3.out).mono ?_; rintro e1 W5 ⟨rfl, q⟩; have I5 := hide (I3.out.keep q); clear q; obtain ⟨v0, v1⟩ := XL.out _ I5.out)
      | (go_at_call 10; refine few_any.mono ?_; rintro e1 W3 ⟨rfl, q⟩; have I3 := hide (I2.out.keep q); clear q; obtain ⟨y0, y1⟩ := XL.out _ I3.out)
      | (go_at_call 9; refine (awake_any _).mono ?_; rintro e1 W2 ⟨rfl, q⟩; have I2 := hide (I1.out.keep q); clear q; obtain ⟨u0, u1⟩ := XL.out _ I2.out))
    go_ret
    exact ⟨by first | rfl | simp, (I6.out.alloc _).bel⟩
  | true =>
  have KN : Hid (∀ W, Its w [.box w.heap.size #[.slice a n c, .slice b m e] 25] W → Calls Try.prog 12 #[.agg #[.slice a n c, .slice b m e]] W fun e w' => NewP W n m es e w') := hide (fun W h => new_ok (h.keepL L) hg)
  have KR := hide (fun W g H S (h : Its w (.mir w.heap.size g H n m es S :: [.box w.heap.size #[.slice a n c, .slice b m e] 25]) W) => rnew9 h L hg)
  have HRel0 := hide (rel_new L hg)
  obtain ⟨S0, hS0⟩ : ∃ S0, Mr.nw n es = S0 := ⟨_, rfl⟩
  rw [hS0] at HRel0
  replace hS0 := hide hS0
  have i0 : m ≤ 120 := by obtain ⟨g1, g2, g3⟩ := good_he hg; rw [L.hm] at g2; exact g2
  clear L hg
  go_enter Try.func6, Try.ntmps6
  go_upto_region 7 with (first
    | (go_at_call 13; refine (KR.out _ _ _ _ I5.out).mono ?_; rintro e1 W6 ⟨rfl, q⟩; have I6 := hide q; clear q)
    | (go_at_call 12; refine (KN.out _ I3.out).mono ?_; rintro e1 W5 ⟨g, H, rfl, q⟩; have I5 := hide (I3.out.addm q); rw [hS0.out] at I5; clear q; obtain ⟨v0, v1⟩ := I5.out.lbox)
    | (go_at_call 10; refine few_any.mono ?_; rintro e1 W3 ⟨rfl, q⟩; have I3 := hide (I2.out.keep q); clear q; obtain ⟨y0, y1⟩ := XL.out _ I3.out)
    | (go_at_call 9; refine (awake_any _).mono ?_; rintro e1 W2 ⟨rfl, q⟩; have I2 := hide (I1.out.keep q); clear q; obtain ⟨u0, u1⟩ := XL.out _ I2.out))
  have I7 : Hid (Its w (.mir w.heap.size g H n m es S0 :: .dm w.heap.size V0 R0 0 :: .box W6.heap.size #[.slice a n c, .slice b m e, .slice none 0 0, .slice none 0 0, .slice none 0 0, .slice none 0 0] 38 :: [.box w.heap.size #[.slice a n c, .slice b m e] 25]) (W6.alloc (.cells #[.slice a n c, .slice b m e, .slice none 0 0, .slice none 0 0, .slice none 0 0, .slice none 0 0] 38))) := hide (I6.out.box1 #[.slice a n c, .slice b m e, .slice none 0 0, .slice none 0 0, .slice none 0 0, .slice none 0 0] 38).rot3'.swap
  obtain ⟨gr, hgr⟩ : ∃ gr, W6.heap.size = gr := ⟨_, rfl⟩
  rw [hgr] at I7
  generalize W6.alloc (.cells #[.slice a n c, .slice b m e, .slice none 0 0, .slice none 0 0, .slice none 0 0, .slice none 0 0] 38) = W7 at *
  try rw [hgr]
  clear y0 y1 u0 u1 v0 v1 KN KR I5 I6 hgr I1 I2 I3 XL
  go_wp2_with fail
  go_loopw [9] (fun v9 wr => ∃ (i : Nat) (S : Mr) (V : Vm) (R : Rm), v9 = .int .i64 i ∧ i ≤ 120 ∧ Hid (Rel S R n es) ∧ Hid (Its w (.mir w.heap.size g H n m es S :: .dm w.heap.size V R i :: .box gr #[.slice a n c, .slice b m e, .slice V.aS V.nS V.cS, .slice V.aT V.nT V.cT, .slice V.aD V.nD V.cD, .slice V.aL V.nL V.cL] 38 :: [.box w.heap.size #[.slice a n c, .slice b m e] 25]) wr)) (fun v9 _ => 120 - (intOf v9).toNat)
  case atStart => exact ⟨0, S0, V0, R0, rfl, by omega, HRel0, I7⟩
  case round =>
    clear HRel0 I7
    obtain ⟨i, S, ⟨aS, nS, cS, aT, nT, cT, aD, nD, cD, aL, nL, cL⟩, R, rfl, hi, HRel, HR⟩ := hrel
    dsimp only at *
    by_cases hil : i < ln
    case neg =>
      have q1 : ¬ (i : Int) < (ln : Int) := by omega
      have KT := hide (tellsS HR.out HL.out HRel.out)
      obtain ⟨c0, c1, c2, c3, c4, c5, cf⟩ := Its.cells6 HR.out.tail.tail
      go_wp2_with (go_at_call 17; refine KT.out.mono ?_; rintro e1 W9 ⟨rfl, q⟩; have I9 := hide q.bel; clear q)
      go_ret
      exact ⟨rfl, I9.out⟩
    case pos =>
    have q1 : (i : Int) < (ln : Int) := by omega
    by_cases hi5 : i < 120
    case neg =>
      have q2 : ¬ (i : Int) < 120 := by omega
      have KT := hide (tellsS HR.out HL.out HRel.out)
      obtain ⟨c0, c1, c2, c3, c4, c5, cf⟩ := Its.cells6 HR.out.tail.tail
      go_wp2_with (go_at_call 17; refine KT.out.mono ?_; rintro e1 W9 ⟨rfl, q⟩; have I9 := hide q.bel; clear q)
      go_ret
      exact ⟨rfl, I9.out⟩
    case pos =>
    have q2 : (i : Int) < 120 := by omega
    have q0 : (0 : Int) ≤ (i : Int) := by omega
    obtain ⟨p, hp⟩ : ∃ p, zn[i]? = some p := ⟨_, List.getElem?_eq_getElem (by rw [Hln.out]; exact hil)⟩
    have XN : Hid (∀ W, Below w.heap.size w W → ∃ b0 o0, an = some ⟨b0, o0, none⟩ ∧ W.cell? ⟨b0, o0 + i * 4, none⟩ = some (.int .i64 p.kind) ∧ W.cell? ⟨b0, o0 + i * 4 + 1, none⟩ = some (.int .i64 p.a) ∧ W.cell? ⟨b0, o0 + i * 4 + 2, none⟩ = some (.int .i64 p.b) ∧ W.cell? ⟨b0, o0 + i * 4 + 3, none⟩ = some (.int .i64 p.c)) := hide (fun W h => nt_at (Hn.out.keep h) i p hp)
    obtain ⟨b0, o0, rfl, n0, n1, n2, n3⟩ := XN.out _ HR.out.bel
    have XM : Hid (∀ W, Below w.heap.size w W → W.cell? ⟨b0, o0 + i * 4, none⟩ = some (.int .i64 p.kind) ∧ W.cell? ⟨b0, o0 + i * 4 + 1, none⟩ = some (.int .i64 p.a) ∧ W.cell? ⟨b0, o0 + i * 4 + 2, none⟩ = some (.int .i64 p.b) ∧ W.cell? ⟨b0, o0 + i * 4 + 3, none⟩ = some (.int .i64 p.c)) := hide (fun W h => by
      obtain ⟨b1, o1, q1, q2⟩ := XN.out W h
      simp only [Option.some.injEq, Addr.mk.injEq] at q1
      obtain ⟨rfl, rfl, _⟩ := q1
      exact q2)
    clear XN hp
    clear XM
    go_upto_region 11 with fail
    have HI1 : Hid (Its w (.mir w.heap.size g H n m es S :: .dm w.heap.size ⟨aS, nS, cS, aT, nT, cT, aD, nD, cD, aL, nL, cL⟩ R i :: .box gr #[.slice a n c, .slice b m e, .slice aS nS cS, .slice aT nT cT, .slice aD nD cD, .slice aL nL cL] 38 :: .box wr.heap.size #[.int .i64 p.kind, .int .i64 p.a, .int .i64 p.b, .int .i64 p.c] 45 :: [.box w.heap.size #[.slice a n c, .slice b m e] 25]) (wr.alloc (.cells #[.int .i64 p.kind, .int .i64 p.a, .int .i64 p.b, .int .i64 p.c] 45))) := hide (HR.out.box1 #[.int .i64 p.kind, .int .i64 p.a, .int .i64 p.b, .int .i64 p.c] 45).rot4'
    generalize wr.alloc (.cells #[.int .i64 p.kind, .int .i64 p.a, .int .i64 p.b, .int .i64 p.c] 45) = W1 at *
    generalize wr.heap.size = gn at *
    clear n0 n1 n2 n3 HR
    obtain ⟨P, hP⟩ : ∃ P, S.app p = P := ⟨_, rfl⟩
    have K1 := hide (fun h => put9 HI1.out p hP h)
    have K4 := hide (fun h => snd9 HI1.out p hP h)
    have K5 := hide (fun h => mov9 HI1.out p hP h)
    have K7 := hide (fun h => drp9 HI1.out p hP h)
    have K8 := hide (fun h => msk9 HI1.out p hP h)
    have H0 : Hid (p.kind ≠ 1 → p.kind ≠ 4 → p.kind ≠ 5 → p.kind ≠ 7 → p.kind ≠ 8 → P = (23, S)) := hide (fun h1 h2 h3 h4 h5 => by rw [← hP]; exact app0 p h1 h2 h3 h4 h5)
    have KR := hide (fun W (hW : Its w (.mir w.heap.size g H n m es P.2 :: .dm w.heap.size ⟨aS, nS, cS, aT, nT, cT, aD, nD, cD, aL, nL, cL⟩ R i :: .box gr #[.slice a n c, .slice b m e, .slice aS nS cS, .slice aT nT cT, .slice aD nD cD, .slice aL nL cL] 38 :: .box gn #[.int .i64 p.kind, .int .i64 p.a, .int .i64 p.b, .int .i64 p.c] 45 :: [.box w.heap.size #[.slice a n c, .slice b m e] 25]) W) => rapp9 (V := ⟨aS, nS, cS, aT, nT, cT, aD, nD, cD, aL, nL, cL⟩) hW.swap HL.out i0 HRel.out (show i + 1 ≤ 1000 by omega) p hP)
    clear hP HRel
    obtain ⟨kd, xa, xb, xc⟩ := p
    obtain ⟨code, S1⟩ := P
    dsimp only at *
    obtain ⟨m0, m1, m2, m3⟩ := nt_box HI1.out.four
    go_upto_block 2 with fail
    go_cut [6] (fun v6 wx => v6 = .int .i64 code ∧ Hid (Its w (.mir w.heap.size g H n m es S1 :: .dm w.heap.size ⟨aS, nS, cS, aT, nT, cT, aD, nD, cD, aL, nL, cL⟩ R i :: .box gr #[.slice a n c, .slice b m e, .slice aS nS cS, .slice aT nT cT, .slice aD nD cD, .slice aL nL cL] 38 :: .box gn #[.int .i64 kd, .int .i64 xa, .int .i64 xb, .int .i64 xc] 45 :: [.box w.heap.size #[.slice a n c, .slice b m e] 25]) wx))
    case first =>
      by_cases k1 : kd = 1
      · subst k1
        have KC := hide (K1.out rfl)
        clear K1 K4 K5 K7 K8 H0 KR
        go_wp2_with (go_at_call 23; refine KC.out.mono ?_; rintro e1 W7 ⟨rfl, q⟩; have I7 := hide q; clear q)
        go_meet
        exact ⟨rfl, I7⟩
      have k1' : (kd == 1) = false := beq_eq_false_iff_ne.2 k1
      by_cases k4 : kd = 4
      · subst k4
        have KC := hide (K4.out rfl)
        clear K1 K4 K5 K7 K8 H0 KR k1
        go_wp2_with (go_at_call 24; refine KC.out.mono ?_; rintro e1 W7 ⟨rfl, q⟩; have I7 := hide q; clear q)
        go_meet
        exact ⟨rfl, I7⟩
      have k4' : (kd == 4) = false := beq_eq_false_iff_ne.2 k4
      by_cases k5 : kd = 5
      · subst k5
        have KC := hide (K5.out rfl)
        clear K1 K4 K5 K7 K8 H0 KR k1 k4
        go_wp2_with (go_at_call 25; refine KC.out.mono ?_; rintro e1 W7 ⟨rfl, q⟩; have I7 := hide q; clear q)
        go_meet
        exact ⟨rfl, I7⟩
      have k5' : (kd == 5) = false := beq_eq_false_iff_ne.2 k5
      by_cases k7 : kd = 7
      · subst k7
        have KC := hide (K7.out rfl)
        clear K1 K4 K5 K7 K8 H0 KR k1 k4 k5
        go_wp2_with (go_at_call 26; refine KC.out.mono ?_; rintro e1 W7 ⟨rfl, q⟩; have I7 := hide q; clear q)
        go_meet
        exact ⟨rfl, I7⟩
      have k7' : (kd == 7) = false := beq_eq_false_iff_ne.2 k7
      by_cases k8 : kd = 8
      · subst k8
        have KC := hide (K8.out rfl)
        clear K1 K4 K5 K7 K8 H0 KR k1 k4 k5 k7
        have eb : (xb == 1) = decide (xb = 1) := by by_cases z : xb = 1 <;> simp [z]
        generalize decide (xb = 1) = bb at *
        go_wp2_with (go_at_call 27; refine KC.out.mono ?_; rintro e1 W7 ⟨rfl, q⟩; have I7 := hide q; clear q)
        go_meet
        exact ⟨rfl, I7⟩
      have k8' : (kd == 8) = false := beq_eq_false_iff_ne.2 k8
      have h0 := H0.out k1 k4 k5 k7 k8
      clear K1 K4 K5 K7 K8 H0 KR k1 k4 k5 k7 k8
      simp only [Prod.mk.injEq] at h0
      obtain ⟨rfl, rfl⟩ := h0
      go_wp2_with fail
      go_meet
      exact ⟨rfl, HI1⟩
    case rest =>
    obtain ⟨rfl, HR2⟩ := hcut
    obtain ⟨wB, rfl⟩ : ∃ W, W = wc := ⟨_, rfl⟩
    clear K1 K4 K5 K7 K8 H0 m0 m1 m2 m3 HI1
    obtain ⟨m0, m1, m2, m3⟩ := nt_box HR2.out.four
    obtain ⟨c0, c1, c2, c3, c4, c5, cf⟩ := Its.cells6 HR2.out.tail.tail
    have KQ := hide (KR.out _ HR2.out)
    go_wp2_with (go_at_call 16; refine KQ.out.mono ?_; rintro e1 W3 ⟨⟨bS, mS, dS, bT, mT, dT, bD, mD, dD, bL, mL, dL⟩, R3, rfl, hr3, q⟩; (try dsimp only); have HRel := hide hr3; have I3 := hide q.rot3; clear q hr3; obtain ⟨f0, f1, f2, f3, f4, f5, ff⟩ := Its.cells6 I3.out)
    have I4 := hide (Its.rput (V := ⟨aS, nS, cS, aT, nT, cT, aD, nD, cD, aL, nL, cL⟩) I3.out ⟨bS, mS, dS, bT, mT, dT, bD, mD, dD, bL, mL, dL⟩)
    dsimp only at I4
    go_roundw
    case rel => exact ⟨i + 1, S1, ⟨bS, mS, dS, bT, mT, dT, bD, mD, dD, bL, mL, dL⟩, R3, by go_num, by omega, HRel, hide I4.out.rot3'.swap.rot4.tail⟩
    case measure => simp [intOf]; omega
end Go.Proofs.Ytlnnpdghcilioaa

