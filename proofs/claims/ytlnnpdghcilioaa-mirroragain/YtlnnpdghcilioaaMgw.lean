/- The walk of MirrorAgain. -/
import Derived.Test.YtlnnpdghcilioaaMcm
import Derived.Test.YtlnnpdghcilioaaMgm
import Derived.Test.YtlnnpdghcilioaaRtl
import Derived.Test.YtlnnpdghcilioaaMaw
import Derived.Deep.CutBlock
namespace Go.Proofs.Ytlnnpdghcilioaa
open Go.RowKit
set_option linter.unusedVariables false
set_option maxRecDepth 100000 in
set_option maxHeartbeats 8000000 in
theorem again_any (a b : Option Addr) (c e n m : Nat) (ns : List Nd) (es : List Ed) (an : Option Addr) (ln cn : Nat) (zn : List Nt) (w : World) (L : Lyt w a b c e n m ns es) (hln : zn.length = ln) (hn : ntE.Rd w (.slice an ln cn) zn) :
    Calls Try.prog 5 #[.agg #[.slice a n c, .slice b m e], .slice an ln cn] w fun e w' => e = .returned (.bool true) ∧ Below w.heap.size w w' := by
  have I1 : Hid (Its w [.box w.heap.size #[.slice a n c, .slice b m e] 25] (w.alloc (.cells #[.slice a n c, .slice b m e] 25))) := hide ((Its.nil w).box1 #[.slice a n c, .slice b m e] 25)
  have XL : Hid (∀ W, Its w [.box w.heap.size #[.slice a n c, .slice b m e] 25] W → W.cell? ⟨w.heap.size, 0, none⟩ = some (.slice a n c) ∧ W.cell? ⟨w.heap.size, 1, none⟩ = some (.slice b m e)) := hide (fun W h => h.lbox1)
  obtain ⟨u0, u1⟩ := XL.out _ I1.out
  have HL := hide L
  have Hln := hide hln
  have Hn := hide hn
  clear hln hn
  by_cases hfew : n ≤ 60 ∧ m ≤ 200
  case neg =>
    have hd : decide (n ≤ 60 ∧ m ≤ 200) = false := decide_eq_false hfew
    clear L hfew
    go_enter Try.func5, Try.ntmps5
    go_wp2_with (first
      | (go_at_call 9; refine (awake_any _).mono ?_; rintro e1 W4 ⟨rfl, q⟩; have I4 := hide (I3.out.keep q); clear q)
      | (go_at_call 10; refine few_any.mono ?_; rintro e1 W3 ⟨rfl, q⟩; have I3 := hide (I2.out.keep q); clear q; obtain ⟨y0, y1⟩ := XL.out _ I3.out)
      | (go_at_call 9; refine (awake_any _).mono ?_; rintro e1 W2 ⟨rfl, q⟩; have I2 := hide (I1.out.keep q); clear q; obtain ⟨u0, u1⟩ := XL.out _ I2.out))
    go_ret
    exact ⟨rfl, I4.out.bel⟩
  case pos =>
  have hd : decide (n ≤ 60 ∧ m ≤ 200) = true := decide_eq_true hfew
  clear hfew
  cases hg : good ns es with
  | false =>
    have KN : Hid (∀ W, Its w [.box w.heap.size #[.slice a n c, .slice b m e] 25] W → Calls Try.prog 12 #[.agg #[.slice a n c, .slice b m e]] W fun e w' => e = .returned (.tuple #[.pointer none, .int .i64 61]) ∧ Below W.heap.size W w') := hide (fun W h => new_no (h.keepL L) hg)
    have KR := hide (fun W (h : Its w [.box w.heap.size #[.slice a n c, .slice b m e] 25] W) => rnew9n h L hg)
    clear L hg
    go_enter Try.func5, Try.ntmps5
    go_wp2_with (first
      | (go_at_call 13; refine (KR.out _ I6.out).mono ?_; rintro e1 W7 ⟨rfl, q⟩; have I7 := hide q; clear q)
      | (go_at_call 12; refine (KN.out _ I5.out).mono ?_; rintro e1 W6 ⟨rfl, q⟩; have I6 := hide (I5.out.keep q); clear q; obtain ⟨t0, t1⟩ := XL.out _ I6.out)
      | (go_at_call 12; refine (KN.out _ I3.out).mono ?_; rintro e1 W5 ⟨rfl, q⟩; have I5 := hide (I3.out.keep q); clear q; obtain ⟨v0, v1⟩ := XL.out _ I5.out)
      | (go_at_call 10; refine few_any.mono ?_; rintro e1 W3 ⟨rfl, q⟩; have I3 := hide (I2.out.keep q); clear q; obtain ⟨y0, y1⟩ := XL.out _ I3.out)
      | (go_at_call 9; refine (awake_any _).mono ?_; rintro e1 W2 ⟨rfl, q⟩; have I2 := hide (I1.out.keep q); clear q; obtain ⟨u0, u1⟩ := XL.out _ I2.out))
    go_ret
    exact ⟨by first | rfl | simp, (I7.out.alloc _).bel⟩
  | true =>
  have KN : Hid (∀ W l, Its w l W → Calls Try.prog 12 #[.agg #[.slice a n c, .slice b m e]] W fun e w' => NewP W n m es e w') := hide (fun W l h => new_ok (h.keepL L) hg)
  have KR := hide (fun W l (h : Its w l W) => rnew9 h L hg)
  have HRel0 := hide (rel_new L hg)
  obtain ⟨S0, hS0⟩ : ∃ S0, Mr.nw n es = S0 := ⟨_, rfl⟩
  rw [hS0] at HRel0
  replace hS0 := hide hS0
  have i0 : m ≤ 120 := by obtain ⟨g1, g2, g3⟩ := good_he hg; rw [L.hm] at g2; exact g2
  clear L hg
  go_enter Try.func5, Try.ntmps5
  go_upto_region 8 with (first
    | (go_at_call 13; refine (KR.out _ _ I6.out).mono ?_; rintro e1 W7 ⟨rfl, q⟩; have I7 := hide q; clear q)
    | (go_at_call 12; refine (KN.out _ _ I5.out).mono ?_; rintro e1 W6 ⟨g2, H2, rfl, q⟩; have I6 := hide (I5.out.addm q); rw [hS0.out] at I6; clear q; obtain ⟨t0, t1⟩ := I6.out.tail.lbox)
    | (go_at_call 12; refine (KN.out _ _ I3.out).mono ?_; rintro e1 W5 ⟨g, H, rfl, q⟩; have I5 := hide (I3.out.addm q); rw [hS0.out] at I5; clear q; obtain ⟨v0, v1⟩ := I5.out.lbox)
    | (go_at_call 10; refine few_any.mono ?_; rintro e1 W3 ⟨rfl, q⟩; have I3 := hide (I2.out.keep q); clear q; obtain ⟨y0, y1⟩ := XL.out _ I3.out)
    | (go_at_call 9; refine (awake_any _).mono ?_; rintro e1 W2 ⟨rfl, q⟩; have I2 := hide (I1.out.keep q); clear q; obtain ⟨u0, u1⟩ := XL.out _ I2.out))
  have I8 : Hid (Its w (.mir w.heap.size g H n m es S0 :: .row ntE w.heap.size (.slice none 0 0) [] :: .mir w.heap.size g2 H2 n m es S0 :: .dm w.heap.size V0 R0 0 :: .box W7.heap.size #[.slice a n c, .slice b m e, .slice none 0 0, .slice none 0 0, .slice none 0 0, .slice none 0 0] 38 :: [.box w.heap.size #[.slice a n c, .slice b m e] 25]) (W7.alloc (.cells #[.slice a n c, .slice b m e, .slice none 0 0, .slice none 0 0, .slice none 0 0, .slice none 0 0] 38))) := hide ((I7.out.box1 #[.slice a n c, .slice b m e, .slice none 0 0, .slice none 0 0, .slice none 0 0, .slice none 0 0] 38).rot3'.swap.rot4.empty ntE).swap
  obtain ⟨gr, hgr⟩ : ∃ gr, W7.heap.size = gr := ⟨_, rfl⟩
  rw [hgr] at I8
  generalize W7.alloc (.cells #[.slice a n c, .slice b m e, .slice none 0 0, .slice none 0 0, .slice none 0 0, .slice none 0 0] 38) = W8 at *
  try rw [hgr]
  obtain ⟨LT, hLT⟩ : ∃ LT : List It, .mir w.heap.size g2 H2 n m es S0 :: .dm w.heap.size V0 R0 0 :: .box gr #[.slice a n c, .slice b m e, .slice none 0 0, .slice none 0 0, .slice none 0 0, .slice none 0 0] 38 :: [.box w.heap.size #[.slice a n c, .slice b m e] 25] = LT := ⟨_, rfl⟩
  rw [hLT] at I8
  have HLT := hide hLT
  clear y0 y1 u0 u1 v0 v1 t0 t1 KN KR I5 I6 I7 hgr I1 I2 I3 XL hLT
  go_upto_block 0 with fail
  go_cut [11, 12] (fun v11 v12 wx => ∃ (S : Mr) (ts : List Nt) (at0 : Option Addr) (nt ct : Nat), v11 = .slice at0 nt ct ∧ nt ≤ 120 ∧ Hid (ts.length = nt) ∧ Hid (Rep ts S0 S) ∧ Hid (Its w (.mir w.heap.size g H n m es S :: .row ntE w.heap.size (.slice at0 nt ct) ts :: LT) wx))
  case first =>
    go_wp2_with fail
    go_loopw [11, 12] (fun v11 v12 wr => ∃ (i : Nat) (S : Mr) (ts : List Nt) (at0 : Option Addr) (nt ct : Nat), v12 = .int .i64 i ∧ v11 = .slice at0 nt ct ∧ i ≤ 120 ∧ nt ≤ i ∧ Hid (ts.length = nt) ∧ Hid (Rep ts S0 S) ∧ Hid (Its w (.mir w.heap.size g H n m es S :: .row ntE w.heap.size (.slice at0 nt ct) ts :: LT) wr)) (fun v11 v12 _ => 120 - (intOf v12).toNat)
    case atStart => exact ⟨0, S0, [], none, 0, 0, rfl, rfl, by omega, by omega, hide rfl, hide rfl, I8⟩
    case round =>
      clear I8
      obtain ⟨i, S, ts, at0, nt, ct, rfl, rfl, hi, hni, Hnt, HRp, HR⟩ := hrel
      by_cases hil : i < ln
      case neg =>
        have q1 : ¬ (i : Int) < (ln : Int) := by omega
        go_wp2_with fail
        go_meet
        exact ⟨S, ts, at0, nt, ct, rfl, by omega, Hnt, HRp, HR⟩
      case pos =>
      have q1 : (i : Int) < (ln : Int) := by omega
      by_cases hi5 : i < 120
      case neg =>
        have q2 : ¬ (i : Int) < 120 := by omega
        go_wp2_with fail
        go_meet
        exact ⟨S, ts, at0, nt, ct, rfl, by omega, Hnt, HRp, HR⟩
      case pos =>
      have q2 : (i : Int) < 120 := by omega
      have q0 : (0 : Int) ≤ (i : Int) := by omega
      obtain ⟨p, hp⟩ : ∃ p, zn[i]? = some p := ⟨_, List.getElem?_eq_getElem (by rw [Hln.out]; exact hil)⟩
      have XN : Hid (∀ W, Below w.heap.size w W → ∃ b0 o0, an = some ⟨b0, o0, none⟩ ∧ W.cell? ⟨b0, o0 + i * 4, none⟩ = some (.int .i64 p.kind) ∧ W.cell? ⟨b0, o0 + i * 4 + 1, none⟩ = some (.int .i64 p.a) ∧ W.cell? ⟨b0, o0 + i * 4 + 2, none⟩ = some (.int .i64 p.b) ∧ W.cell? ⟨b0, o0 + i * 4 + 3, none⟩ = some (.int .i64 p.c)) := hide (fun W h => nt_at (Hn.out.keep h) i p hp)
      obtain ⟨b0, o0, rfl, n0, n1, n2, n3⟩ := XN.out _ HR.out.bel
      have XM : Hid (∀ W, Below w.heap.size w W → W.cell? ⟨b0, o0 + i * 4, none⟩ = some (.int .i64 p.kind) ∧ W.cell? ⟨b0, o0 + i * 4 + 1, none⟩ = some (.int .i64 p.a) ∧ W.cell? ⟨b0, o0 + i * 4 + 2, none⟩ = some (.int .i64 p.b) ∧ W.cell? ⟨b0, o0 + i * 4 + 3, none⟩ = some (.int .i64 p.c)) := hide (fun W h => by
        obtain ⟨b1, o1, q1, q2⟩ := XN.out W h
        simp only [Option.some.injEq, Addr.mk.injEq] at q1
        obtain ⟨rfl, rfl, _⟩ := q1
        exact q2)
      clear XN hp
      obtain ⟨P, hP⟩ : ∃ P, S.app p = P := ⟨_, rfl⟩
      have KA := hide (app9 HR.out p hP)
      have Hno : Hid (P.1 ≠ 0 → P.2 = S) := hide (fun h => by subst hP; exact app_no h)
      have Hye : Hid (P.1 = 0 → Rep (ts ++ [p]) S0 P.2) := hide (fun h => by subst hP; exact HRp.out.snoc h)
      have HnP : Hid (ts.length + [p].length ≤ 1000000) := hide (by have := Hnt.out; simp only [List.length_cons, List.length_nil]; omega)
      have HnQ : Hid ((ts ++ [p]).length = nt + 1) := hide (by rw [List.length_append, Hnt.out]; rfl)
      have HSn := hide (fun W => nt_new W p W.heap.size rfl)
      obtain ⟨pp, hpp⟩ : ∃ pp, p = pp := ⟨_, rfl⟩
      rw [hpp] at Hye HnP HnQ HSn
      replace hpp := hide hpp
      have e1 : pp.kind = p.kind := by rw [hpp.out]
      have e2 : pp.a = p.a := by rw [hpp.out]
      have e3 : pp.b = p.b := by rw [hpp.out]
      have e4 : pp.c = p.c := by rw [hpp.out]
      rw [e1, e2, e3, e4] at HSn
      clear hP hpp e1 e2 e3 e4
      obtain ⟨yd, ya, yb, yc⟩ := p
      obtain ⟨code, S1⟩ := P
      dsimp only at *
      by_cases hcode : code = 0
      · subst hcode
        have HY := hide (Hye.out rfl)
        clear Hno Hye
        go_upto_region 13 with (go_at_call 15; refine KA.out.mono ?_; rintro e1 W7 ⟨rfl, q⟩; have I7 := hide q; clear q)
        clear n0 n1 n2 n3 KA
        obtain ⟨n0, n1, n2, n3⟩ := XM.out _ I7.out.bel
        have HX := hide (I7.out.alloc (.cells #[.int .i64 yd, .int .i64 ya, .int .i64 yb, .int .i64 yc] 45)).swap
        have HS2 := hide (HSn.out W7)
        go_wp2_with (at_builtin; refine ntE.wpB (B := w.heap.size) HX.out.size (by rfl) _ _ rfl _ _ rfl rfl ts [pp] HX.out.one HS2.out HnP.out ?_; intro v4 W4 ho hg hs; obtain ⟨a4, p4, hf4⟩ := ho.rd.form; rw [HnQ.out] at hf4; subst hf4; have HI4 := hide (HX.out.grow ho hg hs).swap; clear ho hg hs)
        go_roundw
        case rel => exact ⟨i + 1, S1, ts ++ [pp], a4, nt + 1, p4, by go_num, rfl, by omega, by omega, HnQ, HY, HI4⟩
        case measure => simp [intOf]; omega
      · have hc' : (code == 0) = false := beq_eq_false_iff_ne.2 hcode
        have hs1 := Hno.out hcode
        subst hs1
        clear Hno Hye
        go_wp2_with (go_at_call 15; refine KA.out.mono ?_; rintro e1 W7 ⟨rfl, q⟩; have I7 := hide q; clear q)
        go_roundw
        case rel => exact ⟨i + 1, S1, ts, at0, nt, ct, by go_num, rfl, by omega, by omega, Hnt, HRp, I7⟩
        case measure => simp [intOf]; omega
  case rest =>
  clear I8 Hln Hn
  obtain ⟨S, ts, at0, nt, ct, rfl, hnt, Hnt, HRp, HR0⟩ := hcut
  have HR1 : Hid (Its w (.mir w.heap.size g2 H2 n m es S0 :: .dm w.heap.size V0 R0 0 :: .box gr #[.slice a n c, .slice b m e, .slice none 0 0, .slice none 0 0, .slice none 0 0, .slice none 0 0] 38 :: .mir w.heap.size g H n m es S :: .row ntE w.heap.size (.slice at0 nt ct) ts :: [.box w.heap.size #[.slice a n c, .slice b m e] 25]) wc) := hide (by have := HR0.out; rw [← HLT.out] at this; exact this.fifth'.fifth')
  clear HR0 HLT
  obtain ⟨wA, rfl⟩ : ∃ W, W = wc := ⟨_, rfl⟩
  go_wp2_with fail
  go_loopw [74] (fun v74 wr => ∃ (j : Nat) (T : Mr) (V : Vm) (R : Rm), v74 = .int .i64 j ∧ j ≤ nt ∧ Hid (Rep (ts.drop j) T S) ∧ Hid (Rel T R n es) ∧ Hid (Its w (.mir w.heap.size g2 H2 n m es T :: .dm w.heap.size V R j :: .box gr #[.slice a n c, .slice b m e, .slice V.aS V.nS V.cS, .slice V.aT V.nT V.cT, .slice V.aD V.nD V.cD, .slice V.aL V.nL V.cL] 38 :: .mir w.heap.size g H n m es S :: .row ntE w.heap.size (.slice at0 nt ct) ts :: [.box w.heap.size #[.slice a n c, .slice b m e] 25]) wr)) (fun v74 _ => nt - (intOf v74).toNat)
  case atStart => exact ⟨0, S0, V0, R0, rfl, by omega, hide HRp.out, HRel0, HR1⟩
  case round =>
    clear HRel0 HR1 HRp
    obtain ⟨j, T, ⟨aS, nS, cS, aT, nT, cT, aD, nD, cD, aL, nL, cL⟩, R, rfl, hj, HRp, HRel, HR⟩ := hrel
    dsimp only at *
    by_cases hjn : j < nt
    case pos =>
      have q1 : (j : Int) < (nt : Int) := by omega
      have q0 : (0 : Int) ≤ (j : Int) := by omega
      obtain ⟨p, hp⟩ : ∃ p, ts[j]? = some p := ⟨_, List.getElem?_eq_getElem (by rw [Hnt.out]; exact hjn)⟩
      obtain ⟨hp1, hp2⟩ := HRp.out.at hp
      obtain ⟨P, hP⟩ : ∃ P, T.app p = P := ⟨_, rfl⟩
      obtain ⟨b0, o0, rfl, n0, n1, n2, n3⟩ := nt_at (El.Own.rd HR.out.p5) j p hp
      have HI1 : Hid (Its w (.mir w.heap.size g2 H2 n m es T :: .dm w.heap.size ⟨aS, nS, cS, aT, nT, cT, aD, nD, cD, aL, nL, cL⟩ R j :: .box gr #[.slice a n c, .slice b m e, .slice aS nS cS, .slice aT nT cT, .slice aD nD cD, .slice aL nL cL] 38 :: .box wr.heap.size #[.int .i64 p.kind, .int .i64 p.a, .int .i64 p.b, .int .i64 p.c] 45 :: .mir w.heap.size g H n m es S :: .row ntE w.heap.size (.slice (some ⟨b0, o0, none⟩) nt ct) ts :: [.box w.heap.size #[.slice a n c, .slice b m e] 25]) (wr.alloc (.cells #[.int .i64 p.kind, .int .i64 p.a, .int .i64 p.b, .int .i64 p.c] 45))) := hide (HR.out.box1 #[.int .i64 p.kind, .int .i64 p.a, .int .i64 p.b, .int .i64 p.c] 45).rot4'
      have KA := hide (fun W l (hW : Its w (.mir w.heap.size g2 H2 n m es T :: l) W) => app9 hW p hP)
      have KR := hide (fun W l (hW : Its w (.dm w.heap.size ⟨aS, nS, cS, aT, nT, cT, aD, nD, cD, aL, nL, cL⟩ R j :: l) W) => rapp9 (V := ⟨aS, nS, cS, aT, nT, cT, aD, nD, cD, aL, nL, cL⟩) hW HL.out i0 HRel.out (show j + 1 ≤ 1000 by omega) p hP)
      rw [hP] at hp1 hp2
      have HRp2 := hide hp2
      clear hP HRel hp hp2 HRp
      obtain ⟨code, T1⟩ := P
      obtain ⟨yd, ya, yb, yc⟩ := p
      dsimp only at *
      subst hp1
      go_upto_region 17 with fail
      generalize wr.alloc (.cells #[.int .i64 yd, .int .i64 ya, .int .i64 yb, .int .i64 yc] 45) = W1 at *
      generalize wr.heap.size = gn at *
      clear n0 n1 n2 n3 HR
      obtain ⟨m0, m1, m2, m3⟩ := nt_box HI1.out.four
      go_wp2_with (first
        | (go_at_call 16; refine (KR.out _ _ I2.out.swap).mono ?_; rintro e1 W3 ⟨⟨bS, mS, dS, bT, mT, dT, bD, mD, dD, bL, mL, dL⟩, R3, rfl, hr3, q⟩; (try dsimp only); have HRel := hide hr3; have I3 := hide q.rot3; clear q hr3; obtain ⟨f0, f1, f2, f3, f4, f5, ff⟩ := Its.cells6 I3.out)
        | (go_at_call 15; refine (KA.out _ _ HI1.out).mono ?_; rintro e1 W2 ⟨rfl, q⟩; have I2 := hide q; clear q; obtain ⟨m0, m1, m2, m3⟩ := nt_box I2.out.four; obtain ⟨c0, c1, c2, c3, c4, c5, cf⟩ := Its.cells6 I2.out.tail.tail))
      have I4 := hide (Its.rput (V := ⟨aS, nS, cS, aT, nT, cT, aD, nD, cD, aL, nL, cL⟩) I3.out ⟨bS, mS, dS, bT, mT, dT, bD, mD, dD, bL, mL, dL⟩)
      dsimp only at I4
      go_roundw
      case rel => exact ⟨j + 1, T1, ⟨bS, mS, dS, bT, mT, dT, bD, mD, dD, bL, mL, dL⟩, R3, by go_num, by omega, HRp2, HRel, hide I4.out.rot3'.swap.rot4.tail⟩
      case measure => simp [intOf]; omega
    case neg =>
      have q1 : ¬ (j : Int) < (nt : Int) := by omega
      have e0 := HRp.out.end (by have := Hnt.out; omega)
      subst e0
      have J1 := hide HR.out.rot4.rot3.swap
      have KT1 := hide (tellsS J1.out HL.out HRel.out)
      have KT2 := hide (fun W l (hW : Its w (.mir w.heap.size g2 H2 n m es T :: .dm w.heap.size ⟨aS, nS, cS, aT, nT, cT, aD, nD, cD, aL, nL, cL⟩ R j :: l) W) => tellsS hW HL.out HRel.out)
      obtain ⟨c0, c1, c2, c3, c4, c5, cf⟩ := Its.cells6 HR.out.tail.tail
      clear HRp HRel
      go_wp2_with (first
        | (go_at_call 17; refine (KT2.out _ _ J2.out).mono ?_; rintro e1 W9 ⟨rfl, q⟩; have I9 := hide q.bel; clear q)
        | (go_at_call 17; refine KT1.out.mono ?_; rintro e1 W8 ⟨rfl, q⟩; have J2 := hide q.rot3'.swap; clear q; obtain ⟨k0, k1, k2, k3, k4, k5, kf⟩ := Its.cells6 J2.out.tail.tail.tail))
      go_ret
      exact ⟨rfl, I9.out⟩
end Go.Proofs.Ytlnnpdghcilioaa

