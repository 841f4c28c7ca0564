/- The walk of PlantTwice. -/
import Derived.Test.YthcdfclhenmleaaPag
import Derived.Test.YthcdfclhenmleaaPmu
import Derived.Deep.CutBlock
namespace Go.Proofs.Ythcdfclhenmleaa
open Go.RowKit
set_option linter.unusedVariables false
set_option maxRecDepth 100000 in
set_option maxHeartbeats 8000000 in
theorem twice_any (a b : Option Addr) (c e n m : Nat) (ns : List Nd) (es : List Ed) (an : Option Addr) (ln cn : Nat) (zn : List Op) (w : World) (L : Lyt w a b c e n m ns es) (hln : zn.length = ln) (hn : Ops w (.slice an ln cn) zn) :
    Calls Try.prog 5 #[.agg #[.slice a n c, .slice b m e], .slice an ln cn] w fun e w' => e = .returned (.bool true) ∧ Below w.heap.size w w' := by
  have I1 : Hid (Its w [.box w.heap.size #[.slice a n c, .slice b m e] 25] (w.alloc (.cells #[.slice a n c, .slice b m e] 25))) := hide ((Its.nil w).box1 #[.slice a n c, .slice b m e] 25)
  have XL : Hid (∀ W, Its w [.box w.heap.size #[.slice a n c, .slice b m e] 25] W → W.cell? ⟨w.heap.size, 0, none⟩ = some (.slice a n c) ∧ W.cell? ⟨w.heap.size, 1, none⟩ = some (.slice b m e)) := hide (fun W h => h.lbox1)
  obtain ⟨u0, u1⟩ := XL.out _ I1.out
  have HL := hide L
  have Hln := hide hln
  have Hn := hide hn
  clear hln hn
  by_cases hfew : n ≤ 60 ∧ m ≤ 200
  case neg =>
    have hd : decide (n ≤ 60 ∧ m ≤ 200) = false := decide_eq_false hfew
    clear L hfew
    go_enter Try.func5, Try.ntmps5
    go_wp2_with (first
      | (go_at_call 9; refine (awake_any _).mono ?_; rintro e1 W4 ⟨rfl, q⟩; have I4 := hide (I3.out.keep q); clear q)
      | (go_at_call 10; refine few_any.mono ?_; rintro e1 W3 ⟨rfl, q⟩; have I3 := hide (I2.out.keep q); clear q; obtain ⟨y0, y1⟩ := XL.out _ I3.out)
      | (go_at_call 9; refine (awake_any _).mono ?_; rintro e1 W2 ⟨rfl, q⟩; have I2 := hide (I1.out.keep q); clear q; obtain ⟨u0, u1⟩ := XL.out _ I2.out))
    go_ret
    exact ⟨rfl, I4.out.bel⟩
  case pos =>
  have hd : decide (n ≤ 60 ∧ m ≤ 200) = true := decide_eq_true hfew
  clear hfew
  cases hg : good ns es with
  | false =>
    have KN : Hid (∀ W, Its w [.box w.heap.size #[.slice a n c, .slice b m e] 25] W → Calls Try.prog 12 #[.agg #[.slice a n c, .slice b m e]] W fun e w' => e = .returned (.tuple #[.pointer none, .int .i64 61]) ∧ Below W.heap.size W w') := hide (fun W h => new_no (h.keepL L) hg)
    clear L hg
    go_enter Try.func5, Try.ntmps5
    go_wp2_with (first
      | (go_at_call 12; refine (KN.out _ I3.out).mono ?_; rintro e1 W5 ⟨rfl, q⟩; have I5 := hide (I3.out.keep q); clear q)
      | (go_at_call 10; refine few_any.mono ?_; rintro e1 W3 ⟨rfl, q⟩; have I3 := hide (I2.out.keep q); clear q; obtain ⟨y0, y1⟩ := XL.out _ I3.out)
      | (go_at_call 9; refine (awake_any _).mono ?_; rintro e1 W2 ⟨rfl, q⟩; have I2 := hide (I1.out.keep q); clear q; obtain ⟨u0, u1⟩ := XL.out _ I2.out))
    go_ret
    exact ⟨by first | rfl | simp, I5.out.bel⟩
  | true =>
  have KN : Hid (∀ W, Its w [.box w.heap.size #[.slice a n c, .slice b m e] 25] W → Calls Try.prog 12 #[.agg #[.slice a n c, .slice b m e]] W fun e w' => NewP W n m es e w') := hide (fun W h => new_ok (h.keepL L) hg)
  have hOk0 : (Pl.nw n es).Ok n es := by
    obtain ⟨g1, g2, g3⟩ := good_he hg
    rw [L.hn] at g1 g3
    exact Pl.nw_ok g1 g2 g3
  have hmv0 : (Pl.nw n es).mv = 0 := rfl
  obtain ⟨S0, hS0⟩ : ∃ S0, Pl.nw n es = S0 := ⟨_, rfl⟩
  rw [hS0] at hOk0 hmv0
  replace hS0 := hide hS0
  have HOk0 := hide hOk0
  have Hmv0 := hide hmv0
  clear hOk0 hmv0
  have i0 : Hid (m ≤ 120) := hide (by obtain ⟨g1, g2, g3⟩ := good_he hg; rw [L.hm] at g2; exact g2)
  have Hgd := hide hg
  clear L hg
  go_enter Try.func5, Try.ntmps5
  go_upto_region 7 with (first
    | (go_at_call 12; refine (KN.out _ I3.out).mono ?_; rintro e1 W5 ⟨g, H, rfl, q⟩; have I5 := hide (I3.out.addm q); rw [hS0.out] at I5; clear q; obtain ⟨v0, v1⟩ := I5.out.lbox)
    | (go_at_call 10; refine few_any.mono ?_; rintro e1 W3 ⟨rfl, q⟩; have I3 := hide (I2.out.keep q); clear q; obtain ⟨y0, y1⟩ := XL.out _ I3.out)
    | (go_at_call 9; refine (awake_any _).mono ?_; rintro e1 W2 ⟨rfl, q⟩; have I2 := hide (I1.out.keep q); clear q; obtain ⟨u0, u1⟩ := XL.out _ I2.out))
  have I7 := I5
  clear u0 u1 v0 v1 y0 y1 KN I1 I2 I3 I5 XL
  go_loopw [7] (fun v7 wr => ∃ (i : Nat) (S : Pl), v7 = .int .i64 i ∧ i ≤ 150 ∧ Hid (S.mv ≤ 2 * i) ∧ Hid (Its w (.pla w.heap.size g H n m es S :: [.box w.heap.size #[.slice a n c, .slice b m e] 25]) wr)) (fun v7 _ => 150 - (intOf v7).toNat)
  case atStart => exact ⟨0, S0, rfl, by omega, hide (by rw [Hmv0.out]; decide), I7⟩
  case round =>
    clear HOk0 Hmv0 I7 hS0 Hgd
    obtain ⟨i, S, rfl, hi, Hmv, HR⟩ := hrel
    by_cases hil : i < ln
    case neg =>
      have q1 : ¬ (i : Int) < (ln : Int) := by omega
      go_wp2_with fail
      go_ret
      exact ⟨rfl, HR.out.bel⟩
    case pos =>
    have q1 : (i : Int) < (ln : Int) := by omega
    by_cases hi5 : i < 150
    case neg =>
      have q2 : ¬ (i : Int) < 150 := by omega
      go_wp2_with fail
      go_ret
      exact ⟨rfl, HR.out.bel⟩
    case pos =>
    have q2 : (i : Int) < 150 := by omega
    have q0 : (0 : Int) ≤ (i : Int) := by omega
    obtain ⟨p, hp⟩ : ∃ p, zn[i]? = some p := ⟨_, List.getElem?_eq_getElem (by rw [Hln.out]; exact hil)⟩
    have XN : Hid (∀ W, Below w.heap.size w W → ∃ b0 o0, an = some ⟨b0, o0, none⟩ ∧ W.cell? ⟨b0, o0 + i * 8, none⟩ = some (.int .i64 p.kind) ∧ W.cell? ⟨b0, o0 + i * 8 + 1, none⟩ = some (.int .i64 p.a) ∧ W.cell? ⟨b0, o0 + i * 8 + 2, none⟩ = some (.int .i64 p.b) ∧ W.cell? ⟨b0, o0 + i * 8 + 3, none⟩ = some (.int .u8 p.t.k) ∧ W.cell? ⟨b0, o0 + i * 8 + 4, none⟩ = some (.int .u16 p.t.d) ∧ W.cell? ⟨b0, o0 + i * 8 + 5, none⟩ = some (.int .u16 p.t.s) ∧ W.cell? ⟨b0, o0 + i * 8 + 6, none⟩ = some (.int .u16 p.t.a) ∧ W.cell? ⟨b0, o0 + i * 8 + 7, none⟩ = some (.int .u16 p.t.b)) := hide (fun W h => by
      obtain ⟨b0, o0, q1, _, q2⟩ := (Hn.out.keep h).at i p hp
      exact ⟨b0, o0, q1, q2⟩)
    have HIn : Hid p.t.In := hide (Hn.out.2 p (List.mem_of_getElem? hp))
    obtain ⟨b0, o0, rfl, n0, n1, n2, n3, n4, n5, n6, n7⟩ := XN.out _ HR.out.bel
    clear XN hp
    obtain ⟨kd, xa, xb, ⟨tk, td, ts, ta, tb⟩⟩ := p
    dsimp only at *
    obtain ⟨go, hgo⟩ : ∃ go, wr.heap.size = go := ⟨_, rfl⟩
    have J1 : Hid (Its w (.box go #[.int .i64 kd, .int .i64 xa, .int .i64 xb, .int .u8 tk, .int .u16 td, .int .u16 ts, .int .u16 ta, .int .u16 tb] 47 :: .pla w.heap.size g H n m es S :: [.box w.heap.size #[.slice a n c, .slice b m e] 25]) (wr.alloc (.cells #[.int .i64 kd, .int .i64 xa, .int .i64 xb, .int .u8 tk, .int .u16 td, .int .u16 ts, .int .u16 ta, .int .u16 tb] 47))) := hide (HR.out.boxN #[.int .i64 kd, .int .i64 xa, .int .i64 xb, .int .u8 tk, .int .u16 td, .int .u16 ts, .int .u16 ta, .int .u16 tb] 47 hgo)
    go_upto_region 10 with fail
    try rw [hgo]
    generalize wr.alloc (.cells #[.int .i64 kd, .int .i64 xa, .int .i64 xb, .int .u8 tk, .int .u16 td, .int .u16 ts, .int .u16 ta, .int .u16 tb] 47) = W1 at *
    clear n0 n1 n2 n3 n4 n5 n6 n7 hgo
    have XC : Hid (∀ W l, Its w (.box go #[.int .i64 kd, .int .i64 xa, .int .i64 xb, .int .u8 tk, .int .u16 td, .int .u16 ts, .int .u16 ta, .int .u16 tb] 47 :: l) W → W.cell? ⟨go, 0, none⟩ = some (.int .i64 kd) ∧ W.cell? ⟨go, 1, none⟩ = some (.int .i64 xa) ∧ W.cell? ⟨go, 2, none⟩ = some (.int .i64 xb) ∧ W.cell? ⟨go, 3, none⟩ = some (.int .u8 tk) ∧ W.cell? ⟨go, 4, none⟩ = some (.int .u16 td) ∧ W.cell? ⟨go, 5, none⟩ = some (.int .u16 ts) ∧ W.cell? ⟨go, 6, none⟩ = some (.int .u16 ta) ∧ W.cell? ⟨go, 7, none⟩ = some (.int .u16 tb)) := hide (fun W l h => ⟨(cells_at h.one 0).1, (cells_at h.one 1).1, (cells_at h.one 2).1, (cells_at h.one 3).1, (cells_at h.one 4).1, (cells_at h.one 5).1, (cells_at h.one 6).1, (cells_at h.one 7).1⟩)
    obtain ⟨c0, c1, c2, c3, c4, c5, c6, c7⟩ := XC.out _ _ J1.out
    by_cases k1 : kd = 1
    · subst k1
      have KP := hide (putS J1.out.swap xa xb)
      have HE := hide (put_dev S xa xb 1).2.2
      generalize S.put xa xb = P at *
      obtain ⟨cd, S1⟩ := P
      dsimp only at *
      go_wp2_with (go_at_call 15; refine KP.out.mono ?_; rintro e1 W2 ⟨rfl, q⟩; have J2 := hide (Its.tail q.swap); clear q)
      go_roundw
      case rel => exact ⟨i + 1, S1, by go_num, by omega, hide (by have := Hmv.out; have := HE.out; omega), hide J2.out⟩
      case measure => simp [intOf]; omega
    have k1' : (kd == 1) = false := beq_eq_false_iff_ne.2 k1
    by_cases k2 : kd = 2
    · subst k2
      have hok := pl_ok J1.out.two
      have HA := hide (hear_again hok ⟨tk, td, ts, ta, tb⟩)
      have HS := hide (hear_says S ⟨tk, td, ts, ta, tb⟩)
      have HM := hide (hear_mv S ⟨tk, td, ts, ta, tb⟩)
      have HWk := hide (hear_wrk S ⟨tk, td, ts, ta, tb⟩ td)
      have K1 := hide (hearS J1.out.swap ⟨tk, td, ts, ta, tb⟩ HIn.out (by have := Hmv.out; omega))
      obtain ⟨P, hP⟩ : ∃ P, S.hear ⟨tk, td, ts, ta, tb⟩ = P := ⟨_, rfl⟩
      rw [hP] at HA HS HM HWk K1
      clear hP hok
      obtain ⟨⟨⟨ak, ad, az, aa, ab⟩, ob⟩, S1⟩ := P
      dsimp only at *
      have K1' : Hid (Calls Try.prog 17 #[.pointer (some ⟨g, 0, none⟩), .agg #[.int .u8 tk, .int .u16 td, .int .u16 ts, .int .u16 ta, .int .u16 tb]] W1 fun r9 w' => r9 = .returned (.tuple #[.agg #[.int .u8 ak, .int .u16 ad, .int .u16 az, .int .u16 aa, .int .u16 ab], .bool ob]) ∧ Its w (.pla w.heap.size g H n m es S1 :: .box go #[.int .i64 2, .int .i64 xa, .int .i64 xb, .int .u8 tk, .int .u16 td, .int .u16 ts, .int .u16 ta, .int .u16 tb] 47 :: [.box w.heap.size #[.slice a n c, .slice b m e] 25]) w') := K1
      have K2' : Hid (∀ W l, Its w (.pla w.heap.size g H n m es S1 :: l) W → Calls Try.prog 17 #[.pointer (some ⟨g, 0, none⟩), .agg #[.int .u8 tk, .int .u16 td, .int .u16 ts, .int .u16 ta, .int .u16 tb]] W fun r9 w' => r9 = .returned (.tuple #[.agg #[.int .u8 ak, .int .u16 ad, .int .u16 az, .int .u16 aa, .int .u16 ab], .bool ob]) ∧ Its w (.pla w.heap.size g H n m es S1 :: l) w') := hide (fun W l hW => by
        have k := hearS hW ⟨tk, td, ts, ta, tb⟩ HIn.out (by have := Hmv.out; have := HM.out; omega)
        rw [HA.out] at k
        exact k)
      have KM : Hid (∀ W l, Its w (.pla w.heap.size g H n m es S1 :: l) W → Calls Try.prog 23 #[.pointer (some ⟨g, 0, none⟩)] W fun r9 w' => r9 = .returned (.int .i64 S1.mv) ∧ w' = W) := hide (fun W l hW => moves_m hW.one)
      have KW : Hid (∀ W l, Its w (.pla w.heap.size g H n m es S1 :: l) W → Calls Try.prog 26 #[.pointer (some ⟨g, 0, none⟩), .int .i64 td] W fun r9 w' => r9 = .returned (.bool (S1.wrk td)) ∧ w' = W) := hide (fun W l hW => works_m hW.one td)
      have rd : IntKind.i64.wrap td = td := by have := HIn.out.2.1; rw [IntKind.wrap_i64]; simp only at this; omega
      have HMV : Hid (S1.mv ≤ 2 * ((i + 1 : Nat) : Int)) := hide (by have := Hmv.out; have := HM.out; omega)
      clear K1 HM HA
      have rm : (S1.mv == S1.mv) = true := by simp
      obtain ⟨mv, hmv⟩ : ∃ mv, S1.mv = mv := ⟨_, rfl⟩
      rw [hmv] at KM rm
      clear hmv
      cases ob with
      | true =>
        obtain ⟨s1, s2, s3⟩ := HS.out rfl
        rw [← HWk.out] at s1
        subst s2
        subst s3
        rw [s1] at KW
        clear HS HWk
        by_cases z : ak = 2
        · subst z
          go_wp2_with (first
            | (go_at_call 26; refine (KW.out _ _ (Its.tail J5.out)).mono ?_; rintro e1 W6 ⟨rfl, rfl⟩)
            | (go_at_call 23; refine (KM.out _ _ (Its.tail J5.out)).mono ?_; rintro e1 W5 ⟨rfl, rfl⟩)
            | (go_at_call 17; refine (K2'.out _ _ J3.out.swap).mono ?_; rintro e1 W4 ⟨rfl, q⟩; have J5 := hide (q.box1 #[.int .u8 2, .int .u16 ad, .int .u16 az, .int .u16 aa, .int .u16 ab] 45); clear q; obtain ⟨x0, x1, x2, x3, x4, xf⟩ := Its.cells5 J5.out; obtain ⟨y0, y1, y2, y3, y4, yf⟩ := Its.cells5 J5.out.tail.tail; obtain ⟨v0, v1, v2, v3, v4, v5, v6, v7⟩ := XC.out _ _ J5.out.tail.tail.tail)
            | (go_at_call 23; refine (KM.out _ _ J3.out.swap).mono ?_; rintro e1 W3 ⟨rfl, rfl⟩)
            | (go_at_call 17; refine K1'.out.mono ?_; rintro e1 W2 ⟨rfl, q⟩; have J3 := hide (q.box1 #[.int .u8 2, .int .u16 ad, .int .u16 az, .int .u16 aa, .int .u16 ab] 45); clear q; obtain ⟨d0, d1, d2, d3, d4, d5, d6, d7⟩ := XC.out _ _ J3.out.tail.tail))
          go_roundw
          case rel => exact ⟨i + 1, S1, by go_num, by omega, HMV, hide (Its.tail J5.out).swap.tail.swap.tail⟩
          case measure => simp [intOf]; omega
        · have z' : (ak == 2) = false := beq_eq_false_iff_ne.2 z
          go_wp2_with (first
            | (go_at_call 26; refine (KW.out _ _ (Its.tail J5.out)).mono ?_; rintro e1 W6 ⟨rfl, rfl⟩)
            | (go_at_call 23; refine (KM.out _ _ (Its.tail J5.out)).mono ?_; rintro e1 W5 ⟨rfl, rfl⟩)
            | (go_at_call 17; refine (K2'.out _ _ J3.out.swap).mono ?_; rintro e1 W4 ⟨rfl, q⟩; have J5 := hide (q.box1 #[.int .u8 ak, .int .u16 ad, .int .u16 az, .int .u16 aa, .int .u16 ab] 45); clear q; obtain ⟨x0, x1, x2, x3, x4, xf⟩ := Its.cells5 J5.out; obtain ⟨y0, y1, y2, y3, y4, yf⟩ := Its.cells5 J5.out.tail.tail; obtain ⟨v0, v1, v2, v3, v4, v5, v6, v7⟩ := XC.out _ _ J5.out.tail.tail.tail)
            | (go_at_call 23; refine (KM.out _ _ J3.out.swap).mono ?_; rintro e1 W3 ⟨rfl, rfl⟩)
            | (go_at_call 17; refine K1'.out.mono ?_; rintro e1 W2 ⟨rfl, q⟩; have J3 := hide (q.box1 #[.int .u8 ak, .int .u16 ad, .int .u16 az, .int .u16 aa, .int .u16 ab] 45); clear q; obtain ⟨d0, d1, d2, d3, d4, d5, d6, d7⟩ := XC.out _ _ J3.out.tail.tail))
          go_roundw
          case rel => exact ⟨i + 1, S1, by go_num, by omega, HMV, hide (Its.tail J5.out).swap.tail.swap.tail⟩
          case measure => simp [intOf]; omega
      | false =>
        clear HS HWk
        generalize S1.wrk td = wk at *
        cases wk
        · go_wp2_with (first
            | (go_at_call 26; refine (KW.out _ _ (Its.tail J5.out)).mono ?_; rintro e1 W6 ⟨rfl, rfl⟩)
            | (go_at_call 23; refine (KM.out _ _ (Its.tail J5.out)).mono ?_; rintro e1 W5 ⟨rfl, rfl⟩)
            | (go_at_call 17; refine (K2'.out _ _ J3.out.swap).mono ?_; rintro e1 W4 ⟨rfl, q⟩; have J5 := hide (q.box1 #[.int .u8 ak, .int .u16 ad, .int .u16 az, .int .u16 aa, .int .u16 ab] 45); clear q; obtain ⟨x0, x1, x2, x3, x4, xf⟩ := Its.cells5 J5.out; obtain ⟨y0, y1, y2, y3, y4, yf⟩ := Its.cells5 J5.out.tail.tail; obtain ⟨v0, v1, v2, v3, v4, v5, v6, v7⟩ := XC.out _ _ J5.out.tail.tail.tail)
            | (go_at_call 23; refine (KM.out _ _ J3.out.swap).mono ?_; rintro e1 W3 ⟨rfl, rfl⟩)
            | (go_at_call 17; refine K1'.out.mono ?_; rintro e1 W2 ⟨rfl, q⟩; have J3 := hide (q.box1 #[.int .u8 ak, .int .u16 ad, .int .u16 az, .int .u16 aa, .int .u16 ab] 45); clear q; obtain ⟨d0, d1, d2, d3, d4, d5, d6, d7⟩ := XC.out _ _ J3.out.tail.tail))
          go_roundw
          case rel => exact ⟨i + 1, S1, by go_num, by omega, HMV, hide (Its.tail J5.out).swap.tail.swap.tail⟩
          case measure => simp [intOf]; omega
        · go_wp2_with (first
            | (go_at_call 26; refine (KW.out _ _ (Its.tail J5.out)).mono ?_; rintro e1 W6 ⟨rfl, rfl⟩)
            | (go_at_call 23; refine (KM.out _ _ (Its.tail J5.out)).mono ?_; rintro e1 W5 ⟨rfl, rfl⟩)
            | (go_at_call 17; refine (K2'.out _ _ J3.out.swap).mono ?_; rintro e1 W4 ⟨rfl, q⟩; have J5 := hide (q.box1 #[.int .u8 ak, .int .u16 ad, .int .u16 az, .int .u16 aa, .int .u16 ab] 45); clear q; obtain ⟨x0, x1, x2, x3, x4, xf⟩ := Its.cells5 J5.out; obtain ⟨y0, y1, y2, y3, y4, yf⟩ := Its.cells5 J5.out.tail.tail; obtain ⟨v0, v1, v2, v3, v4, v5, v6, v7⟩ := XC.out _ _ J5.out.tail.tail.tail)
            | (go_at_call 23; refine (KM.out _ _ J3.out.swap).mono ?_; rintro e1 W3 ⟨rfl, rfl⟩)
            | (go_at_call 17; refine K1'.out.mono ?_; rintro e1 W2 ⟨rfl, q⟩; have J3 := hide (q.box1 #[.int .u8 ak, .int .u16 ad, .int .u16 az, .int .u16 aa, .int .u16 ab] 45); clear q; obtain ⟨d0, d1, d2, d3, d4, d5, d6, d7⟩ := XC.out _ _ J3.out.tail.tail))
          go_roundw
          case rel => exact ⟨i + 1, S1, by go_num, by omega, HMV, hide (Its.tail J5.out).swap.tail.swap.tail⟩
          case measure => simp [intOf]; omega
    have k2' : (kd == 2) = false := beq_eq_false_iff_ne.2 k2
    by_cases k3 : kd = 3
    · subst k3
      have KP := hide (breakS J1.out.swap xa)
      have HE := hide (brk_mv S xa 4 true)
      generalize S.brk xa 4 true = P at *
      obtain ⟨⟨⟨ak, ad, az, aa, ab⟩, cd⟩, S1⟩ := P
      unfold SP tv at KP
      dsimp only at *
      go_wp2_with (go_at_call 19; refine KP.out.mono ?_; rintro e1 W2 ⟨rfl, q⟩; have J2 := hide (Its.tail q.swap); clear q)
      go_roundw
      case rel => exact ⟨i + 1, S1, by go_num, by omega, hide (by have := Hmv.out; have := HE.out; omega), hide J2.out⟩
      case measure => simp [intOf]; omega
    have k3' : (kd == 3) = false := beq_eq_false_iff_ne.2 k3
    by_cases k4 : kd = 4
    · subst k4
      have KP := hide (mendS J1.out.swap xa)
      have HE := hide (brk_mv S xa 5 false)
      generalize S.brk xa 5 false = P at *
      obtain ⟨⟨⟨ak, ad, az, aa, ab⟩, cd⟩, S1⟩ := P
      unfold SP tv at KP
      dsimp only at *
      go_wp2_with (go_at_call 21; refine KP.out.mono ?_; rintro e1 W2 ⟨rfl, q⟩; have J2 := hide (Its.tail q.swap); clear q)
      go_roundw
      case rel => exact ⟨i + 1, S1, by go_num, by omega, hide (by have := Hmv.out; have := HE.out; omega), hide J2.out⟩
      case measure => simp [intOf]; omega
    have k4' : (kd == 4) = false := beq_eq_false_iff_ne.2 k4
    go_wp2_with fail
    go_roundw
    case rel => exact ⟨i + 1, S, by go_num, by omega, hide (by have := Hmv.out; omega), hide (Its.tail J1.out)⟩
    case measure => simp [intOf]; omega
end Go.Proofs.Ythcdfclhenmleaa

