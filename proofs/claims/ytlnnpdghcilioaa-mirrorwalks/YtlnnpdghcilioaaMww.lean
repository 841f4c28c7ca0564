/- The walk of MirrorWalks. -/
import Derived.Test.YtlnnpdghcilioaaMag
import Derived.Test.YtlnnpdghcilioaaMwm
namespace Go.Proofs.Ytlnnpdghcilioaa
open Go.RowKit
set_option linter.unusedVariables false
set_option maxRecDepth 100000 in
set_option maxHeartbeats 4000000 in
theorem walks_any (a b : Option Addr) (c e n m : Nat) (ns : List Nd) (es : List Ed) (t x : Int) (ap : Option Addr) (lp cp : Nat) (zp : List Int) (w : World) (L : Lyt w a b c e n m ns es) (hlp : zp.length = lp) (hp : intE.Rd w (.slice ap lp cp) zp) :
    Calls Try.prog 8 #[.agg #[.slice a n c, .slice b m e], .agg #[.int .i64 t, .int .i64 x], .slice ap lp cp] w fun e w' => e = .returned (.bool true) ∧ Below w.heap.size w w' := by
  have hw1 : (w.alloc (.cells #[.slice a n c, .slice b m e] 25)).heap.size = w.heap.size + 1 := by show (w.heap.push _).size = _; simp
  have I1 : Hid (Its w [.box w.heap.size #[.slice a n c, .slice b m e] 25, .box (w.heap.size + 1) #[.int .i64 t, .int .i64 x] 42] ((w.alloc (.cells #[.slice a n c, .slice b m e] 25)).alloc (.cells #[.int .i64 t, .int .i64 x] 42))) := hide (by
    have q := (((Its.nil w).box1 #[.slice a n c, .slice b m e] 25).box1 #[.int .i64 t, .int .i64 x] 42)
    rw [hw1] at q
    exact q.swap)
  have XL : Hid (∀ W, Its w [.box w.heap.size #[.slice a n c, .slice b m e] 25, .box (w.heap.size + 1) #[.int .i64 t, .int .i64 x] 42] W → W.cell? ⟨w.heap.size, 0, none⟩ = some (.slice a n c) ∧ W.cell? ⟨w.heap.size, 1, none⟩ = some (.slice b m e)) := hide (fun W h => h.lbox1)
  have XW : Hid (∀ W, Its w [.box w.heap.size #[.slice a n c, .slice b m e] 25, .box (w.heap.size + 1) #[.int .i64 t, .int .i64 x] 42] W → W.cell? ⟨w.heap.size + 1, 0, none⟩ = some (.int .i64 t) ∧ W.cell? ⟨w.heap.size + 1, 1, none⟩ = some (.int .i64 x)) := hide (fun W h => by
    have h2 : W.heap[w.heap.size + 1]? = some (.cells #[.int .i64 t, .int .i64 x] 42) := h.two
    exact ⟨(cells_at h2 0).1, (cells_at h2 1).1⟩)
  obtain ⟨u0, u1⟩ := XL.out _ I1.out
  have HL := hide L
  have Hlp := hide hlp
  have Hp := hide hp
  clear hw1 hlp hp
  by_cases hfew : n ≤ 60 ∧ m ≤ 200
  case neg =>
    have hd : decide (n ≤ 60 ∧ m ≤ 200) = false := decide_eq_false hfew
    clear L hfew
    go_enter Try.func8, Try.ntmps8
    go_wp2_with (first
      | (go_at_call 9; refine (awake_any _).mono ?_; rintro e1 W4 ⟨rfl, q⟩; have I4 := hide (I3.out.keep q); clear q)
      | (go_at_call 10; refine few_any.mono ?_; rintro e1 W3 ⟨rfl, q⟩; have I3 := hide (I2.out.keep q); clear q; obtain ⟨y0, y1⟩ := XL.out _ I3.out; obtain ⟨y2, y3⟩ := XW.out _ I3.out)
      | (go_at_call 9; refine (awake_any _).mono ?_; rintro e1 W2 ⟨rfl, q⟩; have I2 := hide (I1.out.keep q); clear q; obtain ⟨u0, u1⟩ := XL.out _ I2.out))
    go_ret
    exact ⟨rfl, I4.out.bel⟩
  case pos =>
  have hd : decide (n ≤ 60 ∧ m ≤ 200) = true := decide_eq_true hfew
  clear hfew
  cases hg : good ns es with
  | false =>
    have KN : Hid (∀ W, Its w [.box w.heap.size #[.slice a n c, .slice b m e] 25, .box (w.heap.size + 1) #[.int .i64 t, .int .i64 x] 42] W → Calls Try.prog 12 #[.agg #[.slice a n c, .slice b m e]] W fun e w' => e = .returned (.tuple #[.pointer none, .int .i64 61]) ∧ Below W.heap.size W w') := hide (fun W h => new_no (h.keepL L) hg)
    clear L hg
    go_enter Try.func8, Try.ntmps8
    go_upto_region 3 with (first
      | (go_at_call 10; refine few_any.mono ?_; rintro e1 W3 ⟨rfl, q⟩; have I3 := hide (I2.out.keep q); clear q; obtain ⟨y0, y1⟩ := XL.out _ I3.out; obtain ⟨y2, y3⟩ := XW.out _ I3.out)
      | (go_at_call 9; refine (awake_any _).mono ?_; rintro e1 W2 ⟨rfl, q⟩; have I2 := hide (I1.out.keep q); clear q; obtain ⟨u0, u1⟩ := XL.out _ I2.out))
    go_quiet (fail)
    have I4 := hide (I3.out.drew nq)
    clear y0 y1 y2 y3 u0 u1
    generalize W3.drewN nq = W4 at *
    obtain ⟨y0, y1⟩ := XL.out _ I4.out
    go_wp2_with (go_at_call 12; refine (KN.out _ I4.out).mono ?_; rintro e1 W5 ⟨rfl, q⟩; have I5 := hide (I4.out.keep q); clear q)
    go_ret
    exact ⟨rfl, I5.out.bel⟩
  | true =>
  have KN : Hid (∀ W, Its w [.box w.heap.size #[.slice a n c, .slice b m e] 25, .box (w.heap.size + 1) #[.int .i64 t, .int .i64 x] 42] W → Calls Try.prog 12 #[.agg #[.slice a n c, .slice b m e]] W fun e w' => NewP W n m es e w') := hide (fun W h => new_ok (h.keepL L) hg)
  obtain ⟨g1, g2, g3⟩ := good_he hg
  rw [L.hn] at g1 g3
  have ok0 := Mr.nw_ok g1 g2 g3
  rw [L.hm] at g2
  have hA : Hid (((Mr.nw n es).put t x).1 = 0 → Alone ((Mr.nw n es).put t x).2 n es t x) := hide (fun q => alone_put ok0 (fun y => by
      unfold Mr.att
      split
      · rename_i hn
        have := Mr.isN_iff.1 hn
        show ((List.replicate n (0 : Int))[y.toNat]?).getD 0 = 0
        rw [List.getElem?_replicate]
        split <;> rfl
      · rfl) (fun D hD => by
      obtain ⟨e, _, rfl⟩ := List.mem_map.1 hD
      exact ⟨rfl, rfl⟩) q)
  obtain ⟨S0, hS0⟩ : ∃ S0, Mr.nw n es = S0 := ⟨_, rfl⟩
  rw [hS0] at hA
  replace hS0 := hide hS0
  have i0 : (m : Int) ≤ 120 := by omega
  clear L hg ok0 g1 g2 g3
  by_cases hput : (S0.put t x).1 = 0
  case neg =>
    have hput' : ((S0.put t x).1 == 0) = false := beq_eq_false_iff_ne.2 hput
    go_enter Try.func8, Try.ntmps8
    go_upto_region 3 with (first
      | (go_at_call 10; refine few_any.mono ?_; rintro e1 W3 ⟨rfl, q⟩; have I3 := hide (I2.out.keep q); clear q; obtain ⟨y0, y1⟩ := XL.out _ I3.out; obtain ⟨y2, y3⟩ := XW.out _ I3.out)
      | (go_at_call 9; refine (awake_any _).mono ?_; rintro e1 W2 ⟨rfl, q⟩; have I2 := hide (I1.out.keep q); clear q; obtain ⟨u0, u1⟩ := XL.out _ I2.out))
    go_quiet (fail)
    have I4 := hide (I3.out.drew nq)
    clear y0 y1 y2 y3 u0 u1
    generalize W3.drewN nq = W4 at *
    obtain ⟨y0, y1⟩ := XL.out _ I4.out
    generalize hcode : (S0.put t x).1 = code at *
    go_wp2_with (first
      | (go_at_call 23; refine (putS I5.out t x).mono ?_; rw [hcode]; rintro e1 W6 ⟨rfl, q⟩; have I6 := hide q; clear q)
      | (go_at_call 12; refine (KN.out _ I4.out).mono ?_; rintro e1 W5 ⟨g, H, rfl, q⟩; have I5 := hide (I4.out.addm q); rw [hS0.out] at I5; clear q))
    go_ret
    exact ⟨rfl, I6.out.bel⟩
  case pos =>
  replace hA := hide (hA.out hput)
  go_enter Try.func8, Try.ntmps8
  go_upto_region 3 with (first
    | (go_at_call 10; refine few_any.mono ?_; rintro e1 W3 ⟨rfl, q⟩; have I3 := hide (I2.out.keep q); clear q; obtain ⟨y0, y1⟩ := XL.out _ I3.out; obtain ⟨y2, y3⟩ := XW.out _ I3.out)
    | (go_at_call 9; refine (awake_any _).mono ?_; rintro e1 W2 ⟨rfl, q⟩; have I2 := hide (I1.out.keep q); clear q; obtain ⟨u0, u1⟩ := XL.out _ I2.out))
  go_quiet (fail)
  have I4 := hide (I3.out.drew nq)
  clear y0 y1 y2 y3 u0 u1
  generalize W3.drewN nq = W4 at *
  obtain ⟨y0, y1⟩ := XL.out _ I4.out
  go_wp2_with (first
    | (go_at_call 23; refine (putS I5.out t x).mono ?_; rw [hput]; rintro e1 W6 ⟨rfl, q⟩; have I6 := hide q; clear q)
    | (go_at_call 12; refine (KN.out _ I4.out).mono ?_; rintro e1 W5 ⟨g, H, rfl, q⟩; have I5 := hide (I4.out.addm q); rw [hS0.out] at I5; clear q))
  generalize (S0.put t x).2 = S1 at *
  clear y0 y1 KN I5
  go_loopw [11, 12] (fun v11 v12 wr => ∃ (i : Nat) (at' : Int) (S : Mr), v11 = .int .i64 at' ∧ v12 = .int .i64 i ∧ i ≤ 50 ∧ Hid (Alone S n es t at') ∧ Hid (Its w (.mir w.heap.size g H n m es S :: [.box w.heap.size #[.slice a n c, .slice b m e] 25, .box (w.heap.size + 1) #[.int .i64 t, .int .i64 x] 42]) wr)) (fun _ v12 _ => 50 - (intOf v12).toNat)
  case atStart => exact ⟨0, x, S1, rfl, rfl, by omega, hA, I6⟩
  case round =>
    obtain ⟨i, at', S, rfl, rfl, hi, HA, HR⟩ := hrel
    have hend : Hid (S.whr t = at') := hide HA.out.whr
    by_cases hil : i < lp
    case neg =>
      have q1 : ¬ (i : Int) < (lp : Int) := by omega
      go_wp2_with (go_at_call 19; refine (whereS HR.out t).mono ?_; rw [hend.out]; rintro e1 W7 ⟨rfl, q⟩; have I7 := hide q; clear q)
      go_ret
      exact ⟨by simp, I7.out.bel⟩
    case pos =>
    have q1 : (i : Int) < (lp : Int) := by omega
    by_cases hi5 : i < 50
    case neg =>
      have q2 : ¬ (i : Int) < 50 := by omega
      go_wp2_with (go_at_call 19; refine (whereS HR.out t).mono ?_; rw [hend.out]; rintro e1 W7 ⟨rfl, q⟩; have I7 := hide q; clear q)
      go_ret
      exact ⟨by simp, I7.out.bel⟩
    case pos =>
    have q2 : (i : Int) < 50 := by omega
    have q0 : (0 : Int) ≤ (i : Int) := by omega
    obtain ⟨d, hdz⟩ : ∃ d, zp[i]? = some d := ⟨_, List.getElem?_eq_getElem (by rw [Hlp.out]; exact hil)⟩
    obtain ⟨bp, op, rfl, cz⟩ := int_at (Hp.out.keep HR.out.bel) i d hdz
    obtain ⟨y0, y1⟩ := HR.out.lbox
    have Hok := hide HA.out.ok
    have hlen : Hid (S.ds.length = m) := hide ((mr_len HR.out.one).2.1)
    have noGo : Hid (¬ (S.isD d = true ∧ (S.dev d).fr = at') → (S.snd d t i).1 ≠ 0 ∧ (S.snd d t i).2 = S) := hide (fun h => HA.out.snd_no h)
    by_cases hd1 : 1 ≤ d
    case neg =>
      obtain ⟨z1, z2⟩ := noGo.out (fun h => hd1 (Mr.isD_iff.1 h.1).1)
      have z1' : ((S.snd d t i).1 == 0) = false := beq_eq_false_iff_ne.2 z1
      generalize hcode : (S.snd d t i).1 = code at *
      go_wp2_with (go_at_call 24; refine (sendS HR.out d t i).mono ?_; rw [hcode, z2]; rintro e1 W7 ⟨rfl, q⟩; have I7 := hide q; clear q)
      go_roundw
      case rel => exact ⟨i + 1, at', S, rfl, by go_num, by omega, HA, I7⟩
      case measure => simp [intOf]; omega
    case pos =>
    by_cases hd2 : d ≤ m
    case neg =>
      obtain ⟨z1, z2⟩ := noGo.out (fun h => hd2 (by have := (Mr.isD_iff.1 h.1).2; rw [hlen.out] at this; exact this))
      have z1' : ((S.snd d t i).1 == 0) = false := beq_eq_false_iff_ne.2 z1
      generalize hcode : (S.snd d t i).1 = code at *
      go_wp2_with (go_at_call 24; refine (sendS HR.out d t i).mono ?_; rw [hcode, z2]; rintro e1 W7 ⟨rfl, q⟩; have I7 := hide q; clear q)
      go_roundw
      case rel => exact ⟨i + 1, at', S, rfl, by go_num, by omega, HA, I7⟩
      case measure => simp [intOf]; omega
    case pos =>
    obtain ⟨k, rfl⟩ : ∃ k : Nat, d = (k : Int) + 1 := ⟨(d - 1).toNat, by omega⟩
    have hD : S.isD ((k : Int) + 1) = true := Mr.isD_iff.2 (by rw [hlen.out]; omega)
    have hedge := Hok.out.edge hD
    rw [show ((k : Int) + 1 - 1).toNat = k by omega] at hedge
    obtain ⟨be, oe, rfl, ce0, ce1⟩ := ed_at (HR.out.keepL HL.out).hu k _ hedge
    have r1 : wrap64 ((k : Int) + 1 - 1) = (k : Int) := by unfold wrap64; omega
    have r2 : (k : Int) < (m : Int) := by omega
    have r3 : (0 : Int) ≤ (k : Int) := by omega
    have hq : isQ (i : Int) = true := isQ_iff.2 (by omega)
    dsimp only at ce0 ce1
    by_cases hfr : (S.dev ((k : Int) + 1)).fr = at'
    case neg =>
      obtain ⟨z1, z2⟩ := noGo.out (fun h => hfr h.2)
      have z1' : ((S.snd ((k : Int) + 1) t i).1 == 0) = false := beq_eq_false_iff_ne.2 z1
      have hfr' : ((S.dev ((k : Int) + 1)).fr == at') = false := beq_eq_false_iff_ne.2 hfr
      generalize hcode : (S.snd ((k : Int) + 1) t i).1 = code at *
      generalize (S.dev ((k : Int) + 1)).fr = fr at *
      generalize (S.dev ((k : Int) + 1)).en = en at *
      clear hedge hdz
      go_wp2_with (go_at_call 24; refine (sendS HR.out ((k : Int) + 1) t i).mono ?_; rw [hcode, z2]; rintro e1 W7 ⟨rfl, q⟩; have I7 := hide q; clear q)
      go_roundw
      case rel => exact ⟨i + 1, at', S, rfl, by go_num, by omega, HA, I7⟩
      case measure => simp [intOf]; omega
    case pos =>
    have z1 := (HA.out.snd_yes hD hfr hq).1
    obtain ⟨z2, z3, z4, z5⟩ := HA.out.mov hD hfr hq
    have HA2 := hide z3
    have z6 := z3.whr
    have z7 := z3.at' (S.dev ((k : Int) + 1)).en
    rw [if_pos rfl] at z7
    rw [hfr] at ce0
    clear z3
    generalize hs1 : S.snd ((k : Int) + 1) t i = P1 at *
    generalize hs2 : P1.2.mov ((k : Int) + 1) t = P2 at *
    have ER := hide hedge
    rw [hfr] at ER
    generalize (S.dev ((k : Int) + 1)).en = en at *
    clear hedge hdz hfr
    have XB : Hid (∀ (W : World) (S : Mr), Its w (.mir w.heap.size g H n m es S :: [.box w.heap.size #[.slice a n c, .slice (some ⟨be, oe, none⟩) m e] 25, .box (w.heap.size + 1) #[.int .i64 t, .int .i64 x] 42]) W → W.cell? ⟨w.heap.size, 1, none⟩ = some (.slice (some ⟨be, oe, none⟩) m e) ∧ W.cell? ⟨be, oe + k * 2 + 1, none⟩ = some (.int .i64 en)) := hide (fun W S h => by
      refine ⟨h.lbox.2, ?_⟩
      obtain ⟨b1, o1, q1, q2, q3⟩ := ed_at (h.keepL HL.out).hu k _ ER.out
      simp only [Option.some.injEq, Addr.mk.injEq] at q1
      obtain ⟨rfl, rfl, _⟩ := q1
      exact q3)
    go_wp2_with (first
      | (go_at_call 20; refine (atS I11.out en).mono ?_; rw [z7]; rintro e1 W12 ⟨rfl, q⟩; have I12 := hide q; clear q)
      | (go_at_call 19; refine (whereS I10.out t).mono ?_; rw [z6]; rintro e1 W11 ⟨rfl, q⟩; have I11 := hide q; clear q)
      | (go_at_call 20; refine (atS I9.out at').mono ?_; rw [z5]; rintro e1 W10 ⟨rfl, q⟩; have I10 := hide q; clear q; obtain ⟨v0, v1⟩ := XB.out _ _ I10.out)
      | (go_at_call 22; refine (takenS I8.out at').mono ?_; rw [z4]; rintro e1 W9 ⟨rfl, q⟩; have I9 := hide q; clear q)
      | (go_at_call 25; refine (movedS I7.out ((k : Int) + 1) t).mono ?_; rw [hs2, z2]; rintro e1 W8 ⟨rfl, q⟩; have I8 := hide q; clear q)
      | (go_at_call 24; refine (sendS HR.out ((k : Int) + 1) t i).mono ?_; rw [hs1, z1]; rintro e1 W7 ⟨rfl, q⟩; have I7 := hide q; clear q))
    go_roundw
    case rel => exact ⟨i + 1, en, P2.2, rfl, by go_num, by omega, HA2, I12⟩
    case measure => simp [intOf]; omega
end Go.Proofs.Ytlnnpdghcilioaa
