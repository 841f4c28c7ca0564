/- The walk of PlantFaults. -/
import Derived.Test.YthcdfclhenmleaaPag
import Derived.Test.YthcdfclhenmleaaPmu
import Derived.Deep.CutBlock
namespace Go.Proofs.Ythcdfclhenmleaa
open Go.RowKit
set_option linter.unusedVariables false

theorem few2 (x : Int) (m : Nat) (hm : 1 ≤ m ∧ m ≤ 1000) : ∃ k : Nat, wrap64 ((IntKind.u64.wrap x).tmod (m : Int)) = (k : Int) ∧ k < m := by
  have h0 : 0 ≤ IntKind.u64.wrap x := by simp [IntKind.wrap, IntKind.bits, IntKind.signed]; omega
  have e : (IntKind.u64.wrap x).tmod (m : Int) = IntKind.u64.wrap x % (m : Int) := Int.tmod_eq_emod_of_nonneg h0
  rw [e]
  generalize IntKind.u64.wrap x = b at h0
  have h1 := Int.emod_nonneg b (show (m : Int) ≠ 0 by omega)
  have h2 := Int.emod_lt_of_pos b (show 0 < (m : Int) by omega)
  obtain ⟨k, hk⟩ := Int.eq_ofNat_of_zero_le h1
  refine ⟨k, ?_, by omega⟩
  rw [hk]
  unfold wrap64
  omega
/-- a new plant's device is broken -/
theorem nw_brk {n : Nat} {es : List (Int × Int)} {k : Nat} (hk : k < es.length) : ∃ S1, (Pl.nw n es).brk ((k : Int) + 1) 4 true = ((⟨4, (k : Int) + 1, 0, 0, 0⟩, 0), S1) ∧ Bkn S1 ((k : Int) + 1) ∧ S1.mv = 0 := by
  have hl : (Pl.nw n es).ds.length = es.length := by unfold Pl.nw; simp
  have hd : (Pl.nw n es).isD ((k : Int) + 1) = true := Pl.isD_iff.2 (by rw [hl]; omega)
  have hm := (Pl.dev_at hd).2
  obtain ⟨e, _, he⟩ := List.mem_map.1 hm
  refine ⟨(Pl.nw n es).setD ((k : Int) + 1) { (Pl.nw n es).dev ((k : Int) + 1) with bk := true }, ?_, ⟨?_, ?_⟩, rfl⟩
  · unfold Pl.brk; rw [if_neg (by rw [hd]; simp)]
  · rw [setD_isD]; exact hd
  · rw [setD_dev hd hd, if_pos rfl, ← he]; exact ⟨rfl, rfl, rfl⟩
/-- it is mended, and asked -/
theorem bkn_mend {S : Pl} {d : Int} (h : Bkn S d) : ∃ S2, S.brk d 5 false = ((⟨5, d, 0, 0, 0⟩, 0), S2) ∧ S2.wrk d = true ∧ S2.hear ⟨6, d, 4, 0, 0⟩ = ((⟨7, d, 4, 0, 0⟩, true), S2) ∧ S2.mv = S.mv := by
  refine ⟨S.setD d { S.dev d with bk := false }, ?_, ?_, ?_, rfl⟩
  · unfold Pl.brk; rw [if_neg (by rw [h.1]; simp)]
  · unfold Pl.wrk; rw [setD_isD, h.1, setD_dev h.1 h.1, if_pos rfl]; rfl
  · unfold Pl.hear
    have hw : (S.setD d { S.dev d with bk := false }).wrk d = true := by unfold Pl.wrk; rw [setD_isD, h.1, setD_dev h.1 h.1, if_pos rfl]; rfl
    rw [if_neg (by rw [hw]; simp), if_neg (by simp), if_pos rfl]
    unfold Pl.ask
    simp only [setD_dev h.1 h.1, if_pos, h.2.2.1, h.2.2.2]
set_option maxRecDepth 100000 in
set_option maxHeartbeats 8000000 in
theorem faults_any (a b : Option Addr) (c e n m : Nat) (ns : List Nd) (es : List Ed) (an : Option Addr) (ln cn : Nat) (zn : List Op) (n2 : Int) (w : World) (L : Lyt w a b c e n m ns es) (hln : zn.length = ln) (hn : Ops w (.slice an ln cn) zn) :
    Calls Try.prog 7 #[.agg #[.slice a n c, .slice b m e], .slice an ln cn, .int .i64 n2] w fun e w' => e = .returned (.bool true) ∧ Below w.heap.size w w' := by
  have I1 : Hid (Its w [.box w.heap.size #[.slice a n c, .slice b m e] 25] (w.alloc (.cells #[.slice a n c, .slice b m e] 25))) := hide ((Its.nil w).box1 #[.slice a n c, .slice b m e] 25)
  have XL : Hid (∀ W, Its w [.box w.heap.size #[.slice a n c, .slice b m e] 25] W → W.cell? ⟨w.heap.size, 0, none⟩ = some (.slice a n c) ∧ W.cell? ⟨w.heap.size, 1, none⟩ = some (.slice b m e)) := hide (fun W h => h.lbox1)
  obtain ⟨u0, u1⟩ := XL.out _ I1.out
  have HL := hide L
  have Hln := hide hln
  have Hn := hide hn
  clear hln hn
  by_cases hfew : n ≤ 60 ∧ m ≤ 200
  case neg =>
    have hd : decide (n ≤ 60 ∧ m ≤ 200) = false := decide_eq_false hfew
    clear L hfew
    go_enter Try.func7, Try.ntmps7
    go_wp2_with (first
      | (go_at_call 9; refine (awake_any _).mono ?_; rintro e1 W4 ⟨rfl, q⟩; have I4 := hide (I3.out.keep q); clear q)
      | (go_at_call 10; refine few_any.mono ?_; rintro e1 W3 ⟨rfl, q⟩; have I3 := hide (I2.out.keep q); clear q; obtain ⟨y0, y1⟩ := XL.out _ I3.out)
      | (go_at_call 9; refine (awake_any _).mono ?_; rintro e1 W2 ⟨rfl, q⟩; have I2 := hide (I1.out.keep q); clear q; obtain ⟨u0, u1⟩ := XL.out _ I2.out))
    go_ret
    exact ⟨rfl, I4.out.bel⟩
  case pos =>
  have hd : decide (n ≤ 60 ∧ m ≤ 200) = true := decide_eq_true hfew
  clear hfew
  cases hg : good ns es with
  | false =>
    have KN : Hid (∀ W, Its w [.box w.heap.size #[.slice a n c, .slice b m e] 25] W → Calls Try.prog 12 #[.agg #[.slice a n c, .slice b m e]] W fun e w' => e = .returned (.tuple #[.pointer none, .int .i64 61]) ∧ Below W.heap.size W w') := hide (fun W h => new_no (h.keepL L) hg)
    clear L hg
    go_enter Try.func7, Try.ntmps7
    go_wp2_with (first
      | (go_at_call 12; refine (KN.out _ I3.out).mono ?_; rintro e1 W5 ⟨rfl, q⟩; have I5 := hide (I3.out.keep q); clear q)
      | (go_at_call 10; refine few_any.mono ?_; rintro e1 W3 ⟨rfl, q⟩; have I3 := hide (I2.out.keep q); clear q; obtain ⟨y0, y1⟩ := XL.out _ I3.out)
      | (go_at_call 9; refine (awake_any _).mono ?_; rintro e1 W2 ⟨rfl, q⟩; have I2 := hide (I1.out.keep q); clear q; obtain ⟨u0, u1⟩ := XL.out _ I2.out))
    go_ret
    exact ⟨by first | rfl | simp, I5.out.bel⟩
  | true =>
  have KN : Hid (∀ W, Its w [.box w.heap.size #[.slice a n c, .slice b m e] 25] W → Calls Try.prog 12 #[.agg #[.slice a n c, .slice b m e]] W fun e w' => NewP W n m es e w') := hide (fun W h => new_ok (h.keepL L) hg)
  have hOk0 : (Pl.nw n es).Ok n es := by
    obtain ⟨g1, g2, g3⟩ := good_he hg
    rw [L.hn] at g1 g3
    exact Pl.nw_ok g1 g2 g3
  have hmv0 : (Pl.nw n es).mv = 0 := rfl
  obtain ⟨S0, hS0⟩ : ∃ S0, Pl.nw n es = S0 := ⟨_, rfl⟩
  rw [hS0] at hOk0 hmv0
  replace hS0 := hide hS0
  have HOk0 := hide hOk0
  have Hmv0 := hide hmv0
  clear hOk0 hmv0
  have i0 : Hid (m ≤ 120) := hide (by obtain ⟨g1, g2, g3⟩ := good_he hg; rw [L.hm] at g2; exact g2)
  have Hgd := hide hg
  clear L hg
  go_enter Try.func7, Try.ntmps7
  go_upto_region 4 with (first
    | (go_at_call 12; refine (KN.out _ I3.out).mono ?_; rintro e1 W5 ⟨g, H, rfl, q⟩; have I5 := hide (I3.out.addm q); rw [hS0.out] at I5; clear q; obtain ⟨v0, v1⟩ := I5.out.lbox)
    | (go_at_call 10; refine few_any.mono ?_; rintro e1 W3 ⟨rfl, q⟩; have I3 := hide (I2.out.keep q); clear q; obtain ⟨y0, y1⟩ := XL.out _ I3.out)
    | (go_at_call 9; refine (awake_any _).mono ?_; rintro e1 W2 ⟨rfl, q⟩; have I2 := hide (I1.out.keep q); clear q; obtain ⟨u0, u1⟩ := XL.out _ I2.out))
  have I7 := I5
  obtain ⟨v0, v1⟩ := I7.out.lbox
  clear u0 u1 y0 y1 KN I1 I2 I3 I5 XL
  by_cases hm0 : m = 0
  case pos =>
    have h0 : (m : Int) = 0 := by omega
    go_wp2_with fail
    go_ret
    exact ⟨rfl, I7.out.bel⟩
  case neg =>
  have h0 : ((m : Int) == 0) = false := beq_eq_false_iff_ne.2 (by omega)
  have h1 : ¬ (m : Int) = 0 := by omega
  have hm1 : 1 ≤ m := by omega
  obtain ⟨k, hk1, hk2⟩ := few2 n2 m ⟨hm1, by have := i0.out; omega⟩
  have r1 : IntKind.u64.wrap (m : Int) = (m : Int) := by have := i0.out; simp [IntKind.wrap, IntKind.bits, IntKind.signed]; omega
  have r2 : wrap64 ((k : Int) + 1) = (k : Int) + 1 := by have := i0.out; unfold wrap64; omega
  obtain ⟨S1, hb1, hb2, hb3⟩ := nw_brk (n := n) (es := es) (k := k) (by rw [HL.out.hm]; exact hk2)
  rw [hS0.out] at hb1
  have HK1 := hide hk1
  have HR2 := hide r2
  have HR1 := hide r1
  clear r1 r2 hk1
  go_upto_region 6 with fail
  have r1 := HR1.out
  have r2 := HR2.out
  have hk1 := HK1.out
  go_upto_region 7 with fail
  clear r1 r2 hk1 HK1 HR1 v0 v1 h0 h1
  try rw [HR2.out]
  clear HR2
  obtain ⟨dv, hdv⟩ : ∃ dv : Int, (k : Int) + 1 = dv := ⟨_, rfl⟩
  rw [hdv] at hb1 hb2
  try rw [hdv]
  have Hdv : Hid (1 ≤ dv ∧ dv ≤ 120) := hide (by have := i0.out; omega)
  have HB1 := hide hb2
  have Hmv1 := hide hb3
  have r3 : IntKind.u16.wrap dv = dv := by have := Hdv.out; simp [IntKind.wrap, IntKind.bits, IntKind.signed]; omega
  have KP := hide (breakS I7.out dv)
  rw [hb1] at KP
  unfold SP tv at KP
  dsimp only at KP
  clear hb1 hb2 hb3 hdv hk2 hm0 hm1
  go_upto_block 0 with (go_at_call 19; refine KP.out.mono ?_; rintro e1 W6 ⟨rfl, q⟩; have I8 := hide (q.box1 #[.int .u8 4, .int .u16 dv, .int .u16 0, .int .u16 0, .int .u16 0] 45); clear q; obtain ⟨y0, y1, y2, y3, y4, yf⟩ := Its.cells5 I8.out)
  have I9 := hide I8.out.tail
  clear y0 y1 y2 y3 y4 yf I8 I7 KP HOk0 Hmv0 hS0 Hgd r3
  go_cut [11] (fun v11 wx => ∃ (S : Pl), Hid (Bkn S dv) ∧ Hid (S.mv ≤ 100) ∧ Hid (Its w (.pla w.heap.size g H n m es S :: [.box w.heap.size #[.slice a n c, .slice b m e] 25]) wx))
  case first =>
    generalize W6.alloc (.cells #[.int .u8 4, .int .u16 dv, .int .u16 0, .int .u16 0, .int .u16 0] 45) = W7 at *
    go_wp2_with fail
    go_loopw [11] (fun v11 wr => ∃ (i : Nat) (S : Pl), v11 = .int .i64 i ∧ i ≤ 100 ∧ Hid (Bkn S dv) ∧ Hid (S.mv ≤ i) ∧ Hid (Its w (.pla w.heap.size g H n m es S :: [.box w.heap.size #[.slice a n c, .slice b m e] 25]) wr)) (fun v11 _ => 100 - (intOf v11).toNat)
    case atStart => exact ⟨0, S1, rfl, by omega, HB1, hide (by rw [Hmv1.out]; decide), I9⟩
    case round =>
      clear HB1 Hmv1 I9
      obtain ⟨i, S, rfl, hi, HB, Hmv, HR⟩ := hrel
      by_cases hil : i < ln
      case neg =>
        have q1 : ¬ (i : Int) < (ln : Int) := by omega
        go_wp2_with fail
        go_meet
        exact ⟨S, HB, hide (by have := Hmv.out; omega), HR⟩
      case pos =>
      have q1 : (i : Int) < (ln : Int) := by omega
      by_cases hi5 : i < 100
      case neg =>
        have q2 : ¬ (i : Int) < 100 := by omega
        go_wp2_with fail
        go_meet
        exact ⟨S, HB, hide (by have := Hmv.out; omega), HR⟩
      case pos =>
      have q2 : (i : Int) < 100 := by omega
      have q0 : (0 : Int) ≤ (i : Int) := by omega
      obtain ⟨p, hp⟩ : ∃ p, zn[i]? = some p := ⟨_, List.getElem?_eq_getElem (by rw [Hln.out]; exact hil)⟩
      have XN : Hid (∀ W, Below w.heap.size w W → ∃ b0 o0, an = some ⟨b0, o0, none⟩ ∧ W.cell? ⟨b0, o0 + i * 8, none⟩ = some (.int .i64 p.kind) ∧ W.cell? ⟨b0, o0 + i * 8 + 1, none⟩ = some (.int .i64 p.a) ∧ W.cell? ⟨b0, o0 + i * 8 + 2, none⟩ = some (.int .i64 p.b) ∧ W.cell? ⟨b0, o0 + i * 8 + 3, none⟩ = some (.int .u8 p.t.k) ∧ W.cell? ⟨b0, o0 + i * 8 + 4, none⟩ = some (.int .u16 p.t.d) ∧ W.cell? ⟨b0, o0 + i * 8 + 5, none⟩ = some (.int .u16 p.t.s) ∧ W.cell? ⟨b0, o0 + i * 8 + 6, none⟩ = some (.int .u16 p.t.a) ∧ W.cell? ⟨b0, o0 + i * 8 + 7, none⟩ = some (.int .u16 p.t.b)) := hide (fun W h => by
        obtain ⟨b0, o0, q1, _, q2⟩ := (Hn.out.keep h).at i p hp
        exact ⟨b0, o0, q1, q2⟩)
      have HIn : Hid p.t.In := hide (Hn.out.2 p (List.mem_of_getElem? hp))
      obtain ⟨b0, o0, rfl, n0, n1, n2, n3, n4, n5, n6, n7⟩ := XN.out _ HR.out.bel
      clear XN hp
      obtain ⟨kd, xa, xb, ⟨tk, td, ts, ta, tb⟩⟩ := p
      dsimp only at *
      obtain ⟨go, hgo⟩ : ∃ go, wr.heap.size = go := ⟨_, rfl⟩
      have J1 : Hid (Its w (.box go #[.int .i64 kd, .int .i64 xa, .int .i64 xb, .int .u8 tk, .int .u16 td, .int .u16 ts, .int .u16 ta, .int .u16 tb] 47 :: .pla w.heap.size g H n m es S :: [.box w.heap.size #[.slice a n c, .slice b m e] 25]) (wr.alloc (.cells #[.int .i64 kd, .int .i64 xa, .int .i64 xb, .int .u8 tk, .int .u16 td, .int .u16 ts, .int .u16 ta, .int .u16 tb] 47))) := hide (HR.out.boxN #[.int .i64 kd, .int .i64 xa, .int .i64 xb, .int .u8 tk, .int .u16 td, .int .u16 ts, .int .u16 ta, .int .u16 tb] 47 hgo)
      go_upto_region 14 with fail
      try rw [hgo]
      generalize wr.alloc (.cells #[.int .i64 kd, .int .i64 xa, .int .i64 xb, .int .u8 tk, .int .u16 td, .int .u16 ts, .int .u16 ta, .int .u16 tb] 47) = W1 at *
      clear n0 n1 n2 n3 n4 n5 n6 n7 hgo
      have XC : Hid (∀ W l, Its w (.box go #[.int .i64 kd, .int .i64 xa, .int .i64 xb, .int .u8 tk, .int .u16 td, .int .u16 ts, .int .u16 ta, .int .u16 tb] 47 :: l) W → W.cell? ⟨go, 0, none⟩ = some (.int .i64 kd) ∧ W.cell? ⟨go, 1, none⟩ = some (.int .i64 xa) ∧ W.cell? ⟨go, 2, none⟩ = some (.int .i64 xb) ∧ W.cell? ⟨go, 3, none⟩ = some (.int .u8 tk) ∧ W.cell? ⟨go, 4, none⟩ = some (.int .u16 td) ∧ W.cell? ⟨go, 5, none⟩ = some (.int .u16 ts) ∧ W.cell? ⟨go, 6, none⟩ = some (.int .u16 ta) ∧ W.cell? ⟨go, 7, none⟩ = some (.int .u16 tb)) := hide (fun W l h => ⟨(cells_at h.one 0).1, (cells_at h.one 1).1, (cells_at h.one 2).1, (cells_at h.one 3).1, (cells_at h.one 4).1, (cells_at h.one 5).1, (cells_at h.one 6).1, (cells_at h.one 7).1⟩)
      obtain ⟨c0, c1, c2, c3, c4, c5, c6, c7⟩ := XC.out _ _ J1.out
      by_cases k1 : kd = 1
      · subst k1
        have KP := hide (putS J1.out.swap xa xb)
        have HE := hide (put_dev S xa xb 1).2.2
        replace HB := hide (HB.out.put xa xb)
        generalize S.put xa xb = P at *
        obtain ⟨cd, S1⟩ := P
        dsimp only at *
        have KW : Hid (∀ W l, Its w (.pla w.heap.size g H n m es S1 :: l) W → Calls Try.prog 26 #[.pointer (some ⟨g, 0, none⟩), .int .i64 dv] W fun r9 w' => r9 = .returned (.bool false) ∧ w' = W) := hide (fun W l hW => by
          have := works_m hW.one dv
          rw [HB.out.off] at this
          exact this)
        go_wp2_with (first
          | (go_at_call 26; refine (KW.out _ _ J2.out).mono ?_; rintro e1 W9 ⟨rfl, rfl⟩)
          | (go_at_call 15; refine KP.out.mono ?_; rintro e1 W2 ⟨rfl, q⟩; have J2 := hide q; clear q))
        go_roundw
        case rel => exact ⟨i + 1, S1, by go_num, by omega, hide (HB.out), hide (by have := Hmv.out; have := HE.out; omega), hide J2.out.swap.tail⟩
        case measure => simp [intOf]; omega
      have k1' : (kd == 1) = false := beq_eq_false_iff_ne.2 k1
      by_cases k2 : kd = 2
      · subst k2
        have HM := hide (hear_mv S ⟨tk, td, ts, ta, tb⟩)
        have K1 := hide (hearS J1.out.swap ⟨tk, td, ts, ta, tb⟩ HIn.out (by have := Hmv.out; omega))
        have KM0 : Hid (∀ W l, Its w (.pla w.heap.size g H n m es S :: l) W → Calls Try.prog 23 #[.pointer (some ⟨g, 0, none⟩)] W fun r9 w' => r9 = .returned (.int .i64 S.mv) ∧ w' = W) := hide (fun W l hW => moves_m hW.one)
        have rd : IntKind.i64.wrap td = td := by have := HIn.out.2.1; rw [IntKind.wrap_i64]; simp only at this; omega
        by_cases z : td = dv
        · subst z
          rw [HB.out.hear_no] at K1 HM
          unfold HP tv tz at K1
          dsimp only at K1 HM
          have KW : Hid (∀ W l, Its w (.pla w.heap.size g H n m es S :: l) W → Calls Try.prog 26 #[.pointer (some ⟨g, 0, none⟩), .int .i64 td] W fun r9 w' => r9 = .returned (.bool false) ∧ w' = W) := hide (fun W l hW => by
            have := works_m hW.one td
            rw [HB.out.off] at this
            exact this)
          have rm : (S.mv == S.mv) = true := by simp
          obtain ⟨mv, hmv⟩ : ∃ mv, S.mv = mv := ⟨_, rfl⟩
          rw [hmv] at KM0 rm
          clear hmv
          go_wp2_with (first
            | (go_at_call 26; refine (KW.out _ _ J3.out.tail).mono ?_; rintro e1 W9 ⟨rfl, rfl⟩)
            | (go_at_call 23; refine (KM0.out _ _ J3.out.tail).mono ?_; rintro e1 W8 ⟨rfl, rfl⟩)
            | (go_at_call 17; refine K1.out.mono ?_; rintro e1 W2 ⟨rfl, q⟩; have J3 := hide (q.box1 #[.int .u8 0, .int .u16 0, .int .u16 0, .int .u16 0, .int .u16 0] 45); clear q; obtain ⟨d0, d1, d2, d3, d4, d5, d6, d7⟩ := XC.out _ _ J3.out.tail.tail)
            | (go_at_call 23; refine (KM0.out _ _ J1.out.swap).mono ?_; rintro e1 W8 ⟨rfl, rfl⟩))
          go_roundw
          case rel => exact ⟨i + 1, S, by go_num, by omega, hide (HB.out), hide (by have := Hmv.out; omega), hide J3.out.tail.swap.tail⟩
          case measure => simp [intOf]; omega
        · have z' : (td == dv) = false := beq_eq_false_iff_ne.2 z
          replace HB := hide (HB.out.hear ⟨tk, td, ts, ta, tb⟩)
          generalize S.hear ⟨tk, td, ts, ta, tb⟩ = P at *
          obtain ⟨⟨⟨ak, ad, az, aa, ab⟩, ob⟩, S1⟩ := P
          unfold HP tv at K1
          dsimp only at *
          have KW : Hid (∀ W l, Its w (.pla w.heap.size g H n m es S1 :: l) W → Calls Try.prog 26 #[.pointer (some ⟨g, 0, none⟩), .int .i64 dv] W fun r9 w' => r9 = .returned (.bool false) ∧ w' = W) := hide (fun W l hW => by
            have := works_m hW.one dv
            rw [HB.out.off] at this
            exact this)
          go_wp2_with (first
            | (go_at_call 26; refine (KW.out _ _ J3.out.tail).mono ?_; rintro e1 W9 ⟨rfl, rfl⟩)
            | (go_at_call 17; refine K1.out.mono ?_; rintro e1 W2 ⟨rfl, q⟩; have J3 := hide (q.box1 #[.int .u8 ak, .int .u16 ad, .int .u16 az, .int .u16 aa, .int .u16 ab] 45); clear q; obtain ⟨d0, d1, d2, d3, d4, d5, d6, d7⟩ := XC.out _ _ J3.out.tail.tail)
            | (go_at_call 23; refine (KM0.out _ _ J1.out.swap).mono ?_; rintro e1 W8 ⟨rfl, rfl⟩))
          go_roundw
          case rel => exact ⟨i + 1, S1, by go_num, by omega, hide (HB.out), hide (by have := Hmv.out; have := HM.out; omega), hide J3.out.tail.swap.tail⟩
          case measure => simp [intOf]; omega
      have k2' : (kd == 2) = false := beq_eq_false_iff_ne.2 k2
      by_cases k3 : kd = 3
      · subst k3
        have KP := hide (breakS J1.out.swap xa)
        have HE := hide (brk_mv S xa 4 true)
        replace HB := hide (HB.out.brk xa 4 true (.inr rfl))
        generalize S.brk xa 4 true = P at *
        obtain ⟨⟨⟨ak, ad, az, aa, ab⟩, cd⟩, S1⟩ := P
        unfold SP tv at KP
        dsimp only at *
        have KW : Hid (∀ W l, Its w (.pla w.heap.size g H n m es S1 :: l) W → Calls Try.prog 26 #[.pointer (some ⟨g, 0, none⟩), .int .i64 dv] W fun r9 w' => r9 = .returned (.bool false) ∧ w' = W) := hide (fun W l hW => by
          have := works_m hW.one dv
          rw [HB.out.off] at this
          exact this)
        go_wp2_with (first
          | (go_at_call 26; refine (KW.out _ _ J2.out).mono ?_; rintro e1 W9 ⟨rfl, rfl⟩)
          | (go_at_call 19; refine KP.out.mono ?_; rintro e1 W2 ⟨rfl, q⟩; have J2 := hide q; clear q))
        go_roundw
        case rel => exact ⟨i + 1, S1, by go_num, by omega, hide (HB.out), hide (by have := Hmv.out; have := HE.out; omega), hide J2.out.swap.tail⟩
        case measure => simp [intOf]; omega
      have k3' : (kd == 3) = false := beq_eq_false_iff_ne.2 k3
      by_cases k4 : kd = 4
      · subst k4
        by_cases z : xa = dv
        · subst z
          have KW : Hid (∀ W l, Its w (.pla w.heap.size g H n m es S :: l) W → Calls Try.prog 26 #[.pointer (some ⟨g, 0, none⟩), .int .i64 xa] W fun r9 w' => r9 = .returned (.bool false) ∧ w' = W) := hide (fun W l hW => by
            have := works_m hW.one xa
            rw [HB.out.off] at this
            exact this)
          go_wp2_with (go_at_call 26; refine (KW.out _ _ J1.out.swap).mono ?_; rintro e1 W9 ⟨rfl, rfl⟩)
          go_roundw
          case rel => exact ⟨i + 1, S, by go_num, by omega, hide (HB.out), hide (by have := Hmv.out; omega), hide (Its.tail J1.out)⟩
          case measure => simp [intOf]; omega
        · have z' : (xa == dv) = false := beq_eq_false_iff_ne.2 z
          have KP := hide (mendS J1.out.swap xa)
          have HE := hide (brk_mv S xa 5 false)
          replace HB := hide (HB.out.brk xa 5 false (.inl z))
          generalize S.brk xa 5 false = P at *
          obtain ⟨⟨⟨ak, ad, az, aa, ab⟩, cd⟩, S1⟩ := P
          unfold SP tv at KP
          dsimp only at *
          have KW : Hid (∀ W l, Its w (.pla w.heap.size g H n m es S1 :: l) W → Calls Try.prog 26 #[.pointer (some ⟨g, 0, none⟩), .int .i64 dv] W fun r9 w' => r9 = .returned (.bool false) ∧ w' = W) := hide (fun W l hW => by
            have := works_m hW.one dv
            rw [HB.out.off] at this
            exact this)
          go_wp2_with (first
            | (go_at_call 26; refine (KW.out _ _ J2.out).mono ?_; rintro e1 W9 ⟨rfl, rfl⟩)
            | (go_at_call 21; refine KP.out.mono ?_; rintro e1 W2 ⟨rfl, q⟩; have J2 := hide q; clear q))
          go_roundw
          case rel => exact ⟨i + 1, S1, by go_num, by omega, hide (HB.out), hide (by have := Hmv.out; have := HE.out; omega), hide J2.out.swap.tail⟩
          case measure => simp [intOf]; omega
      have k4' : (kd == 4) = false := beq_eq_false_iff_ne.2 k4
      have KW : Hid (∀ W l, Its w (.pla w.heap.size g H n m es S :: l) W → Calls Try.prog 26 #[.pointer (some ⟨g, 0, none⟩), .int .i64 dv] W fun r9 w' => r9 = .returned (.bool false) ∧ w' = W) := hide (fun W l hW => by
        have := works_m hW.one dv
        rw [HB.out.off] at this
        exact this)
      go_wp2_with (go_at_call 26; refine (KW.out _ _ J1.out.swap).mono ?_; rintro e1 W9 ⟨rfl, rfl⟩)
      go_roundw
      case rel => exact ⟨i + 1, S, by go_num, by omega, hide (HB.out), hide (by have := Hmv.out; omega), hide (Its.tail J1.out)⟩
      case measure => simp [intOf]; omega
  case rest =>
  clear HB1 Hmv1 I9 Hln Hn
  obtain ⟨S, HB, Hmv, HR⟩ := hcut
  obtain ⟨wA, rfl⟩ : ∃ W, W = wc := ⟨_, rfl⟩
  obtain ⟨S2, m1, m2, m3, m4⟩ := bkn_mend HB.out
  have KP := hide (mendS HR.out dv)
  rw [m1] at KP
  unfold SP tv at KP
  dsimp only at KP
  have KH : Hid (∀ W l, Its w (.pla w.heap.size g H n m es S2 :: l) W → Calls Try.prog 17 #[.pointer (some ⟨g, 0, none⟩), .agg #[.int .u8 6, .int .u16 dv, .int .u16 4, .int .u16 0, .int .u16 0]] W fun r9 w' => r9 = .returned (.tuple #[.agg #[.int .u8 7, .int .u16 dv, .int .u16 4, .int .u16 0, .int .u16 0], .bool true]) ∧ Its w (.pla w.heap.size g H n m es S2 :: l) w') := hide (fun W l hW => by
    have k := hearS hW ⟨6, dv, 4, 0, 0⟩ (by have := Hdv.out; unfold Tl.In; simp only; omega) (by have := Hmv.out; omega)
    rw [m3] at k
    exact k)
  have KW : Hid (∀ W l, Its w (.pla w.heap.size g H n m es S2 :: l) W → Calls Try.prog 26 #[.pointer (some ⟨g, 0, none⟩), .int .i64 dv] W fun r9 w' => r9 = .returned (.bool true) ∧ w' = W) := hide (fun W l hW => by
    have := works_m hW.one dv
    rw [m2] at this
    exact this)
  have r3 : IntKind.u16.wrap dv = dv := by have := Hdv.out; simp [IntKind.wrap, IntKind.bits, IntKind.signed]; omega
  clear m1 m2 m3 m4
  go_wp2_with (first
    | (go_at_call 26; refine (KW.out _ _ J3.out.tail).mono ?_; rintro e1 W9 ⟨rfl, rfl⟩)
    | (go_at_call 17; refine (KH.out _ _ J2.out.swap).mono ?_; rintro e1 W4 ⟨rfl, q⟩; have J3 := hide (q.box1 #[.int .u8 7, .int .u16 dv, .int .u16 4, .int .u16 0, .int .u16 0] 45); clear q; obtain ⟨x0, x1, x2, x3, x4, xf⟩ := Its.cells5 J3.out; obtain ⟨y0, y1, y2, y3, y4, yf⟩ := Its.cells5 J3.out.tail.tail)
    | (go_at_call 21; refine KP.out.mono ?_; rintro e1 W2 ⟨rfl, q⟩; have J2 := hide (q.box1 #[.int .u8 5, .int .u16 dv, .int .u16 0, .int .u16 0, .int .u16 0] 45); clear q))
  go_ret
  exact ⟨by first | rfl | simp, J3.out.bel⟩
end Go.Proofs.Ythcdfclhenmleaa

