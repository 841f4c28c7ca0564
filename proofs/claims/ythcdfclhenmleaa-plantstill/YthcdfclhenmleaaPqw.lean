/- The walk of PlantStill. -/
import Derived.Test.YthcdfclhenmleaaPag
import Derived.Test.YthcdfclhenmleaaPmu
import Derived.Test.YthcdfclhenmleaaPtm
import Derived.Deep.CutBlock
namespace Go.Proofs.Ythcdfclhenmleaa
open Go.RowKit
set_option linter.unusedVariables false
set_option maxRecDepth 100000 in
set_option maxHeartbeats 8000000 in
theorem still_any (a b : Option Addr) (c e n m : Nat) (ns : List Nd) (es : List Ed) (an : Option Addr) (ln cn : Nat) (zn : List Op) (w : World) (L : Lyt w a b c e n m ns es) (hln : zn.length = ln) (hn : Ops w (.slice an ln cn) zn) :
    Calls Try.prog 4 #[.agg #[.slice a n c, .slice b m e], .slice an ln cn] w fun e w' => e = .returned (.bool true) ∧ Below w.heap.size w w' := by
  have I1 : Hid (Its w [.box w.heap.size #[.slice a n c, .slice b m e] 25] (w.alloc (.cells #[.slice a n c, .slice b m e] 25))) := hide ((Its.nil w).box1 #[.slice a n c, .slice b m e] 25)
  have XL : Hid (∀ W, Its w [.box w.heap.size #[.slice a n c, .slice b m e] 25] W → W.cell? ⟨w.heap.size, 0, none⟩ = some (.slice a n c) ∧ W.cell? ⟨w.heap.size, 1, none⟩ = some (.slice b m e)) := hide (fun W h => h.lbox1)
  obtain ⟨u0, u1⟩ := XL.out _ I1.out
  have HL := hide L
  have Hln := hide hln
  have Hn := hide hn
  clear hln hn
  by_cases hfew : n ≤ 60 ∧ m ≤ 200
  case neg =>
    have hd : decide (n ≤ 60 ∧ m ≤ 200) = false := decide_eq_false hfew
    clear L hfew
    go_enter Try.func4, Try.ntmps4
    go_wp2_with (first
      | (go_at_call 9; refine (awake_any _).mono ?_; rintro e1 W4 ⟨rfl, q⟩; have I4 := hide (I3.out.keep q); clear q)
      | (go_at_call 10; refine few_any.mono ?_; rintro e1 W3 ⟨rfl, q⟩; have I3 := hide (I2.out.keep q); clear q; obtain ⟨y0, y1⟩ := XL.out _ I3.out)
      | (go_at_call 9; refine (awake_any _).mono ?_; rintro e1 W2 ⟨rfl, q⟩; have I2 := hide (I1.out.keep q); clear q; obtain ⟨u0, u1⟩ := XL.out _ I2.out))
    go_ret
    exact ⟨rfl, I4.out.bel⟩
  case pos =>
  have hd : decide (n ≤ 60 ∧ m ≤ 200) = true := decide_eq_true hfew
  clear hfew
  cases hg : good ns es with
  | false =>
    have KN : Hid (∀ W, Its w [.box w.heap.size #[.slice a n c, .slice b m e] 25] W → Calls Try.prog 12 #[.agg #[.slice a n c, .slice b m e]] W fun e w' => e = .returned (.tuple #[.pointer none, .int .i64 61]) ∧ Below W.heap.size W w') := hide (fun W h => new_no (h.keepL L) hg)
    clear L hg
    go_enter Try.func4, Try.ntmps4
    go_wp2_with (first
      | (go_at_call 12; refine (KN.out _ I3.out).mono ?_; rintro e1 W5 ⟨rfl, q⟩; have I5 := hide (I3.out.keep q); clear q)
      | (go_at_call 10; refine few_any.mono ?_; rintro e1 W3 ⟨rfl, q⟩; have I3 := hide (I2.out.keep q); clear q; obtain ⟨y0, y1⟩ := XL.out _ I3.out)
      | (go_at_call 9; refine (awake_any _).mono ?_; rintro e1 W2 ⟨rfl, q⟩; have I2 := hide (I1.out.keep q); clear q; obtain ⟨u0, u1⟩ := XL.out _ I2.out))
    go_ret
    exact ⟨by first | rfl | simp, I5.out.bel⟩
  | true =>
  have KN : Hid (∀ W, Its w [.box w.heap.size #[.slice a n c, .slice b m e] 25] W → Calls Try.prog 12 #[.agg #[.slice a n c, .slice b m e]] W fun e w' => NewP W n m es e w') := hide (fun W h => new_ok (h.keepL L) hg)
  have hOk0 : (Pl.nw n es).Ok n es := by
    obtain ⟨g1, g2, g3⟩ := good_he hg
    rw [L.hn] at g1 g3
    exact Pl.nw_ok g1 g2 g3
  have hmv0 : (Pl.nw n es).mv = 0 := rfl
  obtain ⟨S0, hS0⟩ : ∃ S0, Pl.nw n es = S0 := ⟨_, rfl⟩
  rw [hS0] at hOk0 hmv0
  replace hS0 := hide hS0
  have HOk0 := hide hOk0
  have Hmv0 := hide hmv0
  clear hOk0 hmv0
  have i0 : Hid (m ≤ 120) := hide (by obtain ⟨g1, g2, g3⟩ := good_he hg; rw [L.hm] at g2; exact g2)
  have Hgd := hide hg
  clear L hg
  go_enter Try.func4, Try.ntmps4
  go_upto_region 6 with (first
    | (go_at_call 12; refine (KN.out _ I3.out).mono ?_; rintro e1 W5 ⟨g, H, rfl, q⟩; have I5 := hide (I3.out.addm q); rw [hS0.out] at I5; clear q; obtain ⟨v0, v1⟩ := I5.out.lbox)
    | (go_at_call 10; refine few_any.mono ?_; rintro e1 W3 ⟨rfl, q⟩; have I3 := hide (I2.out.keep q); clear q; obtain ⟨y0, y1⟩ := XL.out _ I3.out)
    | (go_at_call 9; refine (awake_any _).mono ?_; rintro e1 W2 ⟨rfl, q⟩; have I2 := hide (I1.out.keep q); clear q; obtain ⟨u0, u1⟩ := XL.out _ I2.out))
  have I7 := I5
  have I8 : Hid (Its w (.box W5.heap.size ((List.replicate 31 (0 : Int)).map (Value.int .i64)).toArray 60 :: .pla w.heap.size g H n m es S0 :: [.box w.heap.size #[.slice a n c, .slice b m e] 25]) (W5.alloc (.cells #[.int .i64 0, .int .i64 0, .int .i64 0, .int .i64 0, .int .i64 0, .int .i64 0, .int .i64 0, .int .i64 0, .int .i64 0, .int .i64 0, .int .i64 0, .int .i64 0, .int .i64 0, .int .i64 0, .int .i64 0, .int .i64 0, .int .i64 0, .int .i64 0, .int .i64 0, .int .i64 0, .int .i64 0, .int .i64 0, .int .i64 0, .int .i64 0, .int .i64 0, .int .i64 0, .int .i64 0, .int .i64 0, .int .i64 0, .int .i64 0, .int .i64 0] 60))) := hide (I7.out.box1 #[.int .i64 0, .int .i64 0, .int .i64 0, .int .i64 0, .int .i64 0, .int .i64 0, .int .i64 0, .int .i64 0, .int .i64 0, .int .i64 0, .int .i64 0, .int .i64 0, .int .i64 0, .int .i64 0, .int .i64 0, .int .i64 0, .int .i64 0, .int .i64 0, .int .i64 0, .int .i64 0, .int .i64 0, .int .i64 0, .int .i64 0, .int .i64 0, .int .i64 0, .int .i64 0, .int .i64 0, .int .i64 0, .int .i64 0, .int .i64 0, .int .i64 0] 60)
  go_upto_region 7 with fail
  obtain ⟨bw, hbw⟩ : ∃ bw, W5.heap.size = bw := ⟨_, rfl⟩
  rw [hbw] at I8
  try rw [hbw]
  generalize W5.alloc (.cells #[.int .i64 0, .int .i64 0, .int .i64 0, .int .i64 0, .int .i64 0, .int .i64 0, .int .i64 0, .int .i64 0, .int .i64 0, .int .i64 0, .int .i64 0, .int .i64 0, .int .i64 0, .int .i64 0, .int .i64 0, .int .i64 0, .int .i64 0, .int .i64 0, .int .i64 0, .int .i64 0, .int .i64 0, .int .i64 0, .int .i64 0, .int .i64 0, .int .i64 0, .int .i64 0, .int .i64 0, .int .i64 0, .int .i64 0, .int .i64 0, .int .i64 0] 60) = W6 at *
  have HW0 : Hid (wsL S0 = List.replicate 31 (-1)) := hide (by rw [← hS0.out]; exact wsL_nw n es)
  clear u0 u1 v0 v1 y0 y1 KN I1 I2 I3 I5 I7 XL hbw hS0 HOk0 Hgd
  go_wp2_with fail
  go_loopw [36] (fun v36 wr => ∃ (k : Nat) (Lw : List Int), v36 = .int .i64 k ∧ k ≤ 31 ∧ Lw.length = 31 ∧ Hid (∀ j : Nat, j < k → Lw[j]? = some (-1)) ∧ Hid (Its w (.box bw ((Lw).map (Value.int .i64)).toArray 60 :: .pla w.heap.size g H n m es S0 :: [.box w.heap.size #[.slice a n c, .slice b m e] 25]) wr)) (fun v36 _ => 31 - (intOf v36).toNat)
  case atStart => exact ⟨0, _, rfl, by omega, by simp, hide (fun j h => by omega), I8⟩
  case round =>
  clear I8
  obtain ⟨k, Lw, rfl, hk, hLw, HLw, HR⟩ := hrel
  by_cases hk31 : k < 31
  case pos =>
    have p1 : (k : Int) < 31 := by omega
    have p0 : (0 : Int) ≤ (k : Int) := by omega
    obtain ⟨x, hx⟩ : ∃ x, Lw[k]? = some x := ⟨_, List.getElem?_eq_getElem (by omega)⟩
    obtain ⟨z0, z1⟩ := tb_at (Value.int .i64) HR.out.one hx
    have HR2 : Hid (Its w (.box bw ((Lw.set k (-1)).map (Value.int .i64)).toArray 60 :: .pla w.heap.size g H n m es S0 :: [.box w.heap.size #[.slice a n c, .slice b m e] 25]) (wr.setCell ⟨bw, k, none⟩ (.int .i64 (-1)))) := hide (by have := HR.out.put1 k (.int .i64 (-1)); rw [tb_set (Value.int .i64)] at this; exact this)
    have HL2 : Hid (∀ j : Nat, j < k + 1 → (Lw.set k (-1))[j]? = some (-1)) := hide (fun j hj => by
      by_cases e : k = j
      · subst e; rw [List.getElem?_set, if_pos rfl, if_pos (by omega)]
      · rw [set_off e]; exact HLw.out j (by omega))
    clear hx
    go_wp2_with fail
    go_roundw
    case rel => exact ⟨k + 1, _, by go_num, by omega, by rw [List.length_set]; exact hLw, HL2, HR2⟩
    case measure => simp [intOf]; omega
  case neg =>
  have p1 : ¬ (k : Int) < 31 := by omega
  have I9 : Hid (Its w (.pla w.heap.size g H n m es S0 :: .box bw ((wsL S0).map (Value.int .i64)).toArray 60 :: [.box w.heap.size #[.slice a n c, .slice b m e] 25]) wr) := hide (by
    have e : Lw = wsL S0 := by
      rw [HW0.out, List.eq_replicate_iff]
      refine ⟨hLw, fun b hb => ?_⟩
      obtain ⟨j, hj⟩ := List.getElem?_of_mem hb
      have hj2 := idx_lt hj
      rw [HLw.out j (by omega)] at hj
      exact (Option.some.inj hj).symm
    rw [← e]
    exact HR.out.swap)
  clear HR HLw hLw HW0
  go_wp2_with fail
  obtain ⟨wA, rfl⟩ : ∃ W, W = wr := ⟨_, rfl⟩
  go_loopw [9] (fun v9 wr => ∃ (i : Nat) (S : Pl), v9 = .int .i64 i ∧ i ≤ 150 ∧ Hid (S.mv ≤ i) ∧ Hid (Its w (.pla w.heap.size g H n m es S :: .box bw ((wsL S).map (Value.int .i64)).toArray 60 :: [.box w.heap.size #[.slice a n c, .slice b m e] 25]) wr)) (fun v9 _ => 150 - (intOf v9).toNat)
  case atStart => exact ⟨0, S0, rfl, by omega, hide (by rw [Hmv0.out]; decide), I9⟩
  case round =>
    clear Hmv0 I9
    obtain ⟨i, S, rfl, hi, Hmv, HR⟩ := hrel
    by_cases hil : i < ln
    case neg =>
      have q1 : ¬ (i : Int) < (ln : Int) := by omega
      go_wp2_with fail
      go_ret
      exact ⟨rfl, HR.out.bel⟩
    case pos =>
    have q1 : (i : Int) < (ln : Int) := by omega
    by_cases hi5 : i < 150
    case neg =>
      have q2 : ¬ (i : Int) < 150 := by omega
      go_wp2_with fail
      go_ret
      exact ⟨rfl, HR.out.bel⟩
    case pos =>
    have q2 : (i : Int) < 150 := by omega
    have q0 : (0 : Int) ≤ (i : Int) := by omega
    obtain ⟨p, hp⟩ : ∃ p, zn[i]? = some p := ⟨_, List.getElem?_eq_getElem (by rw [Hln.out]; exact hil)⟩
    have XN : Hid (∀ W, Below w.heap.size w W → ∃ b0 o0, an = some ⟨b0, o0, none⟩ ∧ W.cell? ⟨b0, o0 + i * 8, none⟩ = some (.int .i64 p.kind) ∧ W.cell? ⟨b0, o0 + i * 8 + 1, none⟩ = some (.int .i64 p.a) ∧ W.cell? ⟨b0, o0 + i * 8 + 2, none⟩ = some (.int .i64 p.b) ∧ W.cell? ⟨b0, o0 + i * 8 + 3, none⟩ = some (.int .u8 p.t.k) ∧ W.cell? ⟨b0, o0 + i * 8 + 4, none⟩ = some (.int .u16 p.t.d) ∧ W.cell? ⟨b0, o0 + i * 8 + 5, none⟩ = some (.int .u16 p.t.s) ∧ W.cell? ⟨b0, o0 + i * 8 + 6, none⟩ = some (.int .u16 p.t.a) ∧ W.cell? ⟨b0, o0 + i * 8 + 7, none⟩ = some (.int .u16 p.t.b)) := hide (fun W h => by
      obtain ⟨b0, o0, q1, _, q2⟩ := (Hn.out.keep h).at i p hp
      exact ⟨b0, o0, q1, q2⟩)
    have HIn : Hid p.t.In := hide (Hn.out.2 p (List.mem_of_getElem? hp))
    obtain ⟨b0, o0, rfl, n0, n1, n2, n3, n4, n5, n6, n7⟩ := XN.out _ HR.out.bel
    clear XN hp
    obtain ⟨kd, xa, xb, ⟨tk, td, ts, ta, tb⟩⟩ := p
    dsimp only at *
    obtain ⟨go, hgo⟩ : ∃ go, wr.heap.size = go := ⟨_, rfl⟩
    have J1 : Hid (Its w (.box go #[.int .i64 kd, .int .i64 xa, .int .i64 xb, .int .u8 tk, .int .u16 td, .int .u16 ts, .int .u16 ta, .int .u16 tb] 47 :: .pla w.heap.size g H n m es S :: .box bw ((wsL S).map (Value.int .i64)).toArray 60 :: [.box w.heap.size #[.slice a n c, .slice b m e] 25]) (wr.alloc (.cells #[.int .i64 kd, .int .i64 xa, .int .i64 xb, .int .u8 tk, .int .u16 td, .int .u16 ts, .int .u16 ta, .int .u16 tb] 47))) := hide (HR.out.boxN #[.int .i64 kd, .int .i64 xa, .int .i64 xb, .int .u8 tk, .int .u16 td, .int .u16 ts, .int .u16 ta, .int .u16 tb] 47 hgo)
    go_upto_region 16 with fail
    try rw [hgo]
    generalize wr.alloc (.cells #[.int .i64 kd, .int .i64 xa, .int .i64 xb, .int .u8 tk, .int .u16 td, .int .u16 ts, .int .u16 ta, .int .u16 tb] 47) = W1 at *
    clear n0 n1 n2 n3 n4 n5 n6 n7 hgo
    have XC : Hid (∀ W l, Its w (.box go #[.int .i64 kd, .int .i64 xa, .int .i64 xb, .int .u8 tk, .int .u16 td, .int .u16 ts, .int .u16 ta, .int .u16 tb] 47 :: l) W → W.cell? ⟨go, 0, none⟩ = some (.int .i64 kd) ∧ W.cell? ⟨go, 1, none⟩ = some (.int .i64 xa) ∧ W.cell? ⟨go, 2, none⟩ = some (.int .i64 xb) ∧ W.cell? ⟨go, 3, none⟩ = some (.int .u8 tk) ∧ W.cell? ⟨go, 4, none⟩ = some (.int .u16 td) ∧ W.cell? ⟨go, 5, none⟩ = some (.int .u16 ts) ∧ W.cell? ⟨go, 6, none⟩ = some (.int .u16 ta) ∧ W.cell? ⟨go, 7, none⟩ = some (.int .u16 tb)) := hide (fun W l h => ⟨(cells_at h.one 0).1, (cells_at h.one 1).1, (cells_at h.one 2).1, (cells_at h.one 3).1, (cells_at h.one 4).1, (cells_at h.one 5).1, (cells_at h.one 6).1, (cells_at h.one 7).1⟩)
    obtain ⟨c0, c1, c2, c3, c4, c5, c6, c7⟩ := XC.out _ _ J1.out
    have KM0 : Hid (∀ W l, Its w (.pla w.heap.size g H n m es S :: l) W → Calls Try.prog 23 #[.pointer (some ⟨g, 0, none⟩)] W fun r9 w' => r9 = .returned (.int .i64 S.mv) ∧ w' = W) := hide (fun W l hW => moves_m hW.one)
    have hok := pl_ok J1.out.two
    have Hok := hide hok
    have b1 : 0 ≤ S.mv := hok.m0
    have b2 : S.mv ≤ 150 := by have := Hmv.out; omega
    obtain ⟨mv, hmv⟩ : ∃ mv, S.mv = mv := ⟨_, rfl⟩
    rw [hmv] at KM0 b1 b2
    have Hmm := hide hmv
    clear hok hmv
    go_upto_region 17 with (go_at_call 23; refine (KM0.out _ _ J1.out.swap).mono ?_; rintro e1 W2 ⟨rfl, rfl⟩)
    go_upto_block 4 with fail
    go_cut [12] (fun v12 wx => ∃ (S : Pl), Hid (S.mv ≤ i + 1) ∧ Hid (Its w (.pla w.heap.size g H n m es S :: .box bw ((wsL S).map (Value.int .i64)).toArray 60 :: [.box w.heap.size #[.slice a n c, .slice b m e] 25]) wx))
    case first =>
      as_aux_lemma =>
        by_cases k1 : kd = 1
        · subst k1
          have KP := hide (putS J1.out.swap xa xb)
          have HE := hide (put_dev S xa xb 1).2.2
          by_cases hc : (S.put xa xb).1 = 0
          case neg =>
            have e9 := put_no hc
            generalize S.put xa xb = P at *
            obtain ⟨cd, S1⟩ := P
            dsimp only at *
            subst e9
            have hc' : (cd == 0) = false := beq_eq_false_iff_ne.2 hc
            go_wp2_with (go_at_call 15; refine KP.out.mono ?_; rintro e1 W3 ⟨rfl, q⟩; have J2 := hide (Its.tail q.swap); clear q)
            go_meet
            exact ⟨S1, hide (by have := Hmv.out; omega), hide J2.out⟩
          case pos =>
            obtain ⟨a1, a2, a3, a4, a5⟩ := put_yes Hok.out hc
            have a1' := isT_iff.1 a1
            obtain ⟨ka, rfl⟩ : ∃ ka : Nat, xa = (ka : Int) := ⟨xa.toNat, by omega⟩
            rw [show ((ka : Int)).toNat = ka by omega] at a5
            have z9 := wsL_at S (t := ka) (by omega)
            rw [a3] at z9
            have HZ := hide z9
            generalize S.put (ka : Int) xb = P at *
            obtain ⟨cd, S1⟩ := P
            dsimp only at *
            subst hc
            have H5 := hide a5
            have KW : Hid (∀ W l, Its w (.pla w.heap.size g H n m es S1 :: l) W → Calls Try.prog 24 #[.pointer (some ⟨g, 0, none⟩), .int .i64 (ka : Int)] W fun r9 w' => r9 = .returned (.int .i64 xb) ∧ w' = W) := hide (fun W l hW => by
              have := where_m hW.one (ka : Int)
              rw [a4] at this
              exact this)
            have g1 : ¬ (ka : Int) < 1 := by omega
            have g2 : ¬ 30 < (ka : Int) := by omega
            have g3 : (0 : Int) ≤ (ka : Int) := by omega
            have g4 : (ka : Int) < 31 := by omega
            have rx : (xb == xb) = true := by simp
            clear a1 a2 a3 a4 a5 a1' z9
            go_upto_region 20 with (go_at_call 15; refine KP.out.mono ?_; rintro e1 W3 ⟨rfl, q⟩; have J2 := hide q; clear q; obtain ⟨z0, z1⟩ := tb_at (Value.int .i64) J2.out.three HZ.out; obtain ⟨d0, d1, d2, d3, d4, d5, d6, d7⟩ := XC.out _ _ J2.out.tail)
            go_quiet ((go_at_call 24; exact Calls.quiet_of_same (KW.out _ _ (J2.out.drew _))))
            have J3 := hide ((J2.out.drew nq).tail.swap)
            have J4 := hide (J2.out.drew nq)
            clear z0 z1 d0 d1 d2 d3 d4 d5 d6 d7
            generalize W3.drewN nq = W4 at *
            obtain ⟨z0, z1⟩ := tb_at (Value.int .i64) J4.out.three HZ.out
            obtain ⟨d0, d1, d2, d3, d4, d5, d6, d7⟩ := XC.out _ _ J4.out.tail
            have J5 : Hid (Its w (.box bw ((wsL S1).map (Value.int .i64)).toArray 60 :: .box go #[.int .i64 1, .int .i64 (ka : Int), .int .i64 xb, .int .u8 tk, .int .u16 td, .int .u16 ts, .int .u16 ta, .int .u16 tb] 47 :: .pla w.heap.size g H n m es S1 :: [.box w.heap.size #[.slice a n c, .slice b m e] 25]) (W4.setCell ⟨bw, ka, none⟩ (.int .i64 xb))) := hide (by
              have := Its.put1 J4.out.rot3 ka (.int .i64 xb)
              rw [tb_set (Value.int .i64), H5.out.symm] at this
              exact this.rot3'.rot3'.swap)
            go_wp2_with fail
            go_meet
            exact ⟨S1, hide (by have := Hmv.out; have := HE.out; omega), hide J5.out.rot3.swap.rot3.tail.swap⟩
        have k1' : (kd == 1) = false := beq_eq_false_iff_ne.2 k1
        by_cases k2 : kd = 2
        · subst k2
          have K1 := hide (hearS J1.out.swap ⟨tk, td, ts, ta, tb⟩ HIn.out (by have := Hmv.out; omega))
          rcases hear_cases S ⟨tk, td, ts, ta, tb⟩ with h9 | ⟨h1, l1, l2, l3, l4, l5, h9⟩
          · generalize S.hear ⟨tk, td, ts, ta, tb⟩ = P at *
            obtain ⟨⟨⟨ak, ad, az, aa, ab⟩, ob⟩, S1⟩ := P
            dsimp only at h9
            subst h9
            unfold HP tv at K1
            dsimp only at *
            have rm : ¬ (mv : Int) < mv := by omega
            go_wp2_with (first
              | (go_at_call 23; refine (KM0.out _ _ J3.out.tail).mono ?_; rintro e1 W8 ⟨rfl, rfl⟩)
              | (go_at_call 17; refine K1.out.mono ?_; rintro e1 W3 ⟨rfl, q⟩; have J3 := hide (q.box1 #[.int .u8 ak, .int .u16 ad, .int .u16 az, .int .u16 aa, .int .u16 ab] 45); clear q))
            go_meet
            exact ⟨S1, hide (by have := Hmv.out; omega), hide J3.out.tail.swap.tail⟩
          · dsimp only at *
            subst l1
            have hd9 := Pl.wrk_isD h1
            have hT := isT_iff.1 (whr_in Hok.out hd9 l4)
            obtain ⟨y1, y2⟩ := go_yes Hok.out HIn.out hd9 l4 l5
            have hedge := Hok.out.edge hd9
            have hD9 := Pl.isD_iff.1 hd9
            rw [Hok.out.len, HL.out.hm] at hD9
            obtain ⟨k9, hk9⟩ : ∃ k9 : Nat, td = (k9 : Int) + 1 := ⟨(td - 1).toNat, by omega⟩
            obtain ⟨ka, hka⟩ : ∃ ka : Nat, ta = (ka : Int) := ⟨ta.toNat, by omega⟩
            subst hka
            dsimp only at y1 y2 hedge l4
            rw [show (td - 1).toNat = k9 by omega] at hedge
            rw [show ((ka : Int)).toNat = ka by omega] at y2
            rw [h9] at K1
            have z9 := wsL_at S (t := ka) (by omega)
            rw [l4] at z9
            obtain ⟨fr, hfr⟩ : ∃ fr, (S.dev td).fr = fr := ⟨_, rfl⟩
            obtain ⟨en, hen⟩ : ∃ en, (S.dev td).en = en := ⟨_, rfl⟩
            rw [hfr] at z9 hedge
            rw [hen] at y1 y2 hedge
            have HZ := hide z9
            unfold HP tv dn at K1
            dsimp only at K1
            have hgv : (S.go ⟨1, td, ts, (ka : Int), tb⟩).mv = mv + 1 := by rw [← Hmm.out]; rfl
            obtain ⟨S1, hS1⟩ : ∃ S1, S.go ⟨1, td, ts, (ka : Int), tb⟩ = S1 := ⟨_, rfl⟩
            rw [hS1] at K1 y1 y2 hgv
            have H5 := hide y2
            have HV1 := hide hgv
            have KM1 : Hid (∀ W l, Its w (.pla w.heap.size g H n m es S1 :: l) W → Calls Try.prog 23 #[.pointer (some ⟨g, 0, none⟩)] W fun r9 w' => r9 = .returned (.int .i64 (mv + 1)) ∧ w' = W) := hide (fun W l hW => by rw [← HV1.out]; exact moves_m hW.one)
            have KW : Hid (∀ W l, Its w (.pla w.heap.size g H n m es S1 :: l) W → Calls Try.prog 24 #[.pointer (some ⟨g, 0, none⟩), .int .i64 (ka : Int)] W fun r9 w' => r9 = .returned (.int .i64 en) ∧ w' = W) := hide (fun W l hW => by
              have := where_m hW.one (ka : Int)
              rw [y1] at this
              exact this)
            have XE : Hid (∀ W, Below w.heap.size w W → ∃ be oe, b = some ⟨be, oe, none⟩ ∧ W.cell? ⟨be, oe + k9 * 2, none⟩ = some (.int .i64 fr) ∧ W.cell? ⟨be, oe + k9 * 2 + 1, none⟩ = some (.int .i64 en)) := hide (fun W hW => ed_at (HL.out.keep hW).hu k9 _ hedge)
            have rm : (mv : Int) < mv + 1 := by omega
            have g1 : ¬ (ka : Int) < 1 := by omega
            have g2 : ¬ 30 < (ka : Int) := by omega
            have g3 : (0 : Int) ≤ (ka : Int) := by omega
            have g4 : (ka : Int) < 31 := by omega
            have g5 : ¬ td < 1 := by omega
            have g6 : (0 : Int) ≤ (k9 : Int) := by omega
            have g7 : (k9 : Int) < (m : Int) := by omega
            have g8 : ¬ (m : Int) < td := by omega
            have g10 : 0 ≤ td := by omega
            have g9 : td ≤ 65535 := by have := HIn.out.2.1; simp only at this; omega
            have ru := hide (show IntKind.u16.wrap (td - 1) = (k9 : Int) by rw [show td - 1 = (k9 : Int) by omega]; simp [IntKind.wrap, IntKind.bits, IntKind.signed]; omega)
            have ra := hide (show IntKind.i64.wrap (ka : Int) = (ka : Int) by rw [IntKind.wrap_i64]; omega)
            have XB : Hid (∀ W x y z u, Its w (x :: y :: z :: u :: [.box w.heap.size #[.slice a n c, .slice b m e] 25]) W → W.cell? ⟨w.heap.size, 0, none⟩ = some (.slice a n c) ∧ W.cell? ⟨w.heap.size, 1, none⟩ = some (.slice b m e)) := hide (fun W x y z u h => h.tail.tail.tail.tail.lbox1)
            clear h1 h9 hd9 hT y1 y2 hedge hD9 z9 hfr hen hgv hS1 l2 l3 l4 l5 hk9
            obtain ⟨be, oe, rfl, _, _⟩ := XE.out _ J1.out.bel
            have XF : Hid (∀ W, Below w.heap.size w W → W.cell? ⟨be, oe + k9 * 2, none⟩ = some (.int .i64 fr) ∧ W.cell? ⟨be, oe + k9 * 2 + 1, none⟩ = some (.int .i64 en)) := hide (fun W hW => by
              obtain ⟨b1, o1, q1, q2⟩ := XE.out W hW
              simp only [Option.some.injEq, Addr.mk.injEq] at q1
              obtain ⟨rfl, rfl, _⟩ := q1
              exact q2)
            clear XE
            go_upto_region 28 with (first
              | (go_at_call 23; refine (KM1.out _ _ J3.out.tail).mono ?_; rintro e1 W8 ⟨rfl, rfl⟩)
              | (go_at_call 17; refine K1.out.mono ?_; rintro e1 W3 ⟨rfl, q⟩; have J3 := hide (q.box1 #[.int .u8 2, .int .u16 td, .int .u16 ts, .int .u16 (ka : Int), .int .u16 0] 45); clear q; obtain ⟨y0, y1, y2, y3, y4, yf⟩ := Its.cells5 J3.out; obtain ⟨d0, d1, d2, d3, d4, d5, d6, d7⟩ := XC.out _ _ J3.out.tail.tail; obtain ⟨v0, v1⟩ := XB.out _ _ _ _ _ J3.out))
            have J4 := hide J3.out.tail
            generalize W3.alloc (.cells #[.int .u8 2, .int .u16 td, .int .u16 ts, .int .u16 (ka : Int), .int .u16 0] 45) = W4 at *
            clear y0 y1 y2 y3 y4 yf J3 g5 g8 b1 b2 rm
            obtain ⟨x0, x1⟩ := XF.out _ J4.out.bel
            have r1 := ru.out
            go_upto_region 29 with fail
            have J5 := hide (J4.out.box1 #[.int .i64 fr, .int .i64 en] 42)
            obtain ⟨gb, hgb⟩ : ∃ gb, W4.heap.size = gb := ⟨_, rfl⟩
            rw [hgb] at J5
            try rw [hgb]
            clear r1 d0 d1 d2 d3 d4 d5 d6 d7 v0 v1 x0 x1 hgb
            generalize W4.alloc (.cells #[.int .i64 fr, .int .i64 en] 42) = W5 at *
            have XG : Hid (∀ W, Its w (.box gb #[.int .i64 fr, .int .i64 en] 42 :: .pla w.heap.size g H n m es S1 :: .box go #[.int .i64 2, .int .i64 xa, .int .i64 xb, .int .u8 1, .int .u16 td, .int .u16 ts, .int .u16 (ka : Int), .int .u16 tb] 47 :: .box bw ((wsL S).map (Value.int .i64)).toArray 60 :: [.box w.heap.size #[.slice a n c, .slice (some ⟨be, oe, none⟩) m e] 25]) W → W.cell? ⟨gb, 0, none⟩ = some (.int .i64 fr) ∧ W.cell? ⟨gb, 1, none⟩ = some (.int .i64 en) ∧ W.cell? ⟨go, 6, none⟩ = some (.int .u16 (ka : Int)) ∧ W.cell? ⟨bw, ka, none⟩ = some (.int .i64 fr) ∧ W.frozen? ⟨bw, ka, none⟩ = false) := hide (fun W h => by
              have t := tb_at (Value.int .i64) h.four HZ.out
              exact ⟨(cells_at h.one 0).1, (cells_at h.one 1).1, (cells_at h.three 6).1, t.1, t.2⟩)
            obtain ⟨x0, x1, x2, x3, x4⟩ := XG.out _ J5.out
            have r2 := ra.out
            have rx : (fr == fr) = true := by simp
            have ry : (en == en) = true := by simp
            go_quiet ((go_at_call 24; exact Calls.quiet_of_same (KW.out _ _ (Its.tail (J5.out.drew _)))))
            have J6 := hide (J5.out.drew nq)
            clear x0 x1 x2 x3 x4
            generalize W5.drewN nq = W6 at *
            obtain ⟨x0, x1, x2, x3, x4⟩ := XG.out _ J6.out
            have J7 : Hid (Its w (.box bw ((wsL S1).map (Value.int .i64)).toArray 60 :: .pla w.heap.size g H n m es S1 :: [.box w.heap.size #[.slice a n c, .slice (some ⟨be, oe, none⟩) m e] 25]) (W6.setCell ⟨bw, ka, none⟩ (.int .i64 en))) := hide (by
              have := Its.put1 (J6.out.tail.swap.tail.swap) ka (.int .i64 en)
              rw [tb_set (Value.int .i64), H5.out.symm] at this
              exact this)
            go_wp2_with fail
            go_meet
            exact ⟨S1, hide (by have := Hmv.out; have := HV1.out; have := Hmm.out; omega), hide J7.out.swap⟩
        have k2' : (kd == 2) = false := beq_eq_false_iff_ne.2 k2
        by_cases k3 : kd = 3
        · subst k3
          have KP := hide (breakS J1.out.swap xa)
          have HE := hide (brk_mv S xa 4 true)
          have HT := hide (wsL_eq (brk_ts S xa 4 true))
          generalize S.brk xa 4 true = P at *
          obtain ⟨⟨⟨ak, ad, az, aa, ab⟩, cd⟩, S1⟩ := P
          unfold SP tv at KP
          dsimp only at *
          go_wp2_with (go_at_call 19; refine KP.out.mono ?_; rintro e1 W3 ⟨rfl, q⟩; have J2 := hide (Its.tail q.swap); clear q)
          rw [HT.out.symm] at J2
          go_meet
          exact ⟨S1, hide (by have := Hmv.out; have := HE.out; omega), hide J2.out⟩
        have k3' : (kd == 3) = false := beq_eq_false_iff_ne.2 k3
        by_cases k4 : kd = 4
        · subst k4
          have KP := hide (mendS J1.out.swap xa)
          have HE := hide (brk_mv S xa 5 false)
          have HT := hide (wsL_eq (brk_ts S xa 5 false))
          generalize S.brk xa 5 false = P at *
          obtain ⟨⟨⟨ak, ad, az, aa, ab⟩, cd⟩, S1⟩ := P
          unfold SP tv at KP
          dsimp only at *
          go_wp2_with (go_at_call 21; refine KP.out.mono ?_; rintro e1 W3 ⟨rfl, q⟩; have J2 := hide (Its.tail q.swap); clear q)
          rw [HT.out.symm] at J2
          go_meet
          exact ⟨S1, hide (by have := Hmv.out; have := HE.out; omega), hide J2.out⟩
        have k4' : (kd == 4) = false := beq_eq_false_iff_ne.2 k4
        go_wp2_with fail
        go_meet
        exact ⟨S, hide (by have := Hmv.out; omega), hide (Its.tail J1.out)⟩
    case rest =>
    as_aux_lemma =>
      clear Hmv J1 XC c0 c1 c2 c3 c4 c5 c6 c7 HR HIn KM0 Hok b1 b2 Hmm
      obtain ⟨S, Hmv, HR⟩ := hcut
      obtain ⟨wB, rfl⟩ : ∃ W, W = wc := ⟨_, rfl⟩
      have hok := pl_ok HR.out.one
      have Hok := hide hok
      have hn40 := hok.n40
      clear hok
      obtain ⟨CI, rI, oI⟩ := made_i n (by omega)
      have HoI := hide oI
      obtain ⟨v0, v1⟩ := Its.lbox1 HR.out.tail.tail
      clear oI
      go_upto_region 37 with fail
      obtain ⟨ge, hge⟩ : ∃ ge, wB.heap.size = ge := ⟨_, rfl⟩
      have I5 : Hid (Its w (.ints w.heap.size (.slice (some ⟨ge, 0, none⟩) n n) (eL S n 1) :: .pla w.heap.size g H n m es S :: .box bw ((wsL S).map (Value.int .i64)).toArray 60 :: [.box w.heap.size #[.slice a n c, .slice b m e] 25]) (wB.alloc (.cells CI 3))) := hide (by
        have := HR.out.fresh (HoI.out wB) (below_new _ _)
        rw [hge, ← eL_one S n] at this
        exact this)
      try rw [hge]
      generalize wB.alloc (.cells CI 3) = wD at *
      clear rI HoI hge v0 v1 HR
      go_wp2_with fail
      go_loopw [16] (fun v16 wr => ∃ (t : Nat), v16 = .int .i64 t ∧ 1 ≤ t ∧ t ≤ 31 ∧ Hid (Its w (.ints w.heap.size (.slice (some ⟨ge, 0, none⟩) n n) (eL S n t) :: .pla w.heap.size g H n m es S :: .box bw ((wsL S).map (Value.int .i64)).toArray 60 :: [.box w.heap.size #[.slice a n c, .slice b m e] 25]) wr)) (fun v16 _ => 31 - (intOf v16).toNat)
      case atStart => exact ⟨1, rfl, by omega, by omega, I5⟩
      case round =>
        clear I5
        obtain ⟨t, rfl, ht1, ht2, HR⟩ := hrel
        by_cases ht30 : t ≤ 30
        case neg =>
          have p5 : ¬ (t : Int) ≤ 30 := by omega
          go_wp2_with fail
          go_roundw
          case rel => exact ⟨i + 1, S, by go_num, by omega, hide (by have := Hmv.out; omega), hide HR.out.tail⟩
          case measure => simp [intOf]; omega
        case pos =>
        have p5 : (t : Int) ≤ 30 := by omega
        have p6 : (0 : Int) ≤ (t : Int) := by omega
        have p7 : (t : Int) < 31 := by omega
        have hT : isT (t : Int) = true := isT_iff.2 (by omega)
        have KW : Hid (∀ W x l, Its w (x :: .pla w.heap.size g H n m es S :: l) W → Calls Try.prog 24 #[.pointer (some ⟨g, 0, none⟩), .int .i64 (t : Int)] W fun r9 w' => r9 = .returned (.int .i64 (S.whr t)) ∧ w' = W) := hide (fun W x l hW => where_m hW.two t)
        have XW : Hid (∀ W x y l, Its w (x :: y :: .box bw ((wsL S).map (Value.int .i64)).toArray 60 :: l) W → W.cell? ⟨bw, t, none⟩ = some (.int .i64 (S.whr t))) := hide (fun W x y l h => (tb_at (Value.int .i64) h.three (wsL_at S (t := t) (by omega))).1)
        have rw9 : (S.whr t == S.whr t) = true := by simp
        rcases whr_bound Hok.out (t := (t : Int)) with hw | ⟨hw1, hw2⟩
        · have HE : Hid (eL S n (t + 1) = eL S n t) := hide (eL_no Hok.out hT hw)
          rw [hw] at KW XW
          clear rw9 hw hT
          have z0 := XW.out _ _ _ _ HR.out
          go_upto_region 40 with fail
          go_quiet ((go_at_call 24; exact Calls.quiet_of_same (KW.out _ _ _ (HR.out.drew _))))
          have I6 := hide (HR.out.drew nq)
          clear z0
          generalize wr.drewN nq = wE at *
          have z0 := XW.out _ _ _ _ I6.out
          go_wp2_with fail
          go_roundw
          case rel => exact ⟨t + 1, by go_num, by omega, by omega, hide (by rw [HE.out]; exact I6.out)⟩
          case measure => simp [intOf]; omega
        · obtain ⟨kw, hkw⟩ : ∃ kw : Nat, S.whr t = (kw : Int) := ⟨(S.whr t).toNat, by omega⟩
          rw [hkw] at hw1 hw2 KW XW rw9
          have hkn : kw < n := by omega
          obtain ⟨f1, f2, f3⟩ := eL_yes Hok.out hT hkw hkn
          have KA : Hid (∀ W x l, Its w (x :: .pla w.heap.size g H n m es S :: l) W → Calls Try.prog 25 #[.pointer (some ⟨g, 0, none⟩), .int .i64 (kw : Int)] W fun r9 w' => r9 = .returned (.int .i64 (t : Int)) ∧ w' = W) := hide (fun W x l hW => by
            have := at_m hW.two (kw : Int)
            rw [f3] at this
            exact this)
          have XN9 : Hid (∀ W l, Its w (.ints w.heap.size (.slice (some ⟨ge, 0, none⟩) n n) (eL S n t) :: l) W → W.cell? ⟨ge, kw, none⟩ = some (.int .i64 0) ∧ W.frozen? ⟨ge, kw, none⟩ = false) := hide (fun W l h => by
            have o1 : intE.Own W w.heap.size (.slice (some ⟨ge, 0, none⟩) n n) (eL S n t) := h.one
            have e : (eL S n t)[kw]? = some (eA S t kw) := rmap_at _ hkn
            rw [f1] at e
            exact El.Own.at1 (Value.int .i64) (fun _ => rfl) rfl o1 kw _ e)
          have HE := hide f2
          have rt : ((t : Int) == (t : Int)) = true := by simp
          clear f1 f2 f3 hT hkw
          have z0 := XW.out _ _ _ _ HR.out
          go_upto_region 40 with fail
          go_quiet ((go_at_call 24; exact Calls.quiet_of_same (KW.out _ _ _ (HR.out.drew _))))
          have I6 := hide (HR.out.drew nq)
          clear z0
          generalize wr.drewN nq = wE at *
          have z0 := XW.out _ _ _ _ I6.out
          obtain ⟨z1, z2⟩ := XN9.out _ _ I6.out
          go_upto_region 44 with fail
          have I7 : Hid (Its w (.ints w.heap.size (.slice (some ⟨ge, 0, none⟩) n n) (eL S n (t + 1)) :: .pla w.heap.size g H n m es S :: .box bw ((wsL S).map (Value.int .i64)).toArray 60 :: [.box w.heap.size #[.slice a n c, .slice b m e] 25]) (wE.setCell ⟨ge, kw, none⟩ (.int .i64 1))) := hide (by
            have := Its.tset I6.out kw 1
            rw [HE.out] at this
            exact this)
          clear z0 z1 z2
          generalize wE.setCell ⟨ge, kw, none⟩ (.int .i64 1) = wF at *
          have z0 := XW.out _ _ _ _ I7.out
          have z1 : wF.cell? ⟨ge, kw, none⟩ = some (.int .i64 1) := by
            have o1 : intE.Own wF w.heap.size (.slice (some ⟨ge, 0, none⟩) n n) (eL S n (t + 1)) := I7.out.one
            have e : (eL S n (t + 1))[kw]? = some 1 := by rw [← HE.out, List.getElem?_set, if_pos rfl, if_pos (by rw [eL_len]; exact hkn)]
            exact (El.Own.at1 (Value.int .i64) (fun _ => rfl) rfl o1 kw _ e).1
          go_wp2_with (go_at_call 25; refine (KA.out _ _ _ I7.out).mono ?_; rintro e1 W8 ⟨rfl, rfl⟩)
          go_roundw
          case rel => exact ⟨t + 1, by go_num, by omega, by omega, I7⟩
          case measure => simp [intOf]; omega
end Go.Proofs.Ythcdfclhenmleaa

