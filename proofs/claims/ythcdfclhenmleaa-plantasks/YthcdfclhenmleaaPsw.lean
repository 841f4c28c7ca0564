/- The walk of PlantAsks. -/
import Derived.Test.YthcdfclhenmleaaPag
import Derived.Test.YthcdfclhenmleaaPmu
import Derived.Test.YthcdfclhenmleaaPsm
import Derived.Deep.CutBlock
namespace Go.Proofs.Ythcdfclhenmleaa
open Go.RowKit
set_option linter.unusedVariables false
set_option maxRecDepth 100000 in
set_option maxHeartbeats 8000000 in
theorem asks_any (a b : Option Addr) (c e n m : Nat) (ns : List Nd) (es : List Ed) (an : Option Addr) (ln cn : Nat) (zn : List Op) (w : World) (L : Lyt w a b c e n m ns es) (hln : zn.length = ln) (hn : Ops w (.slice an ln cn) zn) :
    Calls Try.prog 8 #[.agg #[.slice a n c, .slice b m e], .slice an ln cn] w fun e w' => e = .returned (.bool true) ∧ Below w.heap.size w w' := by
  have I1 : Hid (Its w [.box w.heap.size #[.slice a n c, .slice b m e] 25] (w.alloc (.cells #[.slice a n c, .slice b m e] 25))) := hide ((Its.nil w).box1 #[.slice a n c, .slice b m e] 25)
  have XL : Hid (∀ W, Its w [.box w.heap.size #[.slice a n c, .slice b m e] 25] W → W.cell? ⟨w.heap.size, 0, none⟩ = some (.slice a n c) ∧ W.cell? ⟨w.heap.size, 1, none⟩ = some (.slice b m e)) := hide (fun W h => h.lbox1)
  obtain ⟨u0, u1⟩ := XL.out _ I1.out
  have HL := hide L
  have Hln := hide hln
  have Hn := hide hn
  clear hln hn
  by_cases hfew : n ≤ 60 ∧ m ≤ 200
  case neg =>
    have hd : decide (n ≤ 60 ∧ m ≤ 200) = false := decide_eq_false hfew
    clear L hfew
    go_enter Try.func8, Try.ntmps8
    go_wp2_with (first
      | (go_at_call 9; refine (awake_any _).mono ?_; rintro e1 W4 ⟨rfl, q⟩; have I4 := hide (I3.out.keep q); clear q)
      | (go_at_call 10; refine few_any.mono ?_; rintro e1 W3 ⟨rfl, q⟩; have I3 := hide (I2.out.keep q); clear q; obtain ⟨y0, y1⟩ := XL.out _ I3.out)
      | (go_at_call 9; refine (awake_any _).mono ?_; rintro e1 W2 ⟨rfl, q⟩; have I2 := hide (I1.out.keep q); clear q; obtain ⟨u0, u1⟩ := XL.out _ I2.out))
    go_ret
    exact ⟨rfl, I4.out.bel⟩
  case pos =>
  have hd : decide (n ≤ 60 ∧ m ≤ 200) = true := decide_eq_true hfew
  clear hfew
  cases hg : good ns es with
  | false =>
    have KN : Hid (∀ W, Its w [.box w.heap.size #[.slice a n c, .slice b m e] 25] W → Calls Try.prog 12 #[.agg #[.slice a n c, .slice b m e]] W fun e w' => e = .returned (.tuple #[.pointer none, .int .i64 61]) ∧ Below W.heap.size W w') := hide (fun W h => new_no (h.keepL L) hg)
    clear L hg
    go_enter Try.func8, Try.ntmps8
    go_wp2_with (first
      | (go_at_call 12; refine (KN.out _ I3.out).mono ?_; rintro e1 W5 ⟨rfl, q⟩; have I5 := hide (I3.out.keep q); clear q)
      | (go_at_call 10; refine few_any.mono ?_; rintro e1 W3 ⟨rfl, q⟩; have I3 := hide (I2.out.keep q); clear q; obtain ⟨y0, y1⟩ := XL.out _ I3.out)
      | (go_at_call 9; refine (awake_any _).mono ?_; rintro e1 W2 ⟨rfl, q⟩; have I2 := hide (I1.out.keep q); clear q; obtain ⟨u0, u1⟩ := XL.out _ I2.out))
    go_ret
    exact ⟨by first | rfl | simp, I5.out.bel⟩
  | true =>
  have KN : Hid (∀ W, Its w [.box w.heap.size #[.slice a n c, .slice b m e] 25] W → Calls Try.prog 12 #[.agg #[.slice a n c, .slice b m e]] W fun e w' => NewP W n m es e w') := hide (fun W h => new_ok (h.keepL L) hg)
  have hOk0 : (Pl.nw n es).Ok n es := by
    obtain ⟨g1, g2, g3⟩ := good_he hg
    rw [L.hn] at g1 g3
    exact Pl.nw_ok g1 g2 g3
  have hmv0 : (Pl.nw n es).mv = 0 := rfl
  obtain ⟨S0, hS0⟩ : ∃ S0, Pl.nw n es = S0 := ⟨_, rfl⟩
  rw [hS0] at hOk0 hmv0
  replace hS0 := hide hS0
  have HOk0 := hide hOk0
  have Hmv0 := hide hmv0
  clear hOk0 hmv0
  have i0 : Hid (m ≤ 120) := hide (by obtain ⟨g1, g2, g3⟩ := good_he hg; rw [L.hm] at g2; exact g2)
  have Hgd := hide hg
  clear L hg
  go_enter Try.func8, Try.ntmps8
  go_upto_region 6 with (first
    | (go_at_call 12; refine (KN.out _ I3.out).mono ?_; rintro e1 W5 ⟨g, H, rfl, q⟩; have I5 := hide (I3.out.addm q); rw [hS0.out] at I5; clear q; obtain ⟨v0, v1⟩ := I5.out.lbox)
    | (go_at_call 10; refine few_any.mono ?_; rintro e1 W3 ⟨rfl, q⟩; have I3 := hide (I2.out.keep q); clear q; obtain ⟨y0, y1⟩ := XL.out _ I3.out)
    | (go_at_call 9; refine (awake_any _).mono ?_; rintro e1 W2 ⟨rfl, q⟩; have I2 := hide (I1.out.keep q); clear q; obtain ⟨u0, u1⟩ := XL.out _ I2.out))
  have I7 := I5
  obtain ⟨N, hN⟩ : ∃ N : Nat, m + 1 = N := ⟨_, rfl⟩
  obtain ⟨C, rC, oC⟩ := made_te N (by have := i0.out; omega)
  have HoC := hide oC
  have r1 : wrap64 ((m : Int) + 1) = (N : Int) := by have := i0.out; unfold wrap64; omega
  obtain ⟨v0, v1⟩ := I7.out.lbox
  clear u0 u1 y0 y1 KN I1 I2 I3 I5 XL oC
  go_upto_region 7 with fail
  obtain ⟨q, hq⟩ : ∃ q, W5.heap.size = q := ⟨_, rfl⟩
  have I8 : Hid (Its w (.pla w.heap.size g H n m es S0 :: .row teE w.heap.size (.slice (some ⟨q, 0, none⟩) N N) (List.replicate N tz) :: [.box w.heap.size #[.slice a n c, .slice b m e] 25]) (W5.alloc (.cells C 45))) := hide (by
    have := I7.out.fresh (HoC.out W5) (below_new _ _)
    rw [hq] at this
    exact this.swap)
  have HA0 : Hid (AskI S0 m (List.replicate N tz)) := hide (by rw [← hS0.out, ← hN]; exact AskI.zero HL.out.hm)
  try rw [hq]
  generalize W5.alloc (.cells C 45) = W6 at *
  have HN := hide hN
  clear HoC rC hq I7 r1 v0 v1 hS0 HOk0 Hgd hN
  go_wp2_with fail
  go_loopw [8] (fun v8 wr => ∃ (i : Nat) (S : Pl) (La : List Tl), v8 = .int .i64 i ∧ i ≤ 100 ∧ Hid (AskI S m La) ∧ Hid (S.mv ≤ i) ∧ Hid (Its w (.pla w.heap.size g H n m es S :: .row teE w.heap.size (.slice (some ⟨q, 0, none⟩) N N) La :: [.box w.heap.size #[.slice a n c, .slice b m e] 25]) wr)) (fun v8 _ => 100 - (intOf v8).toNat)
  case atStart => exact ⟨0, S0, _, rfl, by omega, HA0, hide (by rw [Hmv0.out]; decide), I8⟩
  case round =>
    clear HA0 Hmv0 I8
    obtain ⟨i, S, La, rfl, hi, HA, Hmv, HR⟩ := hrel
    by_cases hil : i < ln
    case neg =>
      have q1 : ¬ (i : Int) < (ln : Int) := by omega
      go_wp2_with fail
      go_ret
      exact ⟨rfl, HR.out.bel⟩
    case pos =>
    have q1 : (i : Int) < (ln : Int) := by omega
    by_cases hi5 : i < 100
    case neg =>
      have q2 : ¬ (i : Int) < 100 := by omega
      go_wp2_with fail
      go_ret
      exact ⟨rfl, HR.out.bel⟩
    case pos =>
    have q2 : (i : Int) < 100 := by omega
    have q0 : (0 : Int) ≤ (i : Int) := by omega
    obtain ⟨p, hp⟩ : ∃ p, zn[i]? = some p := ⟨_, List.getElem?_eq_getElem (by rw [Hln.out]; exact hil)⟩
    have XN : Hid (∀ W, Below w.heap.size w W → ∃ b0 o0, an = some ⟨b0, o0, none⟩ ∧ W.cell? ⟨b0, o0 + i * 8, none⟩ = some (.int .i64 p.kind) ∧ W.cell? ⟨b0, o0 + i * 8 + 1, none⟩ = some (.int .i64 p.a) ∧ W.cell? ⟨b0, o0 + i * 8 + 2, none⟩ = some (.int .i64 p.b) ∧ W.cell? ⟨b0, o0 + i * 8 + 3, none⟩ = some (.int .u8 p.t.k) ∧ W.cell? ⟨b0, o0 + i * 8 + 4, none⟩ = some (.int .u16 p.t.d) ∧ W.cell? ⟨b0, o0 + i * 8 + 5, none⟩ = some (.int .u16 p.t.s) ∧ W.cell? ⟨b0, o0 + i * 8 + 6, none⟩ = some (.int .u16 p.t.a) ∧ W.cell? ⟨b0, o0 + i * 8 + 7, none⟩ = some (.int .u16 p.t.b)) := hide (fun W h => by
      obtain ⟨b0, o0, q1, _, q2⟩ := (Hn.out.keep h).at i p hp
      exact ⟨b0, o0, q1, q2⟩)
    have HIn : Hid p.t.In := hide (Hn.out.2 p (List.mem_of_getElem? hp))
    obtain ⟨b0, o0, rfl, n0, n1, n2, n3, n4, n5, n6, n7⟩ := XN.out _ HR.out.bel
    clear XN hp
    obtain ⟨kd, xa, xb, ⟨tk, td, ts, ta, tb⟩⟩ := p
    dsimp only at *
    obtain ⟨go, hgo⟩ : ∃ go, wr.heap.size = go := ⟨_, rfl⟩
    have J1 : Hid (Its w (.box go #[.int .i64 kd, .int .i64 xa, .int .i64 xb, .int .u8 tk, .int .u16 td, .int .u16 ts, .int .u16 ta, .int .u16 tb] 47 :: .pla w.heap.size g H n m es S :: .row teE w.heap.size (.slice (some ⟨q, 0, none⟩) N N) La :: [.box w.heap.size #[.slice a n c, .slice b m e] 25]) (wr.alloc (.cells #[.int .i64 kd, .int .i64 xa, .int .i64 xb, .int .u8 tk, .int .u16 td, .int .u16 ts, .int .u16 ta, .int .u16 tb] 47))) := hide (HR.out.boxN #[.int .i64 kd, .int .i64 xa, .int .i64 xb, .int .u8 tk, .int .u16 td, .int .u16 ts, .int .u16 ta, .int .u16 tb] 47 hgo)
    go_upto_region 11 with fail
    try rw [hgo]
    generalize wr.alloc (.cells #[.int .i64 kd, .int .i64 xa, .int .i64 xb, .int .u8 tk, .int .u16 td, .int .u16 ts, .int .u16 ta, .int .u16 tb] 47) = W1 at *
    clear n0 n1 n2 n3 n4 n5 n6 n7 hgo
    have XC : Hid (∀ W l, Its w (.box go #[.int .i64 kd, .int .i64 xa, .int .i64 xb, .int .u8 tk, .int .u16 td, .int .u16 ts, .int .u16 ta, .int .u16 tb] 47 :: l) W → W.cell? ⟨go, 0, none⟩ = some (.int .i64 kd) ∧ W.cell? ⟨go, 1, none⟩ = some (.int .i64 xa) ∧ W.cell? ⟨go, 2, none⟩ = some (.int .i64 xb) ∧ W.cell? ⟨go, 3, none⟩ = some (.int .u8 tk) ∧ W.cell? ⟨go, 4, none⟩ = some (.int .u16 td) ∧ W.cell? ⟨go, 5, none⟩ = some (.int .u16 ts) ∧ W.cell? ⟨go, 6, none⟩ = some (.int .u16 ta) ∧ W.cell? ⟨go, 7, none⟩ = some (.int .u16 tb)) := hide (fun W l h => ⟨(cells_at h.one 0).1, (cells_at h.one 1).1, (cells_at h.one 2).1, (cells_at h.one 3).1, (cells_at h.one 4).1, (cells_at h.one 5).1, (cells_at h.one 6).1, (cells_at h.one 7).1⟩)
    obtain ⟨c0, c1, c2, c3, c4, c5, c6, c7⟩ := XC.out _ _ J1.out
    go_upto_block 2 with fail
    go_cut [10] (fun v10 wx => ∃ (S : Pl) (La : List Tl), Hid (AskI S m La) ∧ Hid (S.mv ≤ i + 1) ∧ Hid (Its w (.pla w.heap.size g H n m es S :: .row teE w.heap.size (.slice (some ⟨q, 0, none⟩) N N) La :: [.box w.heap.size #[.slice a n c, .slice b m e] 25]) wx))
    case first =>
      by_cases k1 : kd = 1
      · subst k1
        have KP := hide (putS J1.out.swap xa xb)
        have HE := hide (put_dev S xa xb 1).2.2
        replace HA := hide (HA.out.put xa xb)
        generalize S.put xa xb = P at *
        obtain ⟨cd, S1⟩ := P
        dsimp only at *
        go_wp2_with (go_at_call 15; refine KP.out.mono ?_; rintro e1 W2 ⟨rfl, q⟩; have J2 := hide (Its.tail q.swap); clear q)
        go_meet
        exact ⟨S1, La, hide (HA.out), hide (by have := Hmv.out; have := HE.out; omega), hide J2.out⟩
      have k1' : (kd == 1) = false := beq_eq_false_iff_ne.2 k1
      by_cases k2 : kd = 2
      · subst k2
        have hok := pl_ok J1.out.two
        have KM0 : Hid (∀ W l, Its w (.pla w.heap.size g H n m es S :: l) W → Calls Try.prog 23 #[.pointer (some ⟨g, 0, none⟩)] W fun r9 w' => r9 = .returned (.int .i64 S.mv) ∧ w' = W) := hide (fun W l hW => moves_m hW.one)
        have K1 := hide (hearS J1.out.swap ⟨tk, td, ts, ta, tb⟩ HIn.out (by have := Hmv.out; omega))
        rcases hear_cases S ⟨tk, td, ts, ta, tb⟩ with h9 | ⟨h1, l1, l2, l3, l4, l5, h9⟩
        · generalize S.hear ⟨tk, td, ts, ta, tb⟩ = P at *
          obtain ⟨⟨⟨ak, ad, az, aa, ab⟩, ob⟩, S1⟩ := P
          dsimp only at h9
          subst h9
          unfold HP tv at K1
          dsimp only at *
          have rm : ¬ (S1.mv : Int) < S1.mv := by omega
          obtain ⟨mv, hmv⟩ : ∃ mv, S1.mv = mv := ⟨_, rfl⟩
          rw [hmv] at KM0 rm
          clear hmv hok
          go_wp2_with (first
            | (go_at_call 23; refine (KM0.out _ _ J3.out.tail).mono ?_; rintro e1 W8 ⟨rfl, rfl⟩)
            | (go_at_call 17; refine K1.out.mono ?_; rintro e1 W2 ⟨rfl, q⟩; have J3 := hide (q.box1 #[.int .u8 ak, .int .u16 ad, .int .u16 az, .int .u16 aa, .int .u16 ab] 45); clear q)
            | (go_at_call 23; refine (KM0.out _ _ J1.out.swap).mono ?_; rintro e1 W8 ⟨rfl, rfl⟩))
          go_meet
          exact ⟨S1, La, hide (HA.out), hide (by have := Hmv.out; omega), hide J3.out.tail.swap.tail⟩
        · have hd9 := Pl.wrk_isD h1
          obtain ⟨q9, hq9⟩ : ∃ q9 : Nat, td = (q9 : Int) := ⟨td.toNat, by have := HIn.out.2.1; simp only at this; omega⟩
          subst hq9
          have hq9 : q9 < N := by
            have := Pl.isD_iff.1 hd9
            rw [HA.out.2.1] at this
            dsimp only at this
            have := HN.out
            omega
          have HA2 := hide (HA.out.go (t := ⟨tk, (q9 : Int), ts, ta, tb⟩) (q := q9) hd9 rfl)
          have hx9 : ∃ x, La[q9]? = some x := ⟨_, List.getElem?_eq_getElem (by rw [HA.out.1, HN.out]; exact hq9)⟩
          rw [h9] at K1
          unfold HP tv dn at K1
          dsimp only at K1 h1
          obtain ⟨S1, hS1⟩ : ∃ S1, S.go ⟨tk, (q9 : Int), ts, ta, tb⟩ = S1 := ⟨_, rfl⟩
          have hv1 : S1.mv = S.mv + 1 := by rw [← hS1]; rfl
          rw [hS1] at K1 HA2
          have HV1 := hide hv1
          have KM1 : Hid (∀ W l, Its w (.pla w.heap.size g H n m es S1 :: l) W → Calls Try.prog 23 #[.pointer (some ⟨g, 0, none⟩)] W fun r9 w' => r9 = .returned (.int .i64 (S.mv + 1)) ∧ w' = W) := hide (fun W l hW => by rw [← HV1.out]; exact moves_m hW.one)
          have rm : (S.mv : Int) < S.mv + 1 := by omega
          obtain ⟨mv, hmv⟩ : ∃ mv, S.mv = mv := ⟨_, rfl⟩
          rw [hmv] at KM0 KM1 rm
          have g1 : (0 : Int) ≤ (q9 : Int) := by omega
          have g2 : (q9 : Int) < (N : Int) := by omega
          have g3 : ¬ (N : Int) ≤ (q9 : Int) := by omega
          have g5 : (q9 : Int) ≤ 65535 := by have := HIn.out.2.1; simp only at this; omega
          have X9 : Hid (∀ W l x, La[q9]? = some x → Its w (.row teE w.heap.size (.slice (some ⟨q, 0, none⟩) N N) La :: l) W → (W.cell? ⟨q, q9 * 5, none⟩ = some (.int .u8 x.k) ∧ W.cell? ⟨q, q9 * 5 + 1, none⟩ = some (.int .u16 x.d) ∧ W.cell? ⟨q, q9 * 5 + 2, none⟩ = some (.int .u16 x.s) ∧ W.cell? ⟨q, q9 * 5 + 3, none⟩ = some (.int .u16 x.a) ∧ W.cell? ⟨q, q9 * 5 + 4, none⟩ = some (.int .u16 x.b)) ∧ ∀ j, j < 5 → W.frozen? ⟨q, q9 * 5 + j, none⟩ = false) := hide (fun W l x hx hW => by
            have o1 : teE.Own W w.heap.size (.slice (some ⟨q, 0, none⟩) N N) La := hW.one
            refine ⟨te_at o1.rd q9 x hx, fun j hj => (o1.cell (q9 * 5 + j) (by show q9 * 5 + j < La.length * 5; have := idx_lt hx; omega)).2.1⟩)
          obtain ⟨x9, hx9⟩ := hx9
          have Hx9 := hide hx9
          clear hmv hok hv1 hS1 h9 hx9 h1 hd9 l1 l2 l3 l4 l5
          go_upto_region 20 with (first
            | (go_at_call 23; refine (KM1.out _ _ J3.out.tail).mono ?_; rintro e1 W8 ⟨rfl, rfl⟩)
            | (go_at_call 17; refine K1.out.mono ?_; rintro e1 W2 ⟨rfl, q⟩; have J3 := hide (q.box1 #[.int .u8 2, .int .u16 (q9 : Int), .int .u16 ts, .int .u16 ta, .int .u16 0] 45); clear q; obtain ⟨y0, y1, y2, y3, y4, yf⟩ := Its.cells5 J3.out)
            | (go_at_call 23; refine (KM0.out _ _ J1.out.swap).mono ?_; rintro e1 W8 ⟨rfl, rfl⟩))
          have J4 := hide (J3.out.tail.swap.tail.swap)
          generalize W2.alloc (.cells #[.int .u8 2, .int .u16 (q9 : Int), .int .u16 ts, .int .u16 ta, .int .u16 0] 45) = W3 at *
          obtain ⟨⟨s0, s1, s2, s3, s4⟩, sf⟩ := X9.out _ _ _ Hx9.out J4.out
          have f0 := sf 0 (by omega)
          have f1 := sf 1 (by omega)
          have f2 := sf 2 (by omega)
          have f3 := sf 3 (by omega)
          have f4 := sf 4 (by omega)
          rw [Nat.add_zero] at f0
          have J5 := hide (Its.te5 J4.out Hx9.out ⟨2, (q9 : Int), ts, ta, 0⟩).swap
          dsimp only at J5
          go_wp2_with fail
          go_meet
          exact ⟨S1, _, hide (HA2.out), hide (by have := Hmv.out; have := HV1.out; omega), hide J5.out⟩
      have k2' : (kd == 2) = false := beq_eq_false_iff_ne.2 k2
      by_cases k3 : kd = 3
      · subst k3
        have KP := hide (breakS J1.out.swap xa)
        have HE := hide (brk_mv S xa 4 true)
        replace HA := hide (HA.out.brk xa 4 true)
        generalize S.brk xa 4 true = P at *
        obtain ⟨⟨⟨ak, ad, az, aa, ab⟩, cd⟩, S1⟩ := P
        unfold SP tv at KP
        dsimp only at *
        go_wp2_with (go_at_call 19; refine KP.out.mono ?_; rintro e1 W2 ⟨rfl, q⟩; have J2 := hide (Its.tail q.swap); clear q)
        go_meet
        exact ⟨S1, La, hide (HA.out), hide (by have := Hmv.out; have := HE.out; omega), hide J2.out⟩
      have k3' : (kd == 3) = false := beq_eq_false_iff_ne.2 k3
      by_cases k4 : kd = 4
      · subst k4
        have KP := hide (mendS J1.out.swap xa)
        have HE := hide (brk_mv S xa 5 false)
        replace HA := hide (HA.out.brk xa 5 false)
        generalize S.brk xa 5 false = P at *
        obtain ⟨⟨⟨ak, ad, az, aa, ab⟩, cd⟩, S1⟩ := P
        unfold SP tv at KP
        dsimp only at *
        go_wp2_with (go_at_call 21; refine KP.out.mono ?_; rintro e1 W2 ⟨rfl, q⟩; have J2 := hide (Its.tail q.swap); clear q)
        go_meet
        exact ⟨S1, La, hide (HA.out), hide (by have := Hmv.out; have := HE.out; omega), hide J2.out⟩
      have k4' : (kd == 4) = false := beq_eq_false_iff_ne.2 k4
      go_wp2_with fail
      go_meet
      exact ⟨S, La, hide (HA.out), hide (by have := Hmv.out; omega), hide (Its.tail J1.out)⟩
    case rest =>
    clear HA Hmv J1 XC c0 c1 c2 c3 c4 c5 c6 c7 HR HIn
    obtain ⟨S, La, HA, Hmv, HR⟩ := hcut
    obtain ⟨wB, rfl⟩ : ∃ W, W = wc := ⟨_, rfl⟩
    have KM : Hid (∀ W l, Its w (.pla w.heap.size g H n m es S :: l) W → Calls Try.prog 23 #[.pointer (some ⟨g, 0, none⟩)] W fun r9 w' => r9 = .returned (.int .i64 S.mv) ∧ w' = W) := hide (fun W l hW => moves_m hW.one)
    have XL : Hid (∀ W, Its w (.pla w.heap.size g H n m es S :: .row teE w.heap.size (.slice (some ⟨q, 0, none⟩) N N) La :: [.box w.heap.size #[.slice a n c, .slice b m e] 25]) W → W.cell? ⟨w.heap.size, 0, none⟩ = some (.slice a n c) ∧ W.cell? ⟨w.heap.size, 1, none⟩ = some (.slice b m e)) := hide (fun W h => h.tail.tail.lbox1)
    have ri : IntKind.u16.wrap (i : Int) = (i : Int) := by simp [IntKind.wrap, IntKind.bits, IntKind.signed]; omega
    obtain ⟨mv, hmv⟩ : ∃ mv, S.mv = mv := ⟨_, rfl⟩
    rw [hmv] at KM
    have rm : (mv == mv) = true := by simp
    clear hmv
    go_upto_region 26 with fail
    go_loopw [13] (fun v13 wr => ∃ (d : Nat), v13 = .int .i64 d ∧ 1 ≤ d ∧ d ≤ m + 1 ∧ Hid (Its w (.pla w.heap.size g H n m es S :: .row teE w.heap.size (.slice (some ⟨q, 0, none⟩) N N) La :: [.box w.heap.size #[.slice a n c, .slice b m e] 25]) wr)) (fun v13 _ => m + 1 - (intOf v13).toNat)
    case atStart => exact ⟨1, rfl, by omega, by omega, HR⟩
    case round =>
      clear HR
      obtain ⟨d, rfl, hd1, hd2, HR⟩ := hrel
      obtain ⟨v0, v1⟩ := XL.out _ HR.out
      by_cases hdm : d ≤ m
      case neg =>
        have p1 : ¬ (d : Int) ≤ (m : Int) := by omega
        go_wp2_with fail
        go_roundw
        case rel => exact ⟨i + 1, S, La, by go_num, by omega, HA, hide (by have := Hmv.out; omega), HR⟩
        case measure => simp [intOf]; omega
      case pos =>
      have p1 : (d : Int) ≤ (m : Int) := by omega
      have p0 : (0 : Int) ≤ (d : Int) := by omega
      have p3 : (d : Int) ≤ 120 := by have := i0.out; omega
      have hN2 := HN.out
      have p2 : (d : Int) < (N : Int) := by omega
      have m120 := i0.out
      have rd : IntKind.u16.wrap (d : Int) = (d : Int) := by simp [IntKind.wrap, IntKind.bits, IntKind.signed]; omega
      clear m120 hN2
      obtain ⟨x, hx1, hx2, hx3⟩ := HA.out.2.2 d hd1 hdm
      have Hx := hide hx1
      have KH0 := hearS HR.out ⟨6, (d : Int), (i : Int), 0, 0⟩ (by have := i0.out; unfold Tl.In; simp only; omega) (by have := Hmv.out; omega)
      rw [ask_any, hx2, hx3] at KH0
      have KW : Hid (∀ W l, Its w (.pla w.heap.size g H n m es S :: l) W → Calls Try.prog 26 #[.pointer (some ⟨g, 0, none⟩), .int .i64 (d : Int)] W fun r9 w' => r9 = .returned (.bool (S.wrk d)) ∧ w' = W) := hide (fun W l hW => works_m hW.one d)
      have XR : Hid (∀ W l, Its w (.row teE w.heap.size (.slice (some ⟨q, 0, none⟩) N N) La :: l) W → W.cell? ⟨q, d * 5 + 2, none⟩ = some (.int .u16 x.s) ∧ W.cell? ⟨q, d * 5 + 3, none⟩ = some (.int .u16 x.a)) := hide (fun W l hW => by
        have o1 : teE.Own W w.heap.size (.slice (some ⟨q, 0, none⟩) N N) La := hW.one
        have t := te_at o1.rd d x Hx.out
        exact ⟨t.2.2.1, t.2.2.2.1⟩)
      generalize S.wrk d = wk at *
      clear hx1 hx2 hx3
      obtain ⟨xk, xd, xs, xa9, xb9⟩ := x
      dsimp only at *
      cases wk with
      | true =>
        rw [if_pos rfl] at KH0
        unfold HP tv at KH0
        dsimp only at KH0
        have KH := hide KH0
        clear KH0
        go_upto_region 30 with (first
          | (go_at_call 17; refine KH.out.mono ?_; rintro e1 W2 ⟨rfl, q⟩; have J3 := hide (q.box1 #[.int .u8 7, .int .u16 (d : Int), .int .u16 (i : Int), .int .u16 xs, .int .u16 xa9] 45); clear q)
          | (go_at_call 23; refine (KM.out _ _ HR.out).mono ?_; rintro e1 W8 ⟨rfl, rfl⟩))
        obtain ⟨y0, y1, y2, y3, y4, yf⟩ := Its.cells5 J3.out
        obtain ⟨z0, z1⟩ := XR.out _ _ J3.out.tail.tail
        go_quiet (first
          | (go_at_call 26; exact Calls.quiet_of_same (KW.out _ _ (Its.tail (J3.out.drew _))))
          | (go_at_call 23; exact Calls.quiet_of_same (KM.out _ _ (Its.tail (J3.out.drew _)))))
        have J4 := hide (J3.out.drew nq)
        go_wp2_with fail
        have m120 := i0.out
        go_roundw
        case rel => exact ⟨d + 1, by go_num, by omega, by omega, hide J4.out.tail⟩
        case measure => simp [intOf]; omega
      | false =>
        rw [if_neg (by simp)] at KH0
        unfold HP tv tz at KH0
        dsimp only at KH0
        have KH := hide KH0
        clear KH0
        go_upto_region 30 with (first
          | (go_at_call 17; refine KH.out.mono ?_; rintro e1 W2 ⟨rfl, q⟩; have J3 := hide (q.box1 #[.int .u8 0, .int .u16 0, .int .u16 0, .int .u16 0, .int .u16 0] 45); clear q)
          | (go_at_call 23; refine (KM.out _ _ HR.out).mono ?_; rintro e1 W8 ⟨rfl, rfl⟩))
        go_quiet (first
          | (go_at_call 26; exact Calls.quiet_of_same (KW.out _ _ (Its.tail (J3.out.drew _))))
          | (go_at_call 23; exact Calls.quiet_of_same (KM.out _ _ (Its.tail (J3.out.drew _)))))
        have J4 := hide (J3.out.drew nq)
        go_wp2_with fail
        have m120 := i0.out
        go_roundw
        case rel => exact ⟨d + 1, by go_num, by omega, by omega, hide J4.out.tail⟩
        case measure => simp [intOf]; omega
end Go.Proofs.Ythcdfclhenmleaa

