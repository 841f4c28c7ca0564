/- The walk of MirrorOne. -/
import Derived.Test.YtlnnpdghcilioaaMag
import Derived.Test.YtlnnpdghcilioaaMom
namespace Go.Proofs.Ytlnnpdghcilioaa
open Go.RowKit
set_option linter.unusedVariables false
theorem Its.left {w0 w : World} {l r : List It} (h : Its w0 (l ++ r) w) : Its w0 l w :=
  ⟨h.bel, fun x hx => h.all x (List.mem_append.2 (.inl hx)), fun x hx => h.ge x (List.mem_append.2 (.inl hx)), (List.pairwise_append.1 h.sep).1⟩
theorem Its.rot5 {w0 w : World} {x y z t u : It} {l : List It} (h : Its w0 (x :: y :: z :: t :: u :: l) w) : Its w0 (u :: x :: y :: z :: t :: l) w :=
  h.perm ((List.Perm.cons x ((List.Perm.cons y ((List.Perm.cons z (.swap u t l)).trans (.swap u z _))).trans (.swap u y _))).trans (.swap u x _))
theorem Its.rot5' {w0 w : World} {x y z t u : It} {l : List It} (h : Its w0 (u :: x :: y :: z :: t :: l) w) : Its w0 (x :: y :: z :: t :: u :: l) w :=
  h.perm ((List.Perm.cons x ((List.Perm.cons y ((List.Perm.cons z (.swap u t l)).trans (.swap u z _))).trans (.swap u y _))).trans (.swap u x _)).symm
theorem Its.five {w0 w : World} {x y z t u : It} {l : List It} (h : Its w0 (x :: y :: z :: t :: u :: l) w) : u.P w := h.all u (by simp)
/-- a cell of a box is written -/
theorem Its.cset {w0 w : World} {l : List It} {g : Nat} {C : Array Value} {t : TypeId} (h : Its w0 (.box g C t :: l) w) (i : Nat) (u : Value) : Its w0 (.box g (C.setIfInBounds i u) t :: l) (w.setCell ⟨g, i, none⟩ u) :=
  h.chg (x' := .box g (C.setIfInBounds i u) t) (heap_put h.one u) (fun _ hk => .inl hk) (Frm.set w g i u)
theorem tb_set {α : Type} (f : α → Value) (L : List α) (i : Nat) (x : α) : (L.map f).toArray.setIfInBounds i (f x) = ((L.set i x).map f).toArray := by
  rw [List.map_set]; simp
theorem tb_at {α : Type} (f : α → Value) {w : World} {g : Nat} {t : TypeId} {L : List α} (h : w.heap[g]? = some (.cells (L.map f).toArray t)) {i : Nat} {x : α} (hx : L[i]? = some x) : w.cell? ⟨g, i, none⟩ = some (f x) ∧ w.frozen? ⟨g, i, none⟩ = false := by
  refine ⟨?_, (cells_at h i).2⟩
  rw [(cells_at h i).1]
  simp [hx]

set_option maxRecDepth 100000 in
set_option maxHeartbeats 8000000 in
theorem one_any (a b : Option Addr) (c e n m : Nat) (ns : List Nd) (es : List Ed) (an : Option Addr) (ln cn : Nat) (zn : List Nt) (w : World) (L : Lyt w a b c e n m ns es) (hln : zn.length = ln) (hn : ntE.Rd w (.slice an ln cn) zn) :
    Calls Try.prog 4 #[.agg #[.slice a n c, .slice b m e], .slice an ln cn] w fun e w' => e = .returned (.bool true) ∧ Below w.heap.size w w' := by
  have I1 : Hid (Its w [.box w.heap.size #[.slice a n c, .slice b m e] 25] (w.alloc (.cells #[.slice a n c, .slice b m e] 25))) := hide ((Its.nil w).box1 #[.slice a n c, .slice b m e] 25)
  have XL : Hid (∀ W, Its w [.box w.heap.size #[.slice a n c, .slice b m e] 25] W → W.cell? ⟨w.heap.size, 0, none⟩ = some (.slice a n c) ∧ W.cell? ⟨w.heap.size, 1, none⟩ = some (.slice b m e)) := hide (fun W h => h.lbox1)
  obtain ⟨u0, u1⟩ := XL.out _ I1.out
  have HL := hide L
  have Hln := hide hln
  have Hn := hide hn
  clear hln hn
  by_cases hfew : n ≤ 60 ∧ m ≤ 200
  case neg =>
    have hd : decide (n ≤ 60 ∧ m ≤ 200) = false := decide_eq_false hfew
    clear L hfew
    go_enter Try.func4, Try.ntmps4
    go_wp2_with (first
      | (go_at_call 9; refine (awake_any _).mono ?_; rintro e1 W4 ⟨rfl, q⟩; have I4 := hide (I3.out.keep q); clear q)
      | (go_at_call 10; refine few_any.mono ?_; rintro e1 W3 ⟨rfl, q⟩; have I3 := hide (I2.out.keep q); clear q; obtain ⟨y0, y1⟩ := XL.out _ I3.out)
      | (go_at_call 9; refine (awake_any _).mono ?_; rintro e1 W2 ⟨rfl, q⟩; have I2 := hide (I1.out.keep q); clear q; obtain ⟨u0, u1⟩ := XL.out _ I2.out))
    go_ret
    exact ⟨rfl, I4.out.bel⟩
  case pos =>
  have hd : decide (n ≤ 60 ∧ m ≤ 200) = true := decide_eq_true hfew
  clear hfew
  cases hg : good ns es with
  | false =>
    have KN : Hid (∀ W, Its w [.box w.heap.size #[.slice a n c, .slice b m e] 25] W → Calls Try.prog 12 #[.agg #[.slice a n c, .slice b m e]] W fun e w' => e = .returned (.tuple #[.pointer none, .int .i64 61]) ∧ Below W.heap.size W w') := hide (fun W h => new_no (h.keepL L) hg)
    clear L hg
    go_enter Try.func4, Try.ntmps4
    go_wp2_with (first
      | (go_at_call 12; refine (KN.out _ I3.out).mono ?_; rintro e1 W5 ⟨rfl, q⟩; have I5 := hide (I3.out.keep q); clear q)
      | (go_at_call 10; refine few_any.mono ?_; rintro e1 W3 ⟨rfl, q⟩; have I3 := hide (I2.out.keep q); clear q; obtain ⟨y0, y1⟩ := XL.out _ I3.out)
      | (go_at_call 9; refine (awake_any _).mono ?_; rintro e1 W2 ⟨rfl, q⟩; have I2 := hide (I1.out.keep q); clear q; obtain ⟨u0, u1⟩ := XL.out _ I2.out))
    go_ret
    exact ⟨rfl, I5.out.bel⟩
  | true =>
  have KN : Hid (∀ W, Its w [.box w.heap.size #[.slice a n c, .slice b m e] 25] W → Calls Try.prog 12 #[.agg #[.slice a n c, .slice b m e]] W fun e w' => NewP W n m es e w') := hide (fun W h => new_ok (h.keepL L) hg)
  obtain ⟨g1, g2, g3⟩ := good_he hg
  rw [L.hn] at g1
  rw [L.hm] at g2
  have PL0 : Hid (PL (Mr.nw n es) (List.replicate 31 false)) := hide (PL.nw (fun x hx => List.eq_of_mem_replicate hx))
  obtain ⟨S0, hS0⟩ : ∃ S0, Mr.nw n es = S0 := ⟨_, rfl⟩
  rw [hS0] at PL0
  replace hS0 := hide hS0
  obtain ⟨CI, rI, oI⟩ := made_i n (by omega)
  have HoI := hide oI
  have i0 : (m : Int) ≤ 120 := by omega
  have i1 : (n : Int) ≤ 40 := by omega
  clear L hg g1 g2 g3 oI
  go_enter Try.func4, Try.ntmps4
  go_upto_region 7 with (first
    | (go_at_call 12; refine (KN.out _ I3.out).mono ?_; rintro e1 W5 ⟨g, H, rfl, q⟩; have I5 := hide (I3.out.addm q); rw [hS0.out] at I5; clear q)
    | (go_at_call 10; refine few_any.mono ?_; rintro e1 W3 ⟨rfl, q⟩; have I3 := hide (I2.out.keep q); clear q; obtain ⟨y0, y1⟩ := XL.out _ I3.out)
    | (go_at_call 9; refine (awake_any _).mono ?_; rintro e1 W2 ⟨rfl, q⟩; have I2 := hide (I1.out.keep q); clear q; obtain ⟨u0, u1⟩ := XL.out _ I2.out))
  have I6 : Hid (Its w (.mir w.heap.size g H n m es S0 :: .box w.heap.size #[.slice a n c, .slice b m e] 25 :: [.box W5.heap.size ((List.replicate 31 false).map Value.bool).toArray 50]) (W5.alloc (.cells #[.bool false, .bool false, .bool false, .bool false, .bool false, .bool false, .bool false, .bool false, .bool false, .bool false, .bool false, .bool false, .bool false, .bool false, .bool false, .bool false, .bool false, .bool false, .bool false, .bool false, .bool false, .bool false, .bool false, .bool false, .bool false, .bool false, .bool false, .bool false, .bool false, .bool false, .bool false] 50))) := hide (I5.out.box1 #[.bool false, .bool false, .bool false, .bool false, .bool false, .bool false, .bool false, .bool false, .bool false, .bool false, .bool false, .bool false, .bool false, .bool false, .bool false, .bool false, .bool false, .bool false, .bool false, .bool false, .bool false, .bool false, .bool false, .bool false, .bool false, .bool false, .bool false, .bool false, .bool false, .bool false, .bool false] 50).rot3'
  obtain ⟨gp, hgp⟩ : ∃ gp, W5.heap.size = gp := ⟨_, rfl⟩
  rw [hgp] at I6
  generalize W5.alloc (.cells #[.bool false, .bool false, .bool false, .bool false, .bool false, .bool false, .bool false, .bool false, .bool false, .bool false, .bool false, .bool false, .bool false, .bool false, .bool false, .bool false, .bool false, .bool false, .bool false, .bool false, .bool false, .bool false, .bool false, .bool false, .bool false, .bool false, .bool false, .bool false, .bool false, .bool false, .bool false] 50) = W6 at *
  try rw [hgp]
  clear y0 y1 u0 u1 KN I5 hgp
  go_wp2_with fail
  go_loopw [8] (fun v8 wr => ∃ (i : Nat) (S : Mr) (pl : List Bool), v8 = .int .i64 i ∧ i ≤ 120 ∧ Hid (PL S pl) ∧ Hid (Its w (.mir w.heap.size g H n m es S :: .box w.heap.size #[.slice a n c, .slice b m e] 25 :: [.box gp (pl.map Value.bool).toArray 50]) wr)) (fun v8 _ => 120 - (intOf v8).toNat)
  case atStart => exact ⟨0, S0, _, rfl, by omega, PL0, I6⟩
  case round =>
    obtain ⟨i, S, pl, rfl, hi, HP, HR⟩ := hrel
    by_cases hil : i < ln
    case neg =>
      have q1 : ¬ (i : Int) < (ln : Int) := by omega
      go_wp2_with fail
      go_ret
      exact ⟨rfl, HR.out.bel⟩
    case pos =>
    have q1 : (i : Int) < (ln : Int) := by omega
    by_cases hi5 : i < 120
    case neg =>
      have q2 : ¬ (i : Int) < 120 := by omega
      go_wp2_with fail
      go_ret
      exact ⟨rfl, HR.out.bel⟩
    case pos =>
    have q2 : (i : Int) < 120 := by omega
    have q0 : (0 : Int) ≤ (i : Int) := by omega
    obtain ⟨p, hp⟩ : ∃ p, zn[i]? = some p := ⟨_, List.getElem?_eq_getElem (by rw [Hln.out]; exact hil)⟩
    have XN : Hid (∀ W, Below w.heap.size w W → ∃ b0 o0, an = some ⟨b0, o0, none⟩ ∧ W.cell? ⟨b0, o0 + i * 4, none⟩ = some (.int .i64 p.kind) ∧ W.cell? ⟨b0, o0 + i * 4 + 1, none⟩ = some (.int .i64 p.a) ∧ W.cell? ⟨b0, o0 + i * 4 + 2, none⟩ = some (.int .i64 p.b) ∧ W.cell? ⟨b0, o0 + i * 4 + 3, none⟩ = some (.int .i64 p.c)) := hide (fun W h => nt_at (Hn.out.keep h) i p hp)
    obtain ⟨b0, o0, rfl, n0, n1, n2, n3⟩ := XN.out _ HR.out.bel
    have XM : Hid (∀ W, Below w.heap.size w W → W.cell? ⟨b0, o0 + i * 4, none⟩ = some (.int .i64 p.kind) ∧ W.cell? ⟨b0, o0 + i * 4 + 1, none⟩ = some (.int .i64 p.a)) := hide (fun W h => by
      obtain ⟨b1, o1, q1, q2, q3, _⟩ := XN.out W h
      simp only [Option.some.injEq, Addr.mk.injEq] at q1
      obtain ⟨rfl, rfl, _⟩ := q1
      exact ⟨q2, q3⟩)
    clear XN
    have HokS := hide (mr_ok HR.out.one)
    have KA := hide (applyS HR.out p)
    obtain ⟨P, hP⟩ : ∃ P, S.app p = P := ⟨_, rfl⟩
    rw [hP] at KA
    have HP1 : Hid (P.1 = 0 → p.kind = 1 → PL P.2 (pl.set p.a.toNat true) ∧ isT p.a = true) := hide (fun h1 h2 => by subst hP; exact ⟨HP.out.yes HokS.out p h1 h2, app_a h1 h2⟩)
    have HP2 : Hid (¬ (P.1 = 0 ∧ p.kind = 1) → PL P.2 pl) := hide (fun h => by subst hP; exact HP.out.no HokS.out p h)
    have Hpl := hide HP.out.1
    clear hP HokS HP
    clear hp
    obtain ⟨kd, xa, xb, xc⟩ := p
    dsimp only at *
    obtain ⟨code, S1⟩ := P
    dsimp only at *
    obtain ⟨yes, hyes⟩ : ∃ y, decide (code = 0 ∧ kd = 1) = y := ⟨_, rfl⟩
    have Hy := hide hyes
    clear hyes
    go_upto_region 10 with fail
    go_cut [61] (fun v61 wx => v61 = .bool yes ∧ Hid (Its w (.mir w.heap.size g H n m es S1 :: .box w.heap.size #[.slice a n c, .slice b m e] 25 :: [.box gp (pl.map Value.bool).toArray 50]) wx))
    case first =>
      by_cases h1 : code = 0
      · subst h1
        by_cases h2 : kd = 1
        · subst h2
          go_wp2_with (go_at_call 15; refine KA.out.mono ?_; rintro e1 W7 ⟨rfl, q⟩; have I7 := hide q; clear q; obtain ⟨m0, m1⟩ := XM.out _ I7.out.bel)
          go_meet
          exact ⟨by rw [← Hy.out]; simp, I7⟩
        · have h2' : (kd == 1) = false := beq_eq_false_iff_ne.2 h2
          go_wp2_with (go_at_call 15; refine KA.out.mono ?_; rintro e1 W7 ⟨rfl, q⟩; have I7 := hide q; clear q; obtain ⟨m0, m1⟩ := XM.out _ I7.out.bel)
          go_meet
          exact ⟨by rw [← Hy.out, decide_eq_false (fun h => h2 h.2)], I7⟩
      · have h1' : (code == 0) = false := beq_eq_false_iff_ne.2 h1
        go_wp2_with (go_at_call 15; refine KA.out.mono ?_; rintro e1 W7 ⟨rfl, q⟩; have I7 := hide q; clear q)
        go_meet
        exact ⟨by rw [← Hy.out, decide_eq_false (fun h => h1 h.1)], I7⟩
    case rest =>
    obtain ⟨rfl, HR1⟩ := hcut
    obtain ⟨wA, rfl⟩ : ∃ W, W = wc := ⟨_, rfl⟩
    clear n0 n1 n2 n3 KA
    go_upto_if 61 with fail
    go_cut [61] (fun v61 wx => ∃ pl : List Bool, Hid (PL S1 pl) ∧ Hid (Its w (.mir w.heap.size g H n m es S1 :: .box w.heap.size #[.slice a n c, .slice b m e] 25 :: [.box gp (pl.map Value.bool).toArray 50]) wx))
    case first =>
      cases yes with
      | true =>
        have hc := of_decide_eq_true Hy.out
        obtain ⟨hp1, hp2⟩ := HP1.out hc.1 hc.2
        have hA := isT_iff.1 hp2
        have HQ := hide hp1
        obtain ⟨ka, rfl⟩ : ∃ ka : Nat, xa = (ka : Int) := ⟨xa.toNat, by omega⟩
        obtain ⟨x0, hx0⟩ : ∃ x0, pl[ka]? = some x0 := ⟨_, List.getElem?_eq_getElem (by rw [Hpl.out]; omega)⟩
        obtain ⟨t0, t1⟩ := tb_at Value.bool (show wA.heap[gp]? = some (.cells (pl.map Value.bool).toArray 50) from HR1.out.three) hx0
        obtain ⟨m0, m1⟩ := XM.out _ HR1.out.bel
        have k1 : (0 : Int) ≤ (ka : Int) := by omega
        have k2 : (ka : Int) < 31 := by omega
        have HS := hide (HR1.out.rot3.cset ka (.bool true)).rot3'
        rw [tb_set Value.bool] at HS
        clear hc hp1 hp2 hA hx0
        go_wp2_with fail
        go_meet
        exact ⟨_, by have := HQ; rwa [show ((ka : Int)).toNat = ka by omega] at this, HS⟩
      | false =>
        have hc := of_decide_eq_false Hy.out
        have HQ := hide (HP2.out hc)
        clear hc
        go_wp2_with fail
        go_meet
        exact ⟨pl, HQ, HR1⟩
    case rest =>
    obtain ⟨pl2, HP3, HR2⟩ := hcut
    clear HP1 HP2 Hpl HR1 XM HR Hy
    obtain ⟨wB, rfl⟩ : ∃ W, W = wc := ⟨_, rfl⟩
    obtain ⟨S, rfl⟩ : ∃ S', S' = S1 := ⟨_, rfl⟩
    obtain ⟨pl, rfl⟩ : ∃ p', p' = pl2 := ⟨_, rfl⟩
    have Hok := hide (mr_ok HR2.out.one)
    have Hds := hide (mr_len HR2.out.one).2.1
    obtain ⟨y0, y1⟩ := HR2.out.lbox
    have HE : Hid (Its w (.mir w.heap.size g H n m es S :: .box w.heap.size #[.slice a n c, .slice b m e] 25 :: .box gp (pl.map Value.bool).toArray 50 :: [.ints w.heap.size (.slice (some ⟨wB.heap.size, 0, none⟩) n n) (eL S n 1 0)]) (wB.alloc (.cells CI 3))) := hide (by rw [eL_zero]; exact (HR2.out.fresh (HoI.out _) (below_new _ _)).rot4')
    obtain ⟨ge, hge⟩ : ∃ ge, wB.heap.size = ge := ⟨_, rfl⟩
    rw [hge] at HE
    go_upto_region 13 with fail
    generalize wB.alloc (.cells CI 3) = wC at *
    clear y0 y1 HR2 hge
    have X2 : Hid (∀ (W : World) (t : Nat), 1 ≤ t → t ≤ 30 → Its w (.mir w.heap.size g H n m es S :: .box w.heap.size #[.slice a n c, .slice b m e] 25 :: .box gp (pl.map Value.bool).toArray 50 :: [.ints w.heap.size (.slice (some ⟨ge, 0, none⟩) n n) (eL S n t 0)]) W → W.cell? ⟨w.heap.size, 0, none⟩ = some (.slice a n c) ∧ W.cell? ⟨gp, t, none⟩ = some (.bool (decide (0 ≤ S.whr t))) ∧ ∀ k : Nat, k < n → W.cell? ⟨ge, k, none⟩ = some (.int .i64 (eA S t 0 k)) ∧ W.frozen? ⟨ge, k, none⟩ = false) := hide (fun W t h1 h2 hW => by
      refine ⟨hW.lbox.1, (tb_at Value.bool (show W.heap[gp]? = some (.cells (pl.map Value.bool).toArray 50) from hW.three) (HP3.out.2 t h1 h2)).1, fun k hk => ?_⟩
      exact El.Own.at1 (Value.int .i64) (fun _ => rfl) rfl (show intE.Own W w.heap.size (.slice (some ⟨ge, 0, none⟩) n n) (eL S n t 0) from hW.four) k _ (rmap_at _ hk))
    go_wp2_with fail
    go_loopw [10] (fun v10 wr => ∃ t : Nat, v10 = .int .i64 t ∧ 1 ≤ t ∧ t ≤ 31 ∧ Hid (Its w (.mir w.heap.size g H n m es S :: .box w.heap.size #[.slice a n c, .slice b m e] 25 :: .box gp (pl.map Value.bool).toArray 50 :: [.ints w.heap.size (.slice (some ⟨ge, 0, none⟩) n n) (eL S n t 0)]) wr)) (fun v10 _ => 31 - (intOf v10).toNat)
    case atStart => exact ⟨1, rfl, by omega, by omega, HE⟩
    case round =>
      obtain ⟨t, rfl, ht1, ht2, HT⟩ := hrel
      by_cases ht : t ≤ 30
      case pos =>
        have q3 : (t : Int) ≤ 30 := by omega
        have q4 : (0 : Int) ≤ (t : Int) := by omega
        have q5 : (t : Int) < 31 := by omega
        have hT : isT (t : Int) = true := isT_iff.2 (by omega)
        obtain ⟨y0, y1, y2⟩ := X2.out _ t ht1 ht HT.out
        by_cases hw : S.whr t = -1
        · have HE2 := hide (eL_no Hok.out hT hw)
          rw [hw] at y1
          have q6 : ¬ (n : Int) ≤ -1 := by omega
          have Kw := where_m HT.out.one t
          rw [hw] at Kw
          have KW := hide Kw
          clear Kw hw hT y2
          go_wp2_with (go_at_call 19; refine KW.out.mono ?_; rintro e1 W9 ⟨rfl, rfl⟩)
          go_roundw
          case rel => exact ⟨t + 1, by go_num, by omega, by omega, hide (by rw [HE2.out]; exact HT.out)⟩
          case measure => simp [intOf]; omega
        · obtain ⟨w1, w2⟩ := whr_at hT hw
          have w3 := Mr.isN_iff.1 w1
          rw [Hok.out.ln] at w3
          obtain ⟨k, hk⟩ : ∃ k : Nat, S.whr t = (k : Int) := ⟨(S.whr t).toNat, by omega⟩
          obtain ⟨v1, v2, v3⟩ := eL_yes Hok.out hT hk (by omega)
          have HE2 := hide v2
          obtain ⟨z0, z1⟩ := y2 k (by omega)
          rw [v1] at z0
          rw [hk, decide_eq_true (by omega)] at y1
          have k1 : (0 : Int) ≤ (k : Int) := by omega
          have k2 : (k : Int) < (n : Int) := by omega
          have k3 : ¬ (n : Int) ≤ (k : Int) := by omega
          have Kw := where_m HT.out.one t
          rw [hk] at Kw
          have KW := hide Kw
          have HS : Hid (Its w (.mir w.heap.size g H n m es S :: .box w.heap.size #[.slice a n c, .slice b m e] 25 :: .box gp (pl.map Value.bool).toArray 50 :: [.ints w.heap.size (.slice (some ⟨ge, 0, none⟩) n n) (eL S n (t + 1) 0)]) (wr.setCell ⟨ge, k, none⟩ (.int .i64 1))) := hide (by
            have := (HT.out.rot4.tset k 1).rot4'
            rw [v2] at this
            exact this)
          have Ka := at_m HS.out.one (k : Int)
          rw [v3] at Ka
          have KT := hide Ka
          clear Kw Ka hw hT hk w1 w2 w3 v1 v2 v3 y2
          go_wp2_with (first
            | (go_at_call 20; refine KT.out.mono ?_; rintro e1 W10 ⟨rfl, rfl⟩)
            | (go_at_call 19; refine KW.out.mono ?_; rintro e1 W9 ⟨rfl, rfl⟩))
          go_roundw
          case rel => exact ⟨t + 1, by go_num, by omega, by omega, HS⟩
          case measure => simp [intOf]; omega
      case neg =>
        have h31 : t = 31 := by omega
        have q9 : ¬ (t : Int) ≤ 30 := by omega
        rw [h31] at HT
        clear h31
        obtain ⟨wD, rfl⟩ : ∃ W, W = wr := ⟨_, rfl⟩
        have HM : Hid (Its w (.mir w.heap.size g H n m es S :: .box w.heap.size #[.slice a n c, .slice b m e] 25 :: .box gp (pl.map Value.bool).toArray 50 :: .ints w.heap.size (.slice (some ⟨ge, 0, none⟩) n n) (eL S n 31 0) :: [.box wD.heap.size ((mL S 0).map (Value.int .i64)).toArray 52]) (wD.alloc (.cells #[.int .i64 0, .int .i64 0, .int .i64 0, .int .i64 0, .int .i64 0, .int .i64 0, .int .i64 0, .int .i64 0, .int .i64 0, .int .i64 0, .int .i64 0, .int .i64 0, .int .i64 0, .int .i64 0, .int .i64 0, .int .i64 0, .int .i64 0, .int .i64 0, .int .i64 0, .int .i64 0, .int .i64 0, .int .i64 0, .int .i64 0, .int .i64 0, .int .i64 0, .int .i64 0, .int .i64 0, .int .i64 0, .int .i64 0, .int .i64 0, .int .i64 0] 52))) := hide (by
          rw [mL_zero]
          exact (HT.out.box1 #[.int .i64 0, .int .i64 0, .int .i64 0, .int .i64 0, .int .i64 0, .int .i64 0, .int .i64 0, .int .i64 0, .int .i64 0, .int .i64 0, .int .i64 0, .int .i64 0, .int .i64 0, .int .i64 0, .int .i64 0, .int .i64 0, .int .i64 0, .int .i64 0, .int .i64 0, .int .i64 0, .int .i64 0, .int .i64 0, .int .i64 0, .int .i64 0, .int .i64 0, .int .i64 0, .int .i64 0, .int .i64 0, .int .i64 0, .int .i64 0, .int .i64 0] 52).rot5')
        obtain ⟨gm, hgm⟩ : ∃ gm, wD.heap.size = gm := ⟨_, rfl⟩
        rw [hgm] at HM
        go_upto_region 24 with fail
        generalize wD.alloc (.cells #[.int .i64 0, .int .i64 0, .int .i64 0, .int .i64 0, .int .i64 0, .int .i64 0, .int .i64 0, .int .i64 0, .int .i64 0, .int .i64 0, .int .i64 0, .int .i64 0, .int .i64 0, .int .i64 0, .int .i64 0, .int .i64 0, .int .i64 0, .int .i64 0, .int .i64 0, .int .i64 0, .int .i64 0, .int .i64 0, .int .i64 0, .int .i64 0, .int .i64 0, .int .i64 0, .int .i64 0, .int .i64 0, .int .i64 0, .int .i64 0, .int .i64 0] 52) = wE at *
        clear HT hgm X2 HE
        have X3 : Hid (∀ (W : World) (k : Nat), Its w (.mir w.heap.size g H n m es S :: .box w.heap.size #[.slice a n c, .slice b m e] 25 :: .box gp (pl.map Value.bool).toArray 50 :: .ints w.heap.size (.slice (some ⟨ge, 0, none⟩) n n) (eL S n 31 k) :: [.box gm ((mL S k).map (Value.int .i64)).toArray 52]) W → W.cell? ⟨w.heap.size, 1, none⟩ = some (.slice b m e) ∧ (∀ t : Nat, t < 31 → W.cell? ⟨gm, t, none⟩ = some (.int .i64 (mA S k t)) ∧ W.frozen? ⟨gm, t, none⟩ = false) ∧ ∀ j : Nat, j < n → W.cell? ⟨ge, j, none⟩ = some (.int .i64 (eA S 31 k j)) ∧ W.frozen? ⟨ge, j, none⟩ = false) := hide (fun W k hW => by
          refine ⟨hW.lbox.2, fun t ht => tb_at (Value.int .i64) (show W.heap[gm]? = some (.cells ((mL S k).map (Value.int .i64)).toArray 52) from hW.five) (rmap_at _ ht), fun j hj => ?_⟩
          exact El.Own.at1 (Value.int .i64) (fun _ => rfl) rfl (show intE.Own W w.heap.size (.slice (some ⟨ge, 0, none⟩) n n) (eL S n 31 k) from hW.four) j _ (rmap_at _ hj))
        go_wp2_with fail
        go_loopw [13] (fun v13 wr => ∃ k : Nat, v13 = .int .i64 ((k : Int) + 1) ∧ k ≤ m ∧ Hid (Its w (.mir w.heap.size g H n m es S :: .box w.heap.size #[.slice a n c, .slice b m e] 25 :: .box gp (pl.map Value.bool).toArray 50 :: .ints w.heap.size (.slice (some ⟨ge, 0, none⟩) n n) (eL S n 31 k) :: [.box gm ((mL S k).map (Value.int .i64)).toArray 52]) wr)) (fun v13 _ => m + 1 - (intOf v13).toNat)
        case atStart => exact ⟨0, rfl, by omega, HM⟩
        case round =>
          obtain ⟨k, rfl, hk, HT⟩ := hrel
          obtain ⟨y1, y2, y3⟩ := X3.out _ k HT.out
          by_cases hkm : k < m
          case pos =>
            have q3 : (k : Int) + 1 ≤ (m : Int) := by omega
            have q4 : wrap64 ((k : Int) + 1 + 1) = ((k + 1 : Nat) : Int) + 1 := by unfold wrap64; omega
            obtain ⟨D, hD⟩ : ∃ D, S.ds[k]? = some D := ⟨_, List.getElem?_eq_getElem (by rw [Hds.out]; exact hkm)⟩
            obtain ⟨dv1, dv2⟩ := Mr.dev_nat hD
            have Kt := toldS HT.out ((k : Int) + 1)
            by_cases h0 : D.tt = 0
            · have e1 : S.told ((k : Int) + 1) = (0, 0, false) := by unfold Mr.told; rw [if_neg (by rw [dv1]; simp [h0])]
              rw [e1] at Kt
              obtain ⟨f1, f2⟩ := dev_no (n := n) hD h0
              have HF := hide f1
              have HG := hide f2
              have KT := hide Kt
              clear Kt hD dv1 dv2 h0 f1 f2 e1 y2 y3
              go_wp2_with (go_at_call 21; refine KT.out.mono ?_; rintro e1 W9 ⟨rfl, q⟩; have I9 := hide q; clear q)
              go_roundw
              case rel => exact ⟨k + 1, by first | rfl | rw [q4] | simp, by omega, hide (by rw [HF.out, HG.out]; exact I9.out)⟩
              case measure => simp [intOf]; omega
            · have e1 : S.told ((k : Int) + 1) = (D.tt, D.sq, true) := by unfold Mr.told; rw [if_pos ⟨dv2, by rw [dv1]; exact h0⟩, dv1]
              rw [e1] at Kt
              obtain ⟨g1, g2, tt, en, g3, g4, g5, g6, g7, g8, g9, g10⟩ := dev_yes Hok.out hD h0
              have hed := Hok.out.edge dv2
              rw [dv1, show ((k : Int) + 1 - 1).toNat = k by omega] at hed
              have XE : Hid (∀ W, Below w.heap.size w W → ∃ be oe, b = some ⟨be, oe, none⟩ ∧ W.cell? ⟨be, oe + k * 2, none⟩ = some (.int .i64 D.fr) ∧ W.cell? ⟨be, oe + k * 2 + 1, none⟩ = some (.int .i64 D.en)) := hide (fun W hW => ed_at (HL.out.keep hW).hu k _ hed)
              rw [g3] at Kt g1 g2
              rw [g5] at XE
              have hT := isT_iff.1 g1
              have KT := hide Kt
              have KW : Hid (∀ (W : World), Its w (.mir w.heap.size g H n m es S :: .box w.heap.size #[.slice a n c, .slice b m e] 25 :: .box gp (pl.map Value.bool).toArray 50 :: .ints w.heap.size (.slice (some ⟨ge, 0, none⟩) n n) (eL S n 31 k) :: [.box gm ((mL S k).map (Value.int .i64)).toArray 52]) W → ∀ q, Calls Try.prog 19 #[.pointer (some ⟨g, 0, none⟩), .int .i64 (tt : Int)] (W.drewN q) fun e w' => e = .returned (.int .i64 D.fr) ∧ w' = W.drewN q) := hide (fun W hW q => by
                have := where_m (hW.drew q).one (tt : Int)
                rw [g2] at this
                exact this)
              have HS : Hid (∀ W, Its w (.mir w.heap.size g H n m es S :: .box w.heap.size #[.slice a n c, .slice b m e] 25 :: .box gp (pl.map Value.bool).toArray 50 :: .ints w.heap.size (.slice (some ⟨ge, 0, none⟩) n n) (eL S n 31 k) :: [.box gm ((mL S k).map (Value.int .i64)).toArray 52]) W → Its w (.mir w.heap.size g H n m es S :: .box w.heap.size #[.slice a n c, .slice b m e] 25 :: .box gp (pl.map Value.bool).toArray 50 :: .ints w.heap.size (.slice (some ⟨ge, 0, none⟩) n n) (eL S n 31 (k + 1)) :: [.box gm ((mL S (k + 1)).map (Value.int .i64)).toArray 52]) ((W.setCell ⟨gm, tt, none⟩ (.int .i64 1)).setCell ⟨ge, en, none⟩ (.int .i64 1))) := hide (fun W hW => by
                have a1 := hW.rot5.cset tt (.int .i64 1)
                rw [tb_set (Value.int .i64), g8] at a1
                have a2 := (a1.rot5'.rot4.tset en 1).rot4'
                rw [g10] at a2
                exact a2)
              obtain ⟨fr, ed, td, sq, ev, dw⟩ := D
              dsimp only at *
              have q5 : ¬ (tt : Int) < 1 := by omega
              have q6 : ¬ 30 < (tt : Int) := by omega
              have q7 : (0 : Int) ≤ (tt : Int) := by omega
              have q8 : (tt : Int) < 31 := by omega
              have j1 : (0 : Int) ≤ (en : Int) := by omega
              have j2 : (en : Int) < (n : Int) := by omega
              have r1 : wrap64 ((k : Int) + 1 - 1) = (k : Int) := by unfold wrap64; omega
              have r1' : IntKind.i64.wrap ((k : Int) + 1 - 1) = (k : Int) := by rw [IntKind.wrap_i64]; omega
              have r4 : IntKind.i64.wrap (k : Int) = (k : Int) := by rw [IntKind.wrap_i64]; omega
              have r2 : (k : Int) < (m : Int) := by omega
              have r3 : (0 : Int) ≤ (k : Int) := by omega
              have HEd := hide hed
              have G7 := hide g7
              have G9 := hide g9
              clear Kt hD dv1 dv2 h0 e1 y2 y3 hed g1 g2 g3 g5 g7 g8 g9 g10 hT
              go_upto_region 29 with (go_at_call 21; refine KT.out.mono ?_; rintro e1 W9 ⟨rfl, q⟩; have I9 := hide q; clear q)
              clear y1
              obtain ⟨y1, y2, y3⟩ := X3.out _ k I9.out
              obtain ⟨be, oe, rfl, ce0, ce1⟩ := XE.out _ I9.out.bel
              obtain ⟨z0, z1⟩ := y2 tt g4
              rw [G7.out] at z0
              clear y2 y3
              have KV := hide (KW.out _ I9.out)
              go_quiet ((go_at_call 19; exact Calls.quiet_of_same (KV.out _)))
              have I10 := hide (I9.out.drew nq)
              have HS2 := hide (HS.out _ I10.out)
              clear y1 ce0 ce1 z0 z1
              generalize W9.drewN nq = W10 at *
              obtain ⟨y1, y2, y3⟩ := X3.out _ k I10.out
              obtain ⟨b1, o1, hb1, ce0, ce1⟩ := XE.out _ I10.out.bel
              simp only [Option.some.injEq, Addr.mk.injEq] at hb1
              obtain ⟨rfl, rfl, _⟩ := hb1
              obtain ⟨z0, z1⟩ := y2 tt g4
              rw [G7.out] at z0
              obtain ⟨x0, x1⟩ := y3 en g6
              rw [G9.out] at x0
              have NE : Hid (ge ≠ gm ∧ w.heap.size ≠ gm ∧ be < w.heap.size) := hide ⟨fun q => by have := I10.out.sep; simp only [List.pairwise_cons, List.mem_cons, forall_eq_or_imp] at this; exact absurd (show gm = gm from rfl) (this.2.2.2.1.1 gm (by rw [← q]; rfl)), fun q => by have := I10.out.sep; simp only [List.pairwise_cons, List.mem_cons, forall_eq_or_imp] at this; exact absurd (show gm = gm from rfl) (this.2.1.2.2.1 gm q.symm), by have := cell_lt ce0; have := (HL.out.hu.at k _ HEd.out); obtain ⟨b2, o2, q1, q2⟩ := this; simp only [Option.some.injEq, Addr.mk.injEq] at q1; obtain ⟨rfl, _⟩ := q1; exact cell_lt (q2 0 (by decide))⟩
              clear y2 y3
              obtain ⟨ne1, ne2, ne3⟩ := NE.out
              have ne4 : be ≠ gm := by have := I10.out.ge _ (by simp : (.box gm ((mL S k).map (Value.int .i64)).toArray 52) ∈ _) gm rfl; omega
              go_wp2_with fail
              go_roundw
              case rel => exact ⟨k + 1, by first | rfl | rw [q4] | simp, by omega, HS2⟩
              case measure => simp [intOf]; omega
          case neg =>
            have hkm2 : k = m := by omega
            have q3 : ¬ (k : Int) + 1 ≤ (m : Int) := by omega
            rw [hkm2] at HT
            clear hkm2
            obtain ⟨wF, rfl⟩ : ∃ W, W = wr := ⟨_, rfl⟩
            clear y2 y3
            have EJ : Hid (∀ j : Nat, j < n → eA S 31 m j = if S.tak j = true then 1 else 0) := hide (fun j hj => by rw [← Hds.out]; exact eA_end Hok.out hj)
            have i2 : Hid (Its w (.mir w.heap.size g H n m es S :: .box w.heap.size #[.slice a n c, .slice b m e] 25 :: .box gp (pl.map Value.bool).toArray 50 :: .ints w.heap.size (.slice (some ⟨ge, 0, none⟩) n n) (eL S n 31 m) :: [.box gm ((mL S m).map (Value.int .i64)).toArray 52]) wF) := HT
            clear HT
            go_wp2_with fail
            go_loopw [165] (fun v165 wr => ∃ j : Nat, v165 = .int .i64 j ∧ j ≤ n ∧ Hid (Its w (.mir w.heap.size g H n m es S :: .box w.heap.size #[.slice a n c, .slice b m e] 25 :: .box gp (pl.map Value.bool).toArray 50 :: .ints w.heap.size (.slice (some ⟨ge, 0, none⟩) n n) (eL S n 31 m) :: [.box gm ((mL S m).map (Value.int .i64)).toArray 52]) wr)) (fun v165 _ => n - (intOf v165).toNat)
            case atStart => exact ⟨0, rfl, by omega, i2⟩
            case round =>
              obtain ⟨j, rfl, hj, HT⟩ := hrel
              by_cases hjn : j < n
              case pos =>
                have j1 : (0 : Int) ≤ (j : Int) := by omega
                have j2 : (j : Int) < (n : Int) := by omega
                have ej := EJ.out j hjn
                have X4 : Hid (∀ W, Its w (.mir w.heap.size g H n m es S :: .box w.heap.size #[.slice a n c, .slice b m e] 25 :: .box gp (pl.map Value.bool).toArray 50 :: .ints w.heap.size (.slice (some ⟨ge, 0, none⟩) n n) (eL S n 31 m) :: [.box gm ((mL S m).map (Value.int .i64)).toArray 52]) W → W.cell? ⟨ge, j, none⟩ = some (.int .i64 (if S.tak j = true then 1 else 0))) := hide (fun W hW => by rw [← ej]; exact ((X3.out _ m hW).2.2 j hjn).1)
                have KK : Hid (∀ W, Its w (.mir w.heap.size g H n m es S :: .box w.heap.size #[.slice a n c, .slice b m e] 25 :: .box gp (pl.map Value.bool).toArray 50 :: .ints w.heap.size (.slice (some ⟨ge, 0, none⟩) n n) (eL S n 31 m) :: [.box gm ((mL S m).map (Value.int .i64)).toArray 52]) W → Calls Try.prog 22 #[.pointer (some ⟨g, 0, none⟩), .int .i64 (j : Int)] W fun e9 w' => e9 = .returned (.bool (S.tak j)) ∧ Its w (.mir w.heap.size g H n m es S :: .box w.heap.size #[.slice a n c, .slice b m e] 25 :: .box gp (pl.map Value.bool).toArray 50 :: .ints w.heap.size (.slice (some ⟨ge, 0, none⟩) n n) (eL S n 31 m) :: [.box gm ((mL S m).map (Value.int .i64)).toArray 52]) w') := hide (fun W hW => takenS hW (j : Int))
                clear ej
                go_upto_region 36 with fail
                go_cut [183] (fun v183 wx => v183 = .bool false ∧ Hid (Its w (.mir w.heap.size g H n m es S :: .box w.heap.size #[.slice a n c, .slice b m e] 25 :: .box gp (pl.map Value.bool).toArray 50 :: .ints w.heap.size (.slice (some ⟨ge, 0, none⟩) n n) (eL S n 31 m) :: [.box gm ((mL S m).map (Value.int .i64)).toArray 52]) wx))
                case first =>
                  cases htk : S.tak j with
                  | true =>
                    rw [htk] at X4 KK
                    rw [if_pos rfl] at X4
                    clear htk
                    have x0 := X4.out _ HT.out
                    have HD : Hid (Its w (.mir w.heap.size g H n m es S :: .box w.heap.size #[.slice a n c, .slice b m e] 25 :: .box gp (pl.map Value.bool).toArray 50 :: .ints w.heap.size (.slice (some ⟨ge, 0, none⟩) n n) (eL S n 31 m) :: [.box gm ((mL S m).map (Value.int .i64)).toArray 52]) wr.drew) := hide (HT.out.drew 1)
                    clear X3 EJ HoI HL Hn Hln PL0 I6 I1 I2 I3 HP3 x0
                    obtain ⟨S0, hS0⟩ : ∃ Sx : World → Prop, Sx = fun W => Its w (.mir w.heap.size g H n m es S :: .box w.heap.size #[.slice a n c, .slice b m e] 25 :: .box gp (pl.map Value.bool).toArray 50 :: .ints w.heap.size (.slice (some ⟨ge, 0, none⟩) n n) (eL S n 31 m) :: [.box gm ((mL S m).map (Value.int .i64)).toArray 52]) W := ⟨_, rfl⟩
                    have SI : Hid (∀ W, Its w (.mir w.heap.size g H n m es S :: .box w.heap.size #[.slice a n c, .slice b m e] 25 :: .box gp (pl.map Value.bool).toArray 50 :: .ints w.heap.size (.slice (some ⟨ge, 0, none⟩) n n) (eL S n 31 m) :: [.box gm ((mL S m).map (Value.int .i64)).toArray 52]) W → S0 W) := hide (fun W h => by rw [hS0]; exact h)
                    have SO : Hid (∀ W, S0 W → Its w (.mir w.heap.size g H n m es S :: .box w.heap.size #[.slice a n c, .slice b m e] 25 :: .box gp (pl.map Value.bool).toArray 50 :: .ints w.heap.size (.slice (some ⟨ge, 0, none⟩) n n) (eL S n 31 m) :: [.box gm ((mL S m).map (Value.int .i64)).toArray 52]) W) := hide (fun W h => by rw [hS0] at h; exact h)
                    have SC : Hid (∀ W, S0 W → W.cell? ⟨ge, j, none⟩ = some (.int .i64 1)) := hide (fun W h => X4.out _ (SO.out W h))
                    have hSd := SI.out _ HD.out
                    clear hS0 HD X4
                    refine wp_region_held_drew (S := S0) (by kernel_rfl) hSd (fun hS => ?_)
                    refine wpAnyH_take (i := 0) (v := .slice (some ⟨ge, 0, none⟩) n n) rfl (by kernel_rfl) (by kernel_rfl) (by kernel_rfl) (fun _ _ _ h => h) (Or.inl ⟨by kernel_rfl, fun W' hW => by go_simp⟩) hS ?_
                    refine wpAnyH_take (i := 1) (v := .int .i64 (j : Int)) rfl (by kernel_rfl) (by kernel_rfl) (by kernel_rfl) (fun _ _ _ h => h) (Or.inl ⟨by kernel_rfl, fun W' hW => by go_simp⟩) hS ?_
                    refine wpAnyH_take (i := 2) (v := .pointer (some ⟨ge, j, none⟩)) rfl (by kernel_rfl) (by kernel_rfl) (by kernel_rfl) (fun _ _ _ h => h) (Or.inl ⟨by kernel_rfl, fun W' hW => by go_simp⟩) hS ?_
                    refine wpAnyH_take (i := 3) (v := .int .i64 1) rfl (by kernel_rfl) (by kernel_rfl) (by kernel_rfl) (fun _ _ _ h => h) (Or.inl ⟨by kernel_rfl, fun W' hW => by have x0 := SC.out W' hW; go_simp⟩) hS ?_
                    refine wpAnyH_take (i := 4) (v := .bool false) rfl (by kernel_rfl) (by kernel_rfl) (by kernel_rfl) (fun _ _ _ h => h) (Or.inl ⟨by kernel_rfl, fun W' hW => by go_simp⟩) hS ?_
                    refine wpAnyH_take (i := 5) (v := .bool false) rfl (by kernel_rfl) (by kernel_rfl) (by kernel_rfl) (fun _ _ _ h => h) (Or.inl ⟨by kernel_rfl, fun W' hW => by go_simp⟩) hS ?_
                    refine wpAnyH_take (i := 6) (v := .pointer (some ⟨g, 0, none⟩)) rfl (by kernel_rfl) (by kernel_rfl) (by kernel_rfl) (fun _ _ _ h => h) (Or.inl ⟨by kernel_rfl, fun W' hW => by go_simp⟩) hS ?_
                    refine wpAnyH_take (i := 7) (v := .int .i64 (j : Int)) rfl (by kernel_rfl) (by kernel_rfl) (by kernel_rfl) (fun _ _ _ h => h) (Or.inl ⟨by kernel_rfl, fun W' hW => by go_simp⟩) hS ?_
                    refine wpAnyH_take (i := 9) (v := .slice (some ⟨ge, 0, none⟩) n n) rfl (by kernel_rfl) (by kernel_rfl) (by kernel_rfl) (fun _ _ _ h => h) (Or.inl ⟨by kernel_rfl, fun W' hW => by go_simp⟩) hS ?_
                    refine wpAnyH_take (i := 10) (v := .int .i64 (j : Int)) rfl (by kernel_rfl) (by kernel_rfl) (by kernel_rfl) (fun _ _ _ h => h) (Or.inl ⟨by kernel_rfl, fun W' hW => by go_simp⟩) hS ?_
                    refine wpAnyH_take (i := 11) (v := .pointer (some ⟨ge, j, none⟩)) rfl (by kernel_rfl) (by kernel_rfl) (by kernel_rfl) (fun _ _ _ h => h) (Or.inl ⟨by kernel_rfl, fun W' hW => by go_simp⟩) hS ?_
                    refine wpAnyH_take (i := 12) (v := .int .i64 1) rfl (by kernel_rfl) (by kernel_rfl) (by kernel_rfl) (fun _ _ _ h => h) (Or.inl ⟨by kernel_rfl, fun W' hW => by have x0 := SC.out W' hW; go_simp⟩) hS ?_
                    refine wpAnyH_take (i := 13) (v := .bool true) rfl (by kernel_rfl) (by kernel_rfl) (by kernel_rfl) (fun _ _ _ h => h) (Or.inl ⟨by kernel_rfl, fun W' hW => by go_simp⟩) hS ?_
                    refine wpAnyH_ready (rs := [8]) (by kernel_rfl) (by simp) ?_
                    refine AllReadyH.cons rfl (fun K hK => ?_) AllReadyH.nil
                    go_simp
                    go_at_call 22
                    refine (KK.out _ (SO.out _ hS)).mono ?_; rintro e1 W9 ⟨rfl, q⟩; have s9 := SI.out _ q; clear q
                    go_simp
                    refine hK.out _ _ s9 (fun _ => ?_)
                    clear hK K
                    refine wpAnyH_take (i := 14) (v := .bool false) rfl (by kernel_rfl) (by kernel_rfl) (by kernel_rfl) (fun _ _ _ h => h) (Or.inl ⟨by kernel_rfl, fun W' hW => by go_simp⟩) s9 ?_
                    refine wpAnyH_ready (rs := [15]) (by kernel_rfl) (by simp) ?_
                    refine AllReadyH.cons rfl (fun K hK => ?_) AllReadyH.nil
                    go_simp
                    refine hK.out _ _ s9 (fun _ => ?_)
                    clear hK K
                    refine wpAnyH_done (by kernel_rfl) ?_ _
                    go_wp2_with fail
                    go_meet
                    exact ⟨rfl, hide (SO.out _ s9)⟩
                  | false =>
                    rw [htk] at X4 KK
                    rw [if_neg (by simp)] at X4
                    clear htk
                    have x0 := X4.out _ HT.out
                    have HD : Hid (Its w (.mir w.heap.size g H n m es S :: .box w.heap.size #[.slice a n c, .slice b m e] 25 :: .box gp (pl.map Value.bool).toArray 50 :: .ints w.heap.size (.slice (some ⟨ge, 0, none⟩) n n) (eL S n 31 m) :: [.box gm ((mL S m).map (Value.int .i64)).toArray 52]) wr.drew) := hide (HT.out.drew 1)
                    clear X3 EJ HoI HL Hn Hln PL0 I6 I1 I2 I3 HP3 x0
                    obtain ⟨S0, hS0⟩ : ∃ Sx : World → Prop, Sx = fun W => Its w (.mir w.heap.size g H n m es S :: .box w.heap.size #[.slice a n c, .slice b m e] 25 :: .box gp (pl.map Value.bool).toArray 50 :: .ints w.heap.size (.slice (some ⟨ge, 0, none⟩) n n) (eL S n 31 m) :: [.box gm ((mL S m).map (Value.int .i64)).toArray 52]) W := ⟨_, rfl⟩
                    have SI : Hid (∀ W, Its w (.mir w.heap.size g H n m es S :: .box w.heap.size #[.slice a n c, .slice b m e] 25 :: .box gp (pl.map Value.bool).toArray 50 :: .ints w.heap.size (.slice (some ⟨ge, 0, none⟩) n n) (eL S n 31 m) :: [.box gm ((mL S m).map (Value.int .i64)).toArray 52]) W → S0 W) := hide (fun W h => by rw [hS0]; exact h)
                    have SO : Hid (∀ W, S0 W → Its w (.mir w.heap.size g H n m es S :: .box w.heap.size #[.slice a n c, .slice b m e] 25 :: .box gp (pl.map Value.bool).toArray 50 :: .ints w.heap.size (.slice (some ⟨ge, 0, none⟩) n n) (eL S n 31 m) :: [.box gm ((mL S m).map (Value.int .i64)).toArray 52]) W) := hide (fun W h => by rw [hS0] at h; exact h)
                    have SC : Hid (∀ W, S0 W → W.cell? ⟨ge, j, none⟩ = some (.int .i64 0)) := hide (fun W h => X4.out _ (SO.out W h))
                    have hSd := SI.out _ HD.out
                    clear hS0 HD X4
                    refine wp_region_held_drew (S := S0) (by kernel_rfl) hSd (fun hS => ?_)
                    refine wpAnyH_take (i := 0) (v := .slice (some ⟨ge, 0, none⟩) n n) rfl (by kernel_rfl) (by kernel_rfl) (by kernel_rfl) (fun _ _ _ h => h) (Or.inl ⟨by kernel_rfl, fun W' hW => by go_simp⟩) hS ?_
                    refine wpAnyH_take (i := 1) (v := .int .i64 (j : Int)) rfl (by kernel_rfl) (by kernel_rfl) (by kernel_rfl) (fun _ _ _ h => h) (Or.inl ⟨by kernel_rfl, fun W' hW => by go_simp⟩) hS ?_
                    refine wpAnyH_take (i := 2) (v := .pointer (some ⟨ge, j, none⟩)) rfl (by kernel_rfl) (by kernel_rfl) (by kernel_rfl) (fun _ _ _ h => h) (Or.inl ⟨by kernel_rfl, fun W' hW => by go_simp⟩) hS ?_
                    refine wpAnyH_take (i := 3) (v := .int .i64 0) rfl (by kernel_rfl) (by kernel_rfl) (by kernel_rfl) (fun _ _ _ h => h) (Or.inl ⟨by kernel_rfl, fun W' hW => by have x0 := SC.out W' hW; go_simp⟩) hS ?_
                    refine wpAnyH_take (i := 4) (v := .bool false) rfl (by kernel_rfl) (by kernel_rfl) (by kernel_rfl) (fun _ _ _ h => h) (Or.inl ⟨by kernel_rfl, fun W' hW => by go_simp⟩) hS ?_
                    refine wpAnyH_take (i := 5) (v := .bool false) rfl (by kernel_rfl) (by kernel_rfl) (by kernel_rfl) (fun _ _ _ h => h) (Or.inl ⟨by kernel_rfl, fun W' hW => by go_simp⟩) hS ?_
                    refine wpAnyH_take (i := 6) (v := .pointer (some ⟨g, 0, none⟩)) rfl (by kernel_rfl) (by kernel_rfl) (by kernel_rfl) (fun _ _ _ h => h) (Or.inl ⟨by kernel_rfl, fun W' hW => by go_simp⟩) hS ?_
                    refine wpAnyH_take (i := 7) (v := .int .i64 (j : Int)) rfl (by kernel_rfl) (by kernel_rfl) (by kernel_rfl) (fun _ _ _ h => h) (Or.inl ⟨by kernel_rfl, fun W' hW => by go_simp⟩) hS ?_
                    refine wpAnyH_take (i := 9) (v := .slice (some ⟨ge, 0, none⟩) n n) rfl (by kernel_rfl) (by kernel_rfl) (by kernel_rfl) (fun _ _ _ h => h) (Or.inl ⟨by kernel_rfl, fun W' hW => by go_simp⟩) hS ?_
                    refine wpAnyH_take (i := 10) (v := .int .i64 (j : Int)) rfl (by kernel_rfl) (by kernel_rfl) (by kernel_rfl) (fun _ _ _ h => h) (Or.inl ⟨by kernel_rfl, fun W' hW => by go_simp⟩) hS ?_
                    refine wpAnyH_take (i := 11) (v := .pointer (some ⟨ge, j, none⟩)) rfl (by kernel_rfl) (by kernel_rfl) (by kernel_rfl) (fun _ _ _ h => h) (Or.inl ⟨by kernel_rfl, fun W' hW => by go_simp⟩) hS ?_
                    refine wpAnyH_take (i := 12) (v := .int .i64 0) rfl (by kernel_rfl) (by kernel_rfl) (by kernel_rfl) (fun _ _ _ h => h) (Or.inl ⟨by kernel_rfl, fun W' hW => by have x0 := SC.out W' hW; go_simp⟩) hS ?_
                    refine wpAnyH_take (i := 13) (v := .bool false) rfl (by kernel_rfl) (by kernel_rfl) (by kernel_rfl) (fun _ _ _ h => h) (Or.inl ⟨by kernel_rfl, fun W' hW => by go_simp⟩) hS ?_
                    refine wpAnyH_ready (rs := [8]) (by kernel_rfl) (by simp) ?_
                    refine AllReadyH.cons rfl (fun K hK => ?_) AllReadyH.nil
                    go_simp
                    go_at_call 22
                    refine (KK.out _ (SO.out _ hS)).mono ?_; rintro e1 W9 ⟨rfl, q⟩; have s9 := SI.out _ q; clear q
                    go_simp
                    refine hK.out _ _ s9 (fun _ => ?_)
                    clear hK K
                    refine wpAnyH_take (i := 14) (v := .bool false) rfl (by kernel_rfl) (by kernel_rfl) (by kernel_rfl) (fun _ _ _ h => h) (Or.inl ⟨by kernel_rfl, fun W' hW => by go_simp⟩) s9 ?_
                    refine wpAnyH_ready (rs := [15]) (by kernel_rfl) (by simp) ?_
                    refine AllReadyH.cons rfl (fun K hK => ?_) AllReadyH.nil
                    go_simp
                    refine hK.out _ _ s9 (fun _ => ?_)
                    clear hK K
                    refine wpAnyH_done (by kernel_rfl) ?_ _
                    go_wp2_with fail
                    go_meet
                    exact ⟨rfl, hide (SO.out _ s9)⟩
                case rest =>
                  obtain ⟨rfl, HZ⟩ := hcut
                  go_wp2_with fail
                  go_roundw
                  case rel => exact ⟨j + 1, by go_num, by omega, HZ⟩
                  case measure => simp [intOf]; omega
              case neg =>
                have j2 : ¬ (j : Int) < (n : Int) := by omega
                have IX := hide (Its.left (l := .mir w.heap.size g H n m es S :: .box w.heap.size #[.slice a n c, .slice b m e] 25 :: [.box gp (pl.map Value.bool).toArray 50]) (r := [.ints w.heap.size (.slice (some ⟨ge, 0, none⟩) n n) (eL S n 31 m), .box gm ((mL S m).map (Value.int .i64)).toArray 52]) HT.out)
                go_wp2_with fail
                go_roundw
                case rel => exact ⟨i + 1, S, pl, by go_num, by omega, HP3, IX⟩
                case measure => simp [intOf]; omega
end Go.Proofs.Ytlnnpdghcilioaa
