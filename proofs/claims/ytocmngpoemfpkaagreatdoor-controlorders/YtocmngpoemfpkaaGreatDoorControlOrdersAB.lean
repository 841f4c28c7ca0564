/- ControlOrders: texts Mrc Mrd. -/
import Derived.BigRegion
import Derived.Test.YtocmngpoemfpkaaGreatDoorControlOrdersAA
namespace Go.Proofs.YtocmngpoemfpkaaGreatDoor
open Go.RowKit
set_option linter.unusedVariables false
theorem Its.tset {w0 w : World} {l : List It} {B bt n : Nat} {ts : List Int} (h : Its w0 (.ints B (.slice (some ⟨bt, 0, none⟩) n n) ts :: l) w) (k : Nat) (x : Int) : Its w0 (.ints B (.slice (some ⟨bt, 0, none⟩) n n) (ts.set k x) :: l) (w.setCell ⟨bt, k, none⟩ (.int .i64 x)) :=
  h.chg (El.Own.set (Value.int .i64) (fun _ => rfl) rfl h.one k x) (fun _ hk => .inl hk) ((Frm.set w bt k _).mono (fun j _ hj => by subst hj; rfl))
theorem Its.dset {w0 w : World} {l : List It} {B bd m : Nat} {ds : List Dv} (h : Its w0 (.row dvE B (.slice (some ⟨bd, 0, none⟩) m m) ds :: l) w) {k : Nat} {x : Dv} (hx : ds[k]? = some x) (z : Dv) (j : Nat) (u : Value) (hj : j < 6) (he : dvE.enc z = (dvE.enc x).set j u) :
    Its w0 (.row dvE B (.slice (some ⟨bd, 0, none⟩) m m) (ds.set k z) :: l) (w.setCell ⟨bd, k * 6 + j, none⟩ u) :=
  h.chg (own_setC h.one (i := k) (j := j) hx hj he) (fun _ hk => .inl hk) ((Frm.set w bd (k * 6 + j) u).mono (fun j _ hj => by subst hj; rfl))
section
variable {w0 w : World} {l : List It} {B g n m : Nat} {H : Nat × Nat} {es : List (Int × Int)} {S : Mr}
set_option maxRecDepth 100000 in
set_option maxHeartbeats 1000000 in
theorem putS (h : Its w0 (.mir B g H n m es S :: l) w) (t x : Int) : Calls Tryz.prog 212 #[.pointer (some ⟨g, 0, none⟩), .int .i64 t, .int .i64 x] w fun e w' => e = .returned (.int .i64 (S.put t x).1) ∧ Its w0 (.mir B g H n m es (S.put t x).2 :: l) w' := by
  have h1 := h.one
  have hok := (mr_ok h1).put t x
  obtain ⟨c0, c1⟩ := mr_cells h1
  obtain ⟨l0, l1, l2, l3⟩ := mr_len h1
  have K1 := hide (isTote_any t w)
  have K2 := hide (isNode_m h1 x)
  have K3 := hide (where_m h1 t)
  have K4 := hide (taken_m h1 x)
  have HI := hide h
  have e0 : S.put t x = if (isT t && S.isN x) = false then (1, S) else if S.whr t ≠ -1 then (2, S) else if S.tak x = true then (100, S) else (0, { S with ts := S.ts.set x.toNat t }) := rfl
  rw [e0] at hok ⊢
  cases hT : isT t with
  | false =>
    rw [hT] at K1
    rw [if_pos (show (false && S.isN x) = false from rfl)]
    clear hT e0 h h1 l0 l1 hok
    go_enter Tryz.func212, Tryz.ntmps212
    go_wp2_with (go_at_call 137; refine K1.out.mono ?_; rintro e w1 ⟨rfl, rfl⟩)
    go_ret
    exact ⟨rfl, HI.out⟩
  | true =>
    rw [hT] at K1 hok
    cases hN : S.isN x with
    | false =>
      rw [hN] at K2
      rw [if_pos (show (true && false) = false from rfl)]
      clear hT hN e0 h h1 l0 l1 hok
      go_enter Tryz.func212, Tryz.ntmps212
      go_wp2_with (first
        | (go_at_call 137; refine K1.out.mono ?_; rintro e w1 ⟨rfl, rfl⟩)
        | (go_at_call 237; refine K2.out.mono ?_; rintro e w1 ⟨rfl, rfl⟩))
      go_ret
      exact ⟨rfl, HI.out⟩
    | true =>
      rw [hN] at K2 hok
      rw [if_neg (by simp)] at hok ⊢
      by_cases hw : S.whr t = -1
      · rw [hw] at K3
        rw [if_neg (by simpa using hw)] at hok ⊢
        cases hk : S.tak x with
        | true =>
          rw [hk] at K4 hok
          rw [if_pos rfl] at hok ⊢
          clear hT hN hw hk e0 h h1 l0 l1 hok
          go_enter Tryz.func212, Tryz.ntmps212
          go_wp2_with (first
            | (go_at_call 137; refine K1.out.mono ?_; rintro e w1 ⟨rfl, rfl⟩)
            | (go_at_call 237; refine K2.out.mono ?_; rintro e w1 ⟨rfl, rfl⟩)
            | (go_at_call 76; refine K3.out.mono ?_; rintro e w1 ⟨rfl, rfl⟩)
            | (go_at_call 206; refine K4.out.mono ?_; rintro e w1 ⟨rfl, B1⟩; have H1 := hide (HI.out.keep B1); clear B1))
          go_ret
          exact ⟨rfl, H1.out⟩
        | false =>
          rw [hk] at K4 hok
          rw [if_neg (by simp)] at hok ⊢
          have hx := Mr.isN_iff.1 hN
          rw [l0] at hx
          obtain ⟨k, rfl⟩ : ∃ k : Nat, x = (k : Int) := ⟨x.toNat, by omega⟩
          rw [show ((k : Int)).toNat = k by omega] at hok ⊢
          have HF : Hid (MFact n m es { S with ts := S.ts.set k t }) := hide ⟨hok, (mr_fact h1).2⟩
          have X : Hid (∀ W, Its w0 (.mir B g H n m es S :: l) W → W.cell? ⟨g, 0, none⟩ = some (.slice (some ⟨H.1, 0, none⟩) n n) ∧ (∃ p, W.cell? ⟨H.1, k, none⟩ = some (.int .i64 p)) ∧ W.frozen? ⟨H.1, k, none⟩ = false) := hide (fun W hW => by
            obtain ⟨p, _, q1, q2⟩ := mr_t hW.one (k := k) (by omega)
            exact ⟨(mr_cells hW.one).1, ⟨p, q1⟩, q2⟩)
          have k1 : (0 : Int) ≤ (k : Int) := by omega
          have k2 : (k : Int) < (n : Int) := by omega
          clear hT hN hw hk e0 h h1 l0 l1 hok hx
          go_enter Tryz.func212, Tryz.ntmps212
          go_wp2_with (first
            | (go_at_call 137; refine K1.out.mono ?_; rintro e w1 ⟨rfl, rfl⟩)
            | (go_at_call 237; refine K2.out.mono ?_; rintro e w1 ⟨rfl, rfl⟩)
            | (go_at_call 76; refine K3.out.mono ?_; rintro e w1 ⟨rfl, rfl⟩)
            | (go_at_call 206; refine K4.out.mono ?_; rintro e w1 ⟨rfl, B1⟩; have H1 := hide (HI.out.keep B1); clear B1; obtain ⟨y0, ⟨p, y1⟩, y2⟩ := X.out _ H1.out))
          go_ret
          exact ⟨rfl, (H1.out.mopen.1.swap.tset k t).swap.mshut HF.out⟩
      · rw [if_pos hw] at hok ⊢
        have hw' : (S.whr t == -1) = false := beq_eq_false_iff_ne.2 hw
        generalize S.whr t = y at *
        clear hT hN e0 h h1 l0 l1 hok
        go_enter Tryz.func212, Tryz.ntmps212
        go_wp2_with (first
          | (go_at_call 137; refine K1.out.mono ?_; rintro e w1 ⟨rfl, rfl⟩)
          | (go_at_call 237; refine K2.out.mono ?_; rintro e w1 ⟨rfl, rfl⟩)
          | (go_at_call 76; refine K3.out.mono ?_; rintro e w1 ⟨rfl, rfl⟩))
        go_ret
        exact ⟨rfl, HI.out⟩
theorem dev_k (h : (It.mir B g H n m es S).P w) {d : Int} (hD : S.isD d = true) : ∃ k : Nat, d = (k : Int) + 1 ∧ k < m ∧ (d - 1).toNat = k ∧ S.ds[k]? = some (S.dev d) := by
  have hx := Mr.isD_iff.1 hD
  rw [(mr_len h).2.1] at hx
  exact ⟨(d - 1).toNat, by omega, by omega, rfl, (Mr.dev_at hD).1⟩
set_option maxRecDepth 100000 in
set_option maxHeartbeats 1000000 in
theorem maskS (h : Its w0 (.mir B g H n m es S :: l) w) (d : Int) (b : Bool) : Calls Tryz.prog 216 #[.pointer (some ⟨g, 0, none⟩), .int .i64 d, .bool b] w fun e w' => e = .returned (.int .i64 (S.msk d b).1) ∧ Its w0 (.mir B g H n m es (S.msk d b).2 :: l) w' := by
  have h1 := h.one
  have hok := (mr_ok h1).msk d b
  have K1 := hide (isDev_m h1 d)
  have HI := hide h
  have e0 : S.msk d b = if S.isD d = false then (1, S) else (0, S.setD d { S.dev d with dn := b }) := rfl
  rw [e0] at hok ⊢
  cases hD : S.isD d with
  | false =>
    rw [hD] at K1
    rw [if_pos rfl]
    clear hD e0 h h1 hok
    go_enter Tryz.func216, Tryz.ntmps216
    go_wp2_with (go_at_call 139; refine K1.out.mono ?_; rintro e w1 ⟨rfl, rfl⟩)
    go_ret
    exact ⟨rfl, HI.out⟩
  | true =>
    obtain ⟨k, hd, hk, hk', hp⟩ := dev_k h1 hD
    rw [hD] at K1 hok
    rw [if_neg (by simp)] at hok ⊢
    have K2 := hide (device_m h1 k hk)
    obtain ⟨d0, d1, d2, d3, d4, d5⟩ := mr_d h1 hp
    have f5 := mr_df h1 hk (j := 5) (by omega)
    have HX : Hid (Its w0 (.mir B g H n m es (S.setD d { S.dev d with dn := b }) :: l) (w.setCell ⟨H.2, k * 6 + 5, none⟩ (.bool b))) := hide (by
      have := h.mopen.1.dset hp { S.dev d with dn := b } 5 (.bool b) (by omega) rfl
      refine Its.mshut (S := S.setD d { S.dev d with dn := b }) ?_ ⟨hok, (mr_fact h1).2⟩
      unfold Mr.setD mparts
      rw [hk']
      exact this)
    subst hd
    generalize S.dev ((k : Int) + 1) = D at *
    generalize S.setD ((k : Int) + 1) { D with dn := b } = S' at *
    clear hD e0 h h1 hok hp hk'
    go_enter Tryz.func216, Tryz.ntmps216
    go_wp2_with (first
      | (go_at_call 139; refine K1.out.mono ?_; rintro e w1 ⟨rfl, rfl⟩)
      | (go_at_call 140; refine K2.out.mono ?_; rintro e w1 ⟨rfl, rfl⟩))
    go_ret
    exact ⟨rfl, HX.out⟩
set_option maxRecDepth 100000 in
set_option maxHeartbeats 1000000 in
theorem dropS (h : Its w0 (.mir B g H n m es S :: l) w) (d : Int) : Calls Tryz.prog 215 #[.pointer (some ⟨g, 0, none⟩), .int .i64 d] w fun e w' => e = .returned (.int .i64 (S.drp d).1) ∧ Its w0 (.mir B g H n m es (S.drp d).2 :: l) w' := by
  have h1 := h.one
  have hok := (mr_ok h1).drp d
  have K1 := hide (isDev_m h1 d)
  have HI := hide h
  have e0 : S.drp d = if S.isD d = false then (1, S) else if (S.dev d).tt = 0 then (4, S) else (0, S.setD d { S.dev d with tt := 0 }) := rfl
  rw [e0] at hok ⊢
  cases hD : S.isD d with
  | false =>
    rw [hD] at K1
    rw [if_pos rfl]
    clear hD e0 h h1 hok
    go_enter Tryz.func215, Tryz.ntmps215
    go_wp2_with (go_at_call 139; refine K1.out.mono ?_; rintro e w1 ⟨rfl, rfl⟩)
    go_ret
    exact ⟨rfl, HI.out⟩
  | true =>
    obtain ⟨k, hd, hk, hk', hp⟩ := dev_k h1 hD
    rw [hD] at K1 hok
    rw [if_neg (by simp)] at hok ⊢
    have K2 := hide (device_m h1 k hk)
    obtain ⟨d0, d1, d2, d3, d4, d5⟩ := mr_d h1 hp
    have f2 := mr_df h1 hk (j := 2) (by omega)
    by_cases z : (S.dev d).tt = 0
    · rw [if_pos z]
      rw [z] at d2
      subst hd
      generalize S.dev ((k : Int) + 1) = D at *
      clear hD e0 h h1 hok hp hk' z
      go_enter Tryz.func215, Tryz.ntmps215
      go_wp2_with (first
        | (go_at_call 139; refine K1.out.mono ?_; rintro e w1 ⟨rfl, rfl⟩)
        | (go_at_call 140; refine K2.out.mono ?_; rintro e w1 ⟨rfl, rfl⟩))
      go_ret
      exact ⟨rfl, HI.out⟩
    · rw [if_neg z] at hok ⊢
      have HX : Hid (Its w0 (.mir B g H n m es (S.setD d { S.dev d with tt := 0 }) :: l) (w.setCell ⟨H.2, k * 6 + 2, none⟩ (.int .i64 0))) := hide (by
        have := h.mopen.1.dset hp { S.dev d with tt := 0 } 2 (.int .i64 0) (by omega) rfl
        refine Its.mshut (S := S.setD d { S.dev d with tt := 0 }) ?_ ⟨hok, (mr_fact h1).2⟩
        unfold Mr.setD mparts
        rw [hk']
        exact this)
      subst hd
      have z' : ((S.dev ((k : Int) + 1)).tt == 0) = false := beq_eq_false_iff_ne.2 z
      generalize S.dev ((k : Int) + 1) = D at *
      generalize S.setD ((k : Int) + 1) { D with tt := 0 } = S' at *
      clear hD e0 h h1 hok hp hk'
      go_enter Tryz.func215, Tryz.ntmps215
      go_wp2_with (first
        | (go_at_call 139; refine K1.out.mono ?_; rintro e w1 ⟨rfl, rfl⟩)
        | (go_at_call 140; refine K2.out.mono ?_; rintro e w1 ⟨rfl, rfl⟩))
      go_ret
      exact ⟨rfl, HX.out⟩
end
end Go.Proofs.YtocmngpoemfpkaaGreatDoor

namespace Go.Proofs.YtocmngpoemfpkaaGreatDoor
open Go.RowKit
set_option linter.unusedVariables false
section
variable {w0 w : World} {l : List It} {B g n m : Nat} {H : Nat × Nat} {es : List (Int × Int)} {S : Mr}
def Rds (g n m k kf ke : Nat) (H : Nat × Nat) (x y : Int) (D : Dv) (W : World) : Prop :=
  W.cell? ⟨g, 0, none⟩ = some (.slice (some ⟨H.1, 0, none⟩) n n) ∧ W.cell? ⟨H.1, kf, none⟩ = some (.int .i64 x) ∧ W.cell? ⟨H.1, ke, none⟩ = some (.int .i64 y) ∧
    W.cell? ⟨H.2, k * 6, none⟩ = some (.int .i64 (kf : Int)) ∧ W.cell? ⟨H.2, k * 6 + 1, none⟩ = some (.int .i64 (ke : Int)) ∧ W.cell? ⟨H.2, k * 6 + 2, none⟩ = some (.int .i64 D.tt) ∧ W.cell? ⟨H.2, k * 6 + 5, none⟩ = some (.bool D.dn) ∧ W.cell? ⟨H.2, k * 6 + 3, none⟩ = some (.int .i64 D.sq) ∧ W.cell? ⟨H.2, k * 6 + 4, none⟩ = some (.bool D.ev) ∧
    (∀ i, i < 6 → W.frozen? ⟨H.2, k * 6 + i, none⟩ = false) ∧ W.frozen? ⟨H.1, kf, none⟩ = false ∧ W.frozen? ⟨H.1, ke, none⟩ = false
theorem rds_of (h : (It.mir B g H n m es S).P w) {d : Int} (hD : S.isD d = true) : ∃ k kf ke : Nat, d = (k : Int) + 1 ∧ k < m ∧ (d - 1).toNat = k ∧ S.ds[k]? = some (S.dev d) ∧ (S.dev d).fr = (kf : Int) ∧ kf < n ∧ (S.dev d).en = (ke : Int) ∧ ke < n ∧ kf ≠ ke ∧
    ∀ (w0 : World) (l : List It) (W : World), Its w0 (.mir B g H n m es S :: l) W → Rds g n m k kf ke H (S.att (S.dev d).fr) (S.att (S.dev d).en) (S.dev d) W := by
  obtain ⟨k, hd, hk, hk', hp⟩ := dev_k h hD
  obtain ⟨f1, f2, f3⟩ := (mr_ok h).ins (Mr.dev_at hD).2
  have l0 := (mr_len h).1
  have g1 := Mr.isN_iff.1 f1
  have g2 := Mr.isN_iff.1 f2
  obtain ⟨kf, ef⟩ : ∃ kf : Nat, (S.dev d).fr = (kf : Int) := ⟨(S.dev d).fr.toNat, by omega⟩
  obtain ⟨ke, ee⟩ : ∃ ke : Nat, (S.dev d).en = (ke : Int) := ⟨(S.dev d).en.toNat, by omega⟩
  refine ⟨k, kf, ke, hd, hk, hk', hp, ef, by omega, ee, by omega, fun q => f3 (by rw [ef, ee, q]), fun w0 l W hW => ?_⟩
  have hW1 := hW.one
  obtain ⟨d0, d1, d2, d3, d4, d5⟩ := mr_d hW1 hp
  obtain ⟨x, hx, x1, x2⟩ := mr_t hW1 (k := kf) (by omega)
  obtain ⟨y, hy, y1, y2⟩ := mr_t hW1 (k := ke) (by omega)
  rw [ef, ee, Mr.att_nat hx, Mr.att_nat hy]
  rw [ef] at d0
  rw [ee] at d1
  exact ⟨(mr_cells hW1).1, x1, y1, d0, d1, d2, d5, d3, d4, fun i hi => mr_df hW1 hk hi, x2, y2⟩
set_option maxRecDepth 100000 in
set_option maxHeartbeats 2000000 in
theorem sendS (h : Its w0 (.mir B g H n m es S :: l) w) (d t q : Int) : Calls Tryz.prog 213 #[.pointer (some ⟨g, 0, none⟩), .int .i64 d, .int .i64 t, .int .i64 q] w fun e w' => e = .returned (.int .i64 (S.snd d t q).1) ∧ Its w0 (.mir B g H n m es (S.snd d t q).2 :: l) w' := by
  have h1 := h.one
  have hok := (mr_ok h1).snd d t q
  have K1 := hide (isDev_m h1 d)
  have K2 := hide (isTote_any t w)
  have K3 := hide (isSeq_any q w)
  have HI := hide h
  have e0 : S.snd d t q = if (S.isD d && isT t && isQ q) = false then (1, S) else if ((S.dev d).dn || decide ((S.dev d).tt ≠ 0)) = true then (140, S) else if (decide (S.att (S.dev d).fr ≠ t) || S.way t) = true then (160, S) else if S.tak (S.dev d).en = true then (100, S) else (0, S.setD d { S.dev d with tt := t, sq := q, ev := true }) := rfl
  rw [e0] at hok ⊢
  cases hD : S.isD d with
  | false =>
    rw [hD] at K1
    rw [if_pos (show (false && isT t && isQ q) = false from rfl)]
    clear hD e0 h h1 hok
    go_enter Tryz.func213, Tryz.ntmps213
    go_wp2_with (go_at_call 139; refine K1.out.mono ?_; rintro e w1 ⟨rfl, rfl⟩)
    go_ret
    exact ⟨rfl, HI.out⟩
  | true =>
  rw [hD] at K1 hok
  cases hT : isT t with
  | false =>
    rw [hT] at K2
    rw [if_pos (show (true && false && isQ q) = false from rfl)]
    clear hD hT e0 h h1 hok
    go_enter Tryz.func213, Tryz.ntmps213
    go_wp2_with (first
      | (go_at_call 139; refine K1.out.mono ?_; rintro e w1 ⟨rfl, rfl⟩)
      | (go_at_call 137; refine K2.out.mono ?_; rintro e w1 ⟨rfl, rfl⟩))
    go_ret
    exact ⟨rfl, HI.out⟩
  | true =>
  rw [hT] at K2 hok
  cases hQ : isQ q with
  | false =>
    rw [hQ] at K3
    rw [if_pos (show (true && true && false) = false from rfl)]
    clear hD hT hQ e0 h h1 hok
    go_enter Tryz.func213, Tryz.ntmps213
    go_wp2_with (first
      | (go_at_call 139; refine K1.out.mono ?_; rintro e w1 ⟨rfl, rfl⟩)
      | (go_at_call 137; refine K2.out.mono ?_; rintro e w1 ⟨rfl, rfl⟩)
      | (go_at_call 238; refine K3.out.mono ?_; rintro e w1 ⟨rfl, rfl⟩))
    go_ret
    exact ⟨rfl, HI.out⟩
  | true =>
  rw [hQ] at K3 hok
  rw [if_neg (show ¬ (true && true && true) = false by simp)] at hok ⊢
  obtain ⟨k, kf, ke, hd, hk, hk', hp, ef, hkf, ee, hke, hne, X0⟩ := rds_of h1 hD
  have X := hide (X0 w0 l)
  clear X0
  have K4 := hide (device_m h1 k hk)
  have K5 : Hid (∀ W, Its w0 (.mir B g H n m es S :: l) W → Calls Tryz.prog 239 #[.pointer (some ⟨g, 0, none⟩), .int .i64 t] W fun e w' => e = .returned (.bool (S.way t)) ∧ Below W.heap.size W w') := hide (fun W hW => way_m hW.one t)
  have K6 : Hid (∀ W, Its w0 (.mir B g H n m es S :: l) W → Calls Tryz.prog 206 #[.pointer (some ⟨g, 0, none⟩), .int .i64 (ke : Int)] W fun e w' => e = .returned (.bool (S.tak (ke : Int))) ∧ Below W.heap.size W w') := hide (fun W hW => taken_m hW.one ke)
  obtain ⟨c0, c1, c2, c3, c4, c5, c6, cq, cv, c7, c8, c9⟩ := X.out _ HI.out
  have j0 : (0 : Int) ≤ (kf : Int) := by omega
  have j1 : (kf : Int) < (n : Int) := by omega
  have fi : Hid (MFact n m es S) := hide (mr_fact h1)
  rw [ee] at hok ⊢
  have hok' := hide hok
  clear hok
  cases hdn : (S.dev d).dn with
  | true =>
    rw [if_pos (by simp)]
    rw [hdn] at c6
    subst hd
    clear hD hT hQ e0 h h1 hp hk' ef ee hdn hok' hne
    generalize S.dev ((k : Int) + 1) = D at *
    go_enter Tryz.func213, Tryz.ntmps213
    go_wp2_with (first
      | (go_at_call 139; refine K1.out.mono ?_; rintro e w1 ⟨rfl, rfl⟩)
      | (go_at_call 137; refine K2.out.mono ?_; rintro e w1 ⟨rfl, rfl⟩)
      | (go_at_call 238; refine K3.out.mono ?_; rintro e w1 ⟨rfl, rfl⟩)
      | (go_at_call 140; refine K4.out.mono ?_; rintro e w1 ⟨rfl, rfl⟩))
    go_ret
    exact ⟨rfl, HI.out⟩
  | false =>
  rw [hdn] at c6 hok'
  by_cases z : (S.dev d).tt = 0
  case neg =>
    rw [if_pos (by simp [z])]
    have z' : ((S.dev d).tt == 0) = false := beq_eq_false_iff_ne.2 z
    subst hd
    clear hD hT hQ e0 h h1 hp hk' ef ee hdn hok' hne
    generalize S.dev ((k : Int) + 1) = D at *
    go_enter Tryz.func213, Tryz.ntmps213
    go_wp2_with (first
      | (go_at_call 139; refine K1.out.mono ?_; rintro e w1 ⟨rfl, rfl⟩)
      | (go_at_call 137; refine K2.out.mono ?_; rintro e w1 ⟨rfl, rfl⟩)
      | (go_at_call 238; refine K3.out.mono ?_; rintro e w1 ⟨rfl, rfl⟩)
      | (go_at_call 140; refine K4.out.mono ?_; rintro e w1 ⟨rfl, rfl⟩))
    go_ret
    exact ⟨rfl, HI.out⟩
  case pos =>
  rw [if_neg (by simp [z])]
  replace hok' := hok'.out
  rw [if_neg (by simp [z])] at hok'
  have c5' : w.cell? ⟨H.2, k * 6 + 2, none⟩ = some (.int .i64 0) := by rw [← z]; exact c5
  clear c5
  by_cases ha : S.att (S.dev d).fr = t
  case neg =>
    rw [if_pos (by simp [ha])]
    have ha' : (S.att (S.dev d).fr == t) = false := beq_eq_false_iff_ne.2 ha
    generalize S.att (S.dev d).fr = xa at *
    generalize S.att (S.dev d).en = ya at *
    subst hd
    clear hD hT hQ e0 h h1 hp hk' ef ee hdn hok' hne z
    generalize S.dev ((k : Int) + 1) = D at *
    go_enter Tryz.func213, Tryz.ntmps213
    go_wp2_with (first
      | (go_at_call 139; refine K1.out.mono ?_; rintro e w1 ⟨rfl, rfl⟩)
      | (go_at_call 137; refine K2.out.mono ?_; rintro e w1 ⟨rfl, rfl⟩)
      | (go_at_call 238; refine K3.out.mono ?_; rintro e w1 ⟨rfl, rfl⟩)
      | (go_at_call 140; refine K4.out.mono ?_; rintro e w1 ⟨rfl, rfl⟩))
    go_quiet (fail)
    go_wp2_with fail
    go_ret
    exact ⟨rfl, HI.out.drew _⟩
  case pos =>
  rw [ha] at c1 X hok'
  have hyes : decide (S.att (S.dev d).fr ≠ t) = false := by simp [ha]
  rw [hyes]
  rw [show decide (t ≠ t) = false by simp] at hok'
  rw [Bool.false_or] at hok' ⊢
  cases hw : S.way t with
  | true =>
    rw [hw] at K5
    rw [if_pos rfl]
    generalize S.att (S.dev d).en = ya at *
    subst hd
    clear hD hT hQ e0 h h1 hp hk' ef ee hdn hok' hne z ha hyes hw
    generalize S.dev ((k : Int) + 1) = D at *
    go_enter Tryz.func213, Tryz.ntmps213
    go_wp2_with (first
      | (go_at_call 139; refine K1.out.mono ?_; rintro e w1 ⟨rfl, rfl⟩)
      | (go_at_call 137; refine K2.out.mono ?_; rintro e w1 ⟨rfl, rfl⟩)
      | (go_at_call 238; refine K3.out.mono ?_; rintro e w1 ⟨rfl, rfl⟩)
      | (go_at_call 140; refine K4.out.mono ?_; rintro e w1 ⟨rfl, rfl⟩))
    go_region_with (first
      | (go_at_call 239; refine (K5.out _ HI.out).mono ?_; rintro e w2 ⟨rfl, B2⟩; have H2 := hide (HI.out.keep B2); clear B2; obtain ⟨y0, y1, y2, y3, y4, y5, y6, yq, yv, y7, y8, y9⟩ := X.out _ H2.out)
      | (go_at_call 239; refine (K5.out _ (HI.out.drew _)).mono ?_; rintro e w2 ⟨rfl, B2⟩; have H2 := hide ((HI.out.drew _).keep B2); clear B2; obtain ⟨y0, y1, y2, y3, y4, y5, y6, yq, yv, y7, y8, y9⟩ := X.out _ H2.out))
    all_goals go_wp2_with fail
    all_goals go_ret
    all_goals exact ⟨rfl, H2.out⟩
  | false =>
  rw [hw] at K5 hok'
  rw [if_neg (by simp)] at hok' ⊢
  cases htk : S.tak (ke : Int) with
  | true =>
    rw [htk] at K6
    rw [if_pos rfl]
    generalize S.att (S.dev d).en = ya at *
    subst hd
    clear hD hT hQ e0 h h1 hp hk' ef ee hdn hok' hne z ha hyes hw htk
    generalize S.dev ((k : Int) + 1) = D at *
    go_enter Tryz.func213, Tryz.ntmps213
    go_wp2_with (first
      | (go_at_call 139; refine K1.out.mono ?_; rintro e w1 ⟨rfl, rfl⟩)
      | (go_at_call 137; refine K2.out.mono ?_; rintro e w1 ⟨rfl, rfl⟩)
      | (go_at_call 238; refine K3.out.mono ?_; rintro e w1 ⟨rfl, rfl⟩)
      | (go_at_call 140; refine K4.out.mono ?_; rintro e w1 ⟨rfl, rfl⟩))
    go_region_with (first
      | (go_at_call 239; refine (K5.out _ HI.out).mono ?_; rintro e w2 ⟨rfl, B2⟩; have H2 := hide (HI.out.keep B2); clear B2; obtain ⟨y0, y1, y2, y3, y4, y5, y6, yq, yv, y7, y8, y9⟩ := X.out _ H2.out)
      | (go_at_call 239; refine (K5.out _ (HI.out.drew _)).mono ?_; rintro e w2 ⟨rfl, B2⟩; have H2 := hide ((HI.out.drew _).keep B2); clear B2; obtain ⟨y0, y1, y2, y3, y4, y5, y6, yq, yv, y7, y8, y9⟩ := X.out _ H2.out))
    all_goals go_wp2_with (go_at_call 206; refine (K6.out _ H2.out).mono ?_; rintro e w3 ⟨rfl, B3⟩; have H3 := hide (H2.out.keep B3); clear B3; obtain ⟨z0, z1, z2, z3, z4, z5, z6, zq, zv, z7, z8, z9⟩ := X.out _ H3.out)
    all_goals go_ret
    all_goals exact ⟨rfl, H3.out⟩
  | false =>
    rw [htk] at K6 hok'
    rw [if_neg (by simp)] at hok' ⊢
    have HX : Hid (∀ W, Its w0 (.mir B g H n m es S :: l) W → Its w0 (.mir B g H n m es (S.setD d { S.dev d with tt := t, sq := q, ev := true }) :: l) (((W.setCell ⟨H.2, k * 6 + 2, none⟩ (.int .i64 t)).setCell ⟨H.2, k * 6 + 3, none⟩ (.int .i64 q)).setCell ⟨H.2, k * 6 + 4, none⟩ (.bool true))) := hide (fun W hW => by
      have a1 := hW.mopen.1.dset hp { S.dev d with tt := t } 2 (.int .i64 t) (by omega) rfl
      have a2 := Its.dset a1 (set_at hp) { S.dev d with tt := t, sq := q } 3 (.int .i64 q) (by omega) rfl
      have a3 := Its.dset a2 (set_at (set_at hp)) { S.dev d with tt := t, sq := q, ev := true } 4 (.bool true) (by omega) rfl
      rw [List.set_set, List.set_set] at a3
      refine Its.mshut (S := S.setD d { S.dev d with tt := t, sq := q, ev := true }) ?_ ⟨hok', fi.out.2⟩
      unfold Mr.setD mparts
      rw [hk']
      exact a3)
    generalize S.att (S.dev d).en = ya at *
    subst hd
    generalize S.setD ((k : Int) + 1) { S.dev ((k : Int) + 1) with tt := t, sq := q, ev := true } = S' at *
    clear hD hT hQ e0 h h1 hp hk' ef ee hdn hok' hne z ha hyes hw htk
    generalize S.dev ((k : Int) + 1) = D at *
    go_enter Tryz.func213, Tryz.ntmps213
    go_wp2_with (first
      | (go_at_call 139; refine K1.out.mono ?_; rintro e w1 ⟨rfl, rfl⟩)
      | (go_at_call 137; refine K2.out.mono ?_; rintro e w1 ⟨rfl, rfl⟩)
      | (go_at_call 238; refine K3.out.mono ?_; rintro e w1 ⟨rfl, rfl⟩)
      | (go_at_call 140; refine K4.out.mono ?_; rintro e w1 ⟨rfl, rfl⟩))
    go_region_with (first
      | (go_at_call 239; refine (K5.out _ HI.out).mono ?_; rintro e w2 ⟨rfl, B2⟩; have H2 := hide (HI.out.keep B2); clear B2; obtain ⟨y0, y1, y2, y3, y4, y5, y6, yq, yv, y7, y8, y9⟩ := X.out _ H2.out)
      | (go_at_call 239; refine (K5.out _ (HI.out.drew _)).mono ?_; rintro e w2 ⟨rfl, B2⟩; have H2 := hide ((HI.out.drew _).keep B2); clear B2; obtain ⟨y0, y1, y2, y3, y4, y5, y6, yq, yv, y7, y8, y9⟩ := X.out _ H2.out))
    all_goals go_wp2_with (go_at_call 206; refine (K6.out _ H2.out).mono ?_; rintro e w3 ⟨rfl, B3⟩; have H3 := hide (H2.out.keep B3); clear B3; have u2 := (X.out _ H3.out).2.2.2.2.2.2.2.2.2.1 2 (by omega); have u3 := (X.out _ H3.out).2.2.2.2.2.2.2.2.2.1 3 (by omega); have u4 := (X.out _ H3.out).2.2.2.2.2.2.2.2.2.1 4 (by omega); obtain ⟨z0, z1, z2, z3, z4, z5, z6, zq, zv, z7, z8, z9⟩ := X.out _ H3.out)
    all_goals go_ret
    all_goals exact ⟨rfl, HX.out _ H3.out⟩
end
end Go.Proofs.YtocmngpoemfpkaaGreatDoor
