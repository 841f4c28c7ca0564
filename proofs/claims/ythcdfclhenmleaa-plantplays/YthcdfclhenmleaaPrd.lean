/- A device's move. -/
import Derived.Test.YthcdfclhenmleaaPrc
namespace Go.Proofs.Ythcdfclhenmleaa
open Go.RowKit
set_option linter.unusedVariables false

section
variable {w0 w : World} {l : List It} {B g n m : Nat} {H : Nat × Nat} {es : List (Int × Int)} {S : Pl}
/-- what is read of a device and of its ends -/
def Rds (g n k kf ke : Nat) (H : Nat × Nat) (x y v : Int) (D : Dv) (W : World) : Prop :=
  W.cell? ⟨g, 0, none⟩ = some (.slice (some ⟨H.1, 0, none⟩) n n) ∧ W.cell? ⟨g, 2, none⟩ = some (.int .i64 v) ∧ W.frozen? ⟨g, 2, none⟩ = false ∧ W.cell? ⟨H.1, kf, none⟩ = some (.int .i64 x) ∧ W.cell? ⟨H.1, ke, none⟩ = some (.int .i64 y) ∧
    W.cell? ⟨H.2, k * 5, none⟩ = some (.int .i64 (kf : Int)) ∧ W.cell? ⟨H.2, k * 5 + 1, none⟩ = some (.int .i64 (ke : Int)) ∧ W.cell? ⟨H.2, k * 5 + 2, none⟩ = some (.int .u16 D.sq) ∧ W.cell? ⟨H.2, k * 5 + 3, none⟩ = some (.int .i64 D.tt) ∧
    (∀ i, i < 5 → W.frozen? ⟨H.2, k * 5 + i, none⟩ = false) ∧ W.frozen? ⟨H.1, kf, none⟩ = false ∧ W.frozen? ⟨H.1, ke, none⟩ = false
theorem rds_of (h : (It.pla B g H n m es S).P w) {d : Int} (hD : S.isD d = true) : ∃ k kf ke : Nat, d = (k : Int) + 1 ∧ k < m ∧ (d - 1).toNat = k ∧ S.ds[k]? = some (S.dev d) ∧ (S.dev d).fr = (kf : Int) ∧ kf < n ∧ (S.dev d).en = (ke : Int) ∧ ke < n ∧ kf ≠ ke ∧
    ∀ (W : World), (It.pla B g H n m es S).P W → Rds g n k kf ke H (S.att (S.dev d).fr) (S.att (S.dev d).en) S.mv (S.dev d) W := by
  obtain ⟨k, hd, hk, hk', hp⟩ := dev_k h hD
  obtain ⟨f1, f2, f3⟩ := (pl_ok h).ins (Pl.dev_at hD).2
  have l0 := (pl_len h).1
  have g1 := Pl.isN_iff.1 f1
  have g2 := Pl.isN_iff.1 f2
  obtain ⟨kf, ef⟩ : ∃ kf : Nat, (S.dev d).fr = (kf : Int) := ⟨(S.dev d).fr.toNat, by omega⟩
  obtain ⟨ke, ee⟩ : ∃ ke : Nat, (S.dev d).en = (ke : Int) := ⟨(S.dev d).en.toNat, by omega⟩
  refine ⟨k, kf, ke, hd, hk, hk', hp, ef, by omega, ee, by omega, fun q => f3 (by rw [ef, ee, q]), fun W hW1 => ?_⟩
  obtain ⟨d0, d1, d2, d3, d4⟩ := pl_d hW1 hp
  obtain ⟨x, hx, x1, x2⟩ := pl_t hW1 (k := kf) (by omega)
  obtain ⟨y, hy, y1, y2⟩ := pl_t hW1 (k := ke) (by omega)
  rw [ef, ee, Pl.att_nat hx, Pl.att_nat hy]
  rw [ef] at d0
  rw [ee] at d1
  exact ⟨(pl_cells hW1).1, (pl_cells hW1).2.2.1, (pl_cells hW1).2.2.2 2, x1, y1, d0, d1, d2, d3, fun i hi => pl_df hW1 hk hi, x2, y2⟩
/-- a telegram that is handed back, or none -/
def HP (w0 : World) (l : List It) (B g n m : Nat) (H : Nat × Nat) (es : List (Int × Int)) (P : (Tl × Bool) × Pl) (e : Ending) (w' : World) : Prop := e = .returned (.tuple #[tv P.1.1, .bool P.1.2]) ∧ Its w0 (.pla B g H n m es P.2 :: l) w'
set_option maxRecDepth 100000 in
set_option maxHeartbeats 4000000 in
theorem movS (h : Its w0 (.pla B g H n m es S :: l) w) (t : Tl) (ht : t.In) (hD : S.isD t.d = true) (hv : S.mv ≤ 1000000) : Calls Try.prog 33 #[.pointer (some ⟨g, 0, none⟩), tv t] w fun e w' => HP w0 l B g n m H es (S.mov t) e w' := by
  have h1 := h.one
  have hok := (pl_ok h1).mov ht hD
  have hdr := (pl_ok h1).dr _ (Pl.dev_at hD).2
  have hm0 := (pl_ok h1).m0
  have fi : Hid (PFact n m es S) := hide (pl_fact h1)
  have hbd : H.1 ≠ H.2 := fun q => by
    have q1 := own_cells (pl_ts h1) H.1 rfl
    have q2 := own_cells (pl_ds h1) H.2 rfl
    obtain ⟨a, q1, _⟩ := q1
    obtain ⟨b, q2, _⟩ := q2
    rw [q, q2] at q1
    simp only [Option.some.injEq, Obj.cells.injEq] at q1
    exact absurd q1.2.1 (show (76 : Nat) ≠ 3 by omega)
  obtain ⟨k, kf, ke, hd, hk, hk', hp, ef, hkf, ee, hke, hne, X0⟩ := rds_of h1 hD
  have X := hide X0
  clear X0
  have KD : Hid (∀ W, (It.pla B g H n m es S).P W → Calls Try.prog 34 #[.pointer (some ⟨g, 0, none⟩), .int .i64 ((k : Int) + 1)] W fun e w' => e = .returned (.pointer (some ⟨H.2, k * 5, none⟩)) ∧ w' = W) := hide (fun W hW => device_m hW k hk)
  have KJ : Hid (∀ W, (It.pla B g H n m es S).P W → Calls Try.prog 45 #[.pointer (some ⟨H.2, k * 5, none⟩), .int .u16 t.s, .int .i64 t.a] W fun e w' => e = .returned (.bool (Pl.jst (S.dev t.d) t)) ∧ w' = W) := hide (fun W hW => just_d (pl_d hW hp).2.2.1 (pl_d hW hp).2.2.2.1 t)
  have KA : Hid (∀ W, (It.pla B g H n m es S).P W → Calls Try.prog 47 #[.pointer (some ⟨H.2, k * 5, none⟩)] W fun e w' => e = .returned (.bool (decide ((S.dev t.d).tt ≠ 0))) ∧ w' = W) := hide (fun W hW => any_d (pl_d hW hp).2.2.2.1)
  have KB : Hid (∀ W, Calls Try.prog 48 #[.int .u16 (S.dev t.d).sq, .int .u16 t.s] W fun e w' => e = .returned (.bool (decide (0 < dst (S.dev t.d).sq t.s))) ∧ w' = W) := hide (fun W => behind_any _ _ W)
  have KW : Hid (∀ W, (It.pla B g H n m es S).P W → Calls Try.prog 24 #[.pointer (some ⟨g, 0, none⟩), .int .i64 t.a] W fun e w' => e = .returned (.int .i64 (S.whr t.a)) ∧ w' = W) := hide (fun W hW => where_m hW t.a)
  have KN : Hid (∀ W, Calls Try.prog 46 #[.agg #[.int .u8 t.k, .int .u16 t.d, .int .u16 t.s, .int .u16 t.a, .int .u16 t.b]] W fun e w' => e = .returned (.agg #[.int .u8 2, .int .u16 t.d, .int .u16 t.s, .int .u16 t.a, .int .u16 0]) ∧ Below W.heap.size W w') := hide (fun W => done_any t W)
  have KR : Hid (∀ (x : Int) W, Calls Try.prog 49 #[.agg #[.int .u8 t.k, .int .u16 t.d, .int .u16 t.s, .int .u16 t.a, .int .u16 t.b], .int .u16 x] W fun e w' => e = .returned (.agg #[.int .u8 3, .int .u16 t.d, .int .u16 t.s, .int .u16 t.a, .int .u16 x]) ∧ Below W.heap.size W w') := hide (fun x W => refused_any t x W)
  obtain ⟨P, hP⟩ : ∃ P, S.mov t = P := ⟨_, rfl⟩
  rw [hP] at hok ⊢
  unfold Pl.mov at hP
  have I1 := hide (h.two5 t (.int .u8 0) (.int .u16 0) (.int .u16 0) (.int .u16 0) (.int .u16 0))
  have hta := ht.2.2.2.1
  have j0 : (0 : Int) ≤ (kf : Int) := by omega
  have j1 : (kf : Int) < (n : Int) := by omega
  have j2 : (0 : Int) ≤ (ke : Int) := by omega
  have j3 : (ke : Int) < (n : Int) := by omega
  have km := (pl_len h1).2.2.2
  have ra : IntKind.i64.wrap t.a = t.a := by rw [IntKind.wrap_i64]; omega
  have rd : IntKind.i64.wrap ((k : Int) + 1) = (k : Int) + 1 := by rw [IntKind.wrap_i64]; omega
  have HR : Hid (wrap64 (S.mv + 1) = S.mv + 1) := hide (by unfold wrap64; omega)
  have hek : ke ≠ kf := fun q => hne q.symm
  have HG1 : Hid (∀ W x y, Its w0 (x :: y :: .pla B g H n m es S :: l) W → Its w0 (pparts B g H n m ⟨(S.ts.set kf 0).set ke t.a, S.ds, S.mv⟩ ++ (x :: y :: l)) ((W.setCell ⟨H.1, kf, none⟩ (.int .i64 0)).setCell ⟨H.1, ke, none⟩ (.int .i64 t.a)).drew) := hide (fun W x y hW => ((hW.rot3.popen.1.swap.tset kf 0).tset ke t.a).swap.drew 1)
  have HG2 : Hid (∀ W x y, Its w0 (pparts B g H n m ⟨(S.ts.set kf 0).set ke t.a, S.ds, S.mv⟩ ++ (x :: y :: l)) W → Its w0 (pparts B g H n m ⟨(S.ts.set kf 0).set ke t.a, S.ds.set k { S.dev t.d with sq := t.s, tt := t.a }, S.mv⟩ ++ (x :: y :: l)) ((W.setCell ⟨H.2, k * 5 + 2, none⟩ (.int .u16 t.s)).setCell ⟨H.2, k * 5 + 3, none⟩ (.int .i64 t.a))) := hide (fun W x y hW => by
    have a2 := Its.dset hW hp { S.dev t.d with sq := t.s } 2 (.int .u16 t.s) (by omega) rfl
    have a3 := Its.dset a2 (set_at hp) { S.dev t.d with sq := t.s, tt := t.a } 3 (.int .i64 t.a) (by omega) rfl
    rw [List.set_set] at a3
    exact a3)
  have HG3 : Hid (∀ W x y, PFact n m es (S.go t) → Its w0 (pparts B g H n m ⟨(S.ts.set kf 0).set ke t.a, S.ds.set k { S.dev t.d with sq := t.s, tt := t.a }, S.mv⟩ ++ (x :: y :: l)) W → Its w0 (x :: y :: .pla B g H n m es (S.go t) :: l) (W.setCell ⟨g, 2, none⟩ (.int .i64 (S.mv + 1)))) := hide (fun W x y hF hW => by
    have a4 := (Its.rot3' ((Its.rot3 hW).put1 2 (.int .i64 (S.mv + 1))))
    have e9 : S.go t = ⟨(S.ts.set kf 0).set ke t.a, S.ds.set k { S.dev t.d with sq := t.s, tt := t.a }, S.mv + 1⟩ := by unfold Pl.go; rw [hk', ef, ee]; rfl
    rw [e9] at hF ⊢
    exact Its.rot3' (Its.pshut (S := ⟨(S.ts.set kf 0).set ke t.a, S.ds.set k { S.dev t.d with sq := t.s, tt := t.a }, S.mv + 1⟩) a4 hF))
  have HC1 : Hid (∀ W x y, Its w0 (pparts B g H n m ⟨(S.ts.set kf 0).set ke t.a, S.ds, S.mv⟩ ++ (x :: y :: l)) W → (∃ v, W.cell? ⟨H.2, k * 5 + 2, none⟩ = some v) ∧ (∃ v, W.cell? ⟨H.2, k * 5 + 3, none⟩ = some v) ∧ W.frozen? ⟨H.2, k * 5 + 2, none⟩ = false ∧ W.frozen? ⟨H.2, k * 5 + 3, none⟩ = false) := hide (fun W x y hW => by
    have o1 : dvE.Own W B (.slice (some ⟨H.2, 0, none⟩) m m) S.ds := hW.one
    have a1 := dv_at o1.rd k _ hp
    have hl := idx_lt hp
    exact ⟨⟨_, a1.2.2.1⟩, ⟨_, a1.2.2.2.1⟩, (o1.cell (k * 5 + 2) (by show k * 5 + 2 < S.ds.length * 5; omega)).2.1, (o1.cell (k * 5 + 3) (by show k * 5 + 3 < S.ds.length * 5; omega)).2.1⟩)
  have HC2 : Hid (∀ (W : World) ts ds x y, Its w0 (pparts B g H n m ⟨ts, ds, S.mv⟩ ++ (x :: y :: l)) W → W.cell? ⟨g, 2, none⟩ = some (.int .i64 S.mv) ∧ W.frozen? ⟨g, 2, none⟩ = false) := hide (fun W ts ds x y hW => ⟨(cells_at hW.three 2).1, (cells_at hW.three 2).2⟩)
  rw [ef, ee] at X hP
  obtain ⟨tk, td, ts, ta, tb⟩ := t
  dsimp only at *
  have HP9 := hide hP
  have HO := hide hok
  clear hP hok ht hD h h1 hp hk' ef ee
  subst hd
  unfold tv
  dsimp only
  generalize S.att (kf : Int) = xa at *
  generalize S.att (ke : Int) = ya at *
  generalize S.whr ta = wa at *
  obtain ⟨Dd, hDd⟩ : ∃ Dd, S.dev ((k : Int) + 1) = Dd := ⟨_, rfl⟩
  rw [hDd] at X KJ KA KB HP9 hdr
  go_enter Try.func33, Try.ntmps33
  go_upto_region 1 with fail
  generalize (w.alloc (.cells #[.int .u8 tk, .int .u16 ((k : Int) + 1), .int .u16 ts, .int .u16 ta, .int .u16 tb] 45)).alloc (.cells #[.int .u8 0, .int .u16 0, .int .u16 0, .int .u16 0, .int .u16 0] 45) = W1 at *
  obtain ⟨ae0, ae1, ae2, ae3, ae4, aef⟩ := Its.cells5 I1.out; obtain ⟨at0, at1, at2, at3, at4, atf⟩ := Its.cells5 I1.out.tail; obtain ⟨ag0, ag2, agf, axf, axe, ad0, ad1, ad2, ad3, adf, aqf, aqe⟩ := X.out _ I1.out.three
  go_quiet ((go_at_call 34; exact Calls.quiet_of_same (KD.out _ ((It.pla B g H n m es S).keep I1.out.three (below_drew _ _)))))
  have I2 := hide (I1.out.drew nq)
  clear ae0 ae1 ae2 ae3 ae4 aef at0 at1 at2 at3 at4 atf ag0 ag2 agf axf axe ad0 ad1 ad2 ad3 adf aqf aqe
  generalize W1.drewN nq = W2 at *
  clear I1
  obtain ⟨be0, be1, be2, be3, be4, bef⟩ := Its.cells5 I2.out; obtain ⟨bt0, bt1, bt2, bt3, bt4, btf⟩ := Its.cells5 I2.out.tail; obtain ⟨bg0, bg2, bgf, bxf, bxe, bd0, bd1, bd2, bd3, bdf, bqf, bqe⟩ := X.out _ I2.out.three
  cases hj : Pl.jst Dd ⟨tk, (k : Int) + 1, ts, ta, tb⟩ with
  | true =>
    rw [hj] at KJ HP9
    rw [if_pos rfl] at HP9
    clear hj
    go_upto_region 3 with (go_at_call 45; refine (KJ.out _ I2.out.three).mono ?_; rintro e W3 ⟨rfl, rfl⟩)
    go_wp2_with (go_at_call 46; refine (KN.out _).mono ?_; rintro e W4 ⟨rfl, q⟩; have I4 := hide (I2.out.keep q); clear q; obtain ⟨e0, e1, e2, e3, e4, ef⟩ := Its.cells5 I4.out)
    have IE := hide (Its.out5 I4.out (.int .u8 2) (.int .u16 ((k : Int) + 1)) (.int .u16 ts) (.int .u16 ta) (.int .u16 0))
    obtain ⟨y0, y1, y2, y3, y4, _⟩ := Its.cells5 IE.out
    exact bodyPost_ret (v := .tuple #[tv ⟨2, (k : Int) + 1, ts, ta, 0⟩, .bool true]) (by simp [tv, results, Try.results33, go_sem, y0, y1, y2, y3, y4]) rfl (by rw [← HP9.out]; exact ⟨rfl, IE.out.tail.tail⟩)
  | false =>
    rw [hj] at KJ HP9
    rw [if_neg (by simp)] at HP9
    clear hj
    go_upto_region 4 with (go_at_call 45; refine (KJ.out _ I2.out.three).mono ?_; rintro e W3 ⟨rfl, rfl⟩)
    obtain ⟨lt, hlt⟩ : ∃ lt, Pl.lte Dd ⟨tk, (k : Int) + 1, ts, ta, tb⟩ = lt := ⟨_, rfl⟩
    rw [hlt] at HP9
    have Hlt := hide hlt
    clear hlt
    go_cut [34] (fun v34 wx => v34 = .bool lt ∧ Hid (Its w0 (.box (w.heap.size + 1) #[.int .u8 0, .int .u16 0, .int .u16 0, .int .u16 0, .int .u16 0] 45 :: .box w.heap.size #[.int .u8 tk, .int .u16 ((k : Int) + 1), .int .u16 ts, .int .u16 ta, .int .u16 tb] 45 :: .pla B g H n m es S :: l) wx))
    case first =>
      by_cases z : Dd.tt = 0
      · obtain rfl : lt = false := by rw [← Hlt.out]; unfold Pl.lte; simp [z]
        have e2 : decide (Dd.tt ≠ 0) = false := by simp [z]
        rw [e2] at KA
        clear z e2
        go_quiet ((go_at_call 47; exact Calls.quiet_of_same (KA.out _ ((It.pla B g H n m es S).keep I2.out.three (below_drew _ _)))))
        have I3 := hide (I2.out.drew nq)
        go_wp2_with fail
        go_meet
        exact ⟨rfl, I3⟩
      · have e2 : decide (Dd.tt ≠ 0) = true := by simp [z]
        obtain ⟨bb, hb⟩ : ∃ bb, decide (0 < dst Dd.sq ts) = bb := ⟨_, rfl⟩
        obtain rfl : lt = !bb := by rw [← Hlt.out]; unfold Pl.lte; rw [e2, hb]; rfl
        rw [e2] at KA
        rw [hb] at KB
        clear z e2 hb
        go_quiet (first
          | (go_at_call 47; exact Calls.quiet_of_same (KA.out _ ((It.pla B g H n m es S).keep I2.out.three (below_drew _ _))))
          | (go_at_call 48; exact Calls.quiet_of_same (KB.out _)))
        have I3 := hide (I2.out.drew nq)
        go_wp2_with fail
        go_meet
        exact ⟨rfl, I3⟩
    case rest =>
    obtain ⟨rfl, I3⟩ := hcut
    clear be0 be1 be2 be3 be4 bef bt0 bt1 bt2 bt3 bt4 btf bg0 bg2 bgf bxf bxe bd0 bd1 bd2 bd3 bdf bqf bqe
    obtain ⟨be0, be1, be2, be3, be4, bef⟩ := Its.cells5 I3.out; obtain ⟨bt0, bt1, bt2, bt3, bt4, btf⟩ := Its.cells5 I3.out.tail; obtain ⟨bg0, bg2, bgf, bxf, bxe, bd0, bd1, bd2, bd3, bdf, bqf, bqe⟩ := X.out _ I3.out.three
    clear I2
    cases lt with
    | true =>
      rw [if_pos rfl] at HP9
      have IE := hide (Its.out5 I3.out (.int .u8 0) (.int .u16 0) (.int .u16 0) (.int .u16 0) (.int .u16 0))
      go_wp2_with fail
      obtain ⟨y0, y1, y2, y3, y4, _⟩ := Its.cells5 IE.out
      exact bodyPost_ret (v := .tuple #[tv tz, .bool false]) (by simp [tv, tz, results, Try.results33, go_sem, y0, y1, y2, y3, y4]) rfl (by rw [← HP9.out]; exact ⟨rfl, IE.out.tail.tail⟩)
    | false =>
    rw [if_neg (by simp)] at HP9
    go_upto_region 6 with fail
    go_quiet ((go_at_call 24; exact Calls.quiet_of_same (KW.out _ ((It.pla B g H n m es S).keep I3.out.three (below_drew _ _)))))
    have I4 := hide (I3.out.drew nq)
    clear be0 be1 be2 be3 be4 bef bt0 bt1 bt2 bt3 bt4 btf bg0 bg2 bgf bxf bxe bd0 bd1 bd2 bd3 bdf bqf bqe
    clear I3
    generalize wc.drewN nq = W4 at *
    obtain ⟨be0, be1, be2, be3, be4, bef⟩ := Its.cells5 I4.out; obtain ⟨bt0, bt1, bt2, bt3, bt4, btf⟩ := Its.cells5 I4.out.tail; obtain ⟨bg0, bg2, bgf, bxf, bxe, bd0, bd1, bd2, bd3, bdf, bqf, bqe⟩ := X.out _ I4.out.three
    by_cases hw : wa = (kf : Int)
    case neg =>
      rw [if_pos hw] at HP9
      have hw' : (wa == (kf : Int)) = false := beq_eq_false_iff_ne.2 hw
      go_wp2_with (go_at_call 49; refine (KR.out _ _).mono ?_; rintro e W5 ⟨rfl, q⟩; have I5 := hide (I4.out.keep q); clear q; obtain ⟨e0, e1, e2, e3, e4, ef⟩ := Its.cells5 I5.out)
      have IE := hide (Its.out5 I5.out (.int .u8 3) (.int .u16 ((k : Int) + 1)) (.int .u16 ts) (.int .u16 ta) (.int .u16 1))
      obtain ⟨y0, y1, y2, y3, y4, _⟩ := Its.cells5 IE.out
      exact bodyPost_ret (v := .tuple #[tv ⟨3, (k : Int) + 1, ts, ta, 1⟩, .bool true]) (by simp [tv, results, Try.results33, go_sem, y0, y1, y2, y3, y4]) rfl (by rw [← HP9.out]; exact ⟨rfl, IE.out.tail.tail⟩)
    case pos =>
    rw [if_neg (by simpa using hw)] at HP9
    subst hw
    go_upto_region 8 with fail
    go_quiet (fail)
    have I5 := hide (I4.out.drew nq)
    clear be0 be1 be2 be3 be4 bef bt0 bt1 bt2 bt3 bt4 btf bg0 bg2 bgf bxf bxe bd0 bd1 bd2 bd3 bdf bqf bqe
    clear I4
    generalize W4.drewN nq = W5 at *
    obtain ⟨be0, be1, be2, be3, be4, bef⟩ := Its.cells5 I5.out; obtain ⟨bt0, bt1, bt2, bt3, bt4, btf⟩ := Its.cells5 I5.out.tail; obtain ⟨bg0, bg2, bgf, bxf, bxe, bd0, bd1, bd2, bd3, bdf, bqf, bqe⟩ := X.out _ I5.out.three
    by_cases hy : ya = 0
    case neg =>
      rw [if_pos hy] at HP9
      have hy' : (ya == 0) = false := beq_eq_false_iff_ne.2 hy
      go_wp2_with (go_at_call 49; refine (KR.out _ _).mono ?_; rintro e W6 ⟨rfl, q⟩; have I6 := hide (I5.out.keep q); clear q; obtain ⟨e0, e1, e2, e3, e4, ef⟩ := Its.cells5 I6.out)
      have IE := hide (Its.out5 I6.out (.int .u8 3) (.int .u16 ((k : Int) + 1)) (.int .u16 ts) (.int .u16 ta) (.int .u16 2))
      obtain ⟨y0, y1, y2, y3, y4, _⟩ := Its.cells5 IE.out
      exact bodyPost_ret (v := .tuple #[tv ⟨3, (k : Int) + 1, ts, ta, 2⟩, .bool true]) (by simp [tv, results, Try.results33, go_sem, y0, y1, y2, y3, y4]) rfl (by rw [← HP9.out]; exact ⟨rfl, IE.out.tail.tail⟩)
    case pos =>
    rw [if_neg (by simpa using hy)] at HP9
    subst hy
    have HPF := hide HP9.out
    have hF : PFact n m es (S.go ⟨tk, (k : Int) + 1, ts, ta, tb⟩) := ⟨by have := HO.out; rw [← HP9.out] at this; exact this, fi.out.2⟩
    have HF := hide hF
    clear hF
    go_upto_region 10 with fail
    go_region
    have I6 := hide (HG1.out _ _ _ I5.out)
    clear be0 be1 be2 be3 be4 bef bt0 bt1 bt2 bt3 bt4 btf bg0 bg2 bgf bxf bxe bd0 bd1 bd2 bd3 bdf bqf bqe
    clear HG1 I5 KD KJ KA KB KW KR X HO HP9 ra rd j0 j1 j2 j3
    generalize ((W5.setCell ⟨H.1, kf, none⟩ (.int .i64 0)).setCell ⟨H.1, ke, none⟩ (.int .i64 ta)).drew = W6 at *
    obtain ⟨⟨v2, q2⟩, ⟨v3, q3⟩, q4, q5⟩ := HC1.out _ _ _ I6.out
    obtain ⟨t0, t1, t2, t3, t4, tf⟩ := Its.cells5 I6.out.tail.tail.tail.tail
    have I7 := hide (HG2.out _ _ _ I6.out)
    go_upto_region 12 with fail
    clear q2 q3 q4 q5 t0 t1 t2 t3 t4 tf I6 HG2 HC1
    generalize (W6.setCell ⟨H.2, k * 5 + 2, none⟩ (.int .u16 ts)).setCell ⟨H.2, k * 5 + 3, none⟩ (.int .i64 ta) = W7 at *
    obtain ⟨q2, q3⟩ := HC2.out _ _ _ _ _ I7.out
    have I8 := hide (HG3.out _ _ _ HF.out I7.out)
    have rv := HR.out
    go_upto_region 13 with fail
    clear q2 q3 rv I7 HG3 HC2 HR
    generalize W7.setCell ⟨g, 2, none⟩ (.int .i64 (S.mv + 1)) = W8 at *
    obtain ⟨t0, t1, t2, t3, t4, tf⟩ := Its.cells5 I8.out.tail
    go_wp2_with (go_at_call 46; refine (KN.out _).mono ?_; rintro e W9 ⟨rfl, q⟩; have I9 := hide (I8.out.keep q); clear q; obtain ⟨e0, e1, e2, e3, e4, ef⟩ := Its.cells5 I9.out)
    have IE := hide (Its.out5 I9.out (.int .u8 2) (.int .u16 ((k : Int) + 1)) (.int .u16 ts) (.int .u16 ta) (.int .u16 0))
    obtain ⟨y0, y1, y2, y3, y4, _⟩ := Its.cells5 IE.out
    exact bodyPost_ret (v := .tuple #[tv ⟨2, (k : Int) + 1, ts, ta, 0⟩, .bool true]) (by simp [tv, results, Try.results33, go_sem, y0, y1, y2, y3, y4]) rfl (by rw [← HPF.out]; exact ⟨rfl, IE.out.tail.tail⟩)
end
end Go.Proofs.Ythcdfclhenmleaa

