/- A plant's changes among other things: Put, Break, Mend. -/
import Derived.Test.YthcdfclhenmleaaPtb
import Derived.BigRegion
namespace Go.Proofs.Ythcdfclhenmleaa
open Go.RowKit
set_option linter.unusedVariables false

/-- a tote's cell is written -/
theorem Its.tset {w0 w : World} {l : List It} {B bt n : Nat} {ts : List Int} (h : Its w0 (.ints B (.slice (some ⟨bt, 0, none⟩) n n) ts :: l) w) (k : Nat) (x : Int) : Its w0 (.ints B (.slice (some ⟨bt, 0, none⟩) n n) (ts.set k x) :: l) (w.setCell ⟨bt, k, none⟩ (.int .i64 x)) :=
  h.chg (El.Own.set (Value.int .i64) (fun _ => rfl) rfl h.one k x) (fun _ hk => .inl hk) ((Frm.set w bt k _).mono (fun j _ hj => by subst hj; rfl))
/-- a device's cell is written -/
theorem Its.dset {w0 w : World} {l : List It} {B bd m : Nat} {ds : List Dv} (h : Its w0 (.row dvE B (.slice (some ⟨bd, 0, none⟩) m m) ds :: l) w) {k : Nat} {x : Dv} (hx : ds[k]? = some x) (z : Dv) (j : Nat) (u : Value) (hj : j < 5) (he : dvE.enc z = (dvE.enc x).set j u) :
    Its w0 (.row dvE B (.slice (some ⟨bd, 0, none⟩) m m) (ds.set k z) :: l) (w.setCell ⟨bd, k * 5 + j, none⟩ u) :=
  h.chg (own_setC h.one (i := k) (j := j) hx hj he) (fun _ hk => .inl hk) ((Frm.set w bd (k * 5 + j) u).mono (fun j _ hj => by subst hj; rfl))

section
variable {w0 w : World} {l : List It} {B g n m : Nat} {H : Nat × Nat} {es : List (Int × Int)} {S : Pl}
set_option maxRecDepth 100000 in
set_option maxHeartbeats 1000000 in
theorem putS (h : Its w0 (.pla B g H n m es S :: l) w) (t x : Int) : Calls Try.prog 15 #[.pointer (some ⟨g, 0, none⟩), .int .i64 t, .int .i64 x] w fun e w' => e = .returned (.int .i64 (S.put t x).1) ∧ Its w0 (.pla B g H n m es (S.put t x).2 :: l) w' := by
  have h1 := h.one
  have hok := (pl_ok h1).put t x
  obtain ⟨c0, c1, c2, cf⟩ := pl_cells h1
  obtain ⟨l0, l1, l2, l3⟩ := pl_len h1
  have K1 := hide (isTote_any t w)
  have K2 := hide (isNode_m h1 x)
  have K3 := hide (where_m h1 t)
  have HI := hide h
  have e0 : S.put t x = if (isT t && S.isN x) = false then (1, S) else if S.whr t ≠ -1 then (2, S) else if S.att x ≠ 0 then (100, S) else (0, { S with ts := S.ts.set x.toNat t }) := rfl
  rw [e0] at hok ⊢
  clear c1 c2 cf
  cases hT : isT t with
  | false =>
    rw [hT] at K1
    rw [if_pos (show (false && S.isN x) = false from rfl)]
    clear hT e0 h h1 l0 l1 hok
    go_enter Try.func15, Try.ntmps15
    go_wp2_with (go_at_call 29; refine K1.out.mono ?_; rintro e w1 ⟨rfl, rfl⟩)
    go_ret
    exact ⟨rfl, HI.out⟩
  | true =>
    rw [hT] at K1 hok
    cases hN : S.isN x with
    | false =>
      rw [hN] at K2
      rw [if_pos (show (true && false) = false from rfl)]
      clear hT hN e0 h h1 l0 l1 hok
      go_enter Try.func15, Try.ntmps15
      go_wp2_with (first
        | (go_at_call 29; refine K1.out.mono ?_; rintro e w1 ⟨rfl, rfl⟩)
        | (go_at_call 30; refine K2.out.mono ?_; rintro e w1 ⟨rfl, rfl⟩))
      go_ret
      exact ⟨rfl, HI.out⟩
    | true =>
      rw [hN] at K2 hok
      rw [if_neg (by simp)] at hok ⊢
      by_cases hw : S.whr t = -1
      · rw [hw] at K3
        rw [if_neg (by simpa using hw)] at hok ⊢
        have hx := Pl.isN_iff.1 hN
        rw [l0] at hx
        obtain ⟨k, rfl⟩ : ∃ k : Nat, x = (k : Int) := ⟨x.toNat, by omega⟩
        obtain ⟨p, p1, p2, p3⟩ := pl_t h1 (k := k) (by omega)
        have ea := Pl.att_nat p1
        rw [ea, show ((k : Int)).toNat = k by omega] at hok ⊢
        have k1 : (0 : Int) ≤ (k : Int) := by omega
        have k2 : (k : Int) < (n : Int) := by omega
        by_cases hp : p = 0
        case neg =>
          rw [if_pos hp]
          have hp' : (p == 0) = false := beq_eq_false_iff_ne.2 hp
          clear hT hN hw e0 h h1 l0 l1 hok hx p1 ea
          go_enter Try.func15, Try.ntmps15
          go_wp2_with (first
            | (go_at_call 29; refine K1.out.mono ?_; rintro e w1 ⟨rfl, rfl⟩)
            | (go_at_call 30; refine K2.out.mono ?_; rintro e w1 ⟨rfl, rfl⟩)
            | (go_at_call 24; refine K3.out.mono ?_; rintro e w1 ⟨rfl, rfl⟩))
          go_ret
          exact ⟨rfl, HI.out⟩
        case pos =>
          subst hp
          rw [if_neg (by simp)] at hok ⊢
          have HF : Hid (PFact n m es { S with ts := S.ts.set k t }) := hide ⟨hok, (pl_fact h1).2⟩
          clear hT hN hw e0 h h1 l0 l1 hok hx p1 ea
          go_enter Try.func15, Try.ntmps15
          go_wp2_with (first
            | (go_at_call 29; refine K1.out.mono ?_; rintro e w1 ⟨rfl, rfl⟩)
            | (go_at_call 30; refine K2.out.mono ?_; rintro e w1 ⟨rfl, rfl⟩)
            | (go_at_call 24; refine K3.out.mono ?_; rintro e w1 ⟨rfl, rfl⟩))
          go_ret
          exact ⟨rfl, (HI.out.popen.1.swap.tset k t).swap.pshut HF.out⟩
      · rw [if_pos hw] at hok ⊢
        have hw' : (S.whr t == -1) = false := beq_eq_false_iff_ne.2 hw
        generalize S.whr t = y at *
        clear hT hN e0 h h1 l0 l1 hok
        go_enter Try.func15, Try.ntmps15
        go_wp2_with (first
          | (go_at_call 29; refine K1.out.mono ?_; rintro e w1 ⟨rfl, rfl⟩)
          | (go_at_call 30; refine K2.out.mono ?_; rintro e w1 ⟨rfl, rfl⟩)
          | (go_at_call 24; refine K3.out.mono ?_; rintro e w1 ⟨rfl, rfl⟩))
        go_ret
        exact ⟨rfl, HI.out⟩
/-- a telegram that is handed back with a code -/
def SP (w0 : World) (l : List It) (B g n m : Nat) (H : Nat × Nat) (es : List (Int × Int)) (P : (Tl × Int) × Pl) (e : Ending) (w' : World) : Prop := e = .returned (.tuple #[tv P.1.1, .int .i64 P.1.2]) ∧ Its w0 (.pla B g H n m es P.2 :: l) w'
set_option maxRecDepth 100000 in
set_option maxHeartbeats 1000000 in
theorem setS (h : Its w0 (.pla B g H n m es S :: l) w) (d kd : Int) (b : Bool) : Calls Try.prog 38 #[.pointer (some ⟨g, 0, none⟩), .int .i64 d, .bool b, .int .u8 kd] w fun e w' => SP w0 l B g n m H es (S.brk d kd b) e w' := by
  have I1 := hide (h.box1 #[.int .u8 0, .int .u16 0, .int .u16 0, .int .u16 0, .int .u16 0] 45)
  have h1 := I1.out.two
  have hok := (pl_ok h1).brk d kd b
  have K1 := hide (isDev_m h1 d)
  obtain ⟨P, hP⟩ : ∃ P, S.brk d kd b = P := ⟨_, rfl⟩
  rw [hP] at hok ⊢
  have hP' := hP
  unfold Pl.brk at hP
  obtain ⟨e0, e1, e2, e3, e4, ef⟩ := Its.cells5 I1.out
  cases hD : S.isD d with
  | false =>
    rw [hD] at K1
    rw [hD, if_pos rfl] at hP
    have HP := hide hP
    clear hD h h1 hok hP hP'
    go_enter Try.func38, Try.ntmps38
    go_wp2_with (go_at_call 40; refine K1.out.mono ?_; rintro e w1 ⟨rfl, rfl⟩)
    exact bodyPost_ret (v := .tuple #[tv tz, .int .i64 1]) (by simp [tv, tz, results, Try.results38, go_sem]) rfl (by rw [← HP.out]; exact ⟨rfl, I1.out.tail⟩)
  | true =>
    obtain ⟨k, hd, hk, hk', hp⟩ := dev_k h1 hD
    have km := (pl_len h1).2.2.2
    rw [hD] at K1
    rw [hD, if_neg (by simp)] at hP
    have HP := hide hP
    have K2 := hide (device_m h1 k hk)
    obtain ⟨d0, d1, d2, d3, d4⟩ := pl_d h1 hp
    have f4 := pl_df h1 hk (j := 4) (by omega)
    have HX : Hid (∀ W x, Its w0 (x :: .pla B g H n m es S :: l) W → Its w0 (.pla B g H n m es P.2 :: x :: l) (W.setCell ⟨H.2, k * 5 + 4, none⟩ (.bool b))) := hide (fun W x hW => by
      have := hW.swap.popen.1.dset hp { S.dev d with bk := b } 4 (.bool b) (by omega) rfl
      refine Its.pshut (S := P.2) ?_ ⟨hok, (pl_fact h1).2⟩
      rw [← HP.out]
      unfold Pl.setD pparts
      rw [hk']
      exact this)
    have HR := hide (show IntKind.u16.wrap d = d by rw [hd]; simp [IntKind.wrap, IntKind.bits, IntKind.signed]; omega)
    subst hd
    generalize S.dev ((k : Int) + 1) = Dd at *
    have HP1 : Hid (P.1 = (⟨kd, (k : Int) + 1, 0, 0, 0⟩, 0)) := hide (by rw [← HP.out])
    obtain ⟨P1, P2⟩ := P
    dsimp only at *
    clear hD h h1 hok hp hk' hP hP'
    go_enter Try.func38, Try.ntmps38
    go_upto_region 1 with fail
    generalize w.alloc (.cells #[.int .u8 0, .int .u16 0, .int .u16 0, .int .u16 0, .int .u16 0] 45) = W1 at *
    go_upto_region 4 with (first
      | (go_at_call 40; refine K1.out.mono ?_; rintro e w1 ⟨rfl, rfl⟩)
      | (go_at_call 34; refine K2.out.mono ?_; rintro e w1 ⟨rfl, rfl⟩))
    have I2 := hide (HX.out _ _ I1.out).swap
    clear e0 e1 e2 e3 e4 ef d0 d1 d2 d3 d4 f4 K1 K2 I1 HX
    generalize w1.setCell ⟨H.2, k * 5 + 4, none⟩ (.bool b) = W2 at *
    obtain ⟨e0, e1, e2, e3, e4, ef⟩ := Its.cells5 I2.out
    have IE := hide (Its.out5 I2.out (.int .u8 kd) (.int .u16 ((k : Int) + 1)) (.int .u16 0) (.int .u16 0) (.int .u16 0))
    have r1 := HR.out
    go_wp2_with fail
    obtain ⟨y0, y1, y2, y3, y4, _⟩ := Its.cells5 IE.out
    exact bodyPost_ret (v := .tuple #[tv ⟨kd, (k : Int) + 1, 0, 0, 0⟩, .int .i64 0]) (by simp [tv, results, Try.results38, go_sem, y0, y1, y2, y3, y4]) rfl ⟨by rw [HP1.out], IE.out.tail⟩
set_option maxRecDepth 100000 in
set_option maxHeartbeats 1000000 in
theorem breakS (h : Its w0 (.pla B g H n m es S :: l) w) (d : Int) : Calls Try.prog 19 #[.pointer (some ⟨g, 0, none⟩), .int .i64 d] w fun e w' => SP w0 l B g n m H es (S.brk d 4 true) e w' := by
  have I1 := hide (h.box1 #[.int .u8 0, .int .u16 0, .int .u16 0, .int .u16 0, .int .u16 0] 45).swap
  have K0 := setS I1.out d 4 true
  generalize S.brk d 4 true = P at *
  obtain ⟨⟨⟨tk, td, ts, ta, tb⟩, cd⟩, S'⟩ := P
  have K : Hid (Calls Try.prog 38 #[.pointer (some ⟨g, 0, none⟩), .int .i64 d, .bool true, .int .u8 4] (w.alloc (.cells #[.int .u8 0, .int .u16 0, .int .u16 0, .int .u16 0, .int .u16 0] 45)) fun e w' => e = .returned (.tuple #[.agg #[.int .u8 tk, .int .u16 td, .int .u16 ts, .int .u16 ta, .int .u16 tb], .int .i64 cd]) ∧ Its w0 (.pla B g H n m es S' :: .box w.heap.size #[.int .u8 0, .int .u16 0, .int .u16 0, .int .u16 0, .int .u16 0] 45 :: l) w') := hide K0
  clear K0 h
  go_enter Try.func19, Try.ntmps19
  go_upto_region 1 with fail
  generalize w.alloc (.cells #[.int .u8 0, .int .u16 0, .int .u16 0, .int .u16 0, .int .u16 0] 45) = W1 at *
  go_wp2_with (go_at_call 38; refine K.out.mono ?_; rintro e w2 ⟨rfl, q⟩; have I2 := hide q.swap; clear q; obtain ⟨e0, e1, e2, e3, e4, ef⟩ := Its.cells5 I2.out)
  have IE := hide (Its.out5 I2.out (.int .u8 tk) (.int .u16 td) (.int .u16 ts) (.int .u16 ta) (.int .u16 tb))
  obtain ⟨y0, y1, y2, y3, y4, _⟩ := Its.cells5 IE.out
  exact bodyPost_ret (v := .tuple #[tv ⟨tk, td, ts, ta, tb⟩, .int .i64 cd]) (by simp [tv, results, Try.results19, go_sem, y0, y1, y2, y3, y4]) rfl ⟨rfl, IE.out.tail⟩
set_option maxRecDepth 100000 in
set_option maxHeartbeats 1000000 in
theorem mendS (h : Its w0 (.pla B g H n m es S :: l) w) (d : Int) : Calls Try.prog 21 #[.pointer (some ⟨g, 0, none⟩), .int .i64 d] w fun e w' => SP w0 l B g n m H es (S.brk d 5 false) e w' := by
  have I1 := hide (h.box1 #[.int .u8 0, .int .u16 0, .int .u16 0, .int .u16 0, .int .u16 0] 45).swap
  have K0 := setS I1.out d 5 false
  generalize S.brk d 5 false = P at *
  obtain ⟨⟨⟨tk, td, ts, ta, tb⟩, cd⟩, S'⟩ := P
  have K : Hid (Calls Try.prog 38 #[.pointer (some ⟨g, 0, none⟩), .int .i64 d, .bool false, .int .u8 5] (w.alloc (.cells #[.int .u8 0, .int .u16 0, .int .u16 0, .int .u16 0, .int .u16 0] 45)) fun e w' => e = .returned (.tuple #[.agg #[.int .u8 tk, .int .u16 td, .int .u16 ts, .int .u16 ta, .int .u16 tb], .int .i64 cd]) ∧ Its w0 (.pla B g H n m es S' :: .box w.heap.size #[.int .u8 0, .int .u16 0, .int .u16 0, .int .u16 0, .int .u16 0] 45 :: l) w') := hide K0
  clear K0 h
  go_enter Try.func21, Try.ntmps21
  go_upto_region 1 with fail
  generalize w.alloc (.cells #[.int .u8 0, .int .u16 0, .int .u16 0, .int .u16 0, .int .u16 0] 45) = W1 at *
  go_wp2_with (go_at_call 38; refine K.out.mono ?_; rintro e w2 ⟨rfl, q⟩; have I2 := hide q.swap; clear q; obtain ⟨e0, e1, e2, e3, e4, ef⟩ := Its.cells5 I2.out)
  have IE := hide (Its.out5 I2.out (.int .u8 tk) (.int .u16 td) (.int .u16 ts) (.int .u16 ta) (.int .u16 tb))
  obtain ⟨y0, y1, y2, y3, y4, _⟩ := Its.cells5 IE.out
  exact bodyPost_ret (v := .tuple #[tv ⟨tk, td, ts, ta, tb⟩, .int .i64 cd]) (by simp [tv, results, Try.results21, go_sem, y0, y1, y2, y3, y4]) rfl ⟨rfl, IE.out.tail⟩
end
end Go.Proofs.Ythcdfclhenmleaa
