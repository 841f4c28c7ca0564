/- A mirror's changes among other things: Put, Send, Moved, Drop, Mask. -/
import Derived.Test.YtlnnpdghcilioaaMrb
import Derived.BigRegion
namespace Go.Proofs.Ytlnnpdghcilioaa
open Go.RowKit
set_option linter.unusedVariables false

/-- a tote's cell is written -/
theorem Its.tset {w0 w : World} {l : List It} {B bt n : Nat} {ts : List Int} (h : Its w0 (.ints B (.slice (some ⟨bt, 0, none⟩) n n) ts :: l) w) (k : Nat) (x : Int) : Its w0 (.ints B (.slice (some ⟨bt, 0, none⟩) n n) (ts.set k x) :: l) (w.setCell ⟨bt, k, none⟩ (.int .i64 x)) :=
  h.chg (El.Own.set (Value.int .i64) (fun _ => rfl) rfl h.one k x) (fun _ hk => .inl hk) ((Frm.set w bt k _).mono (fun j _ hj => by subst hj; rfl))
/-- a device's cell is written -/
theorem Its.dset {w0 w : World} {l : List It} {B bd m : Nat} {ds : List Dv} (h : Its w0 (.row dvE B (.slice (some ⟨bd, 0, none⟩) m m) ds :: l) w) {k : Nat} {x : Dv} (hx : ds[k]? = some x) (z : Dv) (j : Nat) (u : Value) (hj : j < 6) (he : dvE.enc z = (dvE.enc x).set j u) :
    Its w0 (.row dvE B (.slice (some ⟨bd, 0, none⟩) m m) (ds.set k z) :: l) (w.setCell ⟨bd, k * 6 + j, none⟩ u) :=
  h.chg (own_setC h.one (i := k) (j := j) hx hj he) (fun _ hk => .inl hk) ((Frm.set w bd (k * 6 + j) u).mono (fun j _ hj => by subst hj; rfl))

section
variable {w0 w : World} {l : List It} {B g n m : Nat} {H : Nat × Nat} {es : List (Int × Int)} {S : Mr}
set_option maxRecDepth 100000 in
set_option maxHeartbeats 1000000 in
theorem putS (h : Its w0 (.mir B g H n m es S :: l) w) (t x : Int) : Calls Try.prog 23 #[.pointer (some ⟨g, 0, none⟩), .int .i64 t, .int .i64 x] w fun e w' => e = .returned (.int .i64 (S.put t x).1) ∧ Its w0 (.mir B g H n m es (S.put t x).2 :: l) w' := by
  have h1 := h.one
  have hok := (mr_ok h1).put t x
  obtain ⟨c0, c1⟩ := mr_cells h1
  obtain ⟨l0, l1, l2, l3⟩ := mr_len h1
  have K1 := hide (isTote_any t w)
  have K2 := hide (isNode_m h1 x)
  have K3 := hide (where_m h1 t)
  have K4 := hide (taken_m h1 x)
  have HI := hide h
  have e0 : S.put t x = if (isT t && S.isN x) = false then (1, S) else if S.whr t ≠ -1 then (2, S) else if S.tak x = true then (100, S) else (0, { S with ts := S.ts.set x.toNat t }) := rfl
  rw [e0] at hok ⊢
  cases hT : isT t with
  | false =>
    rw [hT] at K1
    rw [if_pos (show (false && S.isN x) = false from rfl)]
    clear hT e0 h h1 l0 l1 hok
    go_enter Try.func23, Try.ntmps23
    go_wp2_with (go_at_call 42; refine K1.out.mono ?_; rintro e w1 ⟨rfl, rfl⟩)
    go_ret
    exact ⟨rfl, HI.out⟩
  | true =>
    rw [hT] at K1 hok
    cases hN : S.isN x with
    | false =>
      rw [hN] at K2
      rw [if_pos (show (true && false) = false from rfl)]
      clear hT hN e0 h h1 l0 l1 hok
      go_enter Try.func23, Try.ntmps23
      go_wp2_with (first
        | (go_at_call 42; refine K1.out.mono ?_; rintro e w1 ⟨rfl, rfl⟩)
        | (go_at_call 44; refine K2.out.mono ?_; rintro e w1 ⟨rfl, rfl⟩))
      go_ret
      exact ⟨rfl, HI.out⟩
    | true =>
      rw [hN] at K2 hok
      rw [if_neg (by simp)] at hok ⊢
      by_cases hw : S.whr t = -1
      · rw [hw] at K3
        rw [if_neg (by simpa using hw)] at hok ⊢
        cases hk : S.tak x with
        | true =>
          rw [hk] at K4 hok
          rw [if_pos rfl] at hok ⊢
          clear hT hN hw hk e0 h h1 l0 l1 hok
          go_enter Try.func23, Try.ntmps23
          go_wp2_with (first
            | (go_at_call 42; refine K1.out.mono ?_; rintro e w1 ⟨rfl, rfl⟩)
            | (go_at_call 44; refine K2.out.mono ?_; rintro e w1 ⟨rfl, rfl⟩)
            | (go_at_call 19; refine K3.out.mono ?_; rintro e w1 ⟨rfl, rfl⟩)
            | (go_at_call 22; refine K4.out.mono ?_; rintro e w1 ⟨rfl, B1⟩; have H1 := hide (HI.out.keep B1); clear B1))
          go_ret
          exact ⟨rfl, H1.out⟩
        | false =>
          rw [hk] at K4 hok
          rw [if_neg (by simp)] at hok ⊢
          have hx := Mr.isN_iff.1 hN
          rw [l0] at hx
          obtain ⟨k, rfl⟩ : ∃ k : Nat, x = (k : Int) := ⟨x.toNat, by omega⟩
          rw [show ((k : Int)).toNat = k by omega] at hok ⊢
          have HF : Hid (MFact n m es { S with ts := S.ts.set k t }) := hide ⟨hok, (mr_fact h1).2⟩
          have X : Hid (∀ W, Its w0 (.mir B g H n m es S :: l) W → W.cell? ⟨g, 0, none⟩ = some (.slice (some ⟨H.1, 0, none⟩) n n) ∧ (∃ p, W.cell? ⟨H.1, k, none⟩ = some (.int .i64 p)) ∧ W.frozen? ⟨H.1, k, none⟩ = false) := hide (fun W hW => by
            obtain ⟨p, _, q1, q2⟩ := mr_t hW.one (k := k) (by omega)
            exact ⟨(mr_cells hW.one).1, ⟨p, q1⟩, q2⟩)
          have k1 : (0 : Int) ≤ (k : Int) := by omega
          have k2 : (k : Int) < (n : Int) := by omega
          clear hT hN hw hk e0 h h1 l0 l1 hok hx
          go_enter Try.func23, Try.ntmps23
          go_wp2_with (first
            | (go_at_call 42; refine K1.out.mono ?_; rintro e w1 ⟨rfl, rfl⟩)
            | (go_at_call 44; refine K2.out.mono ?_; rintro e w1 ⟨rfl, rfl⟩)
            | (go_at_call 19; refine K3.out.mono ?_; rintro e w1 ⟨rfl, rfl⟩)
            | (go_at_call 22; refine K4.out.mono ?_; rintro e w1 ⟨rfl, B1⟩; have H1 := hide (HI.out.keep B1); clear B1; obtain ⟨y0, ⟨p, y1⟩, y2⟩ := X.out _ H1.out))
          go_ret
          exact ⟨rfl, (H1.out.mopen.1.swap.tset k t).swap.mshut HF.out⟩
      · rw [if_pos hw] at hok ⊢
        have hw' : (S.whr t == -1) = false := beq_eq_false_iff_ne.2 hw
        generalize S.whr t = y at *
        clear hT hN e0 h h1 l0 l1 hok
        go_enter Try.func23, Try.ntmps23
        go_wp2_with (first
          | (go_at_call 42; refine K1.out.mono ?_; rintro e w1 ⟨rfl, rfl⟩)
          | (go_at_call 44; refine K2.out.mono ?_; rintro e w1 ⟨rfl, rfl⟩)
          | (go_at_call 19; refine K3.out.mono ?_; rintro e w1 ⟨rfl, rfl⟩))
        go_ret
        exact ⟨rfl, HI.out⟩
/-- a device that is one -/
theorem dev_k (h : (It.mir B g H n m es S).P w) {d : Int} (hD : S.isD d = true) : ∃ k : Nat, d = (k : Int) + 1 ∧ k < m ∧ (d - 1).toNat = k ∧ S.ds[k]? = some (S.dev d) := by
  have hx := Mr.isD_iff.1 hD
  rw [(mr_len h).2.1] at hx
  exact ⟨(d - 1).toNat, by omega, by omega, rfl, (Mr.dev_at hD).1⟩
set_option maxRecDepth 100000 in
set_option maxHeartbeats 1000000 in
theorem maskS (h : Its w0 (.mir B g H n m es S :: l) w) (d : Int) (b : Bool) : Calls Try.prog 27 #[.pointer (some ⟨g, 0, none⟩), .int .i64 d, .bool b] w fun e w' => e = .returned (.int .i64 (S.msk d b).1) ∧ Its w0 (.mir B g H n m es (S.msk d b).2 :: l) w' := by
  have h1 := h.one
  have hok := (mr_ok h1).msk d b
  have K1 := hide (isDev_m h1 d)
  have HI := hide h
  have e0 : S.msk d b = if S.isD d = false then (1, S) else (0, S.setD d { S.dev d with dn := b }) := rfl
  rw [e0] at hok ⊢
  cases hD : S.isD d with
  | false =>
    rw [hD] at K1
    rw [if_pos rfl]
    clear hD e0 h h1 hok
    go_enter Try.func27, Try.ntmps27
    go_wp2_with (go_at_call 45; refine K1.out.mono ?_; rintro e w1 ⟨rfl, rfl⟩)
    go_ret
    exact ⟨rfl, HI.out⟩
  | true =>
    obtain ⟨k, hd, hk, hk', hp⟩ := dev_k h1 hD
    rw [hD] at K1 hok
    rw [if_neg (by simp)] at hok ⊢
    have K2 := hide (device_m h1 k hk)
    obtain ⟨d0, d1, d2, d3, d4, d5⟩ := mr_d h1 hp
    have f5 := mr_df h1 hk (j := 5) (by omega)
    have HX : Hid (Its w0 (.mir B g H n m es (S.setD d { S.dev d with dn := b }) :: l) (w.setCell ⟨H.2, k * 6 + 5, none⟩ (.bool b))) := hide (by
      have := h.mopen.1.dset hp { S.dev d with dn := b } 5 (.bool b) (by omega) rfl
      refine Its.mshut (S := S.setD d { S.dev d with dn := b }) ?_ ⟨hok, (mr_fact h1).2⟩
      unfold Mr.setD mparts
      rw [hk']
      exact this)
    subst hd
    generalize S.dev ((k : Int) + 1) = D at *
    generalize S.setD ((k : Int) + 1) { D with dn := b } = S' at *
    clear hD e0 h h1 hok hp hk'
    go_enter Try.func27, Try.ntmps27
    go_wp2_with (first
      | (go_at_call 45; refine K1.out.mono ?_; rintro e w1 ⟨rfl, rfl⟩)
      | (go_at_call 46; refine K2.out.mono ?_; rintro e w1 ⟨rfl, rfl⟩))
    go_ret
    exact ⟨rfl, HX.out⟩
set_option maxRecDepth 100000 in
set_option maxHeartbeats 1000000 in
theorem dropS (h : Its w0 (.mir B g H n m es S :: l) w) (d : Int) : Calls Try.prog 26 #[.pointer (some ⟨g, 0, none⟩), .int .i64 d] w fun e w' => e = .returned (.int .i64 (S.drp d).1) ∧ Its w0 (.mir B g H n m es (S.drp d).2 :: l) w' := by
  have h1 := h.one
  have hok := (mr_ok h1).drp d
  have K1 := hide (isDev_m h1 d)
  have HI := hide h
  have e0 : S.drp d = if S.isD d = false then (1, S) else if (S.dev d).tt = 0 then (4, S) else (0, S.setD d { S.dev d with tt := 0 }) := rfl
  rw [e0] at hok ⊢
  cases hD : S.isD d with
  | false =>
    rw [hD] at K1
    rw [if_pos rfl]
    clear hD e0 h h1 hok
    go_enter Try.func26, Try.ntmps26
    go_wp2_with (go_at_call 45; refine K1.out.mono ?_; rintro e w1 ⟨rfl, rfl⟩)
    go_ret
    exact ⟨rfl, HI.out⟩
  | true =>
    obtain ⟨k, hd, hk, hk', hp⟩ := dev_k h1 hD
    rw [hD] at K1 hok
    rw [if_neg (by simp)] at hok ⊢
    have K2 := hide (device_m h1 k hk)
    obtain ⟨d0, d1, d2, d3, d4, d5⟩ := mr_d h1 hp
    have f2 := mr_df h1 hk (j := 2) (by omega)
    by_cases z : (S.dev d).tt = 0
    · rw [if_pos z]
      rw [z] at d2
      subst hd
      generalize S.dev ((k : Int) + 1) = D at *
      clear hD e0 h h1 hok hp hk' z
      go_enter Try.func26, Try.ntmps26
      go_wp2_with (first
        | (go_at_call 45; refine K1.out.mono ?_; rintro e w1 ⟨rfl, rfl⟩)
        | (go_at_call 46; refine K2.out.mono ?_; rintro e w1 ⟨rfl, rfl⟩))
      go_ret
      exact ⟨rfl, HI.out⟩
    · rw [if_neg z] at hok ⊢
      have HX : Hid (Its w0 (.mir B g H n m es (S.setD d { S.dev d with tt := 0 }) :: l) (w.setCell ⟨H.2, k * 6 + 2, none⟩ (.int .i64 0))) := hide (by
        have := h.mopen.1.dset hp { S.dev d with tt := 0 } 2 (.int .i64 0) (by omega) rfl
        refine Its.mshut (S := S.setD d { S.dev d with tt := 0 }) ?_ ⟨hok, (mr_fact h1).2⟩
        unfold Mr.setD mparts
        rw [hk']
        exact this)
      subst hd
      have z' : ((S.dev ((k : Int) + 1)).tt == 0) = false := beq_eq_false_iff_ne.2 z
      generalize S.dev ((k : Int) + 1) = D at *
      generalize S.setD ((k : Int) + 1) { D with tt := 0 } = S' at *
      clear hD e0 h h1 hok hp hk'
      go_enter Try.func26, Try.ntmps26
      go_wp2_with (first
        | (go_at_call 45; refine K1.out.mono ?_; rintro e w1 ⟨rfl, rfl⟩)
        | (go_at_call 46; refine K2.out.mono ?_; rintro e w1 ⟨rfl, rfl⟩))
      go_ret
      exact ⟨rfl, HX.out⟩
end
end Go.Proofs.Ytlnnpdghcilioaa
