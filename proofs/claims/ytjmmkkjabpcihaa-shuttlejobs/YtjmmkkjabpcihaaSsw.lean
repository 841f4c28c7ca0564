/- ShuttleStalls, the walk. -/
import Derived.Test.YtjmmkkjabpcihaaSst
import Derived.Deep.CutBlock
namespace Go.Proofs.Ytjmmkkjabpcihaa
open Go.RowKit
set_option linter.unusedVariables false

theorem SW.drew {w0 w : World} {g : Nat} {S : Sh} {L : List (Nat × Obj)} (x : SW w0 w g S L) : SW w0 w.drew g S L := ⟨x.sh.stay rfl, ⟨x.bw.bel.drew, x.bw.bx⟩, x.og, x.ne⟩
/-- behind a Reset -/
def Sh.rsd (S : Sh) : Sh := ⟨S.n, S.pt, S.pl, S.st, S.st, 0, S.jt, S.jf, S.jo, S.dn⟩
/-- ready for the next order -/
structure Rdy (S : Sh) (n p : Int) (i : Nat) : Prop where
  ok : S.Ok
  tk : S.tk = 0
  st : S.st ≤ 4
  n : S.n = n
  pt : S.pt = p
  d0 : 0 ≤ S.dn
  d1 : S.dn ≤ (i : Int)
theorem Rdy.nx {S R : Sh} {n p k : Int} {i : Nat} (h : Rdy S n p i) (x : Nx (S.wt k) R) : Rdy R n p (i + 1) :=
  ⟨x.ok, x.tk, x.st, x.n.trans h.n, x.pt.trans h.pt, by have y := x.dn; have := h.d0; have e : (S.wt k).dn = S.dn := rfl; split at y <;> omega, by have y := x.dn; have := h.d1; have e : (S.wt k).dn = S.dn := rfl; split at y <;> omega⟩

set_option maxRecDepth 100000 in
set_option maxHeartbeats 2000000 in
theorem stalls_walk (n a p t f o kk : Int) (w : World) : Calls Try.prog 5 #[.agg #[.int .i64 n, .int .i64 a, .int .i64 p], .agg #[.int .i64 t, .int .i64 f, .int .i64 o], .int .i64 kk] w fun e w' => e = .returned (.bool true) ∧ Below w.heap.size w w' := by
  obtain ⟨w0, rfl⟩ : ∃ w0, w0 = w := ⟨_, rfl⟩
  have KA := hide awake_any
  obtain ⟨h, hh⟩ : ∃ h, w0.heap.size = h := ⟨_, rfl⟩
  obtain ⟨L, hL⟩ : ∃ L, L = [(h + 1, Obj.cells #[.int .i64 t, .int .i64 f, .int .i64 o] 31), (h, Obj.cells #[.int .i64 n, .int .i64 a, .int .i64 p] 23)] := ⟨_, rfl⟩
  have HB : Hid (BW w0 ((w0.alloc (.cells #[.int .i64 n, .int .i64 a, .int .i64 p] 23)).alloc (.cells #[.int .i64 t, .int .i64 f, .int .i64 o] 31)) L) := hide (by
    rw [hL]
    exact ((BW.nil w0).new _ h hh).new _ (h + 1) (by show (w0.heap.push _).size = _; rw [Array.size_push, hh]))
  have HM1 : Hid ((h + 1, Obj.cells #[.int .i64 t, .int .i64 f, .int .i64 o] 31) ∈ L) := hide (by rw [hL]; simp)
  have HM0 : Hid ((h, Obj.cells #[.int .i64 n, .int .i64 a, .int .i64 p] 23) ∈ L) := hide (by rw [hL]; simp)
  have HC0 : Hid (∀ W, BW w0 W L → W.cell? ⟨h, 0, none⟩ = some (.int .i64 n) ∧ W.cell? ⟨h, 1, none⟩ = some (.int .i64 a) ∧ W.cell? ⟨h, 2, none⟩ = some (.int .i64 p) ∧ W.cell? ⟨h + 1, 0, none⟩ = some (.int .i64 t) ∧ W.cell? ⟨h + 1, 1, none⟩ = some (.int .i64 f) ∧ W.cell? ⟨h + 1, 2, none⟩ = some (.int .i64 o)) := hide (fun W x => ⟨(cells_at (x.bx _ HM0.out).1 0).1, (cells_at (x.bx _ HM0.out).1 1).1, (cells_at (x.bx _ HM0.out).1 2).1, (cells_at (x.bx _ HM1.out).1 0).1, (cells_at (x.bx _ HM1.out).1 1).1, (cells_at (x.bx _ HM1.out).1 2).1⟩)
  have Hh := hide hh
  clear hh hL HM0 HM1
  by_cases hno : noN n a p
  · have K9 : Hid (∀ W, _) := hide (fun W => new_no n a p W hno)
    clear hno
    go_enter Try.func5, Try.ntmps5
    go_upto_region 1 with fail
    rw [Hh.out]
    generalize (w0.alloc (.cells #[.int .i64 n, .int .i64 a, .int .i64 p] 23)).alloc (.cells #[.int .i64 t, .int .i64 f, .int .i64 o] 31) = W at *
    go_wp2_with (first
      | (go_at_call 8; refine (KA.out _).mono ?_; rintro e W1 ⟨rfl, hb⟩; have HB1 := hide (HB.out.keep hb); clear hb; obtain ⟨x0, x1, x2, x3, x4, x5⟩ := HC0.out _ HB1.out)
      | (go_at_call 9; refine (K9.out _).mono ?_; rintro e W2 ⟨rfl, hb⟩; have HB2 := hide (HB1.out.keep hb); clear hb))
    go_ret
    exact ⟨rfl, HB2.out.bel⟩
  have K9 : Hid (∀ W, _) := hide (fun W => new_ok n a p W hno)
  have Hok : Hid (Sh.Ok (shN n a p)) := hide (by unfold noN at hno; exact Sh.ok_new (by omega) (by omega) (by omega) (by omega) (by omega) (by omega))
  have p1 : 1 ≤ p := by unfold noN at hno; omega
  have p2 : p ≤ 1000 := by unfold noN at hno; omega
  clear hno
  have K11 : Hid (∀ W g, SW w0 W g (shN n a p) L → _) := hide (fun W g hW => as_any hW.sh t f o)
  by_cases hc : (shN n a p).asC t f o = 0
  case neg =>
    have b0 : ((shN n a p).asC t f o != 0) = true := bne_iff_ne.2 hc
    rw [as_no hc] at K11
    generalize (shN n a p).asC t f o = cd at *
    clear hc
    go_enter Try.func5, Try.ntmps5
    go_upto_region 1 with fail
    rw [Hh.out]
    generalize (w0.alloc (.cells #[.int .i64 n, .int .i64 a, .int .i64 p] 23)).alloc (.cells #[.int .i64 t, .int .i64 f, .int .i64 o] 31) = W at *
    go_wp2_with (first
      | (go_at_call 8; refine (KA.out _).mono ?_; rintro e W1 ⟨rfl, hb⟩; have HB1 := hide (HB.out.keep hb); clear hb; obtain ⟨x0, x1, x2, x3, x4, x5⟩ := HC0.out _ HB1.out)
      | (go_at_call 9; refine (K9.out _).mono ?_; rintro e W2 ⟨rfl, hs, hb⟩; have HW2 := hide (SW.of_new HB1.out hs hb); clear hb hs; obtain ⟨_, _, _, x3, x4, x5⟩ := HC0.out _ HW2.out.bw)
      | (go_at_call 11; refine (K11.out _ _ HW2.out).mono ?_; rintro e W3 ⟨rfl, hc⟩; have HW3 := hide (HW2.out.chg hc); clear hc))
    go_ret
    exact ⟨rfl, HW3.out.bw.bel⟩
  have hz := asC_zero hc
  have hR0 : Rdy ((shN n a p).as t f o) n p 0 := ⟨Hok.out.as t f o, (as_nx Hok.out hc).1, (as_nx Hok.out hc).2.2.1, (as_nx Hok.out hc).2.2.2.1, (as_nx Hok.out hc).2.2.2.2.1, by rw [Sh.dn_as]; show (0 : Int) ≤ 0; omega, by rw [Sh.dn_as]; show (0 : Int) ≤ 0; omega⟩
  have HR0 := hide hR0
  have HZ : Hid (1 ≤ t ∧ t ≤ 30 ∧ (0 ≤ f ∧ f < n) ∧ (0 ≤ o ∧ o < n)) := hide hz.2
  rw [hc] at K11
  clear hc hz hR0
  generalize (shN n a p).as t f o = R0 at *
  obtain ⟨P, rfl⟩ : ∃ P : Nat, p = (P : Int) := ⟨p.toNat, by omega⟩
  obtain ⟨K, hK, hK4⟩ := few kk 4 (by omega)
  go_enter Try.func5, Try.ntmps5
  go_upto_region 1 with fail
  rw [Hh.out]
  generalize (w0.alloc (.cells #[.int .i64 n, .int .i64 a, .int .i64 P] 23)).alloc (.cells #[.int .i64 t, .int .i64 f, .int .i64 o] 31) = W at *
  go_upto_region 6 with (first
    | (go_at_call 8; refine (KA.out _).mono ?_; rintro e W1 ⟨rfl, hb⟩; have HB1 := hide (HB.out.keep hb); clear hb; obtain ⟨x0, x1, x2, x3, x4, x5⟩ := HC0.out _ HB1.out)
    | (go_at_call 9; refine (K9.out _).mono ?_; rintro e W2 ⟨rfl, hs, hb⟩; have HW2 := hide (SW.of_new HB1.out hs hb); clear hb hs; obtain ⟨_, _, _, x3, x4, x5⟩ := HC0.out _ HW2.out.bw)
    | (go_at_call 11; refine (K11.out _ _ HW2.out).mono ?_; rintro e W3 ⟨rfl, hc⟩; have HW3 := hide (HW2.out.chg hc); clear hc))
  clear x0 x1 x2 x3 x4 x5 HB HB1 HW2 K9 K11 KA
  obtain ⟨g, hg⟩ : ∃ g, W1.heap.size = g := ⟨_, rfl⟩
  rw [hg] at HW3 ⊢
  clear hg
  go_wp2_with fail
  go_loopw [9] (fun v9 wr => ∃ (i : Nat) (S : Sh), v9 = .int .i64 i ∧ i ≤ K ∧ Hid (Rdy S n P i) ∧ Hid (SW w0 wr g S L)) (fun v9 _ => K - (intOf v9).toNat)
  case atStart => exact ⟨0, R0, rfl, Nat.zero_le _, HR0, HW3⟩
  case round =>
    obtain ⟨i, S, rfl, hik, HR, HW⟩ := hrel
    by_cases hlt : i < K
    · have q0 : (i : Int) < (K : Int) := by omega
      clear hlt
      by_cases s0 : S.st = 0
      · have K13 := hide (tick_any HW.out.sh HR.out.ok)
        have e1 : S.tickK = 0 := if_pos (.inl s0)
        have e2 : S.tickW = 0 := if_pos (.inl s0)
        have e3 : S.tick = S := if_pos (.inl s0)
        rw [e1, e2, e3] at K13
        clear e1 e2 e3 s0
        have HR2 : Hid (Rdy S n P (i + 1)) := hide (by have x := HR.out; exact ⟨x.ok, x.tk, x.st, x.n, x.pt, x.d0, by have := x.d1; omega⟩)
        go_wp2_with (go_at_call 13; refine K13.out.mono ?_; rintro e W4 ⟨rfl, hc⟩; have HW4 := hide (HW.out.chg hc); clear hc)
        go_roundw
        case rel => exact ⟨i + 1, S, by go_num, by omega, HR2, hide (HW4.out.keep ((Below.refl _ _).alloc (Nat.le_refl _) _))⟩
        case measure => simp [intOf]; omega
      · have s1 : 1 ≤ S.st := by have := HR.out.ok.s1; omega
        have s4 := HR.out.st
        have hp := HR.out.ok.p1
        have K13 := hide (tick_any HW.out.sh HR.out.ok)
        have hS0 : S.wt 0 = S := by have := wt_self S; rw [HR.out.tk] at this; exact this
        obtain ⟨e1, e2, e3⟩ := wt_tick (S := S) (k := 0) s1 s4 (by omega)
        rw [hS0] at e1 e2 e3
        rw [e1, e2, e3] at K13
        have okT : (S.wt (0 + 1)).Ok := HR.out.ok.wt s1 s4 (by omega) (by omega)
        have hd : 0 ≤ (S.wt (0 + 1)).dn ∧ (S.wt (0 + 1)).dn ≤ 1000000 := ⟨HR.out.d0, by have := HR.out.d1; show S.dn ≤ 1000000; omega⟩
        have HN : Hid (∀ R, Nx (S.wt (0 + 1)) R → Rdy R n P (i + 1)) := hide (fun R x => HR.out.nx x)
        have han : (S.orK = 1 ∧ (S.wt (0 + 1)).mvC S.orW = 0 ∧ Nx (S.wt (0 + 1)) ((S.wt (0 + 1)).mv S.orW)) ∨ (S.orK = 2 ∧ (S.wt (0 + 1)).hdC 2 S.orW = 0 ∧ Nx (S.wt (0 + 1)) ((S.wt (0 + 1)).pk S.orW)) ∨ (S.orK = 3 ∧ (S.wt (0 + 1)).hdC 4 S.orW = 0 ∧ Nx (S.wt (0 + 1)) ((S.wt (0 + 1)).dp S.orW)) := ans (T := S.wt (0 + 1)) okT s1 s4
        have K15 : Hid (∀ W, Shb W g (S.wt (0 + 1)) → _) := hide (fun W x => mv_any x S.orW)
        have K17 : Hid (∀ W, Shb W g (S.wt (0 + 1)) → _) := hide (fun W x => pk_any x S.orW)
        have K19 : Hid (∀ W, Shb W g (S.wt (0 + 1)) → _) := hide (fun W x => dp_any x S.orW hd)
        clear e1 e2 e3 hS0 okT s0 s1 s4 hp hd
        generalize S.wt (0 + 1) = T at *
        generalize S.orW = xw at *
        generalize S.orK = xk at *
        rcases han with ⟨rfl, hc0, hn⟩ | ⟨rfl, hc0, hn⟩ | ⟨rfl, hc0, hn⟩
        · have HK : Hid (∀ W, Shb W g T → Calls Try.prog 15 #[.pointer (some ⟨g, 0, none⟩), .int .i64 xw] W fun e w' => e = .returned (.int .i64 0) ∧ Chg W g (T.mv xw) w') := hide (fun W x => by have y := K15.out W x; rw [hc0] at y; exact y)
          have HR2 := hide (HN.out _ hn)
          clear hc0 hn K15 K17 K19 HN
          generalize T.mv xw = R at *
          go_upto_region 10 with (go_at_call 13; refine K13.out.mono ?_; rintro e W4 ⟨rfl, hc⟩; have HW4 := hide (HW.out.chg hc); clear hc)
          obtain ⟨hx, hhx⟩ : ∃ hx, W4.heap.size = hx := ⟨_, rfl⟩
          have HW5 := hide (HW4.out.new (.cells #[.int .i64 1, .int .i64 xw] 41) hx hhx)
          try rw [hhx]
          clear hhx HW4
          generalize W4.alloc (.cells #[.int .i64 1, .int .i64 xw] 41) = W5 at *
          have y0 : W5.cell? ⟨hx, 0, none⟩ = some (.int .i64 1) := HW5.out.cell List.mem_cons_self 0
          have y1 : W5.cell? ⟨hx, 1, none⟩ = some (.int .i64 xw) := HW5.out.cell List.mem_cons_self 1
          go_wp2_with (go_at_call 15; refine (HK.out _ HW5.out.sh).mono ?_; rintro e W6 ⟨rfl, hc⟩; have HW6 := hide (HW5.out.chg hc); clear hc)
          go_roundw
          case rel => exact ⟨i + 1, R, by go_num, by omega, HR2, hide (HW6.out.sub (fun y hy => List.mem_cons_of_mem _ hy))⟩
          case measure => simp [intOf]; omega
        · have HK : Hid (∀ W, Shb W g T → Calls Try.prog 17 #[.pointer (some ⟨g, 0, none⟩), .int .i64 xw] W fun e w' => e = .returned (.int .i64 0) ∧ Chg W g (T.pk xw) w') := hide (fun W x => by have y := K17.out W x; rw [hc0] at y; exact y)
          have HR2 := hide (HN.out _ hn)
          clear hc0 hn K15 K17 K19 HN
          generalize T.pk xw = R at *
          go_upto_region 10 with (go_at_call 13; refine K13.out.mono ?_; rintro e W4 ⟨rfl, hc⟩; have HW4 := hide (HW.out.chg hc); clear hc)
          obtain ⟨hx, hhx⟩ : ∃ hx, W4.heap.size = hx := ⟨_, rfl⟩
          have HW5 := hide (HW4.out.new (.cells #[.int .i64 2, .int .i64 xw] 41) hx hhx)
          try rw [hhx]
          clear hhx HW4
          generalize W4.alloc (.cells #[.int .i64 2, .int .i64 xw] 41) = W5 at *
          have y0 : W5.cell? ⟨hx, 0, none⟩ = some (.int .i64 2) := HW5.out.cell List.mem_cons_self 0
          have y1 : W5.cell? ⟨hx, 1, none⟩ = some (.int .i64 xw) := HW5.out.cell List.mem_cons_self 1
          go_wp2_with (go_at_call 17; refine (HK.out _ HW5.out.sh).mono ?_; rintro e W6 ⟨rfl, hc⟩; have HW6 := hide (HW5.out.chg hc); clear hc)
          go_roundw
          case rel => exact ⟨i + 1, R, by go_num, by omega, HR2, hide (HW6.out.sub (fun y hy => List.mem_cons_of_mem _ hy))⟩
          case measure => simp [intOf]; omega
        · have HK : Hid (∀ W, Shb W g T → Calls Try.prog 19 #[.pointer (some ⟨g, 0, none⟩), .int .i64 xw] W fun e w' => e = .returned (.int .i64 0) ∧ Chg W g (T.dp xw) w') := hide (fun W x => by have y := K19.out W x; rw [hc0] at y; exact y)
          have HR2 := hide (HN.out _ hn)
          clear hc0 hn K15 K17 K19 HN
          generalize T.dp xw = R at *
          go_upto_region 10 with (go_at_call 13; refine K13.out.mono ?_; rintro e W4 ⟨rfl, hc⟩; have HW4 := hide (HW.out.chg hc); clear hc)
          obtain ⟨hx, hhx⟩ : ∃ hx, W4.heap.size = hx := ⟨_, rfl⟩
          have HW5 := hide (HW4.out.new (.cells #[.int .i64 3, .int .i64 xw] 41) hx hhx)
          try rw [hhx]
          clear hhx HW4
          generalize W4.alloc (.cells #[.int .i64 3, .int .i64 xw] 41) = W5 at *
          have y0 : W5.cell? ⟨hx, 0, none⟩ = some (.int .i64 3) := HW5.out.cell List.mem_cons_self 0
          have y1 : W5.cell? ⟨hx, 1, none⟩ = some (.int .i64 xw) := HW5.out.cell List.mem_cons_self 1
          go_wp2_with (go_at_call 19; refine (HK.out _ HW5.out.sh).mono ?_; rintro e W6 ⟨rfl, hc⟩; have HW6 := hide (HW5.out.chg hc); clear hc)
          go_roundw
          case rel => exact ⟨i + 1, R, by go_num, by omega, HR2, hide (HW6.out.sub (fun y hy => List.mem_cons_of_mem _ hy))⟩
          case measure => simp [intOf]; omega
    · obtain rfl : i = K := by omega
      have q0 : ¬ (i : Int) < (i : Int) := by omega
      clear hlt hik
      have K23 : Hid (∀ W S, SW w0 W g S L → Calls Try.prog 23 #[.pointer (some ⟨g, 0, none⟩)] W fun e w' => e = .returned (.int .i64 S.st) ∧ w' = W) := hide (fun W S x => state_any x.sh)
      have K25 : Hid (∀ W S, SW w0 W g S L → Calls Try.prog 25 #[.pointer (some ⟨g, 0, none⟩)] W fun e w' => e = .returned (.int .i64 S.load) ∧ w' = W) := hide (fun W S x => load_any x.sh)
      by_cases s0 : S.st = 0
      · have K20 := hide (rs_any HW.out.sh)
        have e1 : S.rsC = 140 := if_pos (by omega)
        rw [e1] at K20
        have K23' := hide (K23.out _ _ HW.out)
        rw [s0] at K23'
        clear e1 s0 K23
        go_wp2_with (first
          | (go_at_call 23; refine K23'.out.mono ?_; rintro e W6 ⟨rfl, hW⟩; have hW' := hW.symm; clear hW; subst hW')
          | (go_at_call 25; refine (K25.out _ _ HW.out).mono ?_; rintro e W6 ⟨rfl, hW⟩; have hW' := hW.symm; clear hW; subst hW')
          | (go_at_call 20; refine K20.out.mono ?_; rintro e W4 ⟨rfl, hc⟩; have HW4 := hide (HW.out.chg hc); clear hc))
        go_ret
        exact ⟨rfl, HW4.out.bw.bel⟩
      have s1 : 1 ≤ S.st := by have := HR.out.ok.s1; omega
      have s4 := HR.out.st
      have sb : (S.st == 0) = false := beq_eq_false_iff_ne.2 s0
      have hpt := HR.out.pt
      have K13 := hide (tick_any HW.out.sh HR.out.ok)
      have hS0 : S.wt 0 = S := by have := wt_self S; rw [HR.out.tk] at this; exact this
      obtain ⟨e1, e2, e3⟩ := wt_tick (S := S) (k := 0) s1 s4 (by omega)
      rw [hS0] at e1 e2 e3
      rw [e1, e2, e3] at K13
      clear e1 e2 e3 hS0
      obtain ⟨xk, hxk⟩ : ∃ xk, S.orK = xk := ⟨_, rfl⟩
      obtain ⟨xw, hxw⟩ : ∃ xw, S.orW = xw := ⟨_, rfl⟩
      have KT : Hid (∀ W (L' : List (Nat × Obj)) (j : Nat), j < P → SW w0 W g (S.wt (j : Int)) L' → Calls Try.prog 13 #[.pointer (some ⟨g, 0, none⟩)] W fun e w' => e = .returned (.agg #[.int .i64 xk, .int .i64 xw]) ∧ Chg W g (S.wt ((j + 1 : Nat) : Int)) w') := hide (fun W L' j hj x => by
        obtain ⟨e1, e2, e3⟩ := wt_tick (S := S) (k := (j : Int)) s1 s4 (by omega)
        have y := tick_any x.sh (HR.out.ok.wt s1 s4 (by omega) (by omega))
        rw [e1, e2, e3, hxk, hxw] at y
        exact y)
      have KS : Hid (∀ W (L' : List (Nat × Obj)), SW w0 W g (S.wt (P : Int)) L' → Calls Try.prog 13 #[.pointer (some ⟨g, 0, none⟩)] W fun e w' => e = .returned (.agg #[.int .i64 0, .int .i64 0]) ∧ Chg W g (S.stl ((P : Int) + 1)) w') := hide (fun W L' x => by
        obtain ⟨e1, e2, e3⟩ := wt_stall (S := S) (k := (P : Int)) s1 s4 (by omega)
        have y := tick_any x.sh (HR.out.ok.wt s1 s4 (by omega) (by omega))
        rw [e1, e2, e3] at y
        exact y)
      rw [hxk, hxw] at K13
      have oks : (S.stl ((P : Int) + 1)).Ok := by
        have y := (HR.out.ok.wt s1 s4 (k := (P : Int)) (by omega) (by omega)).tick
        rw [(wt_stall (S := S) (k := (P : Int)) s1 s4 (by omega)).1] at y
        exact y
      have KSS : Hid (∀ W (L' : List (Nat × Obj)), SW w0 W g (S.stl ((P : Int) + 1)) L' → Calls Try.prog 13 #[.pointer (some ⟨g, 0, none⟩)] W fun e w' => e = .returned (.agg #[.int .i64 0, .int .i64 0]) ∧ Chg W g (S.stl ((P : Int) + 1)) w') := hide (fun W L' x => tick_any x.sh oks)
      have n1 := HR.out.ok.n1
      have K15 : Hid (∀ W (L' : List (Nat × Obj)), SW w0 W g (S.stl ((P : Int) + 1)) L' → Calls Try.prog 15 #[.pointer (some ⟨g, 0, none⟩), .int .i64 0] W fun e w' => e = .returned (.int .i64 140) ∧ Chg W g (S.stl ((P : Int) + 1)) w') := hide (fun W L' x => by
        have e1 : (S.stl ((P : Int) + 1)).mvC 0 = 140 := by
          unfold Sh.mvC
          rw [if_neg (by rw [(Sh.has_iff (S.stl ((P : Int) + 1)) 0).2 ⟨by omega, by show 0 < S.n; omega⟩]; decide)]
          exact if_pos ⟨by show (5 : Int) ≠ 1; decide, by show (5 : Int) ≠ 3; decide⟩
        have e2 : (S.stl ((P : Int) + 1)).mv 0 = S.stl ((P : Int) + 1) := if_neg (by rw [e1]; decide)
        have y := mv_any x.sh 0
        rw [e1, e2] at y
        exact y)
      have hn := HR.out.n
      have K11 : Hid (∀ W (L' : List (Nat × Obj)), SW w0 W g (S.stl ((P : Int) + 1)) L' → Calls Try.prog 11 #[.pointer (some ⟨g, 0, none⟩), .agg #[.int .i64 t, .int .i64 f, .int .i64 o]] W fun e w' => e = .returned (.int .i64 140) ∧ Chg W g (S.stl ((P : Int) + 1)) w') := hide (fun W L' x => by
        have z := HZ.out
        have h1 : (S.stl ((P : Int) + 1)).has f = true := (Sh.has_iff _ _).2 ⟨z.2.2.1.1, by show f < S.n; omega⟩
        have h2 : (S.stl ((P : Int) + 1)).has o = true := (Sh.has_iff _ _).2 ⟨z.2.2.2.1, by show o < S.n; omega⟩
        have e1 : (S.stl ((P : Int) + 1)).asC t f o = 140 := by
          unfold Sh.asC
          rw [if_neg (by rw [h1, h2]; rintro (h | h | h | h) <;> first | omega | cases h)]
          exact if_pos (by show (5 : Int) ≠ 0; decide)
        have e2 : (S.stl ((P : Int) + 1)).as t f o = S.stl ((P : Int) + 1) := if_neg (by rw [e1]; decide)
        have y := as_any x.sh t f o
        rw [e1, e2] at y
        exact y)
      have hre : (S.stl ((P : Int) + 1)).rs = S.rsd := by
        have e1 : (S.stl ((P : Int) + 1)).rs = Sh.on (S.stl ((P : Int) + 1)) S.st := rfl
        rw [e1]
        have a1 := HR.out.ok.e1
        have a3 := HR.out.ok.e3
        simp only [Sh.eff] at a1 a3
        rw [if_neg (by omega)] at a1 a3
        unfold Sh.on
        rw [if_neg (fun h => a1 h.1 h.2), if_neg (fun h => a3 h.1 h.2)]
        rfl
      have K20 : Hid (∀ W (L' : List (Nat × Obj)), SW w0 W g (S.stl ((P : Int) + 1)) L' → Calls Try.prog 20 #[.pointer (some ⟨g, 0, none⟩)] W fun e w' => e = .returned (.int .i64 0) ∧ Chg W g S.rsd w') := hide (fun W L' x => by
        have e1 : (S.stl ((P : Int) + 1)).rsC = 0 := rfl
        have y := rs_any x.sh
        rw [e1, hre] at y
        exact y)
      have okr : S.rsd.Ok := by rw [← hre]; exact oks.rs
      have KR : Hid (∀ W (L' : List (Nat × Obj)), SW w0 W g S.rsd L' → Calls Try.prog 13 #[.pointer (some ⟨g, 0, none⟩)] W fun e w' => e = .returned (.agg #[.int .i64 xk, .int .i64 xw]) ∧ Chg W g (S.rsd.wt (0 + 1)) w') := hide (fun W L' x => by
        obtain ⟨e1, e2, e3⟩ := wt_tick (S := S.rsd) (k := 0) s1 s4 (by show 0 + 1 ≤ S.pt; omega)
        have y := tick_any x.sh okr
        have e0 : S.rsd.wt 0 = S.rsd := rfl
        rw [e0] at e1 e2 e3
        have e4 : S.rsd.orK = S.orK := rfl
        have e5 : S.rsd.orW = S.orW := rfl
        rw [e1, e2, e3, e4, e5, hxk, hxw] at y
        exact y)
      have K25s : Hid (∀ W (L' : List (Nat × Obj)), SW w0 W g (S.stl ((P : Int) + 1)) L' → Calls Try.prog 25 #[.pointer (some ⟨g, 0, none⟩)] W fun e w' => e = .returned (.int .i64 S.load) ∧ w' = W) := hide (fun W L' x => by
        have e1 : (S.stl ((P : Int) + 1)).load = S.load := (show (S.stl ((P : Int) + 1)).load = ldv S.st S.jt from rfl).trans (load_st (by omega)).symm
        have y := load_any x.sh
        rw [e1] at y
        exact y)
      have K25r : Hid (∀ W (L' : List (Nat × Obj)), SW w0 W g (S.rsd.wt (0 + 1)) L' → Calls Try.prog 25 #[.pointer (some ⟨g, 0, none⟩)] W fun e w' => e = .returned (.int .i64 S.load) ∧ w' = W) := hide (fun W L' x => by
        have e1 : (S.rsd.wt (0 + 1)).load = S.load := (load_st (S := S.rsd.wt (0 + 1)) (by show S.st ≠ 5; omega)).trans (load_st (S := S) (by omega)).symm
        have y := load_any x.sh
        rw [e1] at y
        exact y)
      have K23w : Hid (∀ W (L' : List (Nat × Obj)) (j : Int), SW w0 W g (S.wt j) L' → Calls Try.prog 23 #[.pointer (some ⟨g, 0, none⟩)] W fun e w' => e = .returned (.int .i64 S.st) ∧ w' = W) := hide (fun W L' j x => by have y := state_any x.sh; exact y)
      have K23s : Hid (∀ W (L' : List (Nat × Obj)), SW w0 W g (S.stl ((P : Int) + 1)) L' → Calls Try.prog 23 #[.pointer (some ⟨g, 0, none⟩)] W fun e w' => e = .returned (.int .i64 5) ∧ w' = W) := hide (fun W L' x => by have y := state_any x.sh; exact y)
      have K23r : Hid (∀ W (L' : List (Nat × Obj)), SW w0 W g S.rsd L' → Calls Try.prog 23 #[.pointer (some ⟨g, 0, none⟩)] W fun e w' => e = .returned (.int .i64 S.st) ∧ w' = W) := hide (fun W L' x => by have y := state_any x.sh; exact y)
      have K13' : Hid (Calls Try.prog 13 #[.pointer (some ⟨g, 0, none⟩)] wr fun e w' => e = .returned (.agg #[.int .i64 xk, .int .i64 xw]) ∧ Chg wr g (S.wt ((1 : Nat) : Int)) w') := hide K13.out
      have r0 : (S.st != S.st) = false := bne_self_eq_false _
      have r1 : (xk == xk) = true := beq_self_eq_true _
      have r2 : (xw == xw) = true := beq_self_eq_true _
      have r3 : (S.load != S.load) = false := bne_self_eq_false _
      have r4 : (S.st == S.st) = true := beq_self_eq_true _
      have r5 : (S.load == S.load) = true := beq_self_eq_true _
      clear hpt hn n1 okr oks hre hxk hxw K13 s0 s1 s4 HR HZ
      generalize S.stl ((P : Int) + 1) = ZS at *
      generalize S.rsd.wt (0 + 1) = ZT at *
      generalize S.rsd = ZR at *
      go_upto_region 21 with (first
        | (go_at_call 23; refine (K23.out _ _ HW.out).mono ?_; rintro e W6 ⟨rfl, hW⟩; have hW' := hW.symm; clear hW; subst hW')
        | (go_at_call 25; refine (K25.out _ _ HW.out).mono ?_; rintro e W6 ⟨rfl, hW⟩; have hW' := hW.symm; clear hW; subst hW')
        | (go_at_call 13; refine K13'.out.mono ?_; rintro e W4 ⟨rfl, hc⟩; have HW4 := hide (HW.out.chg hc); clear hc))
      obtain ⟨hf, hhf⟩ : ∃ hf, W4.heap.size = hf := ⟨_, rfl⟩
      have HW5 := hide (HW4.out.new (.cells #[.int .i64 xk, .int .i64 xw] 41) hf hhf)
      try rw [hhf]
      clear hhf HW4 HW K13' K23 K25
      generalize W4.alloc (.cells #[.int .i64 xk, .int .i64 xw] 41) = W5 at *
      obtain ⟨M, hM⟩ : ∃ M, (hf, Obj.cells #[.int .i64 xk, .int .i64 xw] 41) :: L = M := ⟨_, rfl⟩
      have HMC : Hid (∀ W S, SW w0 W g S M → (W.cell? ⟨hf, 0, none⟩ = some (.int .i64 xk) ∧ W.cell? ⟨hf, 1, none⟩ = some (.int .i64 xw)) ∧ W.cell? ⟨h, 2, none⟩ = some (.int .i64 (P : Int)) ∧ W.cell? ⟨h + 1, 0, none⟩ = some (.int .i64 t) ∧ W.cell? ⟨h + 1, 1, none⟩ = some (.int .i64 f) ∧ W.cell? ⟨h + 1, 2, none⟩ = some (.int .i64 o)) := hide (fun W S x => by
        rw [← hM] at x
        have y := HC0.out _ (x.bw.sub (fun y hy => List.mem_cons_of_mem _ hy))
        exact ⟨⟨x.cell List.mem_cons_self 0, x.cell List.mem_cons_self 1⟩, y.2.2.1, y.2.2.2.1, y.2.2.2.2.1, y.2.2.2.2.2⟩)
      rw [hM] at HW5
      clear hM
      obtain ⟨S0, hS⟩ : ∃ S0 : World → Prop, ∀ W, S0 W ↔ (W.cell? ⟨hf, 0, none⟩ = some (.int .i64 xk) ∧ W.cell? ⟨hf, 1, none⟩ = some (.int .i64 xw)) := ⟨_, fun _ => Iff.rfl⟩
      have SD : Hid (∀ W, S0 W → (W.cell? ⟨hf, 0, none⟩ = some (.int .i64 xk) ∧ W.cell? ⟨hf, 1, none⟩ = some (.int .i64 xw))) := hide (fun W h => (hS W).1 h)
      have SI : Hid (∀ W S, SW w0 W g S M → S0 W) := hide (fun W S x => (hS W).2 (HMC.out _ _ x).1)
      clear hS
      go_wp2_with fail
      go_loopw [14] (fun v14 wr => ∃ j : Nat, v14 = .int .i64 j ∧ 1 ≤ j ∧ j ≤ P ∧ Hid (SW w0 wr g (S.wt (j : Int)) M)) (fun v14 _ => P - (intOf v14).toNat)
      case atStart => exact ⟨1, rfl, Nat.le_refl _, by omega, HW5⟩
      case round =>
        obtain ⟨j, rfl, hj1, hjP, HW⟩ := hrel
        obtain ⟨_, x2, x3, x4, x5⟩ := HMC.out _ _ HW.out
        by_cases hlt : j < P
        · have q0 : (j : Int) < (P : Int) := by omega
          have KT' := hide (fun W L' => KT.out W L' j hlt)
          clear hlt
          go_upto_region 24 with fail
          have HWd := hide HW.out.drew
          refine wp_region_held_drew (S := S0) (by kernel_rfl) (SI.out _ _ HWd.out) (fun hS0 => ?_)
          refine wpAnyH_take (i := 0) (v := .pointer (some ⟨g, 0, none⟩)) rfl (by kernel_rfl) (by kernel_rfl) (by kernel_rfl) (fun _ _ _ h => h) (Or.inl ⟨by rfl, fun W' hW => by go_simp⟩) hS0 ?_
          refine wpAnyH_take (i := 2) (v := .agg #[.int .i64 xk, .int .i64 xw]) rfl (by kernel_rfl) (by kernel_rfl) (by kernel_rfl) (fun _ _ _ h => h) (Or.inl ⟨by rfl, fun W' hW => by obtain ⟨z0, z1⟩ := SD.out W' hW; go_simp⟩) hS0 ?_
          refine wpAnyH_ready (rs := [1]) (by kernel_rfl) (by simp) ?_
          refine AllReadyH.cons rfl (fun K hK => ?_) AllReadyH.nil
          go_simp
          go_at_call 13
          refine (KT'.out _ _ HWd.out).mono ?_
          rintro e W5 ⟨rfl, hc⟩
          have HWe := hide (HWd.out.chg hc)
          clear hc
          go_simp
          refine hK.out _ _ (SI.out _ _ HWe.out) (fun _ => ?_)
          clear hK K
          refine wpAnyH_ready (rs := [3]) (by kernel_rfl) (by simp) ?_
          refine AllReadyH.cons rfl (fun K hK => ?_) AllReadyH.nil
          go_simp
          refine hK.out _ _ (SI.out _ _ HWe.out) (fun _ => ?_)
          clear hK K
          refine wpAnyH_ready (rs := [4]) (by kernel_rfl) (by simp) ?_
          refine AllReadyH.cons rfl (fun K hK => ?_) AllReadyH.nil
          go_simp
          refine hK.out _ _ (SI.out _ _ HWe.out) (fun _ => ?_)
          clear hK K
          refine wpAnyH_take (i := 5) (v := .pointer (some ⟨g, 0, none⟩)) rfl (by kernel_rfl) (by kernel_rfl) (by kernel_rfl) (fun _ _ _ h => h) (Or.inl ⟨by kernel_rfl, fun W' hW => by go_simp⟩) (SI.out _ _ HWe.out) ?_
          refine wpAnyH_take (i := 7) (v := .int .i64 S.st) rfl (by kernel_rfl) (by kernel_rfl) (by kernel_rfl) (fun _ _ _ h => h) (Or.inl ⟨by kernel_rfl, fun W' hW => by go_simp⟩) (SI.out _ _ HWe.out) ?_
          refine wpAnyH_ready (rs := [6]) (by kernel_rfl) (by simp) ?_
          refine AllReadyH.cons rfl (fun K hK => ?_) AllReadyH.nil
          go_simp
          go_at_call 23
          refine (K23w.out _ _ _ HWe.out).mono ?_
          rintro e W6 ⟨rfl, hW⟩
          have hW' := hW.symm
          clear hW
          subst hW'
          go_simp
          refine hK.out _ _ (SI.out _ _ HWe.out) (fun _ => ?_)
          clear hK K
          refine wpAnyH_ready (rs := [8]) (by kernel_rfl) (by simp) ?_
          refine AllReadyH.cons rfl (fun K hK => ?_) AllReadyH.nil
          go_simp
          refine hK.out _ _ (SI.out _ _ HWe.out) (fun _ => ?_)
          clear hK K
          refine wpAnyH_ready (rs := [9]) (by kernel_rfl) (by simp) ?_
          refine AllReadyH.cons rfl (fun K hK => ?_) AllReadyH.nil
          go_simp
          refine hK.out _ _ (SI.out _ _ HWe.out) (fun _ => ?_)
          clear hK K
          refine wpAnyH_done (by kernel_rfl) ?_ _
          go_wp2_with fail
          go_roundw
          case rel => exact ⟨j + 1, by go_num, by omega, by omega, HWe⟩
          case measure => simp [intOf]; omega
        · obtain rfl : j = P := by omega
          have q0 : ¬ (j : Int) < (j : Int) := by omega
          clear hlt hjP
          go_upto_region 28 with (first
            | (go_at_call 13; refine (KSS.out _ _ HW6.out).mono ?_; rintro e W7 ⟨rfl, hc⟩; have HW7 := hide (HW6.out.chg hc); clear hc)
            | (go_at_call 13; refine (KS.out _ _ HW.out).mono ?_; rintro e W6 ⟨rfl, hc⟩; have HW6 := hide (HW.out.chg hc); clear hc)
            | (go_at_call 23; refine (K23s.out _ _ HW6.out).mono ?_; rintro e W9 ⟨rfl, hW⟩; have hW' := hW.symm; clear hW; subst hW')
            | (go_at_call 25; refine (K25s.out _ _ HW6.out).mono ?_; rintro e W9 ⟨rfl, hW⟩; have hW' := hW.symm; clear hW; subst hW')
            | (go_at_call 15; refine (K15.out _ _ HW7.out).mono ?_; rintro e W8 ⟨rfl, hc⟩; have HW8 := hide (HW7.out.chg hc); clear hc; obtain ⟨_, _, x3, x4, x5⟩ := HMC.out _ _ HW8.out)
            | (go_at_call 11; refine (K11.out _ _ HW8.out).mono ?_; rintro e W9 ⟨rfl, hc⟩; have HW9 := hide (HW8.out.chg hc); clear hc))
          have HWd := hide HW9.out.drew
          refine wp_region_held_drew (S := S0) (by kernel_rfl) (SI.out _ _ HWd.out) (fun hS0 => ?_)
          refine wpAnyH_ready (rs := [0]) (by kernel_rfl) (by simp) ?_
          refine AllReadyH.cons rfl (fun K hK => ?_) AllReadyH.nil
          go_simp
          refine hK.out _ _ (SI.out _ _ HWd.out) (fun _ => ?_)
          clear hK K
          refine wpAnyH_ready (rs := [1]) (by kernel_rfl) (by simp) ?_
          refine AllReadyH.cons rfl (fun K hK => ?_) AllReadyH.nil
          go_simp
          go_at_call 20
          refine (K20.out _ _ HWd.out).mono ?_
          rintro e W5 ⟨rfl, hc⟩
          have HWe := hide (HWd.out.chg hc)
          clear hc
          go_simp
          refine hK.out _ _ (SI.out _ _ HWe.out) (fun _ => ?_)
          clear hK K
          refine wpAnyH_ready (rs := [2]) (by kernel_rfl) (by simp) ?_
          refine AllReadyH.cons rfl (fun K hK => ?_) AllReadyH.nil
          go_simp
          refine hK.out _ _ (SI.out _ _ HWe.out) (fun _ => ?_)
          clear hK K
          refine wpAnyH_ready (rs := [3]) (by kernel_rfl) (by simp) ?_
          refine AllReadyH.cons rfl (fun K hK => ?_) AllReadyH.nil
          go_simp
          refine hK.out _ _ (SI.out _ _ HWe.out) (fun _ => ?_)
          clear hK K
          refine wpAnyH_take (i := 4) (v := .pointer (some ⟨g, 0, none⟩)) rfl (by kernel_rfl) (by kernel_rfl) (by kernel_rfl) (fun _ _ _ h => h) (Or.inl ⟨by kernel_rfl, fun W' hW => by go_simp⟩) (SI.out _ _ HWe.out) ?_
          refine wpAnyH_take (i := 6) (v := .int .i64 S.st) rfl (by kernel_rfl) (by kernel_rfl) (by kernel_rfl) (fun _ _ _ h => h) (Or.inl ⟨by kernel_rfl, fun W' hW => by go_simp⟩) (SI.out _ _ HWe.out) ?_
          refine wpAnyH_ready (rs := [5]) (by kernel_rfl) (by simp) ?_
          refine AllReadyH.cons rfl (fun K hK => ?_) AllReadyH.nil
          go_simp
          go_at_call 23
          refine (K23r.out _ _ HWe.out).mono ?_
          rintro e W6 ⟨rfl, hW⟩
          have hW' := hW.symm
          clear hW
          subst hW'
          go_simp
          refine hK.out _ _ (SI.out _ _ HWe.out) (fun _ => ?_)
          clear hK K
          refine wpAnyH_ready (rs := [7]) (by kernel_rfl) (by simp) ?_
          refine AllReadyH.cons rfl (fun K hK => ?_) AllReadyH.nil
          go_simp
          refine hK.out _ _ (SI.out _ _ HWe.out) (fun _ => ?_)
          clear hK K
          refine wpAnyH_ready (rs := [8]) (by kernel_rfl) (by simp) ?_
          refine AllReadyH.cons rfl (fun K hK => ?_) AllReadyH.nil
          go_simp
          refine hK.out _ _ (SI.out _ _ HWe.out) (fun _ => ?_)
          clear hK K
          refine wpAnyH_ready (rs := [9]) (by kernel_rfl) (by simp) ?_
          refine AllReadyH.cons rfl (fun K hK => ?_) AllReadyH.nil
          go_simp
          refine hK.out _ _ (SI.out _ _ HWe.out) (fun _ => ?_)
          clear hK K
          refine wpAnyH_take (i := 10) (v := .pointer (some ⟨g, 0, none⟩)) rfl (by kernel_rfl) (by kernel_rfl) (by kernel_rfl) (fun _ _ _ h => h) (Or.inl ⟨by kernel_rfl, fun W' hW => by go_simp⟩) (SI.out _ _ HWe.out) ?_
          refine wpAnyH_take (i := 12) (v := .agg #[.int .i64 xk, .int .i64 xw]) rfl (by kernel_rfl) (by kernel_rfl) (by kernel_rfl) (fun _ _ _ h => h) (Or.inl ⟨by kernel_rfl, fun W' hW => by obtain ⟨z0, z1⟩ := SD.out W' hW; go_simp⟩) (SI.out _ _ HWe.out) ?_
          refine wpAnyH_ready (rs := [11]) (by kernel_rfl) (by simp) ?_
          refine AllReadyH.cons rfl (fun K hK => ?_) AllReadyH.nil
          go_simp
          go_at_call 13
          refine (KR.out _ _ HWe.out).mono ?_
          rintro e W5 ⟨rfl, hc⟩
          have HWg := hide (HWe.out.chg hc)
          clear hc
          go_simp
          refine hK.out _ _ (SI.out _ _ HWg.out) (fun _ => ?_)
          clear hK K
          refine wpAnyH_ready (rs := [13]) (by kernel_rfl) (by simp) ?_
          refine AllReadyH.cons rfl (fun K hK => ?_) AllReadyH.nil
          go_simp
          refine hK.out _ _ (SI.out _ _ HWg.out) (fun _ => ?_)
          clear hK K
          refine wpAnyH_ready (rs := [14]) (by kernel_rfl) (by simp) ?_
          refine AllReadyH.cons rfl (fun K hK => ?_) AllReadyH.nil
          go_simp
          refine hK.out _ _ (SI.out _ _ HWg.out) (fun _ => ?_)
          clear hK K
          refine wpAnyH_ready (rs := [15]) (by kernel_rfl) (by simp) ?_
          refine AllReadyH.cons rfl (fun K hK => ?_) AllReadyH.nil
          go_simp
          refine hK.out _ _ (SI.out _ _ HWg.out) (fun _ => ?_)
          clear hK K
          refine wpAnyH_take (i := 16) (v := .pointer (some ⟨g, 0, none⟩)) rfl (by kernel_rfl) (by kernel_rfl) (by kernel_rfl) (fun _ _ _ h => h) (Or.inl ⟨by kernel_rfl, fun W' hW => by go_simp⟩) (SI.out _ _ HWg.out) ?_
          refine wpAnyH_take (i := 18) (v := .int .i64 S.load) rfl (by kernel_rfl) (by kernel_rfl) (by kernel_rfl) (fun _ _ _ h => h) (Or.inl ⟨by kernel_rfl, fun W' hW => by go_simp⟩) (SI.out _ _ HWg.out) ?_
          refine wpAnyH_ready (rs := [17]) (by kernel_rfl) (by simp) ?_
          refine AllReadyH.cons rfl (fun K hK => ?_) AllReadyH.nil
          go_simp
          go_at_call 25
          refine (K25r.out _ _ HWg.out).mono ?_
          rintro e W6 ⟨rfl, hW⟩
          have hW' := hW.symm
          clear hW
          subst hW'
          go_simp
          refine hK.out _ _ (SI.out _ _ HWg.out) (fun _ => ?_)
          clear hK K
          refine wpAnyH_ready (rs := [19]) (by kernel_rfl) (by simp) ?_
          refine AllReadyH.cons rfl (fun K hK => ?_) AllReadyH.nil
          go_simp
          refine hK.out _ _ (SI.out _ _ HWg.out) (fun _ => ?_)
          clear hK K
          refine wpAnyH_ready (rs := [20]) (by kernel_rfl) (by simp) ?_
          refine AllReadyH.cons rfl (fun K hK => ?_) AllReadyH.nil
          go_simp
          refine hK.out _ _ (SI.out _ _ HWg.out) (fun _ => ?_)
          clear hK K
          refine wpAnyH_ready (rs := [21]) (by kernel_rfl) (by simp) ?_
          refine AllReadyH.cons rfl (fun K hK => ?_) AllReadyH.nil
          go_simp
          refine hK.out _ _ (SI.out _ _ HWg.out) (fun _ => ?_)
          clear hK K
          refine wpAnyH_done (by kernel_rfl) ?_ _
          go_wp2_with fail
          go_ret
          exact ⟨by first | rfl | simp, HWg.out.bw.bel⟩
end Go.Proofs.Ytjmmkkjabpcihaa
