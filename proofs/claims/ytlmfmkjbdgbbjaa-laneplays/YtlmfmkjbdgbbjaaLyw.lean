/- LanePlays, the walk. -/
import Derived.Test.YtlmfmkjbdgbbjaaLrt
namespace Go.Proofs.Ytlmfmkjbdgbbjaa
open Go.RowKit
set_option linter.unusedVariables false

/-- the law's world: a lane, and the document's in a box -/
structure LW (w0 : World) (B g hm N : Nat) (xs ys : List Int) (v : Value) (w : World) : Prop where
  ln : Ln w g N xs
  box : w.heap[hm]? = some (.cells #[.int .i64 N, v] 30)
  own : intE.Own w B v ys
  bel : Below w0.heap.size w0 w
  bw : B ≤ w.heap.size
  gB : g < B
  hB : hm < B
  gh : g ≠ hm
  og : w0.heap.size ≤ g
  oh : w0.heap.size ≤ hm
variable {w0 w w' : World} {B g hm N : Nat} {xs ys : List Int} {v : Value}
theorem LW.keep (x : LW w0 B g hm N xs ys v w) (hb : Below w.heap.size w w') : LW w0 B g hm N xs ys v w' :=
  ⟨x.ln.keep hb, (hb.block _ (heap_lt x.box)).trans x.box, x.own.keep hb, x.bel.trans (hb.mono x.bel.size), Nat.le_trans x.bw hb.size, x.gB, x.hB, x.gh, x.og, x.oh⟩
theorem LW.keepB (x : LW w0 B g hm N xs ys v w) {s : Nat} (hb : Below s w w') (hs : w.heap.size ≤ s) : LW w0 B g hm N xs ys v w' := x.keep (hb.mono hs)
/-- a call of the lane's -/
theorem LW.lane (x : LW w0 B g hm N xs ys v w) {zs : List Int} (hL : Ln w' g N zs) (hg : w.grownBy w' (some g)) : LW w0 B g hm N zs ys v w' :=
  ⟨hL, (hg.block hm (heap_lt x.box) (fun e => x.gh (by cases e; rfl))).trans x.box, own_lane x.own hg x.gB, x.bel.grown hg x.bel.size (fun k hk => by cases hk; exact x.og), Nat.le_trans x.bw hg.size, x.gB, x.hB, x.gh, x.og, x.oh⟩
/-- the document's lane is another one -/
theorem LW.put (x : LW w0 B g hm N xs ys v w) {u : Value} {zs : List Int} (ho : intE.Own w B u zs) : LW w0 B g hm N xs zs u ((w.setCell ⟨hm, 0, none⟩ (.int .i64 N)).setCell ⟨hm, 1, none⟩ u) :=
  ⟨x.ln.stay (by rw [Below.heap_setCell _ _ _ _ x.gh, Below.heap_setCell _ _ _ _ x.gh]), by rw [heap_put (heap_put x.box _)]; rfl, own_off (own_off ho x.hB) x.hB, (x.bel.setCell (p := ⟨hm, 0, none⟩) x.oh _).setCell (p := ⟨hm, 1, none⟩) x.oh _, by have := x.bw; simpa [World.setCell] using this, x.gB, x.hB, x.gh, x.og, x.oh⟩
theorem LW.cells (x : LW w0 B g hm N xs ys v w) : w.cell? ⟨hm, 0, none⟩ = some (.int .i64 N) ∧ w.cell? ⟨hm, 1, none⟩ = some v ∧ ∀ i, w.frozen? ⟨hm, i, none⟩ = false := ⟨(cells_at x.box 0).1, (cells_at x.box 1).1, fun i => (cells_at x.box i).2⟩
theorem LW.drewN (x : LW w0 B g hm N xs ys v w) (q : Nat) : LW w0 B g hm N xs ys v (w.drewN q) := ⟨x.ln.drewN q, x.box, x.own, below_drew x.bel q, x.bw, x.gB, x.hB, x.gh, x.og, x.oh⟩

/-- what Ahead tells -/
theorem both_ahead (x : LW w0 B g hm N xs xs v w) (t : Int) (n c : Nat) (a : Option Addr) (hv : v = .slice a n c) (hn : xs.length = n) : ∃ (l : List Int) (cd : Int), l.length ≤ 8 ∧
    (∀ W, LW w0 B g hm N xs xs v W → Calls Try.prog 16 #[.pointer (some ⟨g, 0, none⟩), .int .i64 t] W fun e w' => ∃ a' c', e = .returned (.tuple #[.slice a' l.length c', .int .i64 cd]) ∧ intE.Own w' W.heap.size (.slice a' l.length c') l ∧ Below W.heap.size W w') ∧
    (∀ W, LW w0 B g hm N xs xs v W → Calls Try.prog 17 #[.agg #[.int .i64 N, .slice a n c], .int .i64 t] W fun e w' => ∃ a' c', e = .returned (.tuple #[.slice a' l.length c', .int .i64 cd]) ∧ intE.Own w' W.heap.size (.slice a' l.length c') l ∧ Below W.heap.size W w') := by
  have h8 := x.ln.le
  rw [hn] at h8
  subst hv
  by_cases ht : t ∈ xs
  · obtain ⟨k, hk, hkl, _⟩ := loc_in ht
    refine ⟨ahd xs k, 0, by unfold ahd; rw [List.length_reverse, List.length_drop]; omega, fun W hW => ?_, fun W hW => ?_⟩
    · refine (ahead_yes W hW.ln ht hk).mono ?_
      rintro e w' ⟨v, rfl, ho, hb⟩
      obtain ⟨a', c', rfl⟩ := ho.rd.form
      exact ⟨a', c', rfl, ho, hb⟩
    · refine (rahead_yes hW.own.rd hn (by omega) ht hk).mono ?_
      rintro e w' ⟨v, rfl, ho, hb⟩
      obtain ⟨a', c', rfl⟩ := ho.rd.form
      exact ⟨a', c', rfl, ho, hb⟩
  · refine ⟨[], 160, by simp, fun W hW => ?_, fun W hW => ?_⟩
    · refine (ahead_no t W hW.ln ht).mono ?_
      rintro e w' ⟨rfl, q, rfl⟩
      exact ⟨none, 0, rfl, El.Own.nil _ _ _, below_drew (Below.refl _ _) q⟩
    · refine (rahead_no t hW.own.rd hn (by omega) ht).mono ?_
      rintro e w' ⟨rfl, hb⟩
      exact ⟨none, 0, rfl, El.Own.nil _ _ _, hb⟩

set_option maxRecDepth 100000 in
set_option maxHeartbeats 8000000 in
theorem plays_walk (n0 : Int) (a : Option Addr) (m c : Nat) (zs : List Op) (w : World) (hm : zs.length = m) (hv : Ops w (.slice a m c) zs) : Calls Try.prog 3 #[.int .i64 n0, .slice a m c] w fun e w' => e = .returned (.bool true) ∧ Below w.heap.size w w' := by
  obtain ⟨w0, rfl⟩ : ∃ w0, w0 = w := ⟨_, rfl⟩
  have KA := hide awake_any
  have Hm := hide hm
  have HV := hide hv
  clear hm hv
  by_cases hout : n0 < 1 ∨ 8 < n0
  · have KN : Hid (∀ W, _) := hide (fun W => new_no n0 W hout)
    rcases hout with hout | hout
    · go_enter Try.func3, Try.ntmps3
      go_wp2_with (first | (go_at_call 8; refine (KA.out _).mono ?_; rintro e W1 ⟨rfl, hb1⟩; have HB := hide hb1; clear hb1) | (go_at_call 9; refine (KN.out _).mono ?_; rintro e W2 ⟨rfl, hW⟩; have hW' := hW.symm; clear hW; subst hW'))
      go_ret
      exact ⟨by first | rfl | simp, HB.out⟩
    · have h1 : ¬ n0 < 1 := by omega
      have h2 : n0 > 8 := hout
      go_enter Try.func3, Try.ntmps3
      go_wp2_with (first | (go_at_call 8; refine (KA.out _).mono ?_; rintro e W1 ⟨rfl, hb1⟩; have HB := hide hb1; clear hb1) | (go_at_call 9; refine (KN.out _).mono ?_; rintro e W2 ⟨rfl, hW⟩; have hW' := hW.symm; clear hW; subst hW'))
      go_ret
      exact ⟨by first | rfl | simp, HB.out⟩
  obtain ⟨N, rfl⟩ : ∃ N : Nat, n0 = (N : Int) := ⟨n0.toNat, by omega⟩
  have hN1 : 1 ≤ N := by omega
  have hN2 : N ≤ 8 := by omega
  have h1 : ¬ (N : Int) < 1 := by omega
  have h2 : ¬ (N : Int) > 8 := by omega
  have h3 : (N : Int) ≤ 8 := by omega
  have KN : Hid (∀ W, Calls Try.prog 9 #[.int .i64 N] W fun e w' => e = .returned (.tuple #[.pointer (some ⟨W.heap.size, 0, none⟩), .int .i64 0]) ∧ Ln w' W.heap.size N [] ∧ Below W.heap.size W w') := hide (fun W => new_ok N W hN1 hN2)
  clear hout hN1
  go_enter Try.func3, Try.ntmps3
  go_upto_region 8 with (first
    | (go_at_call 8; refine (KA.out _).mono ?_; rintro e W1 ⟨rfl, hb1⟩; have HB := hide hb1; clear hb1)
    | (go_at_call 9; refine (KN.out _).mono ?_; rintro e W2 ⟨rfl, hL, hb⟩; have HL0 := hide hL; have HB0 : Hid (Below w0.heap.size w0 W2) := hide (HB.out.trans (hb.mono HB.out.size)); clear hL hb))
  obtain ⟨g, hg⟩ : ∃ g, W1.heap.size = g := ⟨_, rfl⟩
  have Hg : Hid (w0.heap.size ≤ g) := hide (by rw [← hg]; exact HB.out.size)
  rw [hg] at HL0 ⊢
  clear hg KA KN HB
  obtain ⟨hm, hhm⟩ : ∃ hm, W2.heap.size = hm := ⟨_, rfl⟩
  have HW0 : Hid (∀ B, (W2.alloc (.cells #[.int .i64 (N : Int), .slice none 0 0] 30)).heap.size = B → LW w0 B g hm N [] [] (.slice none 0 0) (W2.alloc (.cells #[.int .i64 (N : Int), .slice none 0 0] 30))) := hide (fun B hB => by
    have hb : Below W2.heap.size W2 (W2.alloc (.cells #[.int .i64 (N : Int), .slice none 0 0] 30)) := (Below.refl _ _).alloc (Nat.le_refl _) _
    have hx := heap_new W2 (.cells #[.int .i64 (N : Int), .slice none 0 0] 30)
    have hl := HL0.out.lt
    have hx' := heap_lt hx
    rw [hhm] at hx hl hx'
    rw [hB] at hx'
    exact ⟨HL0.out.keep hb, hx, El.Own.nil _ _ _, HB0.out.trans (hb.mono HB0.out.size), by omega, by omega, hx', by omega, Hg.out, by have := HB0.out.size; omega⟩)
  go_upto_region 9 with fail
  try rw [hhm]
  obtain ⟨B, hB⟩ : ∃ B, (W2.alloc (.cells #[.int .i64 (N : Int), .slice none 0 0] 30)).heap.size = B := ⟨_, rfl⟩
  have HW1 := hide (HW0.out B hB)
  clear HW0 HL0 HB0 hB hhm
  generalize W2.alloc (.cells #[.int .i64 (N : Int), .slice none 0 0] 30) = W3 at *
  go_wp2_with fail
  go_loopw [8] (fun v8 wr => ∃ (i : Nat) (xs : List Int) (v : Value), v8 = .int .i64 i ∧ i ≤ m ∧ i ≤ 200 ∧ Hid (LW w0 B g hm N xs xs v wr)) (fun v8 _ => 200 - (intOf v8).toNat)
  case atStart => exact ⟨0, [], _, rfl, Nat.zero_le _, by omega, HW1⟩
  case round =>
    obtain ⟨i, xs, v, rfl, him, hi2, HW⟩ := hrel
    by_cases hlt : i < m
    · by_cases hlt2 : i < 200
      · have q0 : (i : Int) < (m : Int) := by omega
        have q1 : (i : Int) < 200 := by omega
        have q2 : (0 : Int) ≤ (i : Int) := by omega
        obtain ⟨o, ho⟩ : ∃ o, zs[i]? = some o := ⟨_, List.getElem?_eq_getElem (by rw [Hm.out]; exact hlt)⟩
        obtain ⟨b, off, rfl, z0, z1⟩ := HV.out.at i o ho
        obtain ⟨kd, tt⟩ := o
        simp only at z0 z1
        have z2 : wr.cell? ⟨b, off + i * 2, none⟩ = some (.int .i64 kd) := by rw [HW.out.bel.cell (p := ⟨b, off + i * 2, none⟩) (cell_lt z0)]; exact z0
        have z3 : wr.cell? ⟨b, off + i * 2 + 1, none⟩ = some (.int .i64 tt) := by rw [HW.out.bel.cell (p := ⟨b, off + i * 2 + 1, none⟩) (cell_lt z1)]; exact z1
        obtain ⟨a7, c7, hf7⟩ := HW.out.own.rd.form
        subst hf7
        obtain ⟨n, hn⟩ : ∃ n, xs.length = n := ⟨_, rfl⟩
        have Hn := hide hn
        rw [hn] at HW
        have hle := HW.out.ln.le
        rw [hn] at hle
        have s0 : (n : Int) ≤ 8 := by omega
        have Hle := hide hle
        clear z0 z1 ho hlt hlt2 hn hle
        have HW4 : Hid (LW w0 B g hm N xs xs (.slice a7 n c7) (wr.alloc (.cells #[.int .i64 kd, .int .i64 tt] 32))) := hide (HW.out.keep ((Below.refl _ _).alloc (Nat.le_refl _) _))
        have Hob := hide (heap_new wr (.cells #[.int .i64 kd, .int .i64 tt] 32))
        have Hbw := hide HW.out.bw
        go_upto_region 13 with fail
        obtain ⟨ho, hho⟩ : ∃ ho, wr.heap.size = ho := ⟨_, rfl⟩
        rw [hho] at Hob Hbw
        try rw [hho]
        have Hog : Hid (g ≠ ho) := hide (by have := HW.out.gB; have := Hbw.out; omega)
        clear hho HW z2 z3
        generalize wr.alloc (.cells #[.int .i64 kd, .int .i64 tt] 32) = W4 at *
        have z0 : W4.cell? ⟨ho, 0, none⟩ = some (.int .i64 kd) := (cells_at Hob.out 0).1
        have z1 : W4.cell? ⟨ho, 1, none⟩ = some (.int .i64 tt) := (cells_at Hob.out 1).1
        go_upto_block 2 with fail
        go_cut [10, 11] (fun v10 v11 wx => ∃ (cd : Int) (ys : List Int) (v : Value), v10 = .int .i64 cd ∧ v11 = .int .i64 cd ∧ Hid (LW w0 B g hm N ys ys v wx))
        case first =>
          as_aux_lemma =>
           by_cases k1 : kd = 1
           · subst k1
             have K10 := hide (push_any tt W4 HW4.out.ln)
             have K11 : Hid (∀ W, LW w0 B g hm N (pushL N xs tt) xs (.slice a7 n c7) W → _) := hide (fun W h => rpush_any (d := N) tt h.own h.bw Hn.out (by have := Hle.out; omega) (by omega))
             generalize pushC N xs tt = cc at *
             generalize pushL N xs tt = yl at *
             go_wp2_with (first
               | (go_at_call 10; refine K10.out.mono ?_; rintro e W5 ⟨rfl, hL, hG⟩; have HW5 := hide (HW4.out.lane hL hG); have y0 := hide ((hG.block ho (heap_lt Hob.out) (fun e => by cases e; exact Hog.out rfl)).trans Hob.out); clear hL hG; obtain ⟨x0, x1, x2⟩ := HW5.out.cells; have x3 : W5.cell? ⟨ho, 1, none⟩ = some (.int .i64 tt) := (cells_at y0.out 1).1)
               | (go_at_call 11; refine (K11.out _ HW5.out).mono ?_; rintro e W6 ⟨v6, rfl, ho6, hb⟩; obtain ⟨a6, c6, hf6⟩ := ho6.rd.form; subst hf6; have HW6 := hide (HW5.out.keep hb); have HO6 := hide ho6; clear ho6 hb; obtain ⟨m6, hm6⟩ : ∃ m6, yl.length = m6 := ⟨_, rfl⟩; rw [hm6] at HO6 ⊢; clear hm6; obtain ⟨u0, u1, u2⟩ := HW6.out.cells))
             go_meet
             exact ⟨cc, yl, _, rfl, rfl, hide (HW6.out.put HO6.out)⟩
           · have k1' : (kd == 1) = false := beq_eq_false_iff_ne.2 k1
             by_cases k2 : kd = 2
             · subst k2
               have K12 := hide (pop_all W4 HW4.out.ln)
               have K13 : Hid (∀ W, LW w0 B g hm N xs.dropLast xs (.slice a7 n c7) W → _) := hide (fun W h => rpop_any (d := N) h.own h.bw Hn.out (by have := Hle.out; omega))
               generalize popC xs = cc at *
               generalize popV xs = pv at *
               generalize xs.dropLast = yl at *
               have q3 : (pv != pv) = false := bne_self_eq_false _
               go_wp2_with (first
                 | (go_at_call 12; refine K12.out.mono ?_; rintro e W5 ⟨rfl, hL, hG⟩; have HW5 := hide (HW4.out.lane hL hG); have y0 := hide ((hG.block ho (heap_lt Hob.out) (fun e => by cases e; exact Hog.out rfl)).trans Hob.out); clear hL hG; obtain ⟨x0, x1, x2⟩ := HW5.out.cells; have x3 : W5.cell? ⟨ho, 1, none⟩ = some (.int .i64 tt) := (cells_at y0.out 1).1)
                 | (go_at_call 13; refine (K13.out _ HW5.out).mono ?_; rintro e W6 ⟨v6, rfl, ho6, hb⟩; obtain ⟨a6, c6, hf6⟩ := ho6.rd.form; subst hf6; have HW6 := hide (HW5.out.keep hb); have HO6 := hide ho6; clear ho6 hb; obtain ⟨m6, hm6⟩ : ∃ m6, yl.length = m6 := ⟨_, rfl⟩; rw [hm6] at HO6 ⊢; clear hm6; obtain ⟨u0, u1, u2⟩ := HW6.out.cells))
               go_meet
               exact ⟨cc, yl, _, rfl, rfl, hide (HW6.out.put HO6.out)⟩
             · have k2' : (kd == 2) = false := beq_eq_false_iff_ne.2 k2
               by_cases k3 : kd = 3
               · subst k3
                 have K14 := hide (take_any tt W4 HW4.out.ln)
                 have K15 : Hid (∀ W, LW w0 B g hm N (takeL xs tt) xs (.slice a7 n c7) W → _) := hide (fun W h => rtake_any (d := N) tt h.own h.bw Hn.out (by have := Hle.out; omega))
                 generalize takeC xs tt = cc at *
                 generalize takeL xs tt = yl at *
                 go_wp2_with (first
                   | (go_at_call 14; refine K14.out.mono ?_; rintro e W5 ⟨rfl, hL, hG⟩; have HW5 := hide (HW4.out.lane hL hG); have y0 := hide ((hG.block ho (heap_lt Hob.out) (fun e => by cases e; exact Hog.out rfl)).trans Hob.out); clear hL hG; obtain ⟨x0, x1, x2⟩ := HW5.out.cells; have x3 : W5.cell? ⟨ho, 1, none⟩ = some (.int .i64 tt) := (cells_at y0.out 1).1)
                   | (go_at_call 15; refine (K15.out _ HW5.out).mono ?_; rintro e W6 ⟨v6, rfl, ho6, hb⟩; obtain ⟨a6, c6, hf6⟩ := ho6.rd.form; subst hf6; have HW6 := hide (HW5.out.keep hb); have HO6 := hide ho6; clear ho6 hb; obtain ⟨m6, hm6⟩ : ∃ m6, yl.length = m6 := ⟨_, rfl⟩; rw [hm6] at HO6 ⊢; clear hm6; obtain ⟨u0, u1, u2⟩ := HW6.out.cells))
                 go_meet
                 exact ⟨cc, yl, _, rfl, rfl, hide (HW6.out.put HO6.out)⟩
               · have k3' : (kd == 3) = false := beq_eq_false_iff_ne.2 k3
                 by_cases k4 : kd = 4
                 · subst k4
                   obtain ⟨l, cc, hl8, K16, K17⟩ := both_ahead HW4.out tt n c7 a7 rfl Hn.out
                   obtain ⟨ln, hln⟩ : ∃ ln, l.length = ln := ⟨_, rfl⟩
                   have H16 := hide (K16 W4 HW4.out)
                   have H17 : Hid (∀ W, LW w0 B g hm N xs xs (.slice a7 n c7) W → _) := hide (fun W h => K17 W h)
                   rw [hln] at H16 hl8
                   simp only [hln] at H17
                   have K18 : Hid (∀ W (a1 a2 : Option Addr) (c1 c2 : Nat), intE.Rd W (.slice a1 ln c1) l → intE.Rd W (.slice a2 ln c2) l → Calls Try.prog 18 #[.slice a1 ln c1, .slice a2 ln c2] W fun e w' => e = .returned (.bool true) ∧ ∃ q, w' = W.drewN q) := hide (fun W a1 a2 c1 c2 h1 h2 => (ints_any a1 a2 c1 c2 ln ln l l W hln hln h1 h2 (by omega)).mono (by
                     rintro e w' ⟨rfl, hq⟩
                     exact ⟨by rw [decide_eq_true rfl], hq⟩))
                   have Hln := hide hln
                   have t0 : (ln : Int) ≤ 8 := by omega
                   clear K16 K17 hln
                   go_upto_region 33 with (first
                     | (go_at_call 16; refine H16.out.mono ?_; rintro e W5 ⟨a15, c15, rfl, ho5, hb⟩; have HO5 := hide ho5; have HW5 := hide (HW4.out.keep hb); have HB5 := hide hb; have y0 := hide ((hb.block ho (heap_lt Hob.out)).trans Hob.out); clear ho5 hb; obtain ⟨x0, x1, x2⟩ := HW5.out.cells; have x3 : W5.cell? ⟨ho, 1, none⟩ = some (.int .i64 tt) := (cells_at y0.out 1).1)
                     | (go_at_call 17; refine (H17.out _ HW5.out).mono ?_; rintro e W6 ⟨a17, c17, rfl, ho6, hb⟩; have HO6 := hide ho6; have HB6 : Hid (Below W4.heap.size W4 W6) := hide (HB5.out.trans (hb.mono HB5.out.size)); have HO7 := hide (HO5.out.keep hb); clear ho6 hb)
                     | (go_at_call 18; refine (K18.out _ _ _ _ _ HO7.out.rd HO6.out.rd).mono ?_; rintro e W7 ⟨rfl, q7, hq7⟩; have HO8 : Hid (intE.Own W7 W4.heap.size (.slice a15 ln c15) l) := hide (by rw [hq7]; exact HO7.out); have HB7 : Hid (Below W4.heap.size W4 W7) := hide (by rw [hq7]; exact below_drew HB6.out q7); clear hq7))
                   go_wp2_with fail
                   go_loopw [130] (fun v130 wr => ∃ (k : Nat) (ls : List Int), v130 = .int .i64 k ∧ k ≤ ln ∧ Hid (ls.length = ln) ∧ Hid (Below W4.heap.size W4 wr) ∧ Hid (intE.Own wr W4.heap.size (.slice a15 ln c15) ls)) (fun v130 _ => ln - (intOf v130).toNat)
                   case atStart => exact ⟨0, l, rfl, Nat.zero_le _, Hln, HB7, HO8⟩
                   case round =>
                     obtain ⟨k, ls, rfl, hkl, HLs, HB8, HO9⟩ := hrel
                     by_cases hk : k < ln
                     · obtain ⟨b5, c5, hf5, _, _⟩ := HO9.out.some (fun e => by have := HLs.out; rw [e] at this; simp at this; omega)
                       simp only [Value.slice.injEq] at hf5
                       obtain ⟨rfl, _, rfl⟩ := hf5
                       obtain ⟨p, hp⟩ : ∃ p, ls[k]? = some p := ⟨_, List.getElem?_eq_getElem (by rw [HLs.out]; exact hk)⟩
                       obtain ⟨y1, y2⟩ := HO9.out.at1 (Value.int .i64) (fun _ => rfl) rfl k p hp
                       have HO10 := hide (HO9.out.set (Value.int .i64) (fun _ => rfl) rfl k 99)
                       have HB10 : Hid (Below W4.heap.size W4 (wr.setCell ⟨b5, k, none⟩ (.int .i64 99))) := hide (HB8.out.setCell (p := ⟨b5, k, none⟩) (HO9.out.ge b5 rfl) _)
                       have r0 : (k : Int) < (ln : Int) := by omega
                       have r1 : (0 : Int) ≤ (k : Int) := by omega
                       clear hk hp
                       go_wp2_with fail
                       go_roundw
                       case rel => exact ⟨k + 1, ls.set k 99, by go_num, by omega, hide (by rw [List.length_set]; exact HLs.out), HB10, HO10⟩
                       case measure => simp [intOf]; omega
                     · obtain rfl : k = ln := by omega
                       have r0 : ¬ (k : Int) < (k : Int) := by omega
                       clear hk
                       go_wp2_with fail
                       go_meet
                       exact ⟨cc, xs, _, rfl, rfl, hide (HW4.out.keep HB8.out)⟩
                 · have k4' : (kd == 4) = false := beq_eq_false_iff_ne.2 k4
                   go_wp2_with fail
                   go_meet
                   exact ⟨0, xs, _, rfl, rfl, HW4⟩
        case rest =>
          as_aux_lemma =>
           obtain ⟨cd, ys, v, rfl, rfl, HWc⟩ := hcut
           clear HW4 Hob Hbw Hog z0 z1 Hn Hle
           obtain ⟨a8, c8, hf8⟩ := HWc.out.own.rd.form
           subst hf8
           obtain ⟨l, hl⟩ : ∃ l, ys.length = l := ⟨_, rfl⟩
           have Hl := hide hl
           rw [hl] at HWc
           have hle := HWc.out.ln.le
           rw [hl] at hle
           have s1 : (l : Int) ≤ 8 := by omega
           have H19 := hide (totes_any wc HWc.out.ln)
           have H20 : Hid (∀ W, Ln W g N ys → _) := hide (fun W h => room_any W h)
           rw [hl] at H20
           obtain ⟨r, hr⟩ : ∃ r, N - l = r := ⟨_, rfl⟩
           rw [hr] at H20
           have s2 : (N : Int) - (l : Int) = (r : Int) := by omega
           have s3 : ((r : Int) != (r : Int)) = false := bne_self_eq_false _
           have s4 : (cd != cd) = false := bne_self_eq_false _
           have s5 : (r : Int) ≤ 8 := by omega
           clear hl hle hr
           go_upto_region 40 with (go_at_call 19; refine H19.out.mono ?_; rintro e W5 ⟨v20, rfl, ho, hb⟩; have HO5 := hide ho; have HW5 := hide (HWc.out.keep hb); have HB5 := hide hb; clear ho hb)
           obtain ⟨a20, c20, hf20⟩ := HO5.out.rd.form
           subst hf20
           rw [Hl.out] at HO5 ⊢
           obtain ⟨x0, x1, x2⟩ := HW5.out.cells
           have K20 : Hid (∀ q, Calls Try.prog 20 #[.pointer (some ⟨g, 0, none⟩)] (W5.drewN q) fun e w' => e = .returned (.int .i64 (r : Int)) ∧ ∃ q', w' = (W5.drewN q).drewN q') := hide (fun q => H20.out _ (HW5.out.ln.drewN q))
           have K18 : Hid (∀ q, Calls Try.prog 18 #[.slice a20 l c20, .slice a8 l c8] (W5.drewN q) fun e w' => e = .returned (.bool true) ∧ ∃ q', w' = (W5.drewN q).drewN q') := hide (fun q => (ints_any a20 a8 c20 c8 l l ys ys (W5.drewN q) Hl.out Hl.out HO5.out.rd HW5.out.own.rd (by omega)).mono (by
             rintro e w' ⟨rfl, hq⟩
             exact ⟨by rw [decide_eq_true rfl], hq⟩))
           go_quiet (first
             | (go_at_call 20; exact Calls.quiet_of (K20.out _))
             | (go_at_call 18; exact Calls.quiet_of (K18.out _)))
           have HB6 : Hid (Below wc.heap.size wc (W5.drewN nq)) := hide (below_drew HB5.out nq)
           have HO6 : Hid (intE.Own (W5.drewN nq) wc.heap.size (.slice a20 l c20) ys) := hide HO5.out
           clear x0 x1 x2 K20 K18 H20 H19 HB5 HO5 HW5
           generalize W5.drewN nq = W6 at *
           go_wp2_with fail
           obtain ⟨wC, rfl⟩ : ∃ W, W = wc := ⟨_, rfl⟩
           go_loopw [163] (fun v163 wr => ∃ (k : Nat) (ls : List Int), v163 = .int .i64 k ∧ k ≤ l ∧ Hid (ls.length = l) ∧ Hid (Below wC.heap.size wC wr) ∧ Hid (intE.Own wr wC.heap.size (.slice a20 l c20) ls)) (fun v163 _ => l - (intOf v163).toNat)
           case atStart => exact ⟨0, ys, rfl, Nat.zero_le _, Hl, HB6, HO6⟩
           case round =>
             obtain ⟨k, ls, rfl, hkl, HLs, HB8, HO9⟩ := hrel
             by_cases hk : k < l
             · obtain ⟨b5, c5, hf5, _, _⟩ := HO9.out.some (fun e => by have := HLs.out; rw [e] at this; simp at this; omega)
               simp only [Value.slice.injEq] at hf5
               obtain ⟨rfl, _, rfl⟩ := hf5
               obtain ⟨p, hp⟩ : ∃ p, ls[k]? = some p := ⟨_, List.getElem?_eq_getElem (by rw [HLs.out]; exact hk)⟩
               obtain ⟨y1, y2⟩ := HO9.out.at1 (Value.int .i64) (fun _ => rfl) rfl k p hp
               have HO10 := hide (HO9.out.set (Value.int .i64) (fun _ => rfl) rfl k 99)
               have HB10 : Hid (Below wC.heap.size wC (wr.setCell ⟨b5, k, none⟩ (.int .i64 99))) := hide (HB8.out.setCell (p := ⟨b5, k, none⟩) (HO9.out.ge b5 rfl) _)
               have r0 : (k : Int) < (l : Int) := by omega
               have r1 : (0 : Int) ≤ (k : Int) := by omega
               clear hk hp
               go_wp2_with fail
               go_roundw
               case rel => exact ⟨k + 1, ls.set k 99, by go_num, by omega, hide (by rw [List.length_set]; exact HLs.out), HB10, HO10⟩
               case measure => simp [intOf]; omega
             · obtain rfl : k = l := by omega
               have r0 : ¬ (k : Int) < (k : Int) := by omega
               clear hk
               have HWz := hide (HWc.out.keep HB8.out)
               go_wp2_with fail
               go_roundw
               case rel => exact ⟨i + 1, ys, _, by go_num, by omega, by omega, HWz⟩
               case measure => simp [intOf]; omega
      · have q0 : (i : Int) < (m : Int) := by omega
        have q1 : ¬ (i : Int) < 200 := by omega
        clear hlt hlt2
        go_wp2_with fail
        go_ret
        exact ⟨rfl, HW.out.bel⟩
    · have q0 : ¬ (i : Int) < (m : Int) := by omega
      clear hlt
      go_wp2_with fail
      go_ret
      exact ⟨rfl, HW.out.bel⟩
end Go.Proofs.Ytlmfmkjbdgbbjaa
