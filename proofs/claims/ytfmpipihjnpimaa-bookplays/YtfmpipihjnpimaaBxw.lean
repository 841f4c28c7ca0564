/- BookTwice, the walk. -/
import Derived.Test.YtfmpipihjnpimaaBwm
import Derived.Test.YtfmpipihjnpimaaBkh
import Derived.Deep.CutBlock
namespace Go.Proofs.Ytfmpipihjnpimaa
open Go.RowKit
set_option linter.unusedVariables false

theorem same_eq (a b : Option Addr) (c d n : Nat) (xs : List Rq) (w : World) (hn : xs.length = n) (hv : rqE.Rd w (.slice a n c) xs) (hu : rqE.Rd w (.slice b n d) xs) (hl : n ≤ 100000) : Calls Try.prog 23 #[.slice a n c, .slice b n d] w fun e w' => e = .returned (.bool true) ∧ ∃ q, w' = w.drewN q := by
  have := same_any a b c d n n xs xs w hn hn hv hu hl
  rwa [decide_eq_true rfl] at this
theorem ints_eq (a b : Option Addr) (c d n : Nat) (xs : List Int) (w : World) (hn : xs.length = n) (hv : intE.Rd w (.slice a n c) xs) (hu : intE.Rd w (.slice b n d) xs) (hl : n ≤ 100000) : Calls Try.prog 21 #[.slice a n c, .slice b n d] w fun e w' => e = .returned (.bool true) ∧ ∃ q, w' = w.drewN q := by
  have := ints_any a b c d n n xs xs w hn hn hv hu hl
  rwa [decide_eq_true rfl] at this

set_option maxRecDepth 100000 in
set_option maxHeartbeats 8000000 in
theorem twice_walk (a : Option Addr) (m c : Nat) (zs : List Op) (w : World) (hm : zs.length = m) (hv : Ops w (.slice a m c) zs) : Calls Try.prog 5 #[.slice a m c] w fun e w' => e = .returned (.bool true) ∧ Below w.heap.size w w' := by
  obtain ⟨w0, rfl⟩ : ∃ w0, w0 = w := ⟨_, rfl⟩
  have KA := hide awake_any
  have KN : Hid (∀ W l, Its w0 l W → Calls Try.prog 8 #[] W fun e w' => ∃ g H, e = .returned (.pointer (some ⟨g, 0, none⟩)) ∧ Its w0 (.book w0.heap.size g H Bk.new :: l) w') := hide (fun W l h => new_any w0 W l h)
  have HN0 := hide (Its.nil w0)
  have HZ : Hid (∀ (i : Nat), i < m → ∃ (b off : Nat) (kd x st tt : Int), a = some ⟨b, off, none⟩ ∧ I64 x ∧ I64 st ∧ ∀ W, Below w0.heap.size w0 W → W.cell? ⟨b, off + i * 4, none⟩ = some (.int .i64 kd) ∧ W.cell? ⟨b, off + i * 4 + 1, none⟩ = some (.int .i64 x) ∧ W.cell? ⟨b, off + i * 4 + 2, none⟩ = some (.int .i64 st) ∧ W.cell? ⟨b, off + i * 4 + 3, none⟩ = some (.int .i64 tt)) := hide (fun i hi => ops_in hm hv i hi)
  clear hv hm
  go_enter Try.func5, Try.ntmps5
  go_upto_region 4 with (first
    | (go_at_call 8; refine (KN.out _ _ HG1.out).mono ?_; rintro e W2 ⟨gb, H2, rfl, hg⟩; have HG2 := hide hg; clear hg)
    | (go_at_call 8; refine (KN.out _ _ HN0.out).mono ?_; rintro e W1 ⟨ga, H1, rfl, hg⟩; have HG1 := hide hg; clear hg)
    | (go_at_call 9; refine (KA.out _).mono ?_; rintro e W3 ⟨rfl, hb1⟩; have HG3 := hide (HG2.out.keep hb1); clear hb1))
  clear KA KN HN0 HG1 HG2
  go_wp2_with fail
  go_loopw [5] (fun v5 wr => ∃ (i : Nat) (S : Bk) (Ha Hc : Hb), v5 = .int .i64 i ∧ i ≤ 80 ∧ i ≤ m ∧ Hid (S.all.length ≤ i ∧ S.done.length ≤ i) ∧ Hid (Its w0 (.book w0.heap.size ga Ha S :: .book w0.heap.size gb Hc S :: []) wr)) (fun v5 _ => 80 - (intOf v5).toNat)
  case atStart => exact ⟨0, Bk.new, _, _, rfl, by omega, by omega, hide ⟨Nat.le_refl _, Nat.le_refl _⟩, hide HG3.out.swap⟩
  case round =>
    obtain ⟨i, S, Ha, Hc, rfl, hi, him, HL, HI⟩ := hrel
    by_cases hlt : i < m
    · have q0 : (i : Int) < (m : Int) := by omega
      by_cases h80 : i < 80
      · have q1 : (i : Int) < 80 := by omega
        have q2 : (0 : Int) ≤ (i : Int) := by omega
        obtain ⟨b, off, kd, x, st, tt, rfl, hx, hst, hz⟩ := HZ.out i hlt
        have Hx := hide hx
        have Hst := hide hst
        obtain ⟨z0, z1, z2, z3⟩ := hz wr HI.out.bel
        clear hz hx hst hlt
        go_upto_region 8 with fail
        have HI1 : Hid (Its w0 (.box wr.heap.size #[.int .i64 kd, .int .i64 x, .int .i64 st, .int .i64 tt] 33 :: .book w0.heap.size ga Ha S :: .book w0.heap.size gb Hc S :: []) (wr.alloc (.cells #[.int .i64 kd, .int .i64 x, .int .i64 st, .int .i64 tt] 33))) := hide (HI.out.new (x := .box wr.heap.size #[.int .i64 kd, .int .i64 x, .int .i64 st, .int .i64 tt] 33) (heap_new wr _) (fun k hk => by cases hk; exact Nat.le_refl _) (below_new wr _))
        generalize wr.alloc (.cells #[.int .i64 kd, .int .i64 x, .int .i64 st, .int .i64 tt] 33) = W1 at *
        generalize wr.heap.size = bo at *
        clear z0 z1 z2 z3
        have u0 : W1.cell? ⟨bo, 0, none⟩ = some (.int .i64 kd) := (cells_at HI1.out.one 0).1
        go_upto_block 2 with fail
        go_cut [5] (fun v5 wx => ∃ (S' : Bk) (Ha Hc : Hb), v5 = .int .i64 i ∧ Hid (S'.all.length ≤ i + 1 ∧ S'.done.length ≤ i + 1) ∧ Hid (Its w0 (.box bo #[.int .i64 kd, .int .i64 x, .int .i64 st, .int .i64 tt] 33 :: .book w0.heap.size ga Ha S' :: .book w0.heap.size gb Hc S' :: []) wx))
        case first =>
          by_cases k1 : kd = 1
          · subst k1
            have u1 : W1.cell? ⟨bo, 1, none⟩ = some (.int .i64 x) := (cells_at HI1.out.one 1).1
            obtain ⟨y, hy⟩ : ∃ y, S.adY ⟨x, st, tt⟩ = y := ⟨_, rfl⟩
            obtain ⟨e, he⟩ : ∃ e, S.adC ⟨x, st, tt⟩ = e := ⟨_, rfl⟩
            obtain ⟨t1, t2, t3⟩ := S.ad_twice ⟨x, st, tt⟩
            have hsz := S.size_ad ⟨x, st, tt⟩
            have HLn : Hid ((S.ad ⟨x, st, tt⟩).all.length ≤ i + 1 ∧ (S.ad ⟨x, st, tt⟩).done.length ≤ i + 1) := hide (by have := HL.out; rw [hsz.2]; omega)
            obtain ⟨S1, hS1⟩ : ∃ S1, S.ad ⟨x, st, tt⟩ = S1 := ⟨_, rfl⟩
            rw [hS1] at t1 t2 t3 HLn
            have K10 : Hid (∀ W g H l, Its w0 (.book w0.heap.size g H S :: l) W → Calls Try.prog 10 #[.pointer (some ⟨g, 0, none⟩), .agg #[.int .i64 x, .int .i64 st, .int .i64 tt]] W fun q w' => q = .returned (.tuple #[.bool y, .int .i64 e]) ∧ ∃ H', Its w0 (.book w0.heap.size g H' S1 :: l) w') := hide (fun W g H l h => addS ⟨x, st, tt⟩ h Hx.out (by have := HL.out; omega) ⟨hy, he⟩ hS1)
            have K10b : Hid (∀ W g H l, Its w0 (.book w0.heap.size g H S1 :: l) W → Calls Try.prog 10 #[.pointer (some ⟨g, 0, none⟩), .agg #[.int .i64 x, .int .i64 st, .int .i64 tt]] W fun q w' => q = .returned (.tuple #[.bool false, .int .i64 e]) ∧ ∃ H', Its w0 (.book w0.heap.size g H' S1 :: l) w') := hide (fun W g H l h => addS ⟨x, st, tt⟩ h Hx.out (by have := HLn.out; omega) ⟨t2, t1.trans he⟩ t3)
            have HBX : Hid (∀ W : World, W.heap[bo]? = some (.cells #[.int .i64 1, .int .i64 x, .int .i64 st, .int .i64 tt] 33) → W.cell? ⟨bo, 1, none⟩ = some (.int .i64 x) ∧ W.cell? ⟨bo, 2, none⟩ = some (.int .i64 st) ∧ W.cell? ⟨bo, 3, none⟩ = some (.int .i64 tt)) := hide (fun W h => ⟨(cells_at h 1).1, (cells_at h 2).1, (cells_at h 3).1⟩)
            obtain ⟨u1, u2, u3⟩ := HBX.out W1 HI1.out.one
            have b1 : (y != y) = false := bne_self_eq_false _
            have b2 : (e != e) = false := bne_self_eq_false _
            clear hy he t1 t2 t3 hS1 hsz
            by_cases e0 : e = 0
            · subst e0
              go_wp2_with (first
                | (go_at_call 10; refine (K10b.out _ _ _ _ HI7.out).mono ?_; rintro e W8 ⟨rfl, H8, hg⟩; have HI8 := hide hg; clear hg; obtain ⟨v1, v2, v3⟩ := HBX.out W8 HI8.out.three)
                | (go_at_call 10; refine (K10.out _ _ _ _ HI5.out.rot3).mono ?_; rintro e W7 ⟨rfl, H7, hg⟩; have HI7 := hide hg; clear hg; obtain ⟨v1, v2, v3⟩ := HBX.out W7 HI7.out.three)
                | (go_at_call 10; refine (K10.out _ _ _ _ HI1.out.swap).mono ?_; rintro e W5 ⟨rfl, H5, hg⟩; have HI5 := hide hg; clear hg; obtain ⟨v1, v2, v3⟩ := HBX.out W5 HI5.out.two))
              go_meet
              exact ⟨S1, H5, H8, rfl, HLn, hide HI8.out.swap.rot3⟩
            · have b3 : (e == 0) = false := beq_eq_false_iff_ne.2 e0
              have b4 : (e != 0) = true := bne_iff_ne.2 e0
              clear e0
              go_wp2_with (first
                | (go_at_call 10; refine (K10b.out _ _ _ _ HI7.out).mono ?_; rintro e W8 ⟨rfl, H8, hg⟩; have HI8 := hide hg; clear hg; obtain ⟨v1, v2, v3⟩ := HBX.out W8 HI8.out.three)
                | (go_at_call 10; refine (K10.out _ _ _ _ HI5.out.rot3).mono ?_; rintro e W7 ⟨rfl, H7, hg⟩; have HI7 := hide hg; clear hg; obtain ⟨v1, v2, v3⟩ := HBX.out W7 HI7.out.three)
                | (go_at_call 10; refine (K10.out _ _ _ _ HI1.out.swap).mono ?_; rintro e W5 ⟨rfl, H5, hg⟩; have HI5 := hide hg; clear hg; obtain ⟨v1, v2, v3⟩ := HBX.out W5 HI5.out.two))
              go_meet
              exact ⟨S1, H5, H8, rfl, HLn, hide HI8.out.swap.rot3⟩
          by_cases k2 : kd = 2
          · subst k2
            obtain ⟨y, hy⟩ : ∃ y, S.caY x = y := ⟨_, rfl⟩
            obtain ⟨e, he⟩ : ∃ e, S.caC x = e := ⟨_, rfl⟩
            obtain ⟨t1, t2, t3⟩ := S.ca_twice x
            have hsz := S.size_ca x
            have HLn : Hid ((S.ca x).all.length ≤ i + 1 ∧ (S.ca x).done.length ≤ i + 1) := hide (by have := HL.out; rw [hsz.1, hsz.2]; omega)
            obtain ⟨S1, hS1⟩ : ∃ S1, S.ca x = S1 := ⟨_, rfl⟩
            rw [hS1] at t1 t2 t3 HLn
            have K12 : Hid (∀ W g H l, Its w0 (.book w0.heap.size g H S :: l) W → Calls Try.prog 12 #[.pointer (some ⟨g, 0, none⟩), .int .i64 x] W fun q w' => q = .returned (.tuple #[.bool y, .int .i64 e]) ∧ ∃ H', Its w0 (.book w0.heap.size g H' S1 :: l) w') := hide (fun W g H l h => cancelS h Hx.out ⟨hy, he⟩ hS1)
            have K12b : Hid (∀ W g H l, Its w0 (.book w0.heap.size g H S1 :: l) W → Calls Try.prog 12 #[.pointer (some ⟨g, 0, none⟩), .int .i64 x] W fun q w' => q = .returned (.tuple #[.bool false, .int .i64 e]) ∧ ∃ H', Its w0 (.book w0.heap.size g H' S1 :: l) w') := hide (fun W g H l h => cancelS h Hx.out ⟨t2, t1.trans he⟩ t3)
            have HBX : Hid (∀ W : World, W.heap[bo]? = some (.cells #[.int .i64 2, .int .i64 x, .int .i64 st, .int .i64 tt] 33) → W.cell? ⟨bo, 1, none⟩ = some (.int .i64 x)) := hide (fun W h => (cells_at h 1).1)
            have u1 := HBX.out W1 HI1.out.one
            have b1 : (y != y) = false := bne_self_eq_false _
            have b2 : (e != e) = false := bne_self_eq_false _
            clear hy he t1 t2 t3 hS1 hsz k1
            go_wp2_with (first
              | (go_at_call 12; refine (K12b.out _ _ _ _ HI7.out).mono ?_; rintro e W8 ⟨rfl, H8, hg⟩; have HI8 := hide hg; clear hg; have v1 := HBX.out W8 HI8.out.three)
              | (go_at_call 12; refine (K12.out _ _ _ _ HI5.out.rot3).mono ?_; rintro e W7 ⟨rfl, H7, hg⟩; have HI7 := hide hg; clear hg; have v1 := HBX.out W7 HI7.out.three)
              | (go_at_call 12; refine (K12.out _ _ _ _ HI1.out.swap).mono ?_; rintro e W5 ⟨rfl, H5, hg⟩; have HI5 := hide hg; clear hg; have v1 := HBX.out W5 HI5.out.two))
            go_meet
            exact ⟨S1, H5, H8, rfl, HLn, hide HI8.out.swap.rot3⟩
          by_cases k3 : kd = 3
          · subst k3
            obtain ⟨e, he⟩ : ∃ e, S.seC x = e := ⟨_, rfl⟩
            have t0 := S.se_twice x
            have hsz := S.size_se x
            have HLn : Hid ((S.se x).all.length ≤ i + 1 ∧ (S.se x).done.length ≤ i + 1) := hide (by have := HL.out; omega)
            obtain ⟨S1, hS1⟩ : ∃ S1, S.se x = S1 := ⟨_, rfl⟩
            rw [hS1] at t0 HLn
            rw [he] at t0
            have K14 : Hid (∀ W g H l, Its w0 (.book w0.heap.size g H S :: l) W → Calls Try.prog 14 #[.pointer (some ⟨g, 0, none⟩), .int .i64 x] W fun q w' => q = .returned (.int .i64 e) ∧ ∃ H', Its w0 (.book w0.heap.size g H' S1 :: l) w') := hide (fun W g H l h => serveS h Hx.out (by have := HL.out; omega) he hS1)
            have HBX : Hid (∀ W : World, W.heap[bo]? = some (.cells #[.int .i64 3, .int .i64 x, .int .i64 st, .int .i64 tt] 33) → W.cell? ⟨bo, 1, none⟩ = some (.int .i64 x)) := hide (fun W h => (cells_at h 1).1)
            have u1 := HBX.out W1 HI1.out.one
            have b2 : (e != e) = false := bne_self_eq_false _
            by_cases e0 : e = 0
            · subst e0
              obtain ⟨t1, t2⟩ := t0 rfl
              have K14b : Hid (∀ W g H l, Its w0 (.book w0.heap.size g H S1 :: l) W → Calls Try.prog 14 #[.pointer (some ⟨g, 0, none⟩), .int .i64 x] W fun q w' => q = .returned (.int .i64 140) ∧ ∃ H', Its w0 (.book w0.heap.size g H' S1 :: l) w') := hide (fun W g H l h => serveS h Hx.out (by have := HLn.out; omega) t1 t2)
              clear he t0 t1 t2 hS1 hsz k1 k2
              go_wp2_with (first
                | (go_at_call 14; refine (K14b.out _ _ _ _ HI7.out).mono ?_; rintro e W8 ⟨rfl, H8, hg⟩; have HI8 := hide hg; clear hg; have v1 := HBX.out W8 HI8.out.three)
                | (go_at_call 14; refine (K14.out _ _ _ _ HI5.out.rot3).mono ?_; rintro e W7 ⟨rfl, H7, hg⟩; have HI7 := hide hg; clear hg; have v1 := HBX.out W7 HI7.out.three)
                | (go_at_call 14; refine (K14.out _ _ _ _ HI1.out.swap).mono ?_; rintro e W5 ⟨rfl, H5, hg⟩; have HI5 := hide hg; clear hg; have v1 := HBX.out W5 HI5.out.two))
              go_meet
              exact ⟨S1, H5, H8, rfl, HLn, hide HI8.out.swap.rot3⟩
            · have b3 : (e == 0) = false := beq_eq_false_iff_ne.2 e0
              clear he t0 hS1 hsz k1 k2 e0
              go_wp2_with (first
                | (go_at_call 14; refine (K14.out _ _ _ _ HI5.out.rot3).mono ?_; rintro e W7 ⟨rfl, H7, hg⟩; have HI7 := hide hg; clear hg; have v1 := HBX.out W7 HI7.out.three)
                | (go_at_call 14; refine (K14.out _ _ _ _ HI1.out.swap).mono ?_; rintro e W5 ⟨rfl, H5, hg⟩; have HI5 := hide hg; clear hg; have v1 := HBX.out W5 HI5.out.two))
              go_meet
              exact ⟨S1, H5, H7, rfl, HLn, hide HI7.out.swap.rot3⟩
          have r1 : (kd == 1) = false := beq_eq_false_iff_ne.2 k1
          have r2 : (kd == 2) = false := beq_eq_false_iff_ne.2 k2
          have r3 : (kd == 3) = false := beq_eq_false_iff_ne.2 k3
          have HLn : Hid (S.all.length ≤ i + 1 ∧ S.done.length ≤ i + 1) := hide (by have := HL.out; omega)
          clear k1 k2 k3
          go_wp2_with fail
          go_meet
          exact ⟨S, Ha, Hc, rfl, HLn, HI1⟩
        case rest =>
          obtain ⟨S', Ha', Hc', rfl, HL', HI6⟩ := hcut
          obtain ⟨wB, rfl⟩ : ∃ W, W = wc := ⟨_, rfl⟩
          have hfew := (bk_lie HI6.out.two).1.few
          obtain ⟨no, hno⟩ : ∃ no, (ops S'.all).length = no := ⟨_, rfl⟩
          obtain ⟨ns, hns⟩ : ∃ ns, (S'.sv st).length = ns := ⟨_, rfl⟩
          obtain ⟨sv, hsv⟩ : ∃ sv, S'.sta x = sv := ⟨_, rfl⟩
          have hns2 : ns ≤ 1000 := by
            have : (S'.sv st).length ≤ S'.done.length := List.length_filter_le _ _
            have := HL'.out
            omega
          rw [hno] at hfew
          have K19 : Hid (∀ W g H l, Its w0 (.book w0.heap.size g H S' :: l) W → Calls Try.prog 19 #[.pointer (some ⟨g, 0, none⟩)] W fun q w' => ∃ a' c', q = .returned (.slice a' no c') ∧ Its w0 (.row rqE w0.heap.size (.slice a' no c') (ops S'.all) :: .book w0.heap.size g H S' :: l) w') := hide (fun W g H l h => openS h hno)
          have K20 : Hid (∀ W g H l, Its w0 (.book w0.heap.size g H S' :: l) W → Calls Try.prog 20 #[.pointer (some ⟨g, 0, none⟩), .int .i64 st] W fun q w' => ∃ a' c', q = .returned (.slice a' ns c') ∧ Its w0 (.ints w0.heap.size (.slice a' ns c') (S'.sv st) :: .book w0.heap.size g H S' :: l) w') := hide (fun W g H l h => servedS h Hst.out (by have := HL'.out; omega) hns)
          have K16 : Hid (∀ W g H l, Its w0 (.book w0.heap.size g H S' :: l) W → Calls Try.prog 16 #[.pointer (some ⟨g, 0, none⟩), .int .i64 x] W fun q w' => q = .returned (.int .i64 sv) ∧ w' = W) := hide (fun W g H l h => stateS h Hx.out hsv)
          have K23 : Hid (∀ W (a b : Option Addr) (c d : Nat), rqE.Rd W (.slice a no c) (ops S'.all) → rqE.Rd W (.slice b no d) (ops S'.all) → Calls Try.prog 23 #[.slice a no c, .slice b no d] W fun e w' => e = .returned (.bool true) ∧ ∃ q, w' = W.drewN q) := hide (fun W a b c d h1 h2 => same_eq a b c d no _ W hno h1 h2 (by omega))
          have K21 : Hid (∀ W (a b : Option Addr) (c d : Nat), intE.Rd W (.slice a ns c) (S'.sv st) → intE.Rd W (.slice b ns d) (S'.sv st) → Calls Try.prog 21 #[.slice a ns c, .slice b ns d] W fun e w' => e = .returned (.bool true) ∧ ∃ q, w' = W.drewN q) := hide (fun W a b c d h1 h2 => ints_eq a b c d ns _ W hns h1 h2 (by omega))
          have b9 : (sv != sv) = false := bne_self_eq_false _
          clear hfew hno hns hsv hns2 u0
          go_upto_region 25 with fail
          refine wp_region_held_drew (S := (fun W : World => W.heap[bo]? = some (.cells #[.int .i64 kd, .int .i64 x, .int .i64 st, .int .i64 tt] 33))) (by kernel_rfl) HI6.out.one (fun hS => ?_)
          refine wpAnyH_take (i := 0) (v := .pointer (some ⟨ga, 0, none⟩)) rfl (by kernel_rfl) (by kernel_rfl) (by kernel_rfl) (fun _ _ _ h => h) (Or.inl ⟨by kernel_rfl, fun W' hW => by go_simp⟩) hS ?_
          refine wpAnyH_take (i := 2) (v := .pointer (some ⟨gb, 0, none⟩)) rfl (by kernel_rfl) (by kernel_rfl) (by kernel_rfl) (fun _ _ _ h => h) (Or.inl ⟨by kernel_rfl, fun W' hW => by go_simp⟩) hS ?_
          refine wpAnyH_ready (rs := [1]) (by kernel_rfl) (by simp) ?_
          refine AllReadyH.cons rfl (fun K hK => ?_) AllReadyH.nil
          go_simp
          go_at_call 19
          refine (K19.out _ _ _ _ (HI6.out.drew 1).swap).mono ?_; rintro e W7 ⟨a7, c7, rfl, hg⟩; have HI7 := hide hg; clear hg
          have q7 : W7.heap[bo]? = some (.cells #[.int .i64 kd, .int .i64 x, .int .i64 st, .int .i64 tt] 33) := HI7.out.three
          go_simp
          refine hK.out _ _ q7 (fun _ => ?_)
          clear hK K
          refine wpAnyH_ready (rs := [3]) (by kernel_rfl) (by simp) ?_
          refine AllReadyH.cons rfl (fun K hK => ?_) AllReadyH.nil
          go_simp
          go_at_call 19
          refine (K19.out _ _ _ _ HI7.out.rot4).mono ?_; rintro e W8 ⟨a8, c8, rfl, hg⟩; have HI8 := hide hg; clear hg
          have q8 : W8.heap[bo]? = some (.cells #[.int .i64 kd, .int .i64 x, .int .i64 st, .int .i64 tt] 33) := HI8.out.tail.four
          go_simp
          refine hK.out _ _ q8 (fun _ => ?_)
          clear hK K
          refine wpAnyH_ready (rs := [4]) (by kernel_rfl) (by simp) ?_
          refine AllReadyH.cons rfl (fun K hK => ?_) AllReadyH.nil
          go_simp
          go_at_call 23
          refine (K23.out _ _ _ _ _ (El.Own.rd HI8.out.three) (El.Own.rd HI8.out.one)).mono ?_; rintro e W9 ⟨rfl, q9n, rfl⟩; have HI9 := hide ((HI8.out.drew q9n).tail.swap.tail)
          have q9 : (W8.drewN q9n).heap[bo]? = some (.cells #[.int .i64 kd, .int .i64 x, .int .i64 st, .int .i64 tt] 33) := HI9.out.three
          clear HI7 HI8
          generalize W8.drewN q9n = W9 at *
          go_simp
          refine hK.out _ _ q9 (fun _ => ?_)
          clear hK K
          refine wpAnyH_take (i := 5) (v := .bool false) rfl (by kernel_rfl) (by kernel_rfl) (by kernel_rfl) (fun _ _ _ h => h) (Or.inl ⟨by kernel_rfl, fun W' hW => by go_simp⟩) q9 ?_
          refine wpAnyH_take (i := 6) (v := .bool false) rfl (by kernel_rfl) (by kernel_rfl) (by kernel_rfl) (fun _ _ _ h => h) (Or.inl ⟨by kernel_rfl, fun W' hW => by go_simp⟩) q9 ?_
          refine wpAnyH_take (i := 7) (v := .pointer (some ⟨ga, 0, none⟩)) rfl (by kernel_rfl) (by kernel_rfl) (by kernel_rfl) (fun _ _ _ h => h) (Or.inl ⟨by kernel_rfl, fun W' hW => by go_simp⟩) q9 ?_
          refine wpAnyH_take (i := 8) (v := .pointer (some ⟨bo, 1, none⟩)) rfl (by kernel_rfl) (by kernel_rfl) (by kernel_rfl) (fun _ _ _ h => h) (Or.inl ⟨by kernel_rfl, fun W' hW => by go_simp⟩) q9 ?_
          refine wpAnyH_take (i := 9) (v := .pointer (some ⟨bo, 1, none⟩)) rfl (by kernel_rfl) (by kernel_rfl) (by kernel_rfl) (fun _ _ _ h => h) (Or.inl ⟨by kernel_rfl, fun W' hW => by go_simp⟩) q9 ?_
          refine wpAnyH_take (i := 10) (v := .int .i64 x) rfl (by kernel_rfl) (by kernel_rfl) (by kernel_rfl) (fun _ _ _ h => h) (Or.inl ⟨by kernel_rfl, fun W' hW => by have z0 := (cells_at hW 1).1; go_simp⟩) q9 ?_
          refine wpAnyH_take (i := 12) (v := .pointer (some ⟨gb, 0, none⟩)) rfl (by kernel_rfl) (by kernel_rfl) (by kernel_rfl) (fun _ _ _ h => h) (Or.inl ⟨by kernel_rfl, fun W' hW => by go_simp⟩) q9 ?_
          refine wpAnyH_take (i := 13) (v := .pointer (some ⟨bo, 1, none⟩)) rfl (by kernel_rfl) (by kernel_rfl) (by kernel_rfl) (fun _ _ _ h => h) (Or.inl ⟨by kernel_rfl, fun W' hW => by go_simp⟩) q9 ?_
          refine wpAnyH_take (i := 14) (v := .pointer (some ⟨bo, 1, none⟩)) rfl (by kernel_rfl) (by kernel_rfl) (by kernel_rfl) (fun _ _ _ h => h) (Or.inl ⟨by kernel_rfl, fun W' hW => by go_simp⟩) q9 ?_
          refine wpAnyH_take (i := 15) (v := .int .i64 x) rfl (by kernel_rfl) (by kernel_rfl) (by kernel_rfl) (fun _ _ _ h => h) (Or.inl ⟨by kernel_rfl, fun W' hW => by have z0 := (cells_at hW 1).1; go_simp⟩) q9 ?_
          refine wpAnyH_ready (rs := [11]) (by kernel_rfl) (by simp) ?_
          refine AllReadyH.cons rfl (fun K hK => ?_) AllReadyH.nil
          go_simp
          go_at_call 16
          refine (K16.out _ _ _ _ HI9.out.swap).mono ?_; rintro e W10 ⟨rfl, hw⟩; have hw' := hw.symm; clear hw; subst hw'
          go_simp
          refine hK.out _ _ q9 (fun _ => ?_)
          clear hK K
          refine wpAnyH_ready (rs := [16]) (by kernel_rfl) (by simp) ?_
          refine AllReadyH.cons rfl (fun K hK => ?_) AllReadyH.nil
          go_simp
          go_at_call 16
          refine (K16.out _ _ _ _ HI9.out).mono ?_; rintro e W10 ⟨rfl, hw⟩; have hw' := hw.symm; clear hw; subst hw'
          go_simp
          refine hK.out _ _ q9 (fun _ => ?_)
          clear hK K
          refine wpAnyH_take (i := 17) (v := .bool false) rfl (by kernel_rfl) (by kernel_rfl) (by kernel_rfl) (fun _ _ _ h => h) (Or.inl ⟨by kernel_rfl, fun W' hW => by go_simp⟩) q9 ?_
          refine wpAnyH_take (i := 18) (v := .bool false) rfl (by kernel_rfl) (by kernel_rfl) (by kernel_rfl) (fun _ _ _ h => h) (Or.inl ⟨by kernel_rfl, fun W' hW => by go_simp⟩) q9 ?_
          refine wpAnyH_take (i := 19) (v := .bool false) rfl (by kernel_rfl) (by kernel_rfl) (by kernel_rfl) (fun _ _ _ h => h) (Or.inl ⟨by kernel_rfl, fun W' hW => by go_simp⟩) q9 ?_
          refine wpAnyH_take (i := 20) (v := .pointer (some ⟨ga, 0, none⟩)) rfl (by kernel_rfl) (by kernel_rfl) (by kernel_rfl) (fun _ _ _ h => h) (Or.inl ⟨by kernel_rfl, fun W' hW => by go_simp⟩) q9 ?_
          refine wpAnyH_take (i := 21) (v := .pointer (some ⟨bo, 1, none⟩)) rfl (by kernel_rfl) (by kernel_rfl) (by kernel_rfl) (fun _ _ _ h => h) (Or.inl ⟨by kernel_rfl, fun W' hW => by go_simp⟩) q9 ?_
          refine wpAnyH_take (i := 22) (v := .pointer (some ⟨bo, 2, none⟩)) rfl (by kernel_rfl) (by kernel_rfl) (by kernel_rfl) (fun _ _ _ h => h) (Or.inl ⟨by kernel_rfl, fun W' hW => by go_simp⟩) q9 ?_
          refine wpAnyH_take (i := 23) (v := .int .i64 st) rfl (by kernel_rfl) (by kernel_rfl) (by kernel_rfl) (fun _ _ _ h => h) (Or.inl ⟨by kernel_rfl, fun W' hW => by have z0 := (cells_at hW 2).1; go_simp⟩) q9 ?_
          refine wpAnyH_take (i := 25) (v := .pointer (some ⟨gb, 0, none⟩)) rfl (by kernel_rfl) (by kernel_rfl) (by kernel_rfl) (fun _ _ _ h => h) (Or.inl ⟨by kernel_rfl, fun W' hW => by go_simp⟩) q9 ?_
          refine wpAnyH_take (i := 26) (v := .pointer (some ⟨bo, 1, none⟩)) rfl (by kernel_rfl) (by kernel_rfl) (by kernel_rfl) (fun _ _ _ h => h) (Or.inl ⟨by kernel_rfl, fun W' hW => by go_simp⟩) q9 ?_
          refine wpAnyH_take (i := 27) (v := .pointer (some ⟨bo, 2, none⟩)) rfl (by kernel_rfl) (by kernel_rfl) (by kernel_rfl) (fun _ _ _ h => h) (Or.inl ⟨by kernel_rfl, fun W' hW => by go_simp⟩) q9 ?_
          refine wpAnyH_take (i := 28) (v := .int .i64 st) rfl (by kernel_rfl) (by kernel_rfl) (by kernel_rfl) (fun _ _ _ h => h) (Or.inl ⟨by kernel_rfl, fun W' hW => by have z0 := (cells_at hW 2).1; go_simp⟩) q9 ?_
          refine wpAnyH_ready (rs := [24]) (by kernel_rfl) (by simp) ?_
          refine AllReadyH.cons rfl (fun K hK => ?_) AllReadyH.nil
          go_simp
          go_at_call 20
          refine (K20.out _ _ _ _ HI9.out.swap).mono ?_; rintro e W10 ⟨a10, c10, rfl, hg⟩; have HI10 := hide hg; clear hg
          have q10 : W10.heap[bo]? = some (.cells #[.int .i64 kd, .int .i64 x, .int .i64 st, .int .i64 tt] 33) := HI10.out.four
          go_simp
          refine hK.out _ _ q10 (fun _ => ?_)
          clear hK K
          refine wpAnyH_ready (rs := [29]) (by kernel_rfl) (by simp) ?_
          refine AllReadyH.cons rfl (fun K hK => ?_) AllReadyH.nil
          go_simp
          go_at_call 20
          refine (K20.out _ _ _ _ HI10.out.rot3).mono ?_; rintro e W11 ⟨a11, c11, rfl, hg⟩; have HI11 := hide hg; clear hg
          have q11 : W11.heap[bo]? = some (.cells #[.int .i64 kd, .int .i64 x, .int .i64 st, .int .i64 tt] 33) := HI11.out.tail.four
          go_simp
          refine hK.out _ _ q11 (fun _ => ?_)
          clear hK K
          refine wpAnyH_ready (rs := [30]) (by kernel_rfl) (by simp) ?_
          refine AllReadyH.cons rfl (fun K hK => ?_) AllReadyH.nil
          go_simp
          go_at_call 21
          refine (K21.out _ _ _ _ _ (El.Own.rd HI11.out.three) (El.Own.rd HI11.out.one)).mono ?_; rintro e W12 ⟨rfl, q12n, rfl⟩; have HI12 := hide ((HI11.out.drew q12n).tail.swap.tail)
          have q12 : (W11.drewN q12n).heap[bo]? = some (.cells #[.int .i64 kd, .int .i64 x, .int .i64 st, .int .i64 tt] 33) := HI12.out.three
          clear HI9 HI10 HI11
          generalize W11.drewN q12n = W12 at *
          go_simp
          refine hK.out _ _ q12 (fun _ => ?_)
          clear hK K
          refine wpAnyH_take (i := 31) (v := .bool false) rfl (by kernel_rfl) (by kernel_rfl) (by kernel_rfl) (fun _ _ _ h => h) (Or.inl ⟨by kernel_rfl, fun W' hW => by go_simp⟩) q12 ?_
          refine wpAnyH_ready (rs := [32]) (by kernel_rfl) (by simp) ?_
          refine AllReadyH.cons rfl (fun K hK => ?_) AllReadyH.nil
          go_simp
          refine hK.out _ _ q12 (fun _ => ?_)
          clear hK K
          refine wpAnyH_done (by kernel_rfl) ?_ _
          go_wp2_with fail
          go_roundw
          case rel => exact ⟨i + 1, S', Ha', Hc', by go_num, by omega, by omega, HL', hide HI12.out.swap.rot3.tail⟩
          case measure => simp [intOf]; omega
      · have q1 : ¬ (i : Int) < 80 := by omega
        go_wp2_with fail
        go_ret
        exact ⟨rfl, HI.out.bel⟩
    · have q0 : ¬ (i : Int) < (m : Int) := by omega
      go_wp2_with fail
      go_ret
      exact ⟨rfl, HI.out.bel⟩
end Go.Proofs.Ytfmpipihjnpimaa
