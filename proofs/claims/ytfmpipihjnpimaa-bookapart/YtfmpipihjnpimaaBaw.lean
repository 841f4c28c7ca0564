/- BookApart, the walk. -/
import Derived.Test.YtfmpipihjnpimaaBam
import Derived.Test.YtfmpipihjnpimaaBxw
import Derived.Test.YtfmpipihjnpimaaBtw
import Derived.Deep.CutBlock
namespace Go.Proofs.Ytfmpipihjnpimaa
open Go.RowKit
set_option linter.unusedVariables false

theorem tmod3 {tt : Int} (h : 1 ≤ tt) : 0 ≤ tt.tmod 3 ∧ tt.tmod 3 ≤ 2 := by
  rw [Int.tmod_eq_emod_of_nonneg (by omega)]; omega

set_option maxRecDepth 100000 in
set_option maxHeartbeats 16000000 in
theorem apart_walk (a : Option Addr) (m c : Nat) (zs : List Op) (n1 : Int) (w : World) (hm : zs.length = m) (hv : Ops w (.slice a m c) zs) : Calls Try.prog 7 #[.slice a m c, .int .i64 n1] w fun e w' => e = .returned (.bool true) ∧ Below w.heap.size w w' := by
  obtain ⟨w0, rfl⟩ : ∃ w0, w0 = w := ⟨_, rfl⟩
  have KA := hide awake_any
  have KN : Hid (∀ W l, Its w0 l W → Calls Try.prog 8 #[] W fun e w' => ∃ g H, e = .returned (.pointer (some ⟨g, 0, none⟩)) ∧ Its w0 (.book w0.heap.size g H Bk.new :: l) w') := hide (fun W l h => new_any w0 W l h)
  have HN0 := hide (Its.nil w0)
  have HZ : Hid (∀ (i : Nat), i < m → ∃ (b off : Nat) (kd x st tt : Int), a = some ⟨b, off, none⟩ ∧ I64 x ∧ I64 st ∧ ∀ W, Below w0.heap.size w0 W → W.cell? ⟨b, off + i * 4, none⟩ = some (.int .i64 kd) ∧ W.cell? ⟨b, off + i * 4 + 1, none⟩ = some (.int .i64 x) ∧ W.cell? ⟨b, off + i * 4 + 2, none⟩ = some (.int .i64 st) ∧ W.cell? ⟨b, off + i * 4 + 3, none⟩ = some (.int .i64 tt)) := hide (fun i hi => ops_in hm hv i hi)
  obtain ⟨k, hk, hk3⟩ := few n1 3 (by omega)
  obtain ⟨s, hs⟩ : ∃ s : Int, (k : Int) = s := ⟨_, rfl⟩
  have HS : Hid (0 ≤ s ∧ s ≤ 2) := hide (by omega)
  rw [hs] at hk
  clear hv hm
  go_enter Try.func7, Try.ntmps7
  go_upto_region 4 with (first
    | (go_at_call 8; refine (KN.out _ _ HG1.out).mono ?_; rintro e W2 ⟨gb, H2, rfl, hg⟩; have HG2 := hide hg; clear hg)
    | (go_at_call 8; refine (KN.out _ _ HN0.out).mono ?_; rintro e W1 ⟨ga, H1, rfl, hg⟩; have HG1 := hide hg; clear hg)
    | (go_at_call 9; refine (KA.out _).mono ?_; rintro e W3 ⟨rfl, hb1⟩; have HG3 := hide ((HG2.out.keep hb1).empty intE); clear hb1))
  go_upto_region 5 with fail
  rw [hk]
  generalize (IntKind.u64.wrap n1).tmod 3 = y4 at *
  generalize IntKind.u64.wrap n1 = y5 at *
  clear KA KN HN0 HG1 HG2 hk hk3 hs
  go_wp2_with fail
  go_loopw [7, 8] (fun v7 v8 wr => ∃ (i : Nat) (A B : Bk) (mine : List Int) (Ha Hc : Hb) (a7 : Option Addr) (n7 c7 : Nat), v7 = .slice a7 n7 c7 ∧ v8 = .int .i64 i ∧ i ≤ 80 ∧ i ≤ m ∧ Hid (A.all.length ≤ i ∧ A.done.length ≤ i ∧ B.all.length ≤ i ∧ B.done.length ≤ i ∧ mine.length = n7) ∧ Hid (Ap s A B mine) ∧ Hid (Its w0 (.book w0.heap.size ga Ha A :: .book w0.heap.size gb Hc B :: .ints w0.heap.size (.slice a7 n7 c7) mine :: []) wr)) (fun _ v8 _ => 80 - (intOf v8).toNat)
  case atStart => exact ⟨0, Bk.new, Bk.new, [], H1, H2, none, 0, 0, rfl, rfl, by omega, by omega, hide ⟨Nat.le_refl _, Nat.le_refl _, Nat.le_refl _, Nat.le_refl _, rfl⟩, hide (Ap.new s), hide HG3.out.rot3.rot3'.rot3.rot3'.rot3'.swap⟩
  case round =>
    obtain ⟨i, A, B, mine, Ha, Hc, a7, n7, c7, rfl, rfl, hi, him, HL, HA, HI⟩ := hrel
    by_cases hlt : i < m
    · have q0 : (i : Int) < (m : Int) := by omega
      by_cases h80 : i < 80
      · have q1 : (i : Int) < 80 := by omega
        have q2 : (0 : Int) ≤ (i : Int) := by omega
        obtain ⟨b, off, kd, x, st, tt, rfl, hx, hst, hz⟩ := HZ.out i hlt
        have Hx := hide hx
        obtain ⟨z0, z1, z2, z3⟩ := hz wr HI.out.bel
        clear hz hx hst hlt
        go_upto_region 10 with fail
        have HI1 : Hid (Its w0 (.box wr.heap.size #[.int .i64 kd, .int .i64 x, .int .i64 st, .int .i64 tt] 33 :: .book w0.heap.size ga Ha A :: .book w0.heap.size gb Hc B :: .ints w0.heap.size (.slice a7 n7 c7) mine :: []) (wr.alloc (.cells #[.int .i64 kd, .int .i64 x, .int .i64 st, .int .i64 tt] 33))) := hide (HI.out.new (x := .box wr.heap.size #[.int .i64 kd, .int .i64 x, .int .i64 st, .int .i64 tt] 33) (heap_new wr _) (fun k hk => by cases hk; exact Nat.le_refl _) (below_new wr _))
        generalize wr.alloc (.cells #[.int .i64 kd, .int .i64 x, .int .i64 st, .int .i64 tt] 33) = W1 at *
        generalize wr.heap.size = bo at *
        clear z0 z1 z2 z3 HI
        have u0 : W1.cell? ⟨bo, 0, none⟩ = some (.int .i64 kd) := (cells_at HI1.out.one 0).1
        have u1 : W1.cell? ⟨bo, 1, none⟩ = some (.int .i64 x) := (cells_at HI1.out.one 1).1
        have u2 : W1.cell? ⟨bo, 2, none⟩ = some (.int .i64 st) := (cells_at HI1.out.one 2).1
        have u3 : W1.cell? ⟨bo, 3, none⟩ = some (.int .i64 tt) := (cells_at HI1.out.one 3).1
        by_cases k1 : kd = 1
        · subst k1
          by_cases t1 : tt < 1
          · have hnr : ¬ rng ⟨x, st, tt⟩ := fun h => by have := h.2.2.1; simp only at this; omega
            have t1' : ¬ (1 : Int) ≤ tt := by omega
            have HBX : Hid (∀ W : World, W.heap[bo]? = some (.cells #[.int .i64 1, .int .i64 x, .int .i64 st, .int .i64 tt] 33) → W.cell? ⟨bo, 0, none⟩ = some (.int .i64 1) ∧ W.cell? ⟨bo, 1, none⟩ = some (.int .i64 x) ∧ W.cell? ⟨bo, 2, none⟩ = some (.int .i64 st) ∧ W.cell? ⟨bo, 3, none⟩ = some (.int .i64 tt)) := hide (fun W h => ⟨(cells_at h 0).1, (cells_at h 1).1, (cells_at h 2).1, (cells_at h 3).1⟩)
            have HI2 := HI1
            obtain ⟨W2, rfl⟩ : ∃ W2, W2 = W1 := ⟨_, rfl⟩
            go_upto_block 2 with fail
            go_cut [7, 8, 10] (fun v7 v8 v10 wx => ∃ (A B : Bk) (mine : List Int) (Ha Hc : Hb) (a7 : Option Addr) (n7 c7 : Nat), v7 = .slice a7 n7 c7 ∧ v8 = .int .i64 i ∧ Hid (A.all.length ≤ i + 1 ∧ A.done.length ≤ i + 1 ∧ B.all.length ≤ i + 1 ∧ B.done.length ≤ i + 1 ∧ mine.length = n7) ∧ Hid (Ap s A B mine) ∧ Hid (Its w0 (.book w0.heap.size ga Ha A :: .book w0.heap.size gb Hc B :: .ints w0.heap.size (.slice a7 n7 c7) mine :: []) wx))
            case first =>
              as_aux_lemma =>
                obtain ⟨v0, v1, v2, v3⟩ := HBX.out W2 HI2.out.one
                obtain ⟨sv, hsv⟩ : ∃ sv, A.sta x = sv := ⟨_, rfl⟩
                have K16 : Hid (∀ W H l, Its w0 (.book w0.heap.size ga H A :: l) W → Calls Try.prog 16 #[.pointer (some ⟨ga, 0, none⟩), .int .i64 x] W fun q w' => q = .returned (.int .i64 sv) ∧ w' = W) := hide (fun W H l h => stateS h Hx.out hsv)
                by_cases hz : sv = 0
                · subst hz
                  obtain ⟨hya, hAs⟩ := ad_out (S := A) hnr
                  obtain ⟨hyb, hBs⟩ := ad_out (S := B) hnr
                  obtain ⟨e, he⟩ : ∃ e, A.adC ⟨x, st, tt⟩ = e := ⟨_, rfl⟩
                  obtain ⟨e2, he2⟩ : ∃ e2, B.adC ⟨x, st, tt⟩ = e2 := ⟨_, rfl⟩
                  have K10a : Hid (∀ W H l, Its w0 (.book w0.heap.size ga H A :: l) W → Calls Try.prog 10 #[.pointer (some ⟨ga, 0, none⟩), .agg #[.int .i64 x, .int .i64 st, .int .i64 tt]] W fun q w' => q = .returned (.tuple #[.bool false, .int .i64 e]) ∧ ∃ H', Its w0 (.book w0.heap.size ga H' A :: l) w') := hide (fun W H l h => addS ⟨x, st, tt⟩ h Hx.out (by have := HL.out; omega) ⟨hya, he⟩ hAs)
                  have K10b : Hid (∀ W H l, Its w0 (.book w0.heap.size gb H B :: l) W → Calls Try.prog 10 #[.pointer (some ⟨gb, 0, none⟩), .agg #[.int .i64 x, .int .i64 st, .int .i64 tt]] W fun q w' => q = .returned (.tuple #[.bool false, .int .i64 e2]) ∧ ∃ H', Its w0 (.book w0.heap.size gb H' B :: l) w') := hide (fun W H l h => addS ⟨x, st, tt⟩ h Hx.out (by have := HL.out; omega) ⟨hyb, he2⟩ hBs)
                  have HLn : Hid (A.all.length ≤ i + 1 ∧ A.done.length ≤ i + 1 ∧ B.all.length ≤ i + 1 ∧ B.done.length ≤ i + 1 ∧ mine.length = n7) := hide (by have := HL.out; omega)
                  by_cases hs : st = s
                  · have h10 : (st == s) = true := beq_iff_eq.2 hs
                    clear he he2 hs hya hAs hyb hBs hsv hnr
                    go_wp2_with (first
                      | (go_at_call 10; refine (K10b.out _ _ _ HI3.out.rot3).mono ?_; rintro e W4 ⟨rfl, H4, hg⟩; have HI4 := hide hg.rot3'; clear hg; obtain ⟨v0, v1, v2, v3⟩ := HBX.out W4 HI4.out.one)
                      | (go_at_call 10; refine (K10a.out _ _ _ HI2.out.swap).mono ?_; rintro e W3 ⟨rfl, H3, hg⟩; have HI3 := hide hg.swap; clear hg; obtain ⟨v0, v1, v2, v3⟩ := HBX.out W3 HI3.out.one)
                      | (go_at_call 16; refine (K16.out _ _ _ HI2.out.swap).mono ?_; rintro e W16 ⟨rfl, hw⟩; have hw' := hw.symm; clear hw; subst hw'))
                    go_meet
                    exact ⟨A, B, mine, H3, H4, a7, n7, c7, rfl, rfl, HLn, HA, hide HI4.out.tail⟩
                  · have h10 : (st == s) = false := beq_eq_false_iff_ne.2 hs
                    clear he he2 hs hya hAs hyb hBs hsv hnr
                    go_wp2_with (first
                      | (go_at_call 10; refine (K10a.out _ _ _ HI2.out.swap).mono ?_; rintro e W3 ⟨rfl, H3, hg⟩; have HI3 := hide hg.swap; clear hg; obtain ⟨v0, v1, v2, v3⟩ := HBX.out W3 HI3.out.one)
                      | (go_at_call 16; refine (K16.out _ _ _ HI2.out.swap).mono ?_; rintro e W16 ⟨rfl, hw⟩; have hw' := hw.symm; clear hw; subst hw'))
                    go_meet
                    exact ⟨A, B, mine, H3, Hc, a7, n7, c7, rfl, rfl, HLn, HA, hide HI3.out.tail⟩
                · have bz : (sv != 0) = true := bne_iff_ne.2 hz
                  clear hsv hz hnr
                  go_wp2_with (go_at_call 16; refine (K16.out _ _ _ HI2.out.swap).mono ?_; rintro e W16 ⟨rfl, hw⟩; have hw' := hw.symm; clear hw; subst hw')
                  go_roundw
                  case rel => exact ⟨i + 1, A, B, mine, Ha, Hc, a7, n7, c7, rfl, by go_num, by omega, by omega, hide (by have := HL.out; omega), HA, hide HI2.out.tail⟩
                  case measure => simp [intOf]; omega
            case rest =>
              as_aux_lemma =>
                obtain ⟨A, B, mine, Ha, Hc, a7, n7, c7, rfl, rfl, HL, HA, HI⟩ := hcut
                obtain ⟨wB, rfl⟩ : ∃ W, W = wc := ⟨_, rfl⟩
                obtain ⟨f1, f2, f3, ef⟩ := rqV_form (fst A.all s)
                obtain ⟨fb, hfb⟩ : ∃ fb, (fst A.all s).isSome = fb := ⟨_, rfl⟩
                obtain ⟨ns, hns⟩ : ∃ ns, (A.sv s).length = ns := ⟨_, rfl⟩
                have hsv := HA.out.sv (bk_lie HI.out.two).1
                have hns2 : ns ≤ 1000 := by
                  have : (A.sv s).length ≤ A.done.length := List.length_filter_le _ _
                  have := HL.out
                  omega
                have K22a : Hid (∀ W l, Its w0 (.book w0.heap.size ga Ha A :: l) W → Calls Try.prog 22 #[.pointer (some ⟨ga, 0, none⟩), .int .i64 s] W fun e w' => e = .returned (.tuple #[.agg #[.int .i64 f1, .int .i64 f2, .int .i64 f3], .bool fb]) ∧ Its w0 (.book w0.heap.size ga Ha A :: l) w') := hide (fun W l h => by have := firstS s h; rwa [ef, hfb] at this)
                have K22b : Hid (∀ W l, Its w0 (.book w0.heap.size gb Hc B :: l) W → Calls Try.prog 22 #[.pointer (some ⟨gb, 0, none⟩), .int .i64 s] W fun e w' => e = .returned (.tuple #[.agg #[.int .i64 f1, .int .i64 f2, .int .i64 f3], .bool fb]) ∧ Its w0 (.book w0.heap.size gb Hc B :: l) w') := hide (fun W l h => by have := firstS s h; rwa [HA.out.fst, ef, hfb] at this)
                have K20a : Hid (∀ W l, Its w0 (.book w0.heap.size ga Ha A :: l) W → Calls Try.prog 20 #[.pointer (some ⟨ga, 0, none⟩), .int .i64 s] W fun q w' => ∃ a' c', q = .returned (.slice a' ns c') ∧ Its w0 (.ints w0.heap.size (.slice a' ns c') (A.sv s) :: .book w0.heap.size ga Ha A :: l) w') := hide (fun W l h => servedS h (i64_small (by have := HS.out; omega) (by have := HS.out; omega)) (by have := HL.out; omega) hns)
                have K20b : Hid (∀ W l, Its w0 (.book w0.heap.size gb Hc B :: l) W → Calls Try.prog 20 #[.pointer (some ⟨gb, 0, none⟩), .int .i64 s] W fun q w' => ∃ a' c', q = .returned (.slice a' ns c') ∧ Its w0 (.ints w0.heap.size (.slice a' ns c') (A.sv s) :: .book w0.heap.size gb Hc B :: l) w') := hide (fun W l h => by have := servedS (n := ns) h (i64_small (x := s) (by have := HS.out; omega) (by have := HS.out; omega)) (by have := HL.out; omega) (by rw [hsv]; exact hns); rwa [hsv] at this)
                have K21 : Hid (∀ W (a b : Option Addr) (c d : Nat), intE.Rd W (.slice a ns c) (A.sv s) → intE.Rd W (.slice b ns d) (A.sv s) → Calls Try.prog 21 #[.slice a ns c, .slice b ns d] W fun e w' => e = .returned (.bool true) ∧ ∃ q, w' = W.drewN q) := hide (fun W a b c d h1 h2 => ints_eq a b c d ns _ W hns h1 h2 (by omega))
                have heq := fun W => rq_equal W (⟨f1, f2, f3⟩ : Rq) ⟨f1, f2, f3⟩
                simp only [decide_true] at heq
                have b9 : (fb != fb) = false := bne_self_eq_false _
                clear hfb hns hns2 hsv ef
                go_upto_region 42 with (go_at_call 22; refine (K22a.out _ _ HI.out).mono ?_; rintro e W7 ⟨rfl, hg⟩; have HI7 := hide (hg.new (x := .box W7.heap.size #[.int .i64 f1, .int .i64 f2, .int .i64 f3] 31) (heap_new W7 _) (fun k hk => by cases hk; exact Nat.le_refl _) (below_new W7 _)); clear hg)
                generalize W7.alloc (.cells #[.int .i64 f1, .int .i64 f2, .int .i64 f3] 31) = W8 at *
                generalize W7.heap.size = b20 at *
                go_upto_region 43 with (go_at_call 22; refine (K22b.out _ _ HI7.out.rot3).mono ?_; rintro e W9 ⟨rfl, hg⟩; have HI9 := hide (hg.new (x := .box W9.heap.size #[.int .i64 f1, .int .i64 f2, .int .i64 f3] 31) (heap_new W9 _) (fun k hk => by cases hk; exact Nat.le_refl _) (below_new W9 _)); clear hg)
                generalize W9.alloc (.cells #[.int .i64 f1, .int .i64 f2, .int .i64 f3] 31) = W10 at *
                generalize W9.heap.size = b22 at *
                have p0 : W10.cell? ⟨b22, 0, none⟩ = some (.int .i64 f1) := (cells_at HI9.out.one 0).1
                have p1 : W10.cell? ⟨b22, 1, none⟩ = some (.int .i64 f2) := (cells_at HI9.out.one 1).1
                have p2 : W10.cell? ⟨b22, 2, none⟩ = some (.int .i64 f3) := (cells_at HI9.out.one 2).1
                have p3 : W10.cell? ⟨b20, 0, none⟩ = some (.int .i64 f1) := (cells_at HI9.out.three 0).1
                have p4 : W10.cell? ⟨b20, 1, none⟩ = some (.int .i64 f2) := (cells_at HI9.out.three 1).1
                have p5 : W10.cell? ⟨b20, 2, none⟩ = some (.int .i64 f3) := (cells_at HI9.out.three 2).1
                have HI10 := hide (HI9.out.tail.swap.tail.swap)
                clear HI7 HI9 HI
                go_wp2_with (first
                  | (go_at_call 21; refine (K21.out _ _ _ _ _ (El.Own.rd HI12.out.three) (El.Own.rd HI12.out.one)).mono ?_; rintro e W13 ⟨rfl, q13, rfl⟩; have HI13 := hide ((HI12.out.drew q13).tail.swap.tail.swap))
                  | (go_at_call 20; refine (K20b.out _ _ HI11.out.rot3).mono ?_; rintro e W12 ⟨a12, c12, rfl, hg⟩; have HI12 := hide hg; clear hg)
                  | (go_at_call 20; refine (K20a.out _ _ HI10.out).mono ?_; rintro e W11 ⟨a11, c11, rfl, hg⟩; have HI11 := hide hg; clear hg))
                go_roundw
                case rel => exact ⟨i + 1, A, B, mine, Ha, Hc, a7, n7, c7, rfl, by go_num, by omega, by omega, HL, HA, HI13⟩
                case measure => simp [intOf]; omega
          by_cases t2 : 30 < tt
          · have hnr : ¬ rng ⟨x, st, tt⟩ := fun h => by have := h.2.2.2; simp only at this; omega
            have t1' : (1 : Int) ≤ tt := by omega
            have t2' : ¬ tt ≤ 30 := by omega
            have HBX : Hid (∀ W : World, W.heap[bo]? = some (.cells #[.int .i64 1, .int .i64 x, .int .i64 st, .int .i64 tt] 33) → W.cell? ⟨bo, 0, none⟩ = some (.int .i64 1) ∧ W.cell? ⟨bo, 1, none⟩ = some (.int .i64 x) ∧ W.cell? ⟨bo, 2, none⟩ = some (.int .i64 st) ∧ W.cell? ⟨bo, 3, none⟩ = some (.int .i64 tt)) := hide (fun W h => ⟨(cells_at h 0).1, (cells_at h 1).1, (cells_at h 2).1, (cells_at h 3).1⟩)
            have HI2 := HI1
            obtain ⟨W2, rfl⟩ : ∃ W2, W2 = W1 := ⟨_, rfl⟩
            go_upto_block 2 with fail
            go_cut [7, 8, 10] (fun v7 v8 v10 wx => ∃ (A B : Bk) (mine : List Int) (Ha Hc : Hb) (a7 : Option Addr) (n7 c7 : Nat), v7 = .slice a7 n7 c7 ∧ v8 = .int .i64 i ∧ Hid (A.all.length ≤ i + 1 ∧ A.done.length ≤ i + 1 ∧ B.all.length ≤ i + 1 ∧ B.done.length ≤ i + 1 ∧ mine.length = n7) ∧ Hid (Ap s A B mine) ∧ Hid (Its w0 (.book w0.heap.size ga Ha A :: .book w0.heap.size gb Hc B :: .ints w0.heap.size (.slice a7 n7 c7) mine :: []) wx))
            case first =>
              as_aux_lemma =>
                obtain ⟨v0, v1, v2, v3⟩ := HBX.out W2 HI2.out.one
                obtain ⟨sv, hsv⟩ : ∃ sv, A.sta x = sv := ⟨_, rfl⟩
                have K16 : Hid (∀ W H l, Its w0 (.book w0.heap.size ga H A :: l) W → Calls Try.prog 16 #[.pointer (some ⟨ga, 0, none⟩), .int .i64 x] W fun q w' => q = .returned (.int .i64 sv) ∧ w' = W) := hide (fun W H l h => stateS h Hx.out hsv)
                by_cases hz : sv = 0
                · subst hz
                  obtain ⟨hya, hAs⟩ := ad_out (S := A) hnr
                  obtain ⟨hyb, hBs⟩ := ad_out (S := B) hnr
                  obtain ⟨e, he⟩ : ∃ e, A.adC ⟨x, st, tt⟩ = e := ⟨_, rfl⟩
                  obtain ⟨e2, he2⟩ : ∃ e2, B.adC ⟨x, st, tt⟩ = e2 := ⟨_, rfl⟩
                  have K10a : Hid (∀ W H l, Its w0 (.book w0.heap.size ga H A :: l) W → Calls Try.prog 10 #[.pointer (some ⟨ga, 0, none⟩), .agg #[.int .i64 x, .int .i64 st, .int .i64 tt]] W fun q w' => q = .returned (.tuple #[.bool false, .int .i64 e]) ∧ ∃ H', Its w0 (.book w0.heap.size ga H' A :: l) w') := hide (fun W H l h => addS ⟨x, st, tt⟩ h Hx.out (by have := HL.out; omega) ⟨hya, he⟩ hAs)
                  have K10b : Hid (∀ W H l, Its w0 (.book w0.heap.size gb H B :: l) W → Calls Try.prog 10 #[.pointer (some ⟨gb, 0, none⟩), .agg #[.int .i64 x, .int .i64 st, .int .i64 tt]] W fun q w' => q = .returned (.tuple #[.bool false, .int .i64 e2]) ∧ ∃ H', Its w0 (.book w0.heap.size gb H' B :: l) w') := hide (fun W H l h => addS ⟨x, st, tt⟩ h Hx.out (by have := HL.out; omega) ⟨hyb, he2⟩ hBs)
                  have HLn : Hid (A.all.length ≤ i + 1 ∧ A.done.length ≤ i + 1 ∧ B.all.length ≤ i + 1 ∧ B.done.length ≤ i + 1 ∧ mine.length = n7) := hide (by have := HL.out; omega)
                  by_cases hs : st = s
                  · have h10 : (st == s) = true := beq_iff_eq.2 hs
                    clear he he2 hs hya hAs hyb hBs hsv hnr
                    go_wp2_with (first
                      | (go_at_call 10; refine (K10b.out _ _ _ HI3.out.rot3).mono ?_; rintro e W4 ⟨rfl, H4, hg⟩; have HI4 := hide hg.rot3'; clear hg; obtain ⟨v0, v1, v2, v3⟩ := HBX.out W4 HI4.out.one)
                      | (go_at_call 10; refine (K10a.out _ _ _ HI2.out.swap).mono ?_; rintro e W3 ⟨rfl, H3, hg⟩; have HI3 := hide hg.swap; clear hg; obtain ⟨v0, v1, v2, v3⟩ := HBX.out W3 HI3.out.one)
                      | (go_at_call 16; refine (K16.out _ _ _ HI2.out.swap).mono ?_; rintro e W16 ⟨rfl, hw⟩; have hw' := hw.symm; clear hw; subst hw'))
                    go_meet
                    exact ⟨A, B, mine, H3, H4, a7, n7, c7, rfl, rfl, HLn, HA, hide HI4.out.tail⟩
                  · have h10 : (st == s) = false := beq_eq_false_iff_ne.2 hs
                    clear he he2 hs hya hAs hyb hBs hsv hnr
                    go_wp2_with (first
                      | (go_at_call 10; refine (K10a.out _ _ _ HI2.out.swap).mono ?_; rintro e W3 ⟨rfl, H3, hg⟩; have HI3 := hide hg.swap; clear hg; obtain ⟨v0, v1, v2, v3⟩ := HBX.out W3 HI3.out.one)
                      | (go_at_call 16; refine (K16.out _ _ _ HI2.out.swap).mono ?_; rintro e W16 ⟨rfl, hw⟩; have hw' := hw.symm; clear hw; subst hw'))
                    go_meet
                    exact ⟨A, B, mine, H3, Hc, a7, n7, c7, rfl, rfl, HLn, HA, hide HI3.out.tail⟩
                · have bz : (sv != 0) = true := bne_iff_ne.2 hz
                  clear hsv hz hnr
                  go_wp2_with (go_at_call 16; refine (K16.out _ _ _ HI2.out.swap).mono ?_; rintro e W16 ⟨rfl, hw⟩; have hw' := hw.symm; clear hw; subst hw')
                  go_roundw
                  case rel => exact ⟨i + 1, A, B, mine, Ha, Hc, a7, n7, c7, rfl, by go_num, by omega, by omega, hide (by have := HL.out; omega), HA, hide HI2.out.tail⟩
                  case measure => simp [intOf]; omega
            case rest =>
              as_aux_lemma =>
                obtain ⟨A, B, mine, Ha, Hc, a7, n7, c7, rfl, rfl, HL, HA, HI⟩ := hcut
                obtain ⟨wB, rfl⟩ : ∃ W, W = wc := ⟨_, rfl⟩
                obtain ⟨f1, f2, f3, ef⟩ := rqV_form (fst A.all s)
                obtain ⟨fb, hfb⟩ : ∃ fb, (fst A.all s).isSome = fb := ⟨_, rfl⟩
                obtain ⟨ns, hns⟩ : ∃ ns, (A.sv s).length = ns := ⟨_, rfl⟩
                have hsv := HA.out.sv (bk_lie HI.out.two).1
                have hns2 : ns ≤ 1000 := by
                  have : (A.sv s).length ≤ A.done.length := List.length_filter_le _ _
                  have := HL.out
                  omega
                have K22a : Hid (∀ W l, Its w0 (.book w0.heap.size ga Ha A :: l) W → Calls Try.prog 22 #[.pointer (some ⟨ga, 0, none⟩), .int .i64 s] W fun e w' => e = .returned (.tuple #[.agg #[.int .i64 f1, .int .i64 f2, .int .i64 f3], .bool fb]) ∧ Its w0 (.book w0.heap.size ga Ha A :: l) w') := hide (fun W l h => by have := firstS s h; rwa [ef, hfb] at this)
                have K22b : Hid (∀ W l, Its w0 (.book w0.heap.size gb Hc B :: l) W → Calls Try.prog 22 #[.pointer (some ⟨gb, 0, none⟩), .int .i64 s] W fun e w' => e = .returned (.tuple #[.agg #[.int .i64 f1, .int .i64 f2, .int .i64 f3], .bool fb]) ∧ Its w0 (.book w0.heap.size gb Hc B :: l) w') := hide (fun W l h => by have := firstS s h; rwa [HA.out.fst, ef, hfb] at this)
                have K20a : Hid (∀ W l, Its w0 (.book w0.heap.size ga Ha A :: l) W → Calls Try.prog 20 #[.pointer (some ⟨ga, 0, none⟩), .int .i64 s] W fun q w' => ∃ a' c', q = .returned (.slice a' ns c') ∧ Its w0 (.ints w0.heap.size (.slice a' ns c') (A.sv s) :: .book w0.heap.size ga Ha A :: l) w') := hide (fun W l h => servedS h (i64_small (by have := HS.out; omega) (by have := HS.out; omega)) (by have := HL.out; omega) hns)
                have K20b : Hid (∀ W l, Its w0 (.book w0.heap.size gb Hc B :: l) W → Calls Try.prog 20 #[.pointer (some ⟨gb, 0, none⟩), .int .i64 s] W fun q w' => ∃ a' c', q = .returned (.slice a' ns c') ∧ Its w0 (.ints w0.heap.size (.slice a' ns c') (A.sv s) :: .book w0.heap.size gb Hc B :: l) w') := hide (fun W l h => by have := servedS (n := ns) h (i64_small (x := s) (by have := HS.out; omega) (by have := HS.out; omega)) (by have := HL.out; omega) (by rw [hsv]; exact hns); rwa [hsv] at this)
                have K21 : Hid (∀ W (a b : Option Addr) (c d : Nat), intE.Rd W (.slice a ns c) (A.sv s) → intE.Rd W (.slice b ns d) (A.sv s) → Calls Try.prog 21 #[.slice a ns c, .slice b ns d] W fun e w' => e = .returned (.bool true) ∧ ∃ q, w' = W.drewN q) := hide (fun W a b c d h1 h2 => ints_eq a b c d ns _ W hns h1 h2 (by omega))
                have heq := fun W => rq_equal W (⟨f1, f2, f3⟩ : Rq) ⟨f1, f2, f3⟩
                simp only [decide_true] at heq
                have b9 : (fb != fb) = false := bne_self_eq_false _
                clear hfb hns hns2 hsv ef
                go_upto_region 42 with (go_at_call 22; refine (K22a.out _ _ HI.out).mono ?_; rintro e W7 ⟨rfl, hg⟩; have HI7 := hide (hg.new (x := .box W7.heap.size #[.int .i64 f1, .int .i64 f2, .int .i64 f3] 31) (heap_new W7 _) (fun k hk => by cases hk; exact Nat.le_refl _) (below_new W7 _)); clear hg)
                generalize W7.alloc (.cells #[.int .i64 f1, .int .i64 f2, .int .i64 f3] 31) = W8 at *
                generalize W7.heap.size = b20 at *
                go_upto_region 43 with (go_at_call 22; refine (K22b.out _ _ HI7.out.rot3).mono ?_; rintro e W9 ⟨rfl, hg⟩; have HI9 := hide (hg.new (x := .box W9.heap.size #[.int .i64 f1, .int .i64 f2, .int .i64 f3] 31) (heap_new W9 _) (fun k hk => by cases hk; exact Nat.le_refl _) (below_new W9 _)); clear hg)
                generalize W9.alloc (.cells #[.int .i64 f1, .int .i64 f2, .int .i64 f3] 31) = W10 at *
                generalize W9.heap.size = b22 at *
                have p0 : W10.cell? ⟨b22, 0, none⟩ = some (.int .i64 f1) := (cells_at HI9.out.one 0).1
                have p1 : W10.cell? ⟨b22, 1, none⟩ = some (.int .i64 f2) := (cells_at HI9.out.one 1).1
                have p2 : W10.cell? ⟨b22, 2, none⟩ = some (.int .i64 f3) := (cells_at HI9.out.one 2).1
                have p3 : W10.cell? ⟨b20, 0, none⟩ = some (.int .i64 f1) := (cells_at HI9.out.three 0).1
                have p4 : W10.cell? ⟨b20, 1, none⟩ = some (.int .i64 f2) := (cells_at HI9.out.three 1).1
                have p5 : W10.cell? ⟨b20, 2, none⟩ = some (.int .i64 f3) := (cells_at HI9.out.three 2).1
                have HI10 := hide (HI9.out.tail.swap.tail.swap)
                clear HI7 HI9 HI
                go_wp2_with (first
                  | (go_at_call 21; refine (K21.out _ _ _ _ _ (El.Own.rd HI12.out.three) (El.Own.rd HI12.out.one)).mono ?_; rintro e W13 ⟨rfl, q13, rfl⟩; have HI13 := hide ((HI12.out.drew q13).tail.swap.tail.swap))
                  | (go_at_call 20; refine (K20b.out _ _ HI11.out.rot3).mono ?_; rintro e W12 ⟨a12, c12, rfl, hg⟩; have HI12 := hide hg; clear hg)
                  | (go_at_call 20; refine (K20a.out _ _ HI10.out).mono ?_; rintro e W11 ⟨a11, c11, rfl, hg⟩; have HI11 := hide hg; clear hg))
                go_roundw
                case rel => exact ⟨i + 1, A, B, mine, Ha, Hc, a7, n7, c7, rfl, by go_num, by omega, by omega, HL, HA, HI13⟩
                case measure => simp [intOf]; omega
          have t1' : (1 : Int) ≤ tt := by omega
          have t2' : tt ≤ 30 := by omega
          have uf : ∀ i, W1.frozen? ⟨bo, i, none⟩ = false := fun i => (cells_at HI1.out.one i).2
          obtain ⟨sp, hsp⟩ : ∃ sp, tt.tmod 3 = sp := ⟨_, rfl⟩
          have HI2 : Hid (Its w0 (.box bo #[.int .i64 1, .int .i64 x, .int .i64 sp, .int .i64 tt] 33 :: .book w0.heap.size ga Ha A :: .book w0.heap.size gb Hc B :: .ints w0.heap.size (.slice a7 n7 c7) mine :: []) (W1.setCell ⟨bo, 2, none⟩ (.int .i64 sp))) := hide (HI1.out.chg (x' := .box bo #[.int .i64 1, .int .i64 x, .int .i64 sp, .int .i64 tt] 33) (by
            show (W1.setCell ⟨bo, 2, none⟩ (.int .i64 sp)).heap[bo]? = _
            rw [heap_put HI1.out.one]; rfl) (fun k hk => .inl hk) (Frm.set W1 bo 2 _))
          have HBX : Hid (∀ W : World, W.heap[bo]? = some (.cells #[.int .i64 1, .int .i64 x, .int .i64 sp, .int .i64 tt] 33) → W.cell? ⟨bo, 0, none⟩ = some (.int .i64 1) ∧ W.cell? ⟨bo, 1, none⟩ = some (.int .i64 x) ∧ W.cell? ⟨bo, 2, none⟩ = some (.int .i64 sp) ∧ W.cell? ⟨bo, 3, none⟩ = some (.int .i64 tt)) := hide (fun W h => ⟨(cells_at h 0).1, (cells_at h 1).1, (cells_at h 2).1, (cells_at h 3).1⟩)
          have o0 : (W1.setCell ⟨bo, 2, none⟩ (.int .i64 sp)).cell? ⟨bo, 0, none⟩ = some (.int .i64 1) := (HBX.out _ HI2.out.one).1
          have o2 : (W1.setCell ⟨bo, 2, none⟩ (.int .i64 sp)).cell? ⟨bo, 2, none⟩ = some (.int .i64 sp) := (HBX.out _ HI2.out.one).2.2.1
          go_upto_region 12 with fail
          try rw [hsp]
          generalize W1.setCell ⟨bo, 2, none⟩ (.int .i64 sp) = W2 at *
          clear u0 u1 u2 u3 uf t1' t2' t1 t2 HI1
          go_upto_block 2 with fail
          go_cut [7, 8, 10] (fun v7 v8 v10 wx => ∃ (A B : Bk) (mine : List Int) (Ha Hc : Hb) (a7 : Option Addr) (n7 c7 : Nat), v7 = .slice a7 n7 c7 ∧ v8 = .int .i64 i ∧ Hid (A.all.length ≤ i + 1 ∧ A.done.length ≤ i + 1 ∧ B.all.length ≤ i + 1 ∧ B.done.length ≤ i + 1 ∧ mine.length = n7) ∧ Hid (Ap s A B mine) ∧ Hid (Its w0 (.book w0.heap.size ga Ha A :: .book w0.heap.size gb Hc B :: .ints w0.heap.size (.slice a7 n7 c7) mine :: []) wx))
          case first =>
            as_aux_lemma =>
              obtain ⟨v0, v1, v2, v3⟩ := HBX.out W2 HI2.out.one
              obtain ⟨sv, hsv⟩ : ∃ sv, A.sta x = sv := ⟨_, rfl⟩
              have K16 : Hid (∀ W H l, Its w0 (.book w0.heap.size ga H A :: l) W → Calls Try.prog 16 #[.pointer (some ⟨ga, 0, none⟩), .int .i64 x] W fun q w' => q = .returned (.int .i64 sv) ∧ w' = W) := hide (fun W H l h => stateS h Hx.out hsv)
              by_cases hz : sv = 0
              · have hf := sta_zero (bk_lie HI2.out.two).1 (hsv.trans hz)
                subst hz
                have hsz := A.size_ad ⟨x, sp, tt⟩
                have hszb := B.size_ad ⟨x, sp, tt⟩
                obtain ⟨e, he⟩ : ∃ e, A.adC ⟨x, sp, tt⟩ = e := ⟨_, rfl⟩
                obtain ⟨e2, he2⟩ : ∃ e2, B.adC ⟨x, sp, tt⟩ = e2 := ⟨_, rfl⟩
                by_cases hs : sp = s
                · have h10 : (sp == s) = true := beq_iff_eq.2 hs
                  obtain ⟨hy, hAp⟩ := HA.out.add (bk_lie HI2.out.two).1 (bk_lie HI2.out.three).1 (r := ⟨x, sp, tt⟩) hsp.symm hs hf
                  cases hya : A.adY ⟨x, sp, tt⟩ with
                  | true =>
                    rw [hya, if_pos rfl] at hAp
                    have HAp := hide hAp
                    have K10a : Hid (∀ W H l, Its w0 (.book w0.heap.size ga H A :: l) W → Calls Try.prog 10 #[.pointer (some ⟨ga, 0, none⟩), .agg #[.int .i64 x, .int .i64 sp, .int .i64 tt]] W fun q w' => q = .returned (.tuple #[.bool true, .int .i64 e]) ∧ ∃ H', Its w0 (.book w0.heap.size ga H' (A.ad ⟨x, sp, tt⟩) :: l) w') := hide (fun W H l h => addS ⟨x, sp, tt⟩ h Hx.out (by have := HL.out; omega) ⟨hya, he⟩ rfl)
                    have K10b : Hid (∀ W H l, Its w0 (.book w0.heap.size gb H B :: l) W → Calls Try.prog 10 #[.pointer (some ⟨gb, 0, none⟩), .agg #[.int .i64 x, .int .i64 sp, .int .i64 tt]] W fun q w' => q = .returned (.tuple #[.bool true, .int .i64 e2]) ∧ ∃ H', Its w0 (.book w0.heap.size gb H' (B.ad ⟨x, sp, tt⟩) :: l) w') := hide (fun W H l h => addS ⟨x, sp, tt⟩ h Hx.out (by have := HL.out; omega) ⟨hy.trans hya, he2⟩ rfl)
                    have HLn : Hid ((A.ad ⟨x, sp, tt⟩).all.length ≤ i + 1 ∧ (A.ad ⟨x, sp, tt⟩).done.length ≤ i + 1 ∧ (B.ad ⟨x, sp, tt⟩).all.length ≤ i + 1 ∧ (B.ad ⟨x, sp, tt⟩).done.length ≤ i + 1) := hide (by have := HL.out; rw [hsz.2, hszb.2]; omega)
                    have HNm : Hid (mine.length + [x].length ≤ 1000000) := hide (by
                      have h1 := HA.out.ids
                      have h2 := congrArg List.length h1
                      rw [List.length_map] at h2
                      have := HL.out
                      simp only [List.length_cons, List.length_nil]; omega)
                    have HR : Hid (∀ W : World, intE.Rd (W.alloc (.cells #[.int .i64 x] 3)) (.slice (some ⟨W.heap.size, 0, none⟩) 1 1) [x]) := hide (fun W => int_new W x _ rfl)
                    generalize A.ad ⟨x, sp, tt⟩ = A1 at *
                    generalize B.ad ⟨x, sp, tt⟩ = B1 at *
                    clear hsz hszb he he2 hs hy hAp hya hsv hf hsp
                    go_wp2_with (first
                      | (at_builtin; refine intE.wpB (B := w0.heap.size) HX4.out.size (by rfl) _ _ rfl _ _ rfl rfl mine [x] HX4.out.one HR4.out HNm.out ?_; intro v5 W5 ho hg hs; obtain ⟨a5, p5, hf5⟩ := ho.rd.form; obtain ⟨n5, hn5⟩ : ∃ n5, (mine ++ [x]).length = n5 := ⟨_, rfl⟩; rw [hn5] at hf5; subst hf5; have HI5 := hide (HX4.out.grow ho hg hs).rot4'; have Hn5 := hide hn5; clear ho hg hs hn5)
                      | (go_at_call 10; refine (K10b.out _ _ _ HI3.out.rot3).mono ?_; rintro e W4 ⟨rfl, H4, hg⟩; have HI4 := hide hg.rot3'; clear hg; obtain ⟨v0, v1, v2, v3⟩ := HBX.out W4 HI4.out.one; have HX4 := hide (HI4.out.rot4.alloc (.cells #[.int .i64 x] 3)); have HR4 := hide (HR.out W4))
                      | (go_at_call 10; refine (K10a.out _ _ _ HI2.out.swap).mono ?_; rintro e W3 ⟨rfl, H3, hg⟩; have HI3 := hide hg.swap; clear hg; obtain ⟨v0, v1, v2, v3⟩ := HBX.out W3 HI3.out.one)
                      | (go_at_call 16; refine (K16.out _ _ _ HI2.out.swap).mono ?_; rintro e W16 ⟨rfl, hw⟩; have hw' := hw.symm; clear hw; subst hw'))
                    go_meet
                    exact ⟨A1, B1, mine ++ [x], H3, H4, a5, n5, p5, rfl, rfl, hide (by have := HLn.out; have := Hn5.out; omega), HAp, hide HI5.out.tail⟩
                  | false =>
                    rw [hya, if_neg (by decide)] at hAp
                    have HAp := hide hAp
                    have K10a : Hid (∀ W H l, Its w0 (.book w0.heap.size ga H A :: l) W → Calls Try.prog 10 #[.pointer (some ⟨ga, 0, none⟩), .agg #[.int .i64 x, .int .i64 sp, .int .i64 tt]] W fun q w' => q = .returned (.tuple #[.bool false, .int .i64 e]) ∧ ∃ H', Its w0 (.book w0.heap.size ga H' (A.ad ⟨x, sp, tt⟩) :: l) w') := hide (fun W H l h => addS ⟨x, sp, tt⟩ h Hx.out (by have := HL.out; omega) ⟨hya, he⟩ rfl)
                    have K10b : Hid (∀ W H l, Its w0 (.book w0.heap.size gb H B :: l) W → Calls Try.prog 10 #[.pointer (some ⟨gb, 0, none⟩), .agg #[.int .i64 x, .int .i64 sp, .int .i64 tt]] W fun q w' => q = .returned (.tuple #[.bool false, .int .i64 e2]) ∧ ∃ H', Its w0 (.book w0.heap.size gb H' (B.ad ⟨x, sp, tt⟩) :: l) w') := hide (fun W H l h => addS ⟨x, sp, tt⟩ h Hx.out (by have := HL.out; omega) ⟨hy.trans hya, he2⟩ rfl)
                    have HLn : Hid ((A.ad ⟨x, sp, tt⟩).all.length ≤ i + 1 ∧ (A.ad ⟨x, sp, tt⟩).done.length ≤ i + 1 ∧ (B.ad ⟨x, sp, tt⟩).all.length ≤ i + 1 ∧ (B.ad ⟨x, sp, tt⟩).done.length ≤ i + 1 ∧ mine.length = n7) := hide (by have := HL.out; rw [hsz.2, hszb.2]; omega)
                    generalize A.ad ⟨x, sp, tt⟩ = A1 at *
                    generalize B.ad ⟨x, sp, tt⟩ = B1 at *
                    clear hsz hszb he he2 hs hy hAp hya hsv hf hsp
                    go_wp2_with (first
                      | (go_at_call 10; refine (K10b.out _ _ _ HI3.out.rot3).mono ?_; rintro e W4 ⟨rfl, H4, hg⟩; have HI4 := hide hg.rot3'; clear hg; obtain ⟨v0, v1, v2, v3⟩ := HBX.out W4 HI4.out.one)
                      | (go_at_call 10; refine (K10a.out _ _ _ HI2.out.swap).mono ?_; rintro e W3 ⟨rfl, H3, hg⟩; have HI3 := hide hg.swap; clear hg; obtain ⟨v0, v1, v2, v3⟩ := HBX.out W3 HI3.out.one)
                      | (go_at_call 16; refine (K16.out _ _ _ HI2.out.swap).mono ?_; rintro e W16 ⟨rfl, hw⟩; have hw' := hw.symm; clear hw; subst hw'))
                    go_meet
                    exact ⟨A1, B1, mine, H3, H4, a7, n7, c7, rfl, rfl, HLn, HAp, hide HI4.out.tail⟩
                · have h10 : (sp == s) = false := beq_eq_false_iff_ne.2 hs
                  have HAp := hide (HA.out.other (bk_lie HI2.out.two).1 (r := ⟨x, sp, tt⟩) hsp.symm hs)
                  obtain ⟨y, hya⟩ : ∃ y, A.adY ⟨x, sp, tt⟩ = y := ⟨_, rfl⟩
                  have K10a : Hid (∀ W H l, Its w0 (.book w0.heap.size ga H A :: l) W → Calls Try.prog 10 #[.pointer (some ⟨ga, 0, none⟩), .agg #[.int .i64 x, .int .i64 sp, .int .i64 tt]] W fun q w' => q = .returned (.tuple #[.bool y, .int .i64 e]) ∧ ∃ H', Its w0 (.book w0.heap.size ga H' (A.ad ⟨x, sp, tt⟩) :: l) w') := hide (fun W H l h => addS ⟨x, sp, tt⟩ h Hx.out (by have := HL.out; omega) ⟨hya, he⟩ rfl)
                  have HLn : Hid ((A.ad ⟨x, sp, tt⟩).all.length ≤ i + 1 ∧ (A.ad ⟨x, sp, tt⟩).done.length ≤ i + 1 ∧ B.all.length ≤ i + 1 ∧ B.done.length ≤ i + 1 ∧ mine.length = n7) := hide (by have := HL.out; rw [hsz.2]; omega)
                  generalize A.ad ⟨x, sp, tt⟩ = A1 at *
                  clear hsz hszb he he2 hs hya hsv hf hsp
                  go_wp2_with (first
                    | (go_at_call 10; refine (K10a.out _ _ _ HI2.out.swap).mono ?_; rintro e W3 ⟨rfl, H3, hg⟩; have HI3 := hide hg.swap; clear hg; obtain ⟨v0, v1, v2, v3⟩ := HBX.out W3 HI3.out.one)
                    | (go_at_call 16; refine (K16.out _ _ _ HI2.out.swap).mono ?_; rintro e W16 ⟨rfl, hw⟩; have hw' := hw.symm; clear hw; subst hw'))
                  go_meet
                  exact ⟨A1, B, mine, H3, Hc, a7, n7, c7, rfl, rfl, HLn, HAp, hide HI3.out.tail⟩
              · have bz : (sv != 0) = true := bne_iff_ne.2 hz
                clear hsv hz hsp
                go_wp2_with (go_at_call 16; refine (K16.out _ _ _ HI2.out.swap).mono ?_; rintro e W16 ⟨rfl, hw⟩; have hw' := hw.symm; clear hw; subst hw')
                go_roundw
                case rel => exact ⟨i + 1, A, B, mine, Ha, Hc, a7, n7, c7, rfl, by go_num, by omega, by omega, hide (by have := HL.out; omega), HA, hide HI2.out.tail⟩
                case measure => simp [intOf]; omega
          case rest =>
            as_aux_lemma =>
              obtain ⟨A, B, mine, Ha, Hc, a7, n7, c7, rfl, rfl, HL, HA, HI⟩ := hcut
              obtain ⟨wB, rfl⟩ : ∃ W, W = wc := ⟨_, rfl⟩
              obtain ⟨f1, f2, f3, ef⟩ := rqV_form (fst A.all s)
              obtain ⟨fb, hfb⟩ : ∃ fb, (fst A.all s).isSome = fb := ⟨_, rfl⟩
              obtain ⟨ns, hns⟩ : ∃ ns, (A.sv s).length = ns := ⟨_, rfl⟩
              have hsv := HA.out.sv (bk_lie HI.out.two).1
              have hns2 : ns ≤ 1000 := by
                have : (A.sv s).length ≤ A.done.length := List.length_filter_le _ _
                have := HL.out
                omega
              have K22a : Hid (∀ W l, Its w0 (.book w0.heap.size ga Ha A :: l) W → Calls Try.prog 22 #[.pointer (some ⟨ga, 0, none⟩), .int .i64 s] W fun e w' => e = .returned (.tuple #[.agg #[.int .i64 f1, .int .i64 f2, .int .i64 f3], .bool fb]) ∧ Its w0 (.book w0.heap.size ga Ha A :: l) w') := hide (fun W l h => by have := firstS s h; rwa [ef, hfb] at this)
              have K22b : Hid (∀ W l, Its w0 (.book w0.heap.size gb Hc B :: l) W → Calls Try.prog 22 #[.pointer (some ⟨gb, 0, none⟩), .int .i64 s] W fun e w' => e = .returned (.tuple #[.agg #[.int .i64 f1, .int .i64 f2, .int .i64 f3], .bool fb]) ∧ Its w0 (.book w0.heap.size gb Hc B :: l) w') := hide (fun W l h => by have := firstS s h; rwa [HA.out.fst, ef, hfb] at this)
              have K20a : Hid (∀ W l, Its w0 (.book w0.heap.size ga Ha A :: l) W → Calls Try.prog 20 #[.pointer (some ⟨ga, 0, none⟩), .int .i64 s] W fun q w' => ∃ a' c', q = .returned (.slice a' ns c') ∧ Its w0 (.ints w0.heap.size (.slice a' ns c') (A.sv s) :: .book w0.heap.size ga Ha A :: l) w') := hide (fun W l h => servedS h (i64_small (by have := HS.out; omega) (by have := HS.out; omega)) (by have := HL.out; omega) hns)
              have K20b : Hid (∀ W l, Its w0 (.book w0.heap.size gb Hc B :: l) W → Calls Try.prog 20 #[.pointer (some ⟨gb, 0, none⟩), .int .i64 s] W fun q w' => ∃ a' c', q = .returned (.slice a' ns c') ∧ Its w0 (.ints w0.heap.size (.slice a' ns c') (A.sv s) :: .book w0.heap.size gb Hc B :: l) w') := hide (fun W l h => by have := servedS (n := ns) h (i64_small (x := s) (by have := HS.out; omega) (by have := HS.out; omega)) (by have := HL.out; omega) (by rw [hsv]; exact hns); rwa [hsv] at this)
              have K21 : Hid (∀ W (a b : Option Addr) (c d : Nat), intE.Rd W (.slice a ns c) (A.sv s) → intE.Rd W (.slice b ns d) (A.sv s) → Calls Try.prog 21 #[.slice a ns c, .slice b ns d] W fun e w' => e = .returned (.bool true) ∧ ∃ q, w' = W.drewN q) := hide (fun W a b c d h1 h2 => ints_eq a b c d ns _ W hns h1 h2 (by omega))
              have heq := fun W => rq_equal W (⟨f1, f2, f3⟩ : Rq) ⟨f1, f2, f3⟩
              simp only [decide_true] at heq
              have b9 : (fb != fb) = false := bne_self_eq_false _
              clear hfb hns hns2 hsv ef
              go_upto_region 42 with (go_at_call 22; refine (K22a.out _ _ HI.out).mono ?_; rintro e W7 ⟨rfl, hg⟩; have HI7 := hide (hg.new (x := .box W7.heap.size #[.int .i64 f1, .int .i64 f2, .int .i64 f3] 31) (heap_new W7 _) (fun k hk => by cases hk; exact Nat.le_refl _) (below_new W7 _)); clear hg)
              generalize W7.alloc (.cells #[.int .i64 f1, .int .i64 f2, .int .i64 f3] 31) = W8 at *
              generalize W7.heap.size = b20 at *
              go_upto_region 43 with (go_at_call 22; refine (K22b.out _ _ HI7.out.rot3).mono ?_; rintro e W9 ⟨rfl, hg⟩; have HI9 := hide (hg.new (x := .box W9.heap.size #[.int .i64 f1, .int .i64 f2, .int .i64 f3] 31) (heap_new W9 _) (fun k hk => by cases hk; exact Nat.le_refl _) (below_new W9 _)); clear hg)
              generalize W9.alloc (.cells #[.int .i64 f1, .int .i64 f2, .int .i64 f3] 31) = W10 at *
              generalize W9.heap.size = b22 at *
              have p0 : W10.cell? ⟨b22, 0, none⟩ = some (.int .i64 f1) := (cells_at HI9.out.one 0).1
              have p1 : W10.cell? ⟨b22, 1, none⟩ = some (.int .i64 f2) := (cells_at HI9.out.one 1).1
              have p2 : W10.cell? ⟨b22, 2, none⟩ = some (.int .i64 f3) := (cells_at HI9.out.one 2).1
              have p3 : W10.cell? ⟨b20, 0, none⟩ = some (.int .i64 f1) := (cells_at HI9.out.three 0).1
              have p4 : W10.cell? ⟨b20, 1, none⟩ = some (.int .i64 f2) := (cells_at HI9.out.three 1).1
              have p5 : W10.cell? ⟨b20, 2, none⟩ = some (.int .i64 f3) := (cells_at HI9.out.three 2).1
              have HI10 := hide (HI9.out.tail.swap.tail.swap)
              clear HI7 HI9 HI
              go_wp2_with (first
                | (go_at_call 21; refine (K21.out _ _ _ _ _ (El.Own.rd HI12.out.three) (El.Own.rd HI12.out.one)).mono ?_; rintro e W13 ⟨rfl, q13, rfl⟩; have HI13 := hide ((HI12.out.drew q13).tail.swap.tail.swap))
                | (go_at_call 20; refine (K20b.out _ _ HI11.out.rot3).mono ?_; rintro e W12 ⟨a12, c12, rfl, hg⟩; have HI12 := hide hg; clear hg)
                | (go_at_call 20; refine (K20a.out _ _ HI10.out).mono ?_; rintro e W11 ⟨a11, c11, rfl, hg⟩; have HI11 := hide hg; clear hg))
              go_roundw
              case rel => exact ⟨i + 1, A, B, mine, Ha, Hc, a7, n7, c7, rfl, by go_num, by omega, by omega, HL, HA, HI13⟩
              case measure => simp [intOf]; omega
        · have k1' : (kd == 1) = false := beq_eq_false_iff_ne.2 k1
          have HI2 := HI1
          obtain ⟨W2, rfl⟩ : ∃ W2, W2 = W1 := ⟨_, rfl⟩
          go_upto_block 2 with fail
          go_cut [7, 8, 10] (fun v7 v8 v10 wx => ∃ (A B : Bk) (mine : List Int) (Ha Hc : Hb) (a7 : Option Addr) (n7 c7 : Nat), v7 = .slice a7 n7 c7 ∧ v8 = .int .i64 i ∧ Hid (A.all.length ≤ i + 1 ∧ A.done.length ≤ i + 1 ∧ B.all.length ≤ i + 1 ∧ B.done.length ≤ i + 1 ∧ mine.length = n7) ∧ Hid (Ap s A B mine) ∧ Hid (Its w0 (.book w0.heap.size ga Ha A :: .book w0.heap.size gb Hc B :: .ints w0.heap.size (.slice a7 n7 c7) mine :: []) wx))
          case first =>
            as_aux_lemma =>
              by_cases k2 : kd = 2
              · subst k2
                have HBX : Hid (∀ W : World, W.heap[bo]? = some (.cells #[.int .i64 2, .int .i64 x, .int .i64 st, .int .i64 tt] 33) → W.cell? ⟨bo, 0, none⟩ = some (.int .i64 2) ∧ W.cell? ⟨bo, 1, none⟩ = some (.int .i64 x) ∧ W.cell? ⟨bo, 2, none⟩ = some (.int .i64 st) ∧ W.cell? ⟨bo, 3, none⟩ = some (.int .i64 tt)) := hide (fun W h => ⟨(cells_at h 0).1, (cells_at h 1).1, (cells_at h 2).1, (cells_at h 3).1⟩)
                obtain ⟨v0, v1, v2, v3⟩ := HBX.out W2 HI2.out.one
                obtain ⟨e, he⟩ : ∃ e, A.caC x = e := ⟨_, rfl⟩
                have hsz := A.size_ca x
                have hszb := B.size_ca x
                have KXa : Hid (∀ W H l, Its w0 (.book w0.heap.size ga H A :: l) W → Calls Try.prog 12 #[.pointer (some ⟨ga, 0, none⟩), .int .i64 x] W fun q w' => q = .returned (.tuple #[.bool (A.caY x), .int .i64 e]) ∧ ∃ H', Its w0 (.book w0.heap.size ga H' (A.ca x) :: l) w') := hide (fun W H l h => cancelS h Hx.out ⟨rfl, he⟩ rfl)
                have HLn : Hid ((A.ca x).all.length ≤ i + 1 ∧ (A.ca x).done.length ≤ i + 1 ∧ (B.ca x).all.length ≤ i + 1 ∧ (B.ca x).done.length ≤ i + 1 ∧ B.all.length ≤ i + 1 ∧ B.done.length ≤ i + 1 ∧ mine.length = n7) := hide (by have := HL.out; rw [hsz.1, hsz.2, hszb.1, hszb.2]; omega)
                have HAo : Hid (x ∉ mine → Ap s (A.ca x) B mine) := hide (fun hx => HA.out.caOut hx)
                have HAi : Hid (x ∈ mine → B.caC x = e ∧ Ap s (A.ca x) (B.ca x) mine) := hide (fun hx => by have := HA.out.ca (bk_lie HI2.out.two).1 hx; rwa [he] at this)
                have KXb : Hid (x ∈ mine → ∀ W H l, Its w0 (.book w0.heap.size gb H B :: l) W → Calls Try.prog 12 #[.pointer (some ⟨gb, 0, none⟩), .int .i64 x] W fun q w' => q = .returned (.tuple #[.bool (B.caY x), .int .i64 e]) ∧ ∃ H', Its w0 (.book w0.heap.size gb H' (B.ca x) :: l) w') := hide (fun hx W H l h => cancelS h Hx.out ⟨rfl, (HAi.out hx).1⟩ rfl)
                have be : (e != e) = false := bne_self_eq_false _
                generalize A.caY x = ya at *
                generalize B.caY x = yb at *
                generalize A.ca x = A1 at *
                generalize B.ca x = B1 at *
                clear hsz hszb he
                have s7 : (n7 : Int) ≤ 1000 := by
                  have h2 := congrArg List.length HA.out.ids
                  rw [List.length_map] at h2
                  have := HL.out
                  omega
                go_wp2_with fail
                go_loopw [15, 120] (fun v15 v120 wr => ∃ k : Nat, v120 = .int .i64 k ∧ v15 = .bool (decide (x ∈ mine.take k)) ∧ k ≤ n7 ∧ wr = W2) (fun _ v120 _ => n7 - (intOf v120).toNat)
                case atStart => exact ⟨0, rfl, by simp, by omega, rfl⟩
                case round =>
                  obtain ⟨k, rfl, rfl, hk, rfl⟩ := hrel
                  by_cases hkn : k < n7
                  · obtain ⟨z, hz⟩ : ∃ z, mine[k]? = some z := ⟨_, List.getElem?_eq_getElem (by rw [HL.out.2.2.2.2]; exact hkn)⟩
                    obtain ⟨b7, off7, rfl, z7⟩ := int_at (El.Own.rd HI2.out.four) k z hz
                    have k0 : (k : Int) < (n7 : Int) := by omega
                    have k1 : (0 : Int) ≤ (k : Int) := by omega
                    have hdec : decide (x ∈ mine.take (k + 1)) = (decide (x ∈ mine.take k) || (z == x)) := by
                      rw [List.take_add_one, hz]
                      simp only [Option.toList_some, List.mem_append, List.mem_singleton, Bool.decide_or]
                      congr 1
                      by_cases q : x = z
                      · simp [q]
                      · simp [q, Ne.symm q]
                    have HD := hide hdec
                    clear hz hdec
                    cases hb : decide (x ∈ mine.take k) with
                    | true =>
                      rw [hb] at HD
                      clear hb
                      go_wp2_with fail
                      go_roundw
                      case rel => exact ⟨k + 1, by go_num, by rw [HD.out]; rfl, by omega, by first | rfl | trivial⟩
                      case measure => simp [intOf]; omega
                    | false =>
                      rw [hb] at HD
                      clear hb
                      go_wp2_with fail
                      go_roundw
                      case rel => exact ⟨k + 1, by go_num, by rw [HD.out]; rfl, by omega, by first | rfl | trivial⟩
                      case measure => simp [intOf]; omega
                  · have hkn7 : k = n7 := by omega
                    have k0 : ¬ (k : Int) < (n7 : Int) := by omega
                    have htk : mine.take k = mine := List.take_of_length_le (by have := HL.out; omega)
                    rw [htk]
                    clear hkn7 htk hkn hk
                    by_cases hx : x ∈ mine
                    · rw [decide_eq_true hx]
                      have K2 := hide (KXb.out hx)
                      have HAp := hide (HAi.out hx).2
                      clear hx
                      go_wp2_with (first
                        | (go_at_call 12; refine (K2.out _ _ _ HI3.out.rot3).mono ?_; rintro e W4 ⟨rfl, H4, hg⟩; have HI4 := hide hg.rot3'; clear hg; obtain ⟨v0, v1, v2, v3⟩ := HBX.out W4 HI4.out.one)
                        | (go_at_call 12; refine (KXa.out _ _ _ HI2.out.swap).mono ?_; rintro e W3 ⟨rfl, H3, hg⟩; have HI3 := hide hg.swap; clear hg; obtain ⟨v0, v1, v2, v3⟩ := HBX.out W3 HI3.out.one))
                      go_meet
                      exact ⟨A1, B1, mine, H3, H4, a7, n7, c7, rfl, rfl, hide (by have := HLn.out; omega), HAp, hide HI4.out.tail⟩
                    · rw [decide_eq_false hx]
                      have HAp := hide (HAo.out hx)
                      clear hx
                      go_wp2_with (go_at_call 12; refine (KXa.out _ _ _ HI2.out.swap).mono ?_; rintro e W3 ⟨rfl, H3, hg⟩; have HI3 := hide hg.swap; clear hg; obtain ⟨v0, v1, v2, v3⟩ := HBX.out W3 HI3.out.one)
                      go_roundw
                      case rel => exact ⟨i + 1, A1, B, mine, H3, Hc, a7, n7, c7, rfl, by go_num, by omega, by omega, hide (by have := HLn.out; omega), HAp, hide HI3.out.tail⟩
                      case measure => simp [intOf]; omega
              by_cases k3 : kd = 3
              · subst k3
                have HBX : Hid (∀ W : World, W.heap[bo]? = some (.cells #[.int .i64 3, .int .i64 x, .int .i64 st, .int .i64 tt] 33) → W.cell? ⟨bo, 0, none⟩ = some (.int .i64 3) ∧ W.cell? ⟨bo, 1, none⟩ = some (.int .i64 x) ∧ W.cell? ⟨bo, 2, none⟩ = some (.int .i64 st) ∧ W.cell? ⟨bo, 3, none⟩ = some (.int .i64 tt)) := hide (fun W h => ⟨(cells_at h 0).1, (cells_at h 1).1, (cells_at h 2).1, (cells_at h 3).1⟩)
                obtain ⟨v0, v1, v2, v3⟩ := HBX.out W2 HI2.out.one
                obtain ⟨e, he⟩ : ∃ e, A.seC x = e := ⟨_, rfl⟩
                have hsz := A.size_se x
                have hszb := B.size_se x
                have KXa : Hid (∀ W H l, Its w0 (.book w0.heap.size ga H A :: l) W → Calls Try.prog 14 #[.pointer (some ⟨ga, 0, none⟩), .int .i64 x] W fun q w' => q = .returned (.int .i64 e) ∧ ∃ H', Its w0 (.book w0.heap.size ga H' (A.se x) :: l) w') := hide (fun W H l h => serveS h Hx.out (by have := HL.out; omega) he rfl)
                have HLn : Hid ((A.se x).all.length ≤ i + 1 ∧ (A.se x).done.length ≤ i + 1 ∧ (B.se x).all.length ≤ i + 1 ∧ (B.se x).done.length ≤ i + 1 ∧ B.all.length ≤ i + 1 ∧ B.done.length ≤ i + 1 ∧ mine.length = n7) := hide (by have := HL.out; omega)
                have HAo : Hid (x ∉ mine → Ap s (A.se x) B mine) := hide (fun hx => HA.out.seOut hx)
                have HAi : Hid (x ∈ mine → B.seC x = e ∧ Ap s (A.se x) (B.se x) mine) := hide (fun hx => by have := HA.out.se (bk_lie HI2.out.two).1 hx; rwa [he] at this)
                have KXb : Hid (x ∈ mine → ∀ W H l, Its w0 (.book w0.heap.size gb H B :: l) W → Calls Try.prog 14 #[.pointer (some ⟨gb, 0, none⟩), .int .i64 x] W fun q w' => q = .returned (.int .i64 e) ∧ ∃ H', Its w0 (.book w0.heap.size gb H' (B.se x) :: l) w') := hide (fun hx W H l h => serveS h Hx.out (by have := HL.out; omega) (HAi.out hx).1 rfl)
                have be : (e != e) = false := bne_self_eq_false _
                generalize A.se x = A1 at *
                generalize B.se x = B1 at *
                clear hsz hszb he
                have s7 : (n7 : Int) ≤ 1000 := by
                  have h2 := congrArg List.length HA.out.ids
                  rw [List.length_map] at h2
                  have := HL.out
                  omega
                go_wp2_with fail
                go_loopw [15, 120] (fun v15 v120 wr => ∃ k : Nat, v120 = .int .i64 k ∧ v15 = .bool (decide (x ∈ mine.take k)) ∧ k ≤ n7 ∧ wr = W2) (fun _ v120 _ => n7 - (intOf v120).toNat)
                case atStart => exact ⟨0, rfl, by simp, by omega, rfl⟩
                case round =>
                  obtain ⟨k, rfl, rfl, hk, rfl⟩ := hrel
                  by_cases hkn : k < n7
                  · obtain ⟨z, hz⟩ : ∃ z, mine[k]? = some z := ⟨_, List.getElem?_eq_getElem (by rw [HL.out.2.2.2.2]; exact hkn)⟩
                    obtain ⟨b7, off7, rfl, z7⟩ := int_at (El.Own.rd HI2.out.four) k z hz
                    have k0 : (k : Int) < (n7 : Int) := by omega
                    have k1 : (0 : Int) ≤ (k : Int) := by omega
                    have hdec : decide (x ∈ mine.take (k + 1)) = (decide (x ∈ mine.take k) || (z == x)) := by
                      rw [List.take_add_one, hz]
                      simp only [Option.toList_some, List.mem_append, List.mem_singleton, Bool.decide_or]
                      congr 1
                      by_cases q : x = z
                      · simp [q]
                      · simp [q, Ne.symm q]
                    have HD := hide hdec
                    clear hz hdec
                    cases hb : decide (x ∈ mine.take k) with
                    | true =>
                      rw [hb] at HD
                      clear hb
                      go_wp2_with fail
                      go_roundw
                      case rel => exact ⟨k + 1, by go_num, by rw [HD.out]; rfl, by omega, by first | rfl | trivial⟩
                      case measure => simp [intOf]; omega
                    | false =>
                      rw [hb] at HD
                      clear hb
                      go_wp2_with fail
                      go_roundw
                      case rel => exact ⟨k + 1, by go_num, by rw [HD.out]; rfl, by omega, by first | rfl | trivial⟩
                      case measure => simp [intOf]; omega
                  · have hkn7 : k = n7 := by omega
                    have k0 : ¬ (k : Int) < (n7 : Int) := by omega
                    have htk : mine.take k = mine := List.take_of_length_le (by have := HL.out; omega)
                    rw [htk]
                    clear hkn7 htk hkn hk
                    by_cases hx : x ∈ mine
                    · rw [decide_eq_true hx]
                      have K2 := hide (KXb.out hx)
                      have HAp := hide (HAi.out hx).2
                      clear hx
                      go_wp2_with (first
                        | (go_at_call 14; refine (K2.out _ _ _ HI3.out.rot3).mono ?_; rintro e W4 ⟨rfl, H4, hg⟩; have HI4 := hide hg.rot3'; clear hg; obtain ⟨v0, v1, v2, v3⟩ := HBX.out W4 HI4.out.one)
                        | (go_at_call 14; refine (KXa.out _ _ _ HI2.out.swap).mono ?_; rintro e W3 ⟨rfl, H3, hg⟩; have HI3 := hide hg.swap; clear hg; obtain ⟨v0, v1, v2, v3⟩ := HBX.out W3 HI3.out.one))
                      go_meet
                      exact ⟨A1, B1, mine, H3, H4, a7, n7, c7, rfl, rfl, hide (by have := HLn.out; omega), HAp, hide HI4.out.tail⟩
                    · rw [decide_eq_false hx]
                      have HAp := hide (HAo.out hx)
                      clear hx
                      go_wp2_with (go_at_call 14; refine (KXa.out _ _ _ HI2.out.swap).mono ?_; rintro e W3 ⟨rfl, H3, hg⟩; have HI3 := hide hg.swap; clear hg; obtain ⟨v0, v1, v2, v3⟩ := HBX.out W3 HI3.out.one)
                      go_roundw
                      case rel => exact ⟨i + 1, A1, B, mine, H3, Hc, a7, n7, c7, rfl, by go_num, by omega, by omega, hide (by have := HLn.out; omega), HAp, hide HI3.out.tail⟩
                      case measure => simp [intOf]; omega
              have r1 : (kd == 1) = false := beq_eq_false_iff_ne.2 k1
              have r2 : (kd == 2) = false := beq_eq_false_iff_ne.2 k2
              have r3 : (kd == 3) = false := beq_eq_false_iff_ne.2 k3
              clear k1 k2 k3
              go_wp2_with fail
              go_meet
              exact ⟨A, B, mine, Ha, Hc, a7, n7, c7, rfl, rfl, hide (by have := HL.out; omega), HA, hide HI2.out.tail⟩
          case rest =>
            as_aux_lemma =>
              obtain ⟨A, B, mine, Ha, Hc, a7, n7, c7, rfl, rfl, HL, HA, HI⟩ := hcut
              obtain ⟨wB, rfl⟩ : ∃ W, W = wc := ⟨_, rfl⟩
              obtain ⟨f1, f2, f3, ef⟩ := rqV_form (fst A.all s)
              obtain ⟨fb, hfb⟩ : ∃ fb, (fst A.all s).isSome = fb := ⟨_, rfl⟩
              obtain ⟨ns, hns⟩ : ∃ ns, (A.sv s).length = ns := ⟨_, rfl⟩
              have hsv := HA.out.sv (bk_lie HI.out.two).1
              have hns2 : ns ≤ 1000 := by
                have : (A.sv s).length ≤ A.done.length := List.length_filter_le _ _
                have := HL.out
                omega
              have K22a : Hid (∀ W l, Its w0 (.book w0.heap.size ga Ha A :: l) W → Calls Try.prog 22 #[.pointer (some ⟨ga, 0, none⟩), .int .i64 s] W fun e w' => e = .returned (.tuple #[.agg #[.int .i64 f1, .int .i64 f2, .int .i64 f3], .bool fb]) ∧ Its w0 (.book w0.heap.size ga Ha A :: l) w') := hide (fun W l h => by have := firstS s h; rwa [ef, hfb] at this)
              have K22b : Hid (∀ W l, Its w0 (.book w0.heap.size gb Hc B :: l) W → Calls Try.prog 22 #[.pointer (some ⟨gb, 0, none⟩), .int .i64 s] W fun e w' => e = .returned (.tuple #[.agg #[.int .i64 f1, .int .i64 f2, .int .i64 f3], .bool fb]) ∧ Its w0 (.book w0.heap.size gb Hc B :: l) w') := hide (fun W l h => by have := firstS s h; rwa [HA.out.fst, ef, hfb] at this)
              have K20a : Hid (∀ W l, Its w0 (.book w0.heap.size ga Ha A :: l) W → Calls Try.prog 20 #[.pointer (some ⟨ga, 0, none⟩), .int .i64 s] W fun q w' => ∃ a' c', q = .returned (.slice a' ns c') ∧ Its w0 (.ints w0.heap.size (.slice a' ns c') (A.sv s) :: .book w0.heap.size ga Ha A :: l) w') := hide (fun W l h => servedS h (i64_small (by have := HS.out; omega) (by have := HS.out; omega)) (by have := HL.out; omega) hns)
              have K20b : Hid (∀ W l, Its w0 (.book w0.heap.size gb Hc B :: l) W → Calls Try.prog 20 #[.pointer (some ⟨gb, 0, none⟩), .int .i64 s] W fun q w' => ∃ a' c', q = .returned (.slice a' ns c') ∧ Its w0 (.ints w0.heap.size (.slice a' ns c') (A.sv s) :: .book w0.heap.size gb Hc B :: l) w') := hide (fun W l h => by have := servedS (n := ns) h (i64_small (x := s) (by have := HS.out; omega) (by have := HS.out; omega)) (by have := HL.out; omega) (by rw [hsv]; exact hns); rwa [hsv] at this)
              have K21 : Hid (∀ W (a b : Option Addr) (c d : Nat), intE.Rd W (.slice a ns c) (A.sv s) → intE.Rd W (.slice b ns d) (A.sv s) → Calls Try.prog 21 #[.slice a ns c, .slice b ns d] W fun e w' => e = .returned (.bool true) ∧ ∃ q, w' = W.drewN q) := hide (fun W a b c d h1 h2 => ints_eq a b c d ns _ W hns h1 h2 (by omega))
              have heq := fun W => rq_equal W (⟨f1, f2, f3⟩ : Rq) ⟨f1, f2, f3⟩
              simp only [decide_true] at heq
              have b9 : (fb != fb) = false := bne_self_eq_false _
              clear hfb hns hns2 hsv ef
              go_upto_region 42 with (go_at_call 22; refine (K22a.out _ _ HI.out).mono ?_; rintro e W7 ⟨rfl, hg⟩; have HI7 := hide (hg.new (x := .box W7.heap.size #[.int .i64 f1, .int .i64 f2, .int .i64 f3] 31) (heap_new W7 _) (fun k hk => by cases hk; exact Nat.le_refl _) (below_new W7 _)); clear hg)
              generalize W7.alloc (.cells #[.int .i64 f1, .int .i64 f2, .int .i64 f3] 31) = W8 at *
              generalize W7.heap.size = b20 at *
              go_upto_region 43 with (go_at_call 22; refine (K22b.out _ _ HI7.out.rot3).mono ?_; rintro e W9 ⟨rfl, hg⟩; have HI9 := hide (hg.new (x := .box W9.heap.size #[.int .i64 f1, .int .i64 f2, .int .i64 f3] 31) (heap_new W9 _) (fun k hk => by cases hk; exact Nat.le_refl _) (below_new W9 _)); clear hg)
              generalize W9.alloc (.cells #[.int .i64 f1, .int .i64 f2, .int .i64 f3] 31) = W10 at *
              generalize W9.heap.size = b22 at *
              have p0 : W10.cell? ⟨b22, 0, none⟩ = some (.int .i64 f1) := (cells_at HI9.out.one 0).1
              have p1 : W10.cell? ⟨b22, 1, none⟩ = some (.int .i64 f2) := (cells_at HI9.out.one 1).1
              have p2 : W10.cell? ⟨b22, 2, none⟩ = some (.int .i64 f3) := (cells_at HI9.out.one 2).1
              have p3 : W10.cell? ⟨b20, 0, none⟩ = some (.int .i64 f1) := (cells_at HI9.out.three 0).1
              have p4 : W10.cell? ⟨b20, 1, none⟩ = some (.int .i64 f2) := (cells_at HI9.out.three 1).1
              have p5 : W10.cell? ⟨b20, 2, none⟩ = some (.int .i64 f3) := (cells_at HI9.out.three 2).1
              have HI10 := hide (HI9.out.tail.swap.tail.swap)
              clear HI7 HI9 HI
              go_wp2_with (first
                | (go_at_call 21; refine (K21.out _ _ _ _ _ (El.Own.rd HI12.out.three) (El.Own.rd HI12.out.one)).mono ?_; rintro e W13 ⟨rfl, q13, rfl⟩; have HI13 := hide ((HI12.out.drew q13).tail.swap.tail.swap))
                | (go_at_call 20; refine (K20b.out _ _ HI11.out.rot3).mono ?_; rintro e W12 ⟨a12, c12, rfl, hg⟩; have HI12 := hide hg; clear hg)
                | (go_at_call 20; refine (K20a.out _ _ HI10.out).mono ?_; rintro e W11 ⟨a11, c11, rfl, hg⟩; have HI11 := hide hg; clear hg))
              go_roundw
              case rel => exact ⟨i + 1, A, B, mine, Ha, Hc, a7, n7, c7, rfl, by go_num, by omega, by omega, HL, HA, HI13⟩
              case measure => simp [intOf]; omega
      · have q1 : ¬ (i : Int) < 80 := by omega
        go_wp2_with fail
        go_ret
        exact ⟨rfl, HI.out.bel⟩
    · have q0 : ¬ (i : Int) < (m : Int) := by omega
      go_wp2_with fail
      go_ret
      exact ⟨rfl, HI.out.bel⟩
end Go.Proofs.Ytfmpipihjnpimaa
