/- BookPlays, the walk. -/
import Derived.Test.YtfmpipihjnpimaaBrt
import Derived.Deep.CutBlock
namespace Go.Proofs.Ytfmpipihjnpimaa
open Go.RowKit
set_option linter.unusedVariables false

set_option maxRecDepth 100000 in
set_option maxHeartbeats 16000000 in
theorem plays_walk (a : Option Addr) (m c : Nat) (zs : List Op) (w : World) (hm : zs.length = m) (hv : Ops w (.slice a m c) zs) : Calls Try.prog 3 #[.slice a m c] w fun e w' => e = .returned (.bool true) ∧ Below w.heap.size w w' := by
  obtain ⟨w0, rfl⟩ : ∃ w0, w0 = w := ⟨_, rfl⟩
  have KA := hide awake_any
  have KN := hide (new_any w0 w0 [] (Its.nil w0))
  have HZ : Hid (∀ (i : Nat), i < m → ∃ (b off : Nat) (kd x st tt : Int), a = some ⟨b, off, none⟩ ∧ I64 x ∧ I64 st ∧ ∀ W, Below w0.heap.size w0 W → W.cell? ⟨b, off + i * 4, none⟩ = some (.int .i64 kd) ∧ W.cell? ⟨b, off + i * 4 + 1, none⟩ = some (.int .i64 x) ∧ W.cell? ⟨b, off + i * 4 + 2, none⟩ = some (.int .i64 st) ∧ W.cell? ⟨b, off + i * 4 + 3, none⟩ = some (.int .i64 tt)) := hide (fun i hi => ops_in hm hv i hi)
  clear hv hm
  go_enter Try.func3, Try.ntmps3
  go_upto_region 5 with (first
    | (go_at_call 8; refine KN.out.mono ?_; rintro e W1 ⟨g, H1, rfl, hg⟩; have HG1 := hide hg; clear hg)
    | (go_at_call 9; refine (KA.out _).mono ?_; rintro e W3 ⟨rfl, hb1⟩; have HG3 := hide (HG1.out.keep hb1); clear hb1))
  have HG4 : Hid (Its w0 (.box W3.heap.size #[.slice none 0 0, .slice none 0 0] 29 :: .book w0.heap.size g H1 Bk.new :: []) (W3.alloc (.cells #[.slice none 0 0, .slice none 0 0] 29))) := hide (HG3.out.boxN _ 29 rfl)
  generalize W3.alloc (.cells #[.slice none 0 0, .slice none 0 0] 29) = W4 at *
  generalize W3.heap.size = bm at *
  have HG5 : Hid (Its w0 (.row enE w0.heap.size (.slice none 0 0) [] :: .ints w0.heap.size (.slice none 0 0) [] :: .box bm #[.slice none 0 0, .slice none 0 0] 29 :: .book w0.heap.size g H1 Bk.new :: []) W4) := hide ((HG4.out.empty intE).empty enE)
  clear KA KN HG1 HG3 HG4
  go_wp2_with fail
  go_loopw [5] (fun v5 wr => ∃ (i : Nat) (S : Bk) (H : Hb) (aA : Option Addr) (nA cA : Nat) (aD : Option Addr) (nD cD : Nat), v5 = .int .i64 i ∧ i ≤ 120 ∧ i ≤ m ∧ Hid (S.all.length ≤ i ∧ S.done.length ≤ i ∧ S.all.length = nA ∧ S.done.length = nD) ∧ Hid (Its w0 (.book w0.heap.size g H S :: .box bm #[.slice aA nA cA, .slice aD nD cD] 29 :: .row enE w0.heap.size (.slice aA nA cA) S.all :: .ints w0.heap.size (.slice aD nD cD) S.done :: []) wr)) (fun v5 _ => 120 - (intOf v5).toNat)
  case atStart => exact ⟨0, Bk.new, H1, none, 0, 0, none, 0, 0, rfl, by omega, by omega, hide ⟨Nat.le_refl _, Nat.le_refl _, rfl, rfl⟩, hide (HG5.out.rot3.rot4)⟩
  case round =>
    obtain ⟨i, S, H, aA, nA, cA, aD, nD, cD, rfl, hi, him, HL, HI⟩ := hrel
    by_cases hlt : i < m
    · have q0 : (i : Int) < (m : Int) := by omega
      by_cases h80 : i < 120
      · have q1 : (i : Int) < 120 := by omega
        have q2 : (0 : Int) ≤ (i : Int) := by omega
        obtain ⟨b, off, kd, x, st, tt, rfl, hx, hst, hz⟩ := HZ.out i hlt
        have Hx := hide hx
        have Hst := hide hst
        obtain ⟨z0, z1, z2, z3⟩ := hz wr HI.out.bel
        clear hz hx hst hlt
        go_upto_region 9 with fail
        have HI1 : Hid (Its w0 (.book w0.heap.size g H S :: .box bm #[.slice aA nA cA, .slice aD nD cD] 29 :: .row enE w0.heap.size (.slice aA nA cA) S.all :: .ints w0.heap.size (.slice aD nD cD) S.done :: .box wr.heap.size #[.int .i64 kd, .int .i64 x, .int .i64 st, .int .i64 tt] 33 :: []) (wr.alloc (.cells #[.int .i64 kd, .int .i64 x, .int .i64 st, .int .i64 tt] 33))) := hide (HI.out.boxN #[.int .i64 kd, .int .i64 x, .int .i64 st, .int .i64 tt] 33 rfl).rot5'
        generalize wr.alloc (.cells #[.int .i64 kd, .int .i64 x, .int .i64 st, .int .i64 tt] 33) = W1 at *
        generalize wr.heap.size = bo at *
        clear z0 z1 z2 z3 HI
        have u0 : W1.cell? ⟨bo, 0, none⟩ = some (.int .i64 kd) := (cells_at HI1.out.tail.four 0).1
        go_upto_block 2 with fail
        go_cut [5, 7, 8, 9, 10] (fun v5 v7 v8 v9 v10 wx => ∃ (S : Bk) (H : Hb) (aA : Option Addr) (nA cA : Nat) (aD : Option Addr) (nD cD : Nat) (y : Bool) (e : Int), v5 = .int .i64 i ∧ v7 = .bool y ∧ v8 = .bool y ∧ v9 = .int .i64 e ∧ v10 = .int .i64 e ∧ Hid (S.all.length ≤ i + 1 ∧ S.done.length ≤ i + 1 ∧ S.all.length = nA ∧ S.done.length = nD) ∧ Hid (Its w0 (.book w0.heap.size g H S :: .box bm #[.slice aA nA cA, .slice aD nD cD] 29 :: .row enE w0.heap.size (.slice aA nA cA) S.all :: .ints w0.heap.size (.slice aD nD cD) S.done :: .box bo #[.int .i64 kd, .int .i64 x, .int .i64 st, .int .i64 tt] 33 :: []) wx))
        case first =>
          by_cases k1 : kd = 1
          · subst k1
            have HBX : Hid (∀ W : World, W.heap[bo]? = some (.cells #[.int .i64 1, .int .i64 x, .int .i64 st, .int .i64 tt] 33) → W.cell? ⟨bo, 1, none⟩ = some (.int .i64 x) ∧ W.cell? ⟨bo, 2, none⟩ = some (.int .i64 st) ∧ W.cell? ⟨bo, 3, none⟩ = some (.int .i64 tt)) := hide (fun W h => ⟨(cells_at h 1).1, (cells_at h 2).1, (cells_at h 3).1⟩)
            have HMX : Hid (∀ W : World, W.heap[bm]? = some (.cells #[.slice aA nA cA, .slice aD nD cD] 29) → W.cell? ⟨bm, 0, none⟩ = some (.slice aA nA cA) ∧ W.cell? ⟨bm, 1, none⟩ = some (.slice aD nD cD) ∧ ∀ i, W.frozen? ⟨bm, i, none⟩ = false) := hide (fun W h => ⟨(cells_at h 0).1, (cells_at h 1).1, fun i => (cells_at h i).2⟩)
            obtain ⟨v1, v2, v3⟩ := HBX.out W1 HI1.out.tail.four
            obtain ⟨m1, m2, m3⟩ := HMX.out W1 HI1.out.two
            obtain ⟨y, hy⟩ : ∃ y, S.adY ⟨x, st, tt⟩ = y := ⟨_, rfl⟩
            obtain ⟨e, he⟩ : ∃ e, S.adC ⟨x, st, tt⟩ = e := ⟨_, rfl⟩
            have hsz := S.size_ad ⟨x, st, tt⟩
            have hclr := True.intro
            have HLn : Hid ((S.ad ⟨x, st, tt⟩).all.length ≤ i + 1 ∧ (S.ad ⟨x, st, tt⟩).done.length ≤ i + 1) := hide (by have := HL.out; rw [hsz.2]; omega)
            have K1 : Hid (∀ W l, Its w0 (.book w0.heap.size g H S :: l) W → Calls Try.prog 10 #[.pointer (some ⟨g, 0, none⟩), .agg #[.int .i64 x, .int .i64 st, .int .i64 tt]] W fun q w' => q = .returned (.tuple #[.bool y, .int .i64 e]) ∧ ∃ H', Its w0 (.book w0.heap.size g H' (S.ad ⟨x, st, tt⟩) :: l) w') := hide (fun W l h => addS ⟨x, st, tt⟩ h Hx.out (by have := HL.out; omega) ⟨hy, he⟩ rfl)
            have K2 : Hid (∀ W l, Its w0 (.row enE w0.heap.size (.slice aA nA cA) S.all :: .ints w0.heap.size (.slice aD nD cD) S.done :: l) W → Calls Try.prog 11 #[.agg #[.slice aA nA cA, .slice aD nD cD], .agg #[.int .i64 x, .int .i64 st, .int .i64 tt]] W fun r w' => ∃ (a5 : Option Addr) (n5 c5 : Nat) (a6 : Option Addr) (n6 c6 : Nat), r = .returned (.tuple #[.agg #[.slice a5 n5 c5, .slice a6 n6 c6], .bool y, .int .i64 e]) ∧ (S.ad ⟨x, st, tt⟩).all.length = n5 ∧ (S.ad ⟨x, st, tt⟩).done.length = n6 ∧ Its w0 (.row enE w0.heap.size (.slice a5 n5 c5) (S.ad ⟨x, st, tt⟩).all :: .ints w0.heap.size (.slice a6 n6 c6) (S.ad ⟨x, st, tt⟩).done :: l) w') := hide (fun W l h => by
              have hk := radd_any (aD := aD) (nD := nD) (cD := cD) S ⟨x, st, tt⟩ W (bk_lie HI1.out.one).1 ⟨HL.out.2.2.1, HL.out.2.2.2⟩ (El.Own.rd h.one) (by have := HL.out; omega); rw [hy, he] at hk
              refine hk.mono ?_
              rintro r w' ⟨a5, n5, c5, a6, n6, c6, rfl, h5, h6, hd⟩
              exact ⟨a5, n5, c5, a6, n6, c6, rfl, h5, h6, hd.its h⟩)
            generalize S.ad ⟨x, st, tt⟩ = S1 at *
            clear u0 hclr hy he hsz
            go_wp2_with (first
              | (go_at_call 11; refine (K2.out _ _ HI2m.out).mono ?_; rintro e W3 ⟨a5, n5, c5, a6, n6, c6, rfl, h5, h6, hg⟩; have HI3 := hide hg.rot4; have Hn5 : Hid (S1.all.length = n5 ∧ S1.done.length = n6) := hide ⟨h5, h6⟩; clear hg h5 h6; obtain ⟨m1, m2, m3⟩ := HMX.out W3 HI3.out.one)
              | (go_at_call 10; refine (K1.out _ _ HI1.out).mono ?_; rintro e W2 ⟨rfl, H2, hg⟩; have HI2 := hide hg; clear hg; obtain ⟨v1, v2, v3⟩ := HBX.out W2 HI2.out.tail.four; obtain ⟨m1, m2, m3⟩ := HMX.out W2 HI2.out.two; have HI2m := hide HI2.out.rot4.rot4))
            have HI4 := hide (HI3.out.out2 (.slice a5 n5 c5) (.slice a6 n6 c6))
            go_meet
            exact ⟨S1, H2, a5, n5, c5, a6, n6, c6, y, e, rfl, rfl, rfl, rfl, rfl, hide ⟨HLn.out.1, HLn.out.2, Hn5.out.1, Hn5.out.2⟩, hide HI4.out.rot4⟩
          by_cases k2 : kd = 2
          · subst k2
            clear k1
            have HBX : Hid (∀ W : World, W.heap[bo]? = some (.cells #[.int .i64 2, .int .i64 x, .int .i64 st, .int .i64 tt] 33) → W.cell? ⟨bo, 1, none⟩ = some (.int .i64 x) ∧ W.cell? ⟨bo, 2, none⟩ = some (.int .i64 st) ∧ W.cell? ⟨bo, 3, none⟩ = some (.int .i64 tt)) := hide (fun W h => ⟨(cells_at h 1).1, (cells_at h 2).1, (cells_at h 3).1⟩)
            have HMX : Hid (∀ W : World, W.heap[bm]? = some (.cells #[.slice aA nA cA, .slice aD nD cD] 29) → W.cell? ⟨bm, 0, none⟩ = some (.slice aA nA cA) ∧ W.cell? ⟨bm, 1, none⟩ = some (.slice aD nD cD) ∧ ∀ i, W.frozen? ⟨bm, i, none⟩ = false) := hide (fun W h => ⟨(cells_at h 0).1, (cells_at h 1).1, fun i => (cells_at h i).2⟩)
            obtain ⟨v1, v2, v3⟩ := HBX.out W1 HI1.out.tail.four
            obtain ⟨m1, m2, m3⟩ := HMX.out W1 HI1.out.two
            obtain ⟨y, hy⟩ : ∃ y, S.caY x = y := ⟨_, rfl⟩
            obtain ⟨e, he⟩ : ∃ e, S.caC x = e := ⟨_, rfl⟩
            have hsz := S.size_ca x
            have hclr := True.intro
            have HLn : Hid ((S.ca x).all.length ≤ i + 1 ∧ (S.ca x).done.length ≤ i + 1) := hide (by have := HL.out; rw [hsz.1, hsz.2]; omega)
            have K1 : Hid (∀ W l, Its w0 (.book w0.heap.size g H S :: l) W → Calls Try.prog 12 #[.pointer (some ⟨g, 0, none⟩), .int .i64 x] W fun q w' => q = .returned (.tuple #[.bool y, .int .i64 e]) ∧ ∃ H', Its w0 (.book w0.heap.size g H' (S.ca x) :: l) w') := hide (fun W l h => cancelS h Hx.out ⟨hy, he⟩ rfl)
            have K2 : Hid (∀ W l, Its w0 (.row enE w0.heap.size (.slice aA nA cA) S.all :: .ints w0.heap.size (.slice aD nD cD) S.done :: l) W → Calls Try.prog 13 #[.agg #[.slice aA nA cA, .slice aD nD cD], .int .i64 x] W fun r w' => ∃ (a5 : Option Addr) (n5 c5 : Nat) (a6 : Option Addr) (n6 c6 : Nat), r = .returned (.tuple #[.agg #[.slice a5 n5 c5, .slice a6 n6 c6], .bool y, .int .i64 e]) ∧ (S.ca x).all.length = n5 ∧ (S.ca x).done.length = n6 ∧ Its w0 (.row enE w0.heap.size (.slice a5 n5 c5) (S.ca x).all :: .ints w0.heap.size (.slice a6 n6 c6) (S.ca x).done :: l) w') := hide (fun W l h => by
              have hk := rcancel_any (aD := aD) (nD := nD) (cD := cD) S x W (bk_lie HI1.out.one).1 ⟨HL.out.2.2.1, HL.out.2.2.2⟩ (El.Own.rd h.one) (by have := HL.out; omega); rw [hy, he] at hk
              refine hk.mono ?_
              rintro r w' ⟨a5, n5, c5, a6, n6, c6, rfl, h5, h6, hd⟩
              exact ⟨a5, n5, c5, a6, n6, c6, rfl, h5, h6, hd.its h⟩)
            generalize S.ca x = S1 at *
            clear u0 hclr hy he hsz
            go_wp2_with (first
              | (go_at_call 13; refine (K2.out _ _ HI2m.out).mono ?_; rintro e W3 ⟨a5, n5, c5, a6, n6, c6, rfl, h5, h6, hg⟩; have HI3 := hide hg.rot4; have Hn5 : Hid (S1.all.length = n5 ∧ S1.done.length = n6) := hide ⟨h5, h6⟩; clear hg h5 h6; obtain ⟨m1, m2, m3⟩ := HMX.out W3 HI3.out.one)
              | (go_at_call 12; refine (K1.out _ _ HI1.out).mono ?_; rintro e W2 ⟨rfl, H2, hg⟩; have HI2 := hide hg; clear hg; obtain ⟨v1, v2, v3⟩ := HBX.out W2 HI2.out.tail.four; obtain ⟨m1, m2, m3⟩ := HMX.out W2 HI2.out.two; have HI2m := hide HI2.out.rot4.rot4))
            have HI4 := hide (HI3.out.out2 (.slice a5 n5 c5) (.slice a6 n6 c6))
            go_meet
            exact ⟨S1, H2, a5, n5, c5, a6, n6, c6, y, e, rfl, rfl, rfl, rfl, rfl, hide ⟨HLn.out.1, HLn.out.2, Hn5.out.1, Hn5.out.2⟩, hide HI4.out.rot4⟩
          by_cases k3 : kd = 3
          · subst k3
            clear k1 k2
            have HBX : Hid (∀ W : World, W.heap[bo]? = some (.cells #[.int .i64 3, .int .i64 x, .int .i64 st, .int .i64 tt] 33) → W.cell? ⟨bo, 1, none⟩ = some (.int .i64 x) ∧ W.cell? ⟨bo, 2, none⟩ = some (.int .i64 st) ∧ W.cell? ⟨bo, 3, none⟩ = some (.int .i64 tt)) := hide (fun W h => ⟨(cells_at h 1).1, (cells_at h 2).1, (cells_at h 3).1⟩)
            have HMX : Hid (∀ W : World, W.heap[bm]? = some (.cells #[.slice aA nA cA, .slice aD nD cD] 29) → W.cell? ⟨bm, 0, none⟩ = some (.slice aA nA cA) ∧ W.cell? ⟨bm, 1, none⟩ = some (.slice aD nD cD) ∧ ∀ i, W.frozen? ⟨bm, i, none⟩ = false) := hide (fun W h => ⟨(cells_at h 0).1, (cells_at h 1).1, fun i => (cells_at h i).2⟩)
            obtain ⟨v1, v2, v3⟩ := HBX.out W1 HI1.out.tail.four
            obtain ⟨m1, m2, m3⟩ := HMX.out W1 HI1.out.two
            obtain ⟨e, he⟩ : ∃ e, S.seC x = e := ⟨_, rfl⟩
            have hsz := S.size_se x
            have hclr := True.intro
            have HLn : Hid ((S.se x).all.length ≤ i + 1 ∧ (S.se x).done.length ≤ i + 1) := hide (by have := HL.out; omega)
            have K1 : Hid (∀ W l, Its w0 (.book w0.heap.size g H S :: l) W → Calls Try.prog 14 #[.pointer (some ⟨g, 0, none⟩), .int .i64 x] W fun q w' => q = .returned (.int .i64 e) ∧ ∃ H', Its w0 (.book w0.heap.size g H' (S.se x) :: l) w') := hide (fun W l h => serveS h Hx.out (by have := HL.out; omega) he rfl)
            have K2 : Hid (∀ W l, Its w0 (.row enE w0.heap.size (.slice aA nA cA) S.all :: .ints w0.heap.size (.slice aD nD cD) S.done :: l) W → Calls Try.prog 15 #[.agg #[.slice aA nA cA, .slice aD nD cD], .int .i64 x] W fun r w' => ∃ (a5 : Option Addr) (n5 c5 : Nat) (a6 : Option Addr) (n6 c6 : Nat), r = .returned (.tuple #[.agg #[.slice a5 n5 c5, .slice a6 n6 c6], .int .i64 e]) ∧ (S.se x).all.length = n5 ∧ (S.se x).done.length = n6 ∧ Its w0 (.row enE w0.heap.size (.slice a5 n5 c5) (S.se x).all :: .ints w0.heap.size (.slice a6 n6 c6) (S.se x).done :: l) w') := hide (fun W l h => by
              have hk := rserve_any (aD := aD) (nD := nD) (cD := cD) S x W (bk_lie HI1.out.one).1 ⟨HL.out.2.2.1, HL.out.2.2.2⟩ (El.Own.rd h.one) (El.Own.rd h.two) (by have := HL.out; omega); rw [he] at hk
              refine hk.mono ?_
              rintro r w' ⟨a5, n5, c5, a6, n6, c6, rfl, h5, h6, hd⟩
              exact ⟨a5, n5, c5, a6, n6, c6, rfl, h5, h6, hd.its h⟩)
            generalize S.se x = S1 at *
            clear u0 hclr he hsz
            go_wp2_with (first
              | (go_at_call 15; refine (K2.out _ _ HI2m.out).mono ?_; rintro e W3 ⟨a5, n5, c5, a6, n6, c6, rfl, h5, h6, hg⟩; have HI3 := hide hg.rot4; have Hn5 : Hid (S1.all.length = n5 ∧ S1.done.length = n6) := hide ⟨h5, h6⟩; clear hg h5 h6; obtain ⟨m1, m2, m3⟩ := HMX.out W3 HI3.out.one)
              | (go_at_call 14; refine (K1.out _ _ HI1.out).mono ?_; rintro e W2 ⟨rfl, H2, hg⟩; have HI2 := hide hg; clear hg; obtain ⟨v1, v2, v3⟩ := HBX.out W2 HI2.out.tail.four; obtain ⟨m1, m2, m3⟩ := HMX.out W2 HI2.out.two; have HI2m := hide HI2.out.rot4.rot4))
            have HI4 := hide (HI3.out.out2 (.slice a5 n5 c5) (.slice a6 n6 c6))
            go_meet
            exact ⟨S1, H2, a5, n5, c5, a6, n6, c6, false, e, rfl, rfl, rfl, rfl, rfl, hide ⟨HLn.out.1, HLn.out.2, Hn5.out.1, Hn5.out.2⟩, hide HI4.out.rot4⟩
          have r1 : (kd == 1) = false := beq_eq_false_iff_ne.2 k1
          have r2 : (kd == 2) = false := beq_eq_false_iff_ne.2 k2
          have r3 : (kd == 3) = false := beq_eq_false_iff_ne.2 k3
          clear k1 k2 k3
          go_wp2_with fail
          go_meet
          exact ⟨S, H, aA, nA, cA, aD, nD, cD, false, 0, rfl, rfl, rfl, rfl, rfl, hide (by have := HL.out; omega), HI1⟩
        case rest =>
          obtain ⟨S, H, aA, nA, cA, aD, nD, cD, y, e, rfl, rfl, rfl, rfl, rfl, HL, HI6⟩ := hcut
          obtain ⟨wB, rfl⟩ : ∃ W, W = wc := ⟨_, rfl⟩
          obtain ⟨sx, hsx⟩ : ∃ sx, S.sta x = sx := ⟨_, rfl⟩
          have K16 : Hid (∀ W l, Its w0 (.book w0.heap.size g H S :: l) W → Calls Try.prog 16 #[.pointer (some ⟨g, 0, none⟩), .int .i64 x] W fun q w' => q = .returned (.int .i64 sx) ∧ w' = W) := hide (fun W l h => stateS h Hx.out hsx)
          have K17 : Hid (∀ W l, Its w0 l W → enE.Rd W (.slice aA nA cA) S.all → Calls Try.prog 17 #[.agg #[.slice aA nA cA, .slice aD nD cD], .int .i64 x] W fun q w' => q = .returned (.int .i64 sx) ∧ Its w0 l w') := hide (fun W l h hv => by
            have := rstate_any (aD := aD) (nD := nD) (cD := cD) S.all S.done x W HL.out.2.2.1 hv (by have := HL.out; omega)
            refine this.mono ?_
            rintro r w' ⟨rfl, hb⟩
            rw [show Bk.sta ⟨S.all, S.done⟩ x = sx from hsx]
            exact ⟨rfl, h.keep hb⟩)
          have K18 : Hid (∀ W, Its w0 (.book w0.heap.size g H S :: .box bm #[.slice aA nA cA, .slice aD nD cD] 29 :: .row enE w0.heap.size (.slice aA nA cA) S.all :: .ints w0.heap.size (.slice aD nD cD) S.done :: .box bo #[.int .i64 kd, .int .i64 x, .int .i64 st, .int .i64 tt] 33 :: []) W → Calls Try.prog 18 #[.pointer (some ⟨g, 0, none⟩), .agg #[.slice aA nA cA, .slice aD nD cD]] W fun r w' => r = .returned (.bool true) ∧ Its w0 (.book w0.heap.size g H S :: .box bm #[.slice aA nA cA, .slice aD nD cD] 29 :: .row enE w0.heap.size (.slice aA nA cA) S.all :: .ints w0.heap.size (.slice aD nD cD) S.done :: .box bo #[.int .i64 kd, .int .i64 x, .int .i64 st, .int .i64 tt] 33 :: []) w') := hide (fun W h => by
            have h1 : Its w0 (.book w0.heap.size g H S :: .row enE w0.heap.size (.slice aA nA cA) S.all :: .ints w0.heap.size (.slice aD nD cD) S.done :: .box bm #[.slice aA nA cA, .slice aD nD cD] 29 :: .box bo #[.int .i64 kd, .int .i64 x, .int .i64 st, .int .i64 tt] 33 :: []) W := h.swap.rot4'
            refine (tells_any h1 ⟨HL.out.2.2.1, HL.out.2.2.2⟩ (by have := HL.out; omega)).mono ?_
            rintro r w' ⟨rfl, h2⟩
            exact ⟨rfl, h2.rot4.swap⟩)
          have HSS : Hid (∀ W : World, W.heap[bo]? = some (.cells #[.int .i64 kd, .int .i64 x, .int .i64 st, .int .i64 tt] 33) → W.heap[bm]? = some (.cells #[.slice aA nA cA, .slice aD nD cD] 29) → (fun W : World => W.heap[bo]? = some (.cells #[.int .i64 kd, .int .i64 x, .int .i64 st, .int .i64 tt] 33) ∧ W.heap[bm]? = some (.cells #[.slice aA nA cA, .slice aD nD cD] 29)) W) := hide (fun W h1 h2 => ⟨h1, h2⟩)
          have HI6d := hide (HI6.out.drew 1)
          have hS6 := HSS.out wB.drew HI6d.out.tail.four HI6d.out.two
          have b1 : (y != y) = false := bne_self_eq_false _
          have b2 : (e != e) = false := bne_self_eq_false _
          have b3 : (sx != sx) = false := bne_self_eq_false _
          obtain ⟨no, hno⟩ : ∃ no, (ops S.all).length = no := ⟨_, rfl⟩
          obtain ⟨ns, hns⟩ : ∃ ns, (S.sv st).length = ns := ⟨_, rfl⟩
          have hns2 : ns ≤ 1000 := by
            have : (S.sv st).length ≤ S.done.length := List.length_filter_le _ _
            have := HL.out
            omega
          have hno2 : no ≤ 30 := by rw [← hno]; exact (bk_lie HI6.out.one).1.few
          have K19 : Hid (∀ W l, Its w0 (.book w0.heap.size g H S :: l) W → Calls Try.prog 19 #[.pointer (some ⟨g, 0, none⟩)] W fun q w' => ∃ a' c', q = .returned (.slice a' no c') ∧ Its w0 (.row rqE w0.heap.size (.slice a' no c') (ops S.all) :: .book w0.heap.size g H S :: l) w') := hide (fun W l h => openS h hno)
          have K20 : Hid (∀ W l, Its w0 (.book w0.heap.size g H S :: l) W → Calls Try.prog 20 #[.pointer (some ⟨g, 0, none⟩), .int .i64 st] W fun q w' => ∃ a' c', q = .returned (.slice a' ns c') ∧ Its w0 (.ints w0.heap.size (.slice a' ns c') (S.sv st) :: .book w0.heap.size g H S :: l) w') := hide (fun W l h => servedS h Hst.out (by have := HL.out; omega) hns)
          have i1 : (no : Int) ≤ 30 := by omega
          have i2 : (ns : Int) ≤ 1000 := by omega
          have Hno := hide hno
          have Hns := hide hns
          clear hsx hno hns hns2 hno2
          go_upto_region 21 with fail
          refine wp_region_held_drew (S := (fun W : World => W.heap[bo]? = some (.cells #[.int .i64 kd, .int .i64 x, .int .i64 st, .int .i64 tt] 33) ∧ W.heap[bm]? = some (.cells #[.slice aA nA cA, .slice aD nD cD] 29))) (by kernel_rfl) hS6 (fun hS => ?_)
          refine wpAnyH_take (i := 0) (v := .bool y) rfl (by kernel_rfl) (by kernel_rfl) (by kernel_rfl) (fun _ _ _ h => h) (Or.inl ⟨by kernel_rfl, fun W' hW => by go_simp⟩) hS ?_
          refine wpAnyH_take (i := 1) (v := .bool y) rfl (by kernel_rfl) (by kernel_rfl) (by kernel_rfl) (fun _ _ _ h => h) (Or.inl ⟨by kernel_rfl, fun W' hW => by go_simp⟩) hS ?_
          refine wpAnyH_take (i := 2) (v := .bool false) rfl (by kernel_rfl) (by kernel_rfl) (by kernel_rfl) (fun _ _ _ h => h) (Or.inl ⟨by kernel_rfl, fun W' hW => by go_simp⟩) hS ?_
          refine wpAnyH_take (i := 3) (v := .bool false) rfl (by kernel_rfl) (by kernel_rfl) (by kernel_rfl) (fun _ _ _ h => h) (Or.inl ⟨by kernel_rfl, fun W' hW => by go_simp⟩) hS ?_
          refine wpAnyH_take (i := 4) (v := .int .i64 e) rfl (by kernel_rfl) (by kernel_rfl) (by kernel_rfl) (fun _ _ _ h => h) (Or.inl ⟨by kernel_rfl, fun W' hW => by go_simp⟩) hS ?_
          refine wpAnyH_take (i := 5) (v := .int .i64 e) rfl (by kernel_rfl) (by kernel_rfl) (by kernel_rfl) (fun _ _ _ h => h) (Or.inl ⟨by kernel_rfl, fun W' hW => by go_simp⟩) hS ?_
          refine wpAnyH_take (i := 6) (v := .bool false) rfl (by kernel_rfl) (by kernel_rfl) (by kernel_rfl) (fun _ _ _ h => h) (Or.inl ⟨by kernel_rfl, fun W' hW => by go_simp⟩) hS ?_
          refine wpAnyH_take (i := 7) (v := .bool false) rfl (by kernel_rfl) (by kernel_rfl) (by kernel_rfl) (fun _ _ _ h => h) (Or.inl ⟨by kernel_rfl, fun W' hW => by go_simp⟩) hS ?_
          refine wpAnyH_take (i := 8) (v := .bool false) rfl (by kernel_rfl) (by kernel_rfl) (by kernel_rfl) (fun _ _ _ h => h) (Or.inl ⟨by kernel_rfl, fun W' hW => by go_simp⟩) hS ?_
          refine wpAnyH_take (i := 9) (v := .pointer (some ⟨g, 0, none⟩)) rfl (by kernel_rfl) (by kernel_rfl) (by kernel_rfl) (fun _ _ _ h => h) (Or.inl ⟨by kernel_rfl, fun W' hW => by go_simp⟩) hS ?_
          refine wpAnyH_take (i := 10) (v := .pointer (some ⟨bo, 1, none⟩)) rfl (by kernel_rfl) (by kernel_rfl) (by kernel_rfl) (fun _ _ _ h => h) (Or.inl ⟨by kernel_rfl, fun W' hW => by go_simp⟩) hS ?_
          refine wpAnyH_take (i := 11) (v := .pointer (some ⟨bo, 1, none⟩)) rfl (by kernel_rfl) (by kernel_rfl) (by kernel_rfl) (fun _ _ _ h => h) (Or.inl ⟨by kernel_rfl, fun W' hW => by go_simp⟩) hS ?_
          refine wpAnyH_take (i := 12) (v := .int .i64 x) rfl (by kernel_rfl) (by kernel_rfl) (by kernel_rfl) (fun _ _ _ h => h) (Or.inl ⟨by kernel_rfl, fun W' hW => by have z0 := (cells_at hW.1 1).1; go_simp⟩) hS ?_
          refine wpAnyH_take (i := 14) (v := .agg #[.slice aA nA cA, .slice aD nD cD]) rfl (by kernel_rfl) (by kernel_rfl) (by kernel_rfl) (fun _ _ _ h => h) (Or.inl ⟨by kernel_rfl, fun W' hW => by have z0 := (cells_at hW.2 0).1; have z1 := (cells_at hW.2 1).1; go_simp⟩) hS ?_
          refine wpAnyH_take (i := 15) (v := .pointer (some ⟨bo, 1, none⟩)) rfl (by kernel_rfl) (by kernel_rfl) (by kernel_rfl) (fun _ _ _ h => h) (Or.inl ⟨by kernel_rfl, fun W' hW => by go_simp⟩) hS ?_
          refine wpAnyH_take (i := 16) (v := .pointer (some ⟨bo, 1, none⟩)) rfl (by kernel_rfl) (by kernel_rfl) (by kernel_rfl) (fun _ _ _ h => h) (Or.inl ⟨by kernel_rfl, fun W' hW => by go_simp⟩) hS ?_
          refine wpAnyH_take (i := 17) (v := .int .i64 x) rfl (by kernel_rfl) (by kernel_rfl) (by kernel_rfl) (fun _ _ _ h => h) (Or.inl ⟨by kernel_rfl, fun W' hW => by have z0 := (cells_at hW.1 1).1; go_simp⟩) hS ?_
          refine wpAnyH_ready (rs := [13]) (by kernel_rfl) (by simp) ?_
          refine AllReadyH.cons rfl (fun K hK => ?_) AllReadyH.nil
          go_simp
          go_at_call 16
          refine (K16.out _ _ HI6d.out).mono ?_; rintro r W7 ⟨rfl, hw⟩; have hw' := hw.symm; clear hw; subst hw'
          go_simp
          refine hK.out _ _ hS (fun _ => ?_)
          clear hK K
          refine wpAnyH_ready (rs := [18]) (by kernel_rfl) (by simp) ?_
          refine AllReadyH.cons rfl (fun K hK => ?_) AllReadyH.nil
          go_simp
          go_at_call 17
          refine (K17.out _ _ HI6d.out (El.Own.rd HI6d.out.three)).mono ?_; rintro r W8 ⟨rfl, hg⟩; have HI8 := hide hg; clear hg
          have q8 := HSS.out W8 HI8.out.tail.four HI8.out.two
          go_simp
          refine hK.out _ _ q8 (fun _ => ?_)
          clear hK K
          refine wpAnyH_take (i := 19) (v := .bool false) rfl (by kernel_rfl) (by kernel_rfl) (by kernel_rfl) (fun _ _ _ h => h) (Or.inl ⟨by kernel_rfl, fun W' hW => by go_simp⟩) q8 ?_
          refine wpAnyH_take (i := 20) (v := .bool false) rfl (by kernel_rfl) (by kernel_rfl) (by kernel_rfl) (fun _ _ _ h => h) (Or.inl ⟨by kernel_rfl, fun W' hW => by go_simp⟩) q8 ?_
          refine wpAnyH_take (i := 21) (v := .bool false) rfl (by kernel_rfl) (by kernel_rfl) (by kernel_rfl) (fun _ _ _ h => h) (Or.inl ⟨by kernel_rfl, fun W' hW => by go_simp⟩) q8 ?_
          refine wpAnyH_take (i := 22) (v := .pointer (some ⟨g, 0, none⟩)) rfl (by kernel_rfl) (by kernel_rfl) (by kernel_rfl) (fun _ _ _ h => h) (Or.inl ⟨by kernel_rfl, fun W' hW => by go_simp⟩) q8 ?_
          refine wpAnyH_take (i := 23) (v := .agg #[.slice aA nA cA, .slice aD nD cD]) rfl (by kernel_rfl) (by kernel_rfl) (by kernel_rfl) (fun _ _ _ h => h) (Or.inl ⟨by kernel_rfl, fun W' hW => by have z0 := (cells_at hW.2 0).1; have z1 := (cells_at hW.2 1).1; go_simp⟩) q8 ?_
          refine wpAnyH_ready (rs := [24]) (by kernel_rfl) (by simp) ?_
          refine AllReadyH.cons rfl (fun K hK => ?_) AllReadyH.nil
          go_simp
          go_at_call 18
          refine (K18.out _ HI8.out).mono ?_; rintro r W9 ⟨rfl, hg⟩; have HI9 := hide hg; clear hg
          have q9 := HSS.out W9 HI9.out.tail.four HI9.out.two
          go_simp
          refine hK.out _ _ q9 (fun _ => ?_)
          clear hK K
          refine wpAnyH_take (i := 25) (v := .bool false) rfl (by kernel_rfl) (by kernel_rfl) (by kernel_rfl) (fun _ _ _ h => h) (Or.inl ⟨by kernel_rfl, fun W' hW => by go_simp⟩) q9 ?_
          refine wpAnyH_ready (rs := [26]) (by kernel_rfl) (by simp) ?_
          refine AllReadyH.cons rfl (fun K hK => ?_) AllReadyH.nil
          go_simp
          refine hK.out _ _ q9 (fun _ => ?_)
          clear hK K
          refine wpAnyH_done (by kernel_rfl) ?_ _
          clear HI6 HI6d hS6 hS q8 q9 K16 K17 K18 b1 b2 b3
          go_upto_region 24 with (go_at_call 19; refine (K19.out _ _ HI9.out).mono ?_; rintro r W10 ⟨a10, c10, rfl, hg⟩; have HI10 := hide hg; clear hg)
          go_wp2_with fail
          go_loopw [121] (fun v121 wr => ∃ (k : Nat) (rs : List Rq), v121 = .int .i64 k ∧ k ≤ no ∧ Hid (rs.length = no) ∧ Hid (Its w0 (.row rqE w0.heap.size (.slice a10 no c10) rs :: .book w0.heap.size g H S :: .box bm #[.slice aA nA cA, .slice aD nD cD] 29 :: .row enE w0.heap.size (.slice aA nA cA) S.all :: .ints w0.heap.size (.slice aD nD cD) S.done :: .box bo #[.int .i64 kd, .int .i64 x, .int .i64 st, .int .i64 tt] 33 :: []) wr)) (fun v121 _ => no - (intOf v121).toNat)
          case atStart => exact ⟨0, _, rfl, by omega, Hno, HI10⟩
          case round =>
            obtain ⟨k, rs, rfl, hk, Hr, HI⟩ := hrel
            by_cases hlt : k < no
            · obtain ⟨p, hp⟩ : ∃ p, rs[k]? = some p := ⟨_, List.getElem?_eq_getElem (by rw [Hr.out]; exact hlt)⟩
              obtain ⟨g10, cap10, hv10, _⟩ := El.Own.some HI.out.one (fun e => by rw [e] at hp; cases hp)
              simp only [Value.slice.injEq] at hv10
              obtain ⟨rfl, _, rfl⟩ := hv10
              obtain ⟨b4, off4, hb4, d0, _, _⟩ := rq_at (El.Own.rd HI.out.one) k p hp
              simp only [Option.some.injEq, Addr.mk.injEq, and_true] at hb4
              obtain ⟨rfl, rfl⟩ := hb4
              simp only [Nat.zero_add] at d0
              have hf : wr.frozen? ⟨g10, k * 3, none⟩ = false := (El.Own.cell HI.out.one (k * 3) (by rw [Hr.out]; show k * 3 < no * 3; omega)).2.1
              have j0 : (k : Int) < (no : Int) := by omega
              have j1 : (0 : Int) ≤ (k : Int) := by omega
              obtain ⟨nv, hnv⟩ : ∃ nv, wrap64 (p.id + 1) = nv := ⟨_, rfl⟩
              have HS : Hid (Its w0 (.row rqE w0.heap.size (.slice (some ⟨g10, 0, none⟩) no c10) (rs.set k ⟨nv, p.st, p.tt⟩) :: .book w0.heap.size g H S :: .box bm #[.slice aA nA cA, .slice aD nD cD] 29 :: .row enE w0.heap.size (.slice aA nA cA) S.all :: .ints w0.heap.size (.slice aD nD cD) S.done :: .box bo #[.int .i64 kd, .int .i64 x, .int .i64 st, .int .i64 tt] 33 :: []) (wr.setCell ⟨g10, k * 3, none⟩ (.int .i64 nv))) := hide (HI.out.chg (x' := .row rqE w0.heap.size (.slice (some ⟨g10, 0, none⟩) no c10) (rs.set k ⟨nv, p.st, p.tt⟩)) (own_setC (E := rqE) (j := 0) (x := p) (z := ⟨nv, p.st, p.tt⟩) (u := .int .i64 nv) HI.out.one hp (by decide) rfl) (fun k hk => .inl hk) ((Frm.set wr g10 (k * 3) _).mono fun k _ e => by show Option.some g10 = some k; rw [e]))
              have Hr2 : Hid ((rs.set k ⟨nv, p.st, p.tt⟩).length = no) := hide (by rw [List.length_set]; exact Hr.out)
              clear hp HI
              go_wp2_with fail
              go_roundw
              case rel => exact ⟨k + 1, _, by go_num, by omega, Hr2, HS⟩
              case measure => simp [intOf]; omega
            · have j0 : ¬ (k : Int) < (no : Int) := by omega
              have HI11 := hide HI.out.tail
              have w2 : wr.cell? ⟨bo, 2, none⟩ = some (.int .i64 st) := (cells_at HI11.out.tail.four 2).1
              clear HI
              go_upto_region 30 with (go_at_call 20; refine (K20.out _ _ HI11.out).mono ?_; rintro r W12 ⟨a12, c12, rfl, hg⟩; have HI12 := hide hg; clear hg)
              go_wp2_with fail
              obtain ⟨wC, rfl⟩ : ∃ W, W = wr := ⟨_, rfl⟩
              go_loopw [140] (fun v140 wr => ∃ (k : Nat) (rs : List Int), v140 = .int .i64 k ∧ k ≤ ns ∧ Hid (rs.length = ns) ∧ Hid (Its w0 (.ints w0.heap.size (.slice a12 ns c12) rs :: .book w0.heap.size g H S :: .box bm #[.slice aA nA cA, .slice aD nD cD] 29 :: .row enE w0.heap.size (.slice aA nA cA) S.all :: .ints w0.heap.size (.slice aD nD cD) S.done :: .box bo #[.int .i64 kd, .int .i64 x, .int .i64 st, .int .i64 tt] 33 :: []) wr)) (fun v140 _ => ns - (intOf v140).toNat)
              case atStart => exact ⟨0, _, rfl, by omega, Hns, HI12⟩
              case round =>
                obtain ⟨k, rs, rfl, hk, Hr, HI⟩ := hrel
                by_cases hlt : k < ns
                · obtain ⟨p, hp⟩ : ∃ p, rs[k]? = some p := ⟨_, List.getElem?_eq_getElem (by rw [Hr.out]; exact hlt)⟩
                  obtain ⟨g10, cap10, hv10, _⟩ := El.Own.some HI.out.one (fun e => by rw [e] at hp; cases hp)
                  simp only [Value.slice.injEq] at hv10
                  obtain ⟨rfl, _, rfl⟩ := hv10
                  obtain ⟨b4, off4, hb4, d0⟩ := int_at (El.Own.rd HI.out.one) k p hp
                  simp only [Option.some.injEq, Addr.mk.injEq, and_true] at hb4
                  obtain ⟨rfl, rfl⟩ := hb4
                  simp only [Nat.zero_add] at d0
                  have hf : wr.frozen? ⟨g10, k, none⟩ = false := (El.Own.cell HI.out.one k (by rw [Hr.out]; show k < ns * 1; omega)).2.1
                  have j0 : (k : Int) < (ns : Int) := by omega
                  have j1 : (0 : Int) ≤ (k : Int) := by omega
                  obtain ⟨nv, hnv⟩ : ∃ nv, wrap64 (p + 1) = nv := ⟨_, rfl⟩
                  have HS : Hid (Its w0 (.ints w0.heap.size (.slice (some ⟨g10, 0, none⟩) ns c12) (rs.set k nv) :: .book w0.heap.size g H S :: .box bm #[.slice aA nA cA, .slice aD nD cD] 29 :: .row enE w0.heap.size (.slice aA nA cA) S.all :: .ints w0.heap.size (.slice aD nD cD) S.done :: .box bo #[.int .i64 kd, .int .i64 x, .int .i64 st, .int .i64 tt] 33 :: []) (wr.setCell ⟨g10, k, none⟩ (.int .i64 nv))) := hide (HI.out.chg (x' := .ints w0.heap.size (.slice (some ⟨g10, 0, none⟩) ns c12) (rs.set k nv)) (El.Own.set (Value.int .i64) (fun _ => rfl) rfl HI.out.one k nv) (fun k hk => .inl hk) ((Frm.set wr g10 k _).mono fun k _ e => by show Option.some g10 = some k; rw [e]))
                  have Hr2 : Hid ((rs.set k nv).length = ns) := hide (by rw [List.length_set]; exact Hr.out)
                  clear hp HI
                  go_wp2_with fail
                  go_roundw
                  case rel => exact ⟨k + 1, _, by go_num, by omega, Hr2, HS⟩
                  case measure => simp [intOf]; omega
                · have j0 : ¬ (k : Int) < (ns : Int) := by omega
                  have HI13 := hide (HI.out.tail.rot5.tail)
                  clear HI
                  go_wp2_with fail
                  go_roundw
                  case rel => exact ⟨i + 1, S, H, aA, nA, cA, aD, nD, cD, by go_num, by omega, by omega, HL, HI13⟩
                  case measure => simp [intOf]; omega
      · have q1 : ¬ (i : Int) < 120 := by omega
        go_wp2_with fail
        go_ret
        exact ⟨rfl, HI.out.bel⟩
    · have q0 : ¬ (i : Int) < (m : Int) := by omega
      go_wp2_with fail
      go_ret
      exact ⟨rfl, HI.out.bel⟩
end Go.Proofs.Ytfmpipihjnpimaa
