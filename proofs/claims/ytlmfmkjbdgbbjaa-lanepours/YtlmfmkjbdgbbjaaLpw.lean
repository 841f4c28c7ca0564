/- LanePours, the walk. -/
import Derived.Test.YtlmfmkjbdgbbjaaLpo
namespace Go.Proofs.Ytlmfmkjbdgbbjaa
open Go.RowKit
set_option linter.unusedVariables false

set_option maxRecDepth 100000 in
set_option maxHeartbeats 8000000 in
theorem pours_walk (n0 : Int) (a : Option Addr) (m c : Nat) (zs : List Int) (w : World) (hm : zs.length = m) (hv : intE.Rd w (.slice a m c) zs) : Calls Try.prog 6 #[.int .i64 n0, .slice a m c] w fun e w' => e = .returned (.bool true) ∧ Below w.heap.size w w' := by
  obtain ⟨w0, rfl⟩ : ∃ w0, w0 = w := ⟨_, rfl⟩
  have KA := hide awake_any
  obtain ⟨k, hk, hk20⟩ := few n0 8 (by omega)
  obtain ⟨N, hN⟩ : ∃ N : Nat, (k : Int) + 1 = (N : Int) := ⟨k + 1, by omega⟩
  have hN1 : 1 ≤ N := by omega
  have hN2 : N ≤ 8 := by omega
  have Hm := hide hm
  have HV := hide hv
  clear hm hv
  obtain ⟨h0, hh0⟩ : ∃ h0, w0.heap.size = h0 := ⟨_, rfl⟩
  have KN : Hid (∀ W, Calls Try.prog 9 #[.int .i64 N] W fun e w' => e = .returned (.tuple #[.pointer (some ⟨W.heap.size, 0, none⟩), .int .i64 0]) ∧ Ln w' W.heap.size N [] ∧ Below W.heap.size W w') := hide (fun W => new_ok N W hN1 hN2)
  have hmf : ∀ (fn : Fn) (first cap : Array Value) (w : World), (Instr.makeFunc fn first cap).run Try.prog w = .ok (.func fn first cap) w := fun _ _ _ _ => rfl
  have HB00 : Hid (Below w0.heap.size w0 (w0.alloc (.cells #[.int .i64 n0] 3))) := hide ((Below.refl _ _).alloc (Nat.le_refl _) _)
  have HC00 : Hid ((w0.alloc (.cells #[.int .i64 n0] 3)).heap[w0.heap.size]? = some (.cells #[.int .i64 n0] 3)) := hide (heap_new _ _)
  go_enter Try.func6, Try.ntmps6
  go_upto_region 3 with (go_at_call 8; refine (KA.out _).mono ?_; rintro e W1 ⟨rfl, hb1⟩; have HB1 := hide (HB00.out.trans (hb1.mono HB00.out.size)); have HC1 := hide ((hb1.block _ (heap_lt HC00.out)).trans HC00.out); clear hb1)
  rw [hh0] at HC1 HB1
  have c0 := (cells_at HC1.out 0).1
  have f0 := (cells_at HC1.out 0).2
  simp only [List.getElem?_toArray, List.getElem?_cons_zero] at c0
  clear HB00 HC00 KA
  go_upto_region 4 with fail
  try rw [hN]
  obtain ⟨W2, hW2⟩ : ∃ W2, W1.setCell ⟨h0, 0, none⟩ (.int .i64 (N : Int)) = W2 := ⟨_, rfl⟩
  have HB2 : Hid (Below h0 w0 W2) := hide (by rw [← hW2]; exact HB1.out.setCell (p := ⟨h0, 0, none⟩) (Nat.le_refl _) _)
  have HC2 : Hid (W2.heap[h0]? = some (.cells #[.int .i64 (N : Int)] 3)) := hide (by rw [← hW2, heap_put HC1.out]; rfl)
  rw [hW2]
  generalize wrap64 ((IntKind.u64.wrap n0).tmod 8) = y1 at *
  generalize (IntKind.u64.wrap n0).tmod 8 = y2 at *
  generalize IntKind.u64.wrap n0 = y3 at *
  clear hk hk20 hN hW2 c0 f0 HC1 HB1
  have c1 : W2.cell? ⟨h0, 0, none⟩ = some (.int .i64 (N : Int)) := (cells_at HC2.out 0).1
  go_upto_region 5 with (go_at_call 9; refine (KN.out _).mono ?_; rintro e W3 ⟨rfl, hL, hb⟩; have HL3 := hide hL; have HB3 := hide hb; clear hL hb)
  obtain ⟨ga, hga⟩ : ∃ ga, W2.heap.size = ga := ⟨_, rfl⟩
  have Hga : Hid (h0 < ga) := hide (by rw [← hga]; exact heap_lt HC2.out)
  have HC3 : Hid (W3.heap[h0]? = some (.cells #[.int .i64 (N : Int)] 3)) := hide ((HB3.out.block _ (heap_lt HC2.out)).trans HC2.out)
  have HB3' : Hid (Below h0 w0 W3) := hide (HB2.out.trans (HB3.out.mono (by have := HB2.out.size; omega)))
  rw [hga] at HL3 ⊢
  have c2 : W3.cell? ⟨h0, 0, none⟩ = some (.int .i64 (N : Int)) := (cells_at HC3.out 0).1
  clear c1 HC2 HB2 HB3 hga
  go_upto_block 0 with (go_at_call 9; refine (KN.out _).mono ?_; rintro e W4 ⟨rfl, hL, hb⟩; have HL4 := hide hL; have HB4 := hide hb; clear hL hb)
  obtain ⟨gb, hgb⟩ : ∃ gb, W3.heap.size = gb := ⟨_, rfl⟩
  have Hgb : Hid (ga < gb) := hide (by rw [← hgb]; exact HL3.out.lt)
  have HC4 : Hid (W4.heap[h0]? = some (.cells #[.int .i64 (N : Int)] 3)) := hide ((HB4.out.block _ (heap_lt HC3.out)).trans HC3.out)
  have HB5 : Hid (Below h0 w0 W4) := hide (HB3'.out.trans (HB4.out.mono (by have := HB3'.out.size; omega)))
  have HLa : Hid (Ln W4 ga N []) := hide (HL3.out.keep HB4.out)
  rw [hgb] at HL4 ⊢
  have h8 : (N : Int) ≤ 8 := by omega
  clear c2 HC3 HB3' HB4 hgb HL3 KN
  have K10 : Hid (∀ (W : World) (xs : List Int) (t : Int), Ln W ga N xs → _) := hide (fun W xs t h => push_any t W h)
  go_cut [] (fun wx => ∃ (xs : List Int), Hid (Ln wx ga N xs) ∧ Hid (Ln wx gb N []) ∧ Hid (wx.heap[h0]? = some (.cells #[.int .i64 (N : Int)] 3)) ∧ Hid (Below h0 w0 wx) ∧ Hid (Tt xs))
  case first =>
    go_wp2_with fail
    go_loopw [9] (fun v9 wr => ∃ (i : Nat) (xs : List Int), v9 = .int .i64 i ∧ i ≤ m ∧ i ≤ 30 ∧ Hid (Ln wr ga N xs) ∧ Hid (Ln wr gb N []) ∧ Hid (wr.heap[h0]? = some (.cells #[.int .i64 (N : Int)] 3)) ∧ Hid (Below h0 w0 wr) ∧ Hid (Tt xs)) (fun v9 _ => 30 - (intOf v9).toNat)
    case atStart => exact ⟨0, [], rfl, Nat.zero_le _, by omega, HLa, HL4, HC4, HB5, hide ⟨by simp, by simp⟩⟩
    case round =>
      obtain ⟨i, xs, rfl, him, hi2, HL, HLb, HC, HB, HD⟩ := hrel
      by_cases hlt : i < m
      · by_cases hlt2 : i < 30
        · have q0 : (i : Int) < (m : Int) := by omega
          have q1 : (i : Int) < 30 := by omega
          have q2 : (0 : Int) ≤ (i : Int) := by omega
          obtain ⟨z, hz⟩ : ∃ z, zs[i]? = some z := ⟨_, List.getElem?_eq_getElem (by rw [Hm.out]; exact hlt)⟩
          obtain ⟨b, off, rfl, z0⟩ := int_at HV.out i z hz
          have z1 : wr.cell? ⟨b, off + i, none⟩ = some (.int .i64 z) := by rw [HB.out.cell (p := ⟨b, off + i, none⟩) (by rw [← hh0]; exact cell_lt z0)]; exact z0
          obtain ⟨t, ht, ht1, ht2⟩ := some30 z
          have H10 := hide (K10.out wr xs t HL.out)
          have HD1 := hide (Tt.push (d := N) HD.out (t : Int))
          generalize pushC N xs (t : Int) = cc at *
          generalize pushL N xs (t : Int) = ys at *
          clear z0 hz hlt hlt2
          go_wp2_with (go_at_call 10; refine H10.out.mono ?_; rintro e W3 ⟨rfl, hL, hG⟩; have HL3 := hide hL; have HLb3 := hide (HLb.out.other hG (by have := Hgb.out; omega)); have HC3 := hide ((hG.block h0 (heap_lt HC.out) (fun e => by have := Hga.out; cases e; omega)).trans HC.out); have HB3 := hide (HB.out.grown hG (by have := HB.out.size; omega) (fun k hk => by have := Hga.out; cases hk; omega)); clear hL hG)
          go_roundw
          case rel => exact ⟨i + 1, ys, by go_num, by omega, by omega, HL3, HLb3, HC3, HB3, HD1⟩
          case measure => simp [intOf]; omega
        · have q0 : (i : Int) < (m : Int) := by omega
          have q1 : ¬ (i : Int) < 30 := by omega
          clear hlt hlt2
          go_wp2_with fail
          go_meet
          exact ⟨xs, HL, HLb, HC, HB, HD⟩
      · have q0 : ¬ (i : Int) < (m : Int) := by omega
        clear hlt
        go_wp2_with fail
        go_meet
        exact ⟨xs, HL, HLb, HC, HB, HD⟩
  case rest =>
    obtain ⟨xs, HL, HLb, HC, HB, HD⟩ := hcut
    clear HLa HL4 HC4 HB5 K10
    have hle := HL.out.le
    obtain ⟨n, hn⟩ : ∃ n, xs.length = n := ⟨_, rfl⟩
    have Hn := hide hn
    rw [hn] at hle
    have s0 : (n : Int) ≤ 8 := by omega
    have K19 : Hid (∀ (g : Nat) (W : World) (ys : List Int), ys.length = n → Ln W g N ys → Calls Try.prog 19 #[.pointer (some ⟨g, 0, none⟩)] W fun e w' => ∃ a c, e = .returned (.slice a n c) ∧ intE.Own w' W.heap.size (.slice a n c) ys ∧ Below W.heap.size W w') := hide (fun g W ys hl h => (totes_any W h).mono (by
      rintro e w' ⟨v, rfl, ho, hb⟩
      obtain ⟨a, c, rfl⟩ := ho.rd.form
      rw [hl] at ho ⊢
      exact ⟨a, c, rfl, ho, hb⟩))
    have Hgbl := hide HLb.out.lt
    obtain ⟨B, hB⟩ : ∃ B, wc.heap.size = B := ⟨_, rfl⟩
    rw [hB] at Hgbl
    have H19 := hide (K19.out ga wc xs hn HL.out)
    rw [hB] at H19
    clear hn
    go_upto_region 13 with (go_at_call 19; refine H19.out.mono ?_; rintro e W5 ⟨a10, c10, rfl, ho, hb⟩; have HO := hide ho; have HB5 := hide (hB.symm ▸ hb); clear ho hb)
    obtain ⟨hw, hhw⟩ : ∃ hw, W5.heap.size = hw := ⟨_, rfl⟩
    have Hb6 : Hid (Below wc.heap.size wc (W5.alloc (.cells #[.slice a10 n c10] 28))) := hide (HB5.out.trans (((Below.refl _ _).alloc (Nat.le_refl _) _).mono HB5.out.size))
    have HW6 : Hid ((W5.alloc (.cells #[.slice a10 n c10] 28)).heap[hw]? = some (.cells #[.slice a10 n c10] 28)) := hide (by rw [← hhw]; exact heap_new _ _)
    have HO6 : Hid (intE.Own (W5.alloc (.cells #[.slice a10 n c10] 28)) B (.slice a10 n c10) xs) := hide (HO.out.keep ((Below.refl _ _).alloc (Nat.le_refl _) _))
    rw [hhw]
    generalize W5.alloc (.cells #[.slice a10 n c10] 28) = W6 at *
    have HLa6 := hide (HL.out.keep Hb6.out)
    have HLb6 := hide (HLb.out.keep Hb6.out)
    have HC6 := hide ((Hb6.out.block h0 (heap_lt HC.out)).trans HC.out)
    have HB6 : Hid (Below h0 w0 W6) := hide (HB.out.trans (Hb6.out.mono (by have := HB.out.size; omega)))
    have Hhw : Hid (gb < hw) := hide (by have := HB5.out.size; have := Hgbl.out; omega)
    have HgbB : Hid (gb < B) := Hgbl
    clear HB5 HO hB hhw Hb6 H19 HL HLb HC HB
    have N1 : Hid (ga ≠ gb ∧ gb ≠ ga ∧ hw ≠ ga ∧ hw ≠ gb ∧ h0 ≠ ga ∧ h0 ≠ gb) := hide (by have := Hga.out; have := Hgb.out; have := Hhw.out; omega)
    have cw6 : W6.cell? ⟨hw, 0, none⟩ = some (.slice a10 n c10) := (cells_at HW6.out 0).1
    have c06 : W6.cell? ⟨h0, 0, none⟩ = some (.int .i64 (N : Int)) := (cells_at HC6.out 0).1
    have K21 := hide (pour_any HLa6.out HLb6.out N1.out.1 cw6 c06 N1.out.2.2.1 N1.out.2.2.2.1 N1.out.2.2.2.2.1 N1.out.2.2.2.2.2 Hn.out HD.out)
    have Hc6 : Hid (W6.cell? ⟨hw, 0, none⟩ = some (.slice a10 n c10) ∧ W6.cell? ⟨h0, 0, none⟩ = some (.int .i64 (N : Int))) := hide ⟨cw6, c06⟩
    clear cw6 c06
    go_upto_region 16 with (go_at_call 21; refine K21.out.mono ?_; rintro e W7 ⟨rfl, hLa, hLb, hT⟩; have HLa7 := hide hLa; have HLb7 := hide hLb; have HT7 := hide hT; clear hLa hLb hT)
    have Hc7 : Hid (W7.cell? ⟨hw, 0, none⟩ = some (.slice a10 n c10) ∧ W7.cell? ⟨h0, 0, none⟩ = some (.int .i64 (N : Int))) := hide ⟨HT7.out.cell Hc6.out.1 N1.out.2.2.1 N1.out.2.2.2.1, HT7.out.cell Hc6.out.2 N1.out.2.2.2.2.1 N1.out.2.2.2.2.2⟩
    have HO7 : Hid (intE.Own W7 B (.slice a10 n c10) xs) := hide (HT7.out.own HO6.out (by have := Hgb.out; have := HgbB.out; omega) HgbB.out)
    have HB7 : Hid (Below h0 w0 W7) := hide (HT7.out.below HB6.out (by have := HB6.out.size; omega) (by have := Hga.out; omega) (by have := Hga.out; have := Hgb.out; omega))
    have H19 := hide (K19.out gb W7 xs.reverse (by rw [List.length_reverse]; exact Hn.out) HLb7.out)
    clear HT7 HO6 HB6 HC6 HW6 HLa6 HLb6 Hc6 K21
    go_upto_region 17 with (go_at_call 19; refine H19.out.mono ?_; rintro e W8 ⟨a12, c12, rfl, ho, hb⟩; have HOt := hide ho; have HLa8 := hide (HLa7.out.keep hb); have HLb8 := hide (HLb7.out.keep hb); have HO8 := hide (HO7.out.keep hb); have HB8 : Hid (Below h0 w0 W8) := hide (HB7.out.trans (hb.mono (by have := HB7.out.size; omega))); have Hc8 : Hid (W8.cell? ⟨hw, 0, none⟩ = some (.slice a10 n c10) ∧ W8.cell? ⟨h0, 0, none⟩ = some (.int .i64 (N : Int))) := hide ⟨by rw [hb.cell (p := ⟨hw, 0, none⟩) (cell_lt Hc7.out.1)]; exact Hc7.out.1, by rw [hb.cell (p := ⟨h0, 0, none⟩) (cell_lt Hc7.out.2)]; exact Hc7.out.2⟩; clear ho hb)
    clear HLa7 HLb7 HO7 HB7 Hc7 H19
    have cw8 := Hc8.out.1
    go_wp2_with fail
    clear cw8
    go_loopw [77] (fun v77 wr => ∃ (i : Nat), v77 = .int .i64 i ∧ i ≤ n ∧ Hid (∃ q, wr = W8.drewN q)) (fun v77 _ => n - (intOf v77).toNat)
    case atStart => exact ⟨0, rfl, Nat.zero_le _, hide ⟨0, rfl⟩⟩
    case round =>
      obtain ⟨i, rfl, hin, HQ⟩ := hrel
      have cw : wr.cell? ⟨hw, 0, none⟩ = some (.slice a10 n c10) := by obtain ⟨q, hq⟩ := HQ.out; rw [hq]; exact Hc8.out.1
      have HOt' : Hid (intE.Own wr W7.heap.size (.slice a12 n c12) xs.reverse) := hide (by obtain ⟨q, hq⟩ := HQ.out; rw [hq]; exact HOt.out)
      have HO' : Hid (intE.Own wr B (.slice a10 n c10) xs) := hide (by obtain ⟨q, hq⟩ := HQ.out; rw [hq]; exact HO8.out)
      by_cases hi : i < n
      · obtain ⟨p, hp⟩ : ∃ p, xs[i]? = some p := ⟨_, List.getElem?_eq_getElem (by rw [Hn.out]; exact hi)⟩
        obtain ⟨j, hj⟩ : ∃ j, n - 1 - i = j := ⟨_, rfl⟩
        have hp2 : xs.reverse[j]? = some p := by
          rw [List.getElem?_reverse (by rw [Hn.out]; omega), Hn.out, ← hp]
          congr 1; omega
        obtain ⟨b1, off1, rfl, z1⟩ := int_at HO'.out.rd i p hp
        obtain ⟨b2, off2, rfl, z2⟩ := int_at HOt'.out.rd j p hp2
        have q0 : (i : Int) < (n : Int) := by omega
        have q1 : (0 : Int) ≤ (i : Int) := by omega
        have q2 : (n : Int) - 1 - (i : Int) = (j : Int) := by omega
        have q3 : (j : Int) < (n : Int) := by omega
        have q4 : (0 : Int) ≤ (j : Int) := by omega
        have q5 : (p != p) = false := bne_self_eq_false _
        clear hp hp2 hi hj
        go_upto_region 20 with fail
        go_quiet (fail)
        go_wp2_with fail
        go_roundw
        case rel => exact ⟨i + 1, by go_num, by omega, hide (by obtain ⟨q, hq⟩ := HQ.out; exact ⟨q + nq, by rw [hq, World.drewN_drewN]⟩)⟩
        case measure => simp [intOf]; omega
      · obtain rfl : i = n := by omega
        have q0 : ¬ (i : Int) < (i : Int) := by omega
        have HLa' : Hid (Ln wr.drew ga N []) := hide (HLa8.out.stay (by obtain ⟨q, hq⟩ := HQ.out; rw [hq]; rfl))
        have HLb' : Hid (Ln wr.drew gb N xs.reverse) := hide (HLb8.out.stay (by obtain ⟨q, hq⟩ := HQ.out; rw [hq]; rfl))
        have Hcd : Hid (wr.drew.cell? ⟨hw, 0, none⟩ = some (.slice a10 i c10) ∧ wr.drew.cell? ⟨h0, 0, none⟩ = some (.int .i64 (N : Int))) := hide (by obtain ⟨q, hq⟩ := HQ.out; rw [hq]; exact Hc8.out)
        have HOd : Hid (intE.Own wr.drew B (.slice a10 i c10) xs) := hide (by obtain ⟨q, hq⟩ := HQ.out; rw [hq]; exact HO8.out)
        have HBd : Hid (Below h0 w0 wr.drew) := hide (by obtain ⟨q, hq⟩ := HQ.out; rw [hq]; exact (below_drew HB8.out q).drew)
        have K21 := hide (pour_any HLb'.out HLa'.out N1.out.2.1 Hcd.out.1 Hcd.out.2 N1.out.2.2.2.1 N1.out.2.2.1 N1.out.2.2.2.2.2 N1.out.2.2.2.2.1 (by rw [List.length_reverse]; exact Hn.out) HD.out.rev)
        rw [List.reverse_reverse] at K21
        obtain ⟨S0, hS⟩ : ∃ S : World → Prop, ∀ W, S W ↔ W.cell? ⟨hw, 0, none⟩ = some (.slice a10 i c10) := ⟨_, fun _ => Iff.rfl⟩
        have SD : Hid (∀ W, S0 W → W.cell? ⟨hw, 0, none⟩ = some (.slice a10 i c10)) := hide (fun W h => (hS W).1 h)
        have SI : Hid (∀ W, W.cell? ⟨hw, 0, none⟩ = some (.slice a10 i c10) → S0 W) := hide (fun W h => (hS W).2 h)
        clear hS cw
        go_upto_region 23 with fail
        refine wp_region_held_drew (S := S0) (by kernel_rfl) (SI.out _ Hcd.out.1) (fun hS0 => ?_)
        refine wpAnyH_take (i := 0) (v := .func (.func 21) #[] #[.pointer (some ⟨hw, 0, none⟩), .pointer (some ⟨h0, 0, none⟩)]) rfl (by kernel_rfl) (by kernel_rfl) (by kernel_rfl) (fun _ _ _ h => h) (Or.inl ⟨by rfl, fun W' hW => by go_simp⟩) hS0 ?_
        refine wpAnyH_take (i := 1) (v := .pointer (some ⟨gb, 0, none⟩)) rfl (by kernel_rfl) (by kernel_rfl) (by kernel_rfl) (fun _ _ _ h => h) (Or.inl ⟨by rfl, fun W' hW => by go_simp⟩) hS0 ?_
        refine wpAnyH_take (i := 2) (v := .pointer (some ⟨ga, 0, none⟩)) rfl (by kernel_rfl) (by kernel_rfl) (by kernel_rfl) (fun _ _ _ h => h) (Or.inl ⟨by rfl, fun W' hW => by go_simp⟩) hS0 ?_
        refine wpAnyH_ready (rs := [3]) (by kernel_rfl) (by simp) ?_
        refine AllReadyH.cons rfl (fun K hK => ?_) AllReadyH.nil
        go_simp
        refine K21.out.mono ?_
        rintro e W9 ⟨rfl, hLb9, hLa9, hT9⟩
        have cw9 := hT9.cell Hcd.out.1 N1.out.2.2.2.1 N1.out.2.2.1
        have HO9 : Hid (intE.Own W9 B (.slice a10 i c10) xs) := hide (hT9.own HOd.out HgbB.out (by have := Hgb.out; have := HgbB.out; omega))
        have HB9 : Hid (Below h0 w0 W9) := hide (hT9.below HBd.out (by have := HBd.out.size; omega) (by have := Hga.out; have := Hgb.out; omega) (by have := Hga.out; omega))
        have H19 := hide (K19.out ga W9 xs Hn.out hLa9)
        have Hcw9 := hide cw9
        refine hK.out _ _ (SI.out _ cw9) (fun hS1 => ?_)
        clear hK K hLb9 hLa9 hT9 cw9
        refine wpAnyH_ready (rs := [4]) (by kernel_rfl) (by simp) ?_
        refine AllReadyH.cons rfl (fun K hK => ?_) AllReadyH.nil
        go_simp
        refine hK.out _ _ hS1 (fun _ => ?_)
        clear hK K
        refine wpAnyH_take (i := 5) (v := .pointer (some ⟨ga, 0, none⟩)) rfl (by kernel_rfl) (by kernel_rfl) (by kernel_rfl) (fun _ _ _ h => h) (Or.inl ⟨by kernel_rfl, fun W' hW => by go_simp⟩) hS1 ?_
        refine wpAnyH_take (i := 7) (v := .slice a10 i c10) rfl (by kernel_rfl) (by kernel_rfl) (by kernel_rfl) (fun _ _ _ h => h) (Or.inl ⟨by kernel_rfl, fun W' hW => by have z0 := SD.out W' hW; go_simp⟩) hS1 ?_
        refine wpAnyH_ready (rs := [6]) (by kernel_rfl) (by simp) ?_
        refine AllReadyH.cons rfl (fun K hK => ?_) AllReadyH.nil
        go_simp
        refine H19.out.mono ?_
        rintro e WA ⟨a20, c20, rfl, ho, hb⟩
        have cwA : WA.cell? ⟨hw, 0, none⟩ = some (.slice a10 i c10) := by rw [hb.cell (p := ⟨hw, 0, none⟩) (cell_lt Hcw9.out)]; exact Hcw9.out
        have HBA : Hid (Below h0 w0 WA) := hide (HB9.out.trans (hb.mono (by have := HB9.out.size; omega)))
        have K18 := hide (ints_any a20 a10 c20 c10 i i xs xs WA Hn.out Hn.out ho.rd (HO9.out.keep hb).rd (by have := Hn.out; omega))
        rw [decide_eq_true rfl] at K18
        refine hK.out _ _ (SI.out _ cwA) (fun hS2 => ?_)
        clear hK K ho hb cwA
        refine wpAnyH_ready (rs := [8]) (by kernel_rfl) (by simp) ?_
        refine AllReadyH.cons rfl (fun K hK => ?_) AllReadyH.nil
        go_simp
        refine K18.out.mono ?_
        rintro e WB ⟨rfl, q, hq⟩
        have HBB : Hid (Below h0 w0 WB) := hide (by rw [hq]; exact below_drew HBA.out q)
        have hS3 : S0 WB := SI.out _ (by rw [hq]; exact (show WA.cell? ⟨hw, 0, none⟩ = _ from SD.out WA hS2))
        refine hK.out _ _ hS3 (fun _ => ?_)
        clear hK K hq
        refine wpAnyH_ready (rs := [9]) (by kernel_rfl) (by simp) ?_
        refine AllReadyH.cons rfl (fun K hK => ?_) AllReadyH.nil
        go_simp
        refine hK.out _ _ hS3 (fun _ => ?_)
        clear hK K
        refine wpAnyH_ready (rs := [10]) (by kernel_rfl) (by simp) ?_
        refine AllReadyH.cons rfl (fun K hK => ?_) AllReadyH.nil
        go_simp
        refine hK.out _ _ hS3 (fun _ => ?_)
        clear hK K
        refine wpAnyH_done (by kernel_rfl) ?_ _
        go_wp2_with fail
        go_ret
        exact ⟨by first | rfl | simp, by first | exact HBB.out | (rw [hh0]; exact HBB.out)⟩
end Go.Proofs.Ytlmfmkjbdgbbjaa
