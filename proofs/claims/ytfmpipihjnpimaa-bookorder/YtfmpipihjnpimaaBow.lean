/- BookOrder, the walk. -/
import Derived.Test.YtfmpipihjnpimaaBom
import Derived.Test.YtfmpipihjnpimaaBxw
import Derived.Test.YtfmpipihjnpimaaBtw
import Derived.Deep.CutBlock
namespace Go.Proofs.Ytfmpipihjnpimaa
open Go.RowKit
set_option linter.unusedVariables false

theorem El.Own.form2 {α : Type} {E : El Try.prog α} {w : World} {B : Nat} {v : Value} {xs : List α} (h : E.Own w B v xs) : ∃ a c, v = .slice a xs.length c ∧ xs.length ≤ c ∧ c ≤ maxLen := by
  rcases h.2 with ⟨h1, h2⟩ | ⟨g, cap, cur, h1, hb, _, hn, hm, _⟩
  · exact ⟨none, 0, (by rw [h1, h2]; first | done | rfl), (by rw [h2]; exact Nat.le_refl _), by unfold maxLen; omega⟩
  · exact ⟨_, cap, h1, hn, hm⟩

set_option maxRecDepth 100000 in
set_option maxHeartbeats 16000000 in
theorem order_walk (a : Option Addr) (m c : Nat) (zs : List Op) (w : World) (hm : zs.length = m) (hv : Ops w (.slice a m c) zs) : Calls Try.prog 4 #[.slice a m c] w fun e w' => e = .returned (.bool true) ∧ Below w.heap.size w w' := by
  obtain ⟨w0, rfl⟩ : ∃ w0, w0 = w := ⟨_, rfl⟩
  have KA := hide awake_any
  have KN := hide (new_any w0 w0 [] (Its.nil w0))
  have HZ : Hid (∀ (i : Nat), i < m → ∃ (b off : Nat) (kd x st tt : Int), a = some ⟨b, off, none⟩ ∧ I64 x ∧ I64 st ∧ ∀ W, Below w0.heap.size w0 W → W.cell? ⟨b, off + i * 4, none⟩ = some (.int .i64 kd) ∧ W.cell? ⟨b, off + i * 4 + 1, none⟩ = some (.int .i64 x) ∧ W.cell? ⟨b, off + i * 4 + 2, none⟩ = some (.int .i64 st) ∧ W.cell? ⟨b, off + i * 4 + 3, none⟩ = some (.int .i64 tt)) := hide (fun i hi => ops_in hm hv i hi)
  clear hv hm
  go_enter Try.func4, Try.ntmps4
  go_upto_region 4 with (first
    | (go_at_call 8; refine KN.out.mono ?_; rintro e W1 ⟨g, H1, rfl, hg⟩; have HG1 := hide hg; clear hg)
    | (go_at_call 9; refine (KA.out _).mono ?_; rintro e W3 ⟨rfl, hb1⟩; have HG3 := hide ((HG1.out.keep hb1).empty rqE).swap; clear hb1))
  clear KA KN HG1
  go_wp2_with fail
  go_loopw [4, 5] (fun v4 v5 wr => ∃ (i : Nat) (S : Bk) (H : Hb) (a4 : Option Addr) (n4 c4 : Nat), v4 = .slice a4 n4 c4 ∧ v5 = .int .i64 i ∧ i ≤ 120 ∧ i ≤ m ∧ Hid (S.all.length ≤ i ∧ S.done.length ≤ i ∧ (wn S.all).length = n4) ∧ Hid (Inv S) ∧ Hid (Its w0 (.book w0.heap.size g H S :: .row rqE w0.heap.size (.slice a4 n4 c4) (wn S.all) :: []) wr)) (fun _ v5 _ => 120 - (intOf v5).toNat)
  case atStart => exact ⟨0, Bk.new, H1, none, 0, 0, rfl, rfl, by omega, by omega, hide ⟨Nat.le_refl _, Nat.le_refl _, rfl⟩, hide Inv.new, HG3⟩
  case round =>
    obtain ⟨i, S, H, a4, n4, c4, rfl, rfl, hi, him, HL, HV, HI⟩ := hrel
    by_cases hlt : i < m
    · have q0 : (i : Int) < (m : Int) := by omega
      by_cases h80 : i < 120
      · have q1 : (i : Int) < 120 := by omega
        have q2 : (0 : Int) ≤ (i : Int) := by omega
        obtain ⟨b, off, kd, x, st, tt, rfl, hx, hst, hz⟩ := HZ.out i hlt
        have Hx := hide hx
        obtain ⟨z0, z1, z2, z3⟩ := hz wr HI.out.bel
        clear hz hx hst hlt
        go_upto_region 9 with fail
        have HI1 : Hid (Its w0 (.box wr.heap.size #[.int .i64 kd, .int .i64 x, .int .i64 st, .int .i64 tt] 33 :: .book w0.heap.size g H S :: .row rqE w0.heap.size (.slice a4 n4 c4) (wn S.all) :: []) (wr.alloc (.cells #[.int .i64 kd, .int .i64 x, .int .i64 st, .int .i64 tt] 33))) := hide (HI.out.new (x := .box wr.heap.size #[.int .i64 kd, .int .i64 x, .int .i64 st, .int .i64 tt] 33) (heap_new wr _) (fun k hk => by cases hk; exact Nat.le_refl _) (below_new wr _))
        generalize wr.alloc (.cells #[.int .i64 kd, .int .i64 x, .int .i64 st, .int .i64 tt] 33) = W1 at *
        generalize wr.heap.size = bo at *
        clear z0 z1 z2 z3 HI
        have u0 : W1.cell? ⟨bo, 0, none⟩ = some (.int .i64 kd) := (cells_at HI1.out.one 0).1
        go_upto_block 2 with fail
        go_cut [4, 5] (fun v4 v5 wx => ∃ (S : Bk) (H : Hb) (a4 : Option Addr) (n4 c4 : Nat), v4 = .slice a4 n4 c4 ∧ v5 = .int .i64 i ∧ Hid (S.all.length ≤ i + 1 ∧ S.done.length ≤ i + 1 ∧ (wn S.all).length = n4) ∧ Hid (Inv S) ∧ Hid (Its w0 (.book w0.heap.size g H S :: .row rqE w0.heap.size (.slice a4 n4 c4) (wn S.all) :: []) wx))
        case first =>
          as_aux_lemma =>
            by_cases k1 : kd = 1
            · subst k1
              have HBX : Hid (∀ W : World, W.heap[bo]? = some (.cells #[.int .i64 1, .int .i64 x, .int .i64 st, .int .i64 tt] 33) → W.cell? ⟨bo, 1, none⟩ = some (.int .i64 x) ∧ W.cell? ⟨bo, 2, none⟩ = some (.int .i64 st) ∧ W.cell? ⟨bo, 3, none⟩ = some (.int .i64 tt)) := hide (fun W h => ⟨(cells_at h 1).1, (cells_at h 2).1, (cells_at h 3).1⟩)
              obtain ⟨v1, v2, v3⟩ := HBX.out W1 HI1.out.one
              obtain ⟨e, he⟩ : ∃ e, S.adC ⟨x, st, tt⟩ = e := ⟨_, rfl⟩
              have hsz := S.size_ad ⟨x, st, tt⟩
              have hl := wn_len S.all
              have HIn := hide (HV.out.ad (bk_lie HI1.out.two).1 ⟨x, st, tt⟩)
              have HLn : Hid ((S.ad ⟨x, st, tt⟩).all.length ≤ i + 1 ∧ (S.ad ⟨x, st, tt⟩).done.length ≤ i + 1) := hide (by have := HL.out; rw [hsz.2]; omega)
              cases hy : S.adY ⟨x, st, tt⟩ with
              | true =>
                have K10 : Hid (∀ W H l, Its w0 (.book w0.heap.size g H S :: l) W → Calls Try.prog 10 #[.pointer (some ⟨g, 0, none⟩), .agg #[.int .i64 x, .int .i64 st, .int .i64 tt]] W fun q w' => q = .returned (.tuple #[.bool true, .int .i64 e]) ∧ ∃ H', Its w0 (.book w0.heap.size g H' (S.ad ⟨x, st, tt⟩) :: l) w') := hide (fun W H l h => addS ⟨x, st, tt⟩ h Hx.out (by have := HL.out; omega) ⟨hy, he⟩ rfl)
                have hwn := wn_ad hy
                have HWn := hide hwn
                have HNm : Hid ((wn S.all).length + [(⟨x, st, tt⟩ : Rq)].length ≤ 1000000) := hide (by have := HL.out; simp only [List.length_cons, List.length_nil]; omega)
                have HR : Hid (∀ W : World, rqE.Rd (W.alloc (.cells #[.int .i64 x, .int .i64 st, .int .i64 tt] 31)) (.slice (some ⟨W.heap.size, 0, none⟩) 1 1) [⟨x, st, tt⟩]) := hide (fun W => rq_new W ⟨x, st, tt⟩)
                clear hy he hsz hl hwn
                generalize S.ad ⟨x, st, tt⟩ = S1 at *
                go_wp2_with (first
                  | (at_builtin; refine rqE.wpB (B := w0.heap.size) HX3.out.size (by rfl) _ _ rfl _ _ rfl rfl (wn S.all) [⟨x, st, tt⟩] HX3.out.one HR3.out HNm.out ?_; intro v5 W5 ho hg hs; obtain ⟨a5, p5, hf5⟩ := ho.rd.form; obtain ⟨n5, hn5⟩ : ∃ n5, (wn S.all ++ [(⟨x, st, tt⟩ : Rq)]).length = n5 := ⟨_, rfl⟩; rw [hn5] at hf5; subst hf5; have HI5 := hide (HX3.out.grow ho hg hs).rot3'; have Hn5 := hide hn5; clear ho hg hs hn5)
                  | (go_at_call 10; refine (K10.out _ _ _ HI1.out.swap).mono ?_; rintro e W3 ⟨rfl, H3, hg⟩; have HI3 := hide hg.swap; clear hg; obtain ⟨v1, v2, v3⟩ := HBX.out W3 HI3.out.one; have HX3 := hide (HI3.out.rot3.alloc (.cells #[.int .i64 x, .int .i64 st, .int .i64 tt] 31)); have HR3 := hide (HR.out W3)))
                go_meet
                have HI6 := HI5.out.tail
                rw [← HWn.out] at HI6
                exact ⟨S1, H3, a5, n5, p5, rfl, rfl, hide ⟨HLn.out.1, HLn.out.2, by rw [HWn.out]; exact Hn5.out⟩, HIn, hide HI6⟩
              | false =>
                have K10 : Hid (∀ W H l, Its w0 (.book w0.heap.size g H S :: l) W → Calls Try.prog 10 #[.pointer (some ⟨g, 0, none⟩), .agg #[.int .i64 x, .int .i64 st, .int .i64 tt]] W fun q w' => q = .returned (.tuple #[.bool false, .int .i64 e]) ∧ ∃ H', Its w0 (.book w0.heap.size g H' S :: l) w') := hide (fun W H l h => addS ⟨x, st, tt⟩ h Hx.out (by have := HL.out; omega) ⟨hy, he⟩ (Bk.ad_no hy))
                clear hy he hsz hl
                go_wp2_with (go_at_call 10; refine (K10.out _ _ _ HI1.out.swap).mono ?_; rintro e W3 ⟨rfl, H3, hg⟩; have HI3 := hide hg.swap; clear hg)
                go_meet
                exact ⟨S, H3, a4, n4, c4, rfl, rfl, hide (by have := HL.out; omega), HV, hide HI3.out.tail⟩
            by_cases k2 : kd = 2
            · subst k2
              have HBX : Hid (∀ W : World, W.heap[bo]? = some (.cells #[.int .i64 2, .int .i64 x, .int .i64 st, .int .i64 tt] 33) → W.cell? ⟨bo, 1, none⟩ = some (.int .i64 x) ∧ W.cell? ⟨bo, 2, none⟩ = some (.int .i64 st) ∧ W.cell? ⟨bo, 3, none⟩ = some (.int .i64 tt)) := hide (fun W h => ⟨(cells_at h 1).1, (cells_at h 2).1, (cells_at h 3).1⟩)
              obtain ⟨v1, v2, v3⟩ := HBX.out W1 HI1.out.one
              obtain ⟨e, he⟩ : ∃ e, S.caC x = e := ⟨_, rfl⟩
              have hsz := S.size_ca x
              have hl := wn_len S.all
              have HIn := hide (HV.out.ca (bk_lie HI1.out.two).1 x)
              have HLn : Hid ((S.ca x).all.length ≤ i + 1 ∧ (S.ca x).done.length ≤ i + 1 ∧ n4 ≤ i) := hide (by have := HL.out; rw [hsz.1, hsz.2]; omega)
              cases hy : S.caY x with
              | true =>
                have K12 : Hid (∀ W H l, Its w0 (.book w0.heap.size g H S :: l) W → Calls Try.prog 12 #[.pointer (some ⟨g, 0, none⟩), .int .i64 x] W fun q w' => q = .returned (.tuple #[.bool true, .int .i64 e]) ∧ ∃ H', Its w0 (.book w0.heap.size g H' (S.ca x) :: l) w') := hide (fun W H l h => cancelS h Hx.out ⟨hy, he⟩ rfl)
                have HWn := hide (wn_ca hy)
                have Hn4 := hide HL.out.2.2
                have s4 : (n4 : Int) ≤ 200 := by have := HLn.out; omega
                clear hy he hsz hl
                generalize S.ca x = S1 at *
                generalize wn S.all = came at *
                go_wp2_with (go_at_call 12; refine (K12.out _ _ _ HI1.out.swap).mono ?_; rintro e W3 ⟨rfl, H3, hg⟩; have HI3 := hide (hg.swap.empty rqE); clear hg)
                go_loopw [11, 72] (fun v11 v72 wr => ∃ (k : Nat) (a11 : Option Addr) (n11 c11 : Nat), v11 = .slice a11 n11 c11 ∧ v72 = .int .i64 k ∧ k ≤ n4 ∧ Hid (Its w0 (.row rqE w0.heap.size (.slice a11 n11 c11) ((came.take k).filter (fun r => r.id != x)) :: .box bo #[.int .i64 2, .int .i64 x, .int .i64 st, .int .i64 tt] 33 :: .book w0.heap.size g H3 S1 :: .row rqE w0.heap.size (.slice a4 n4 c4) came :: []) wr)) (fun _ v72 _ => n4 - (intOf v72).toNat)
                case atStart => exact ⟨0, none, 0, 0, rfl, rfl, by omega, HI3⟩
                case round =>
                  obtain ⟨k, a11, n11, c11, rfl, rfl, hk, HI4⟩ := hrel
                  by_cases hkn : k < n4
                  · obtain ⟨r, hr⟩ : ∃ r, came[k]? = some r := ⟨_, List.getElem?_eq_getElem (by rw [Hn4.out]; exact hkn)⟩
                    obtain ⟨b4, off4, rfl, z0, z1, z2⟩ := rq_at (El.Own.rd HI4.out.four) k r hr
                    obtain ⟨ri, rs, rt⟩ := r
                    simp only at z0 z1 z2
                    have k0 : (k : Int) < (n4 : Int) := by omega
                    have k1 : (0 : Int) ≤ (k : Int) := by omega
                    have HT := hide (left_take hr x)
                    have Hl4 : Hid (((came.take k).filter (fun r => r.id != x)).length ≤ 200) := hide (by
                      have h1 := List.length_filter_le (fun r : Rq => r.id != x) (came.take k)
                      have h2 : (came.take k).length ≤ k := by rw [List.length_take]; omega
                      omega)
                    go_upto_region 21 with fail
                    have HI5 := hide (HI4.out.alloc (.cells #[.int .i64 ri, .int .i64 rs, .int .i64 rt] 31))
                    have hb5 : (wr.alloc (.cells #[.int .i64 ri, .int .i64 rs, .int .i64 rt] 31)).heap[wr.heap.size]? = some (.cells #[.int .i64 ri, .int .i64 rs, .int .i64 rt] 31) := heap_new wr _
                    generalize wr.alloc (.cells #[.int .i64 ri, .int .i64 rs, .int .i64 rt] 31) = W5 at *
                    generalize wr.heap.size = bc at *
                    have d0 : W5.cell? ⟨bc, 0, none⟩ = some (.int .i64 ri) := (cells_at hb5 0).1
                    have d1 : W5.cell? ⟨bc, 1, none⟩ = some (.int .i64 rs) := (cells_at hb5 1).1
                    have d2 : W5.cell? ⟨bc, 2, none⟩ = some (.int .i64 rt) := (cells_at hb5 2).1
                    obtain ⟨v1, v2, v3⟩ := HBX.out W5 HI5.out.two
                    clear hb5 z0 z1 z2 hr HI4
                    by_cases q : ri = x
                    · have hq : (ri != x) = false := by rw [q]; exact bne_self_eq_false _
                      have HT1 : Hid ((came.take (k + 1)).filter (fun r => r.id != x) = (came.take k).filter (fun r => r.id != x)) := hide (by rw [HT.out, if_pos q, List.append_nil])
                      clear q HT
                      go_wp2_with fail
                      go_roundw
                      case rel => exact ⟨k + 1, a11, n11, c11, rfl, by go_num, by omega, hide (by rw [HT1.out]; exact HI5.out)⟩
                      case measure => simp [intOf]; omega
                    · have hq : (ri != x) = true := bne_iff_ne.2 q
                      have HT1 : Hid ((came.take k).filter (fun r => r.id != x) ++ [⟨ri, rs, rt⟩] = (came.take (k + 1)).filter (fun r => r.id != x)) := hide (by rw [HT.out, if_neg q])
                      have HX5 := hide (HI5.out.alloc (.cells #[.int .i64 ri, .int .i64 rs, .int .i64 rt] 31))
                      have HR5 := hide (rq_new W5 ⟨ri, rs, rt⟩)
                      have HNm : Hid (((came.take k).filter (fun r => r.id != x)).length + [(⟨ri, rs, rt⟩ : Rq)].length ≤ 1000000) := hide (by have := Hl4.out; simp only [List.length_cons, List.length_nil]; omega)
                      clear q HT
                      go_wp2_with (at_builtin; refine rqE.wpB (B := w0.heap.size) HX5.out.size (by rfl) _ _ rfl _ _ rfl rfl _ [⟨ri, rs, rt⟩] HX5.out.one HR5.out HNm.out ?_; intro v5 W6 ho hg hs; rw [HT1.out] at ho; obtain ⟨a6, p6, hf6⟩ := ho.rd.form; obtain ⟨n6, hn6⟩ : ∃ n6, ((came.take (k + 1)).filter (fun r => r.id != x)).length = n6 := ⟨_, rfl⟩; rw [hn6] at hf6; subst hf6; have HI6 := hide (HX5.out.grow ho hg hs); clear ho hg hs hn6)
                      go_roundw
                      case rel => exact ⟨k + 1, a6, n6, p6, rfl, by go_num, by omega, HI6⟩
                      case measure => simp [intOf]; omega
                  · have k0 : ¬ (k : Int) < (n4 : Int) := by omega
                    have htk : came.take k = came := List.take_of_length_le (by have := Hn4.out; omega)
                    have HI5 := HI4.out
                    rw [htk, ← HWn.out] at HI5
                    have HI6 := hide (HI5.rot4.tail.swap.tail.swap)
                    have Hn6 : Hid ((wn S1.all).length = n11) := hide (by
                      obtain ⟨a', c', e'⟩ := (El.Own.rd HI5.one).form
                      simp only [Value.slice.injEq] at e'
                      exact e'.2.1.symm)
                    clear HI4 HI5 htk hkn hk
                    go_wp2_with fail
                    go_meet
                    exact ⟨S1, H3, a11, n11, c11, rfl, rfl, hide ⟨HLn.out.1, HLn.out.2.1, Hn6.out⟩, HIn, HI6⟩
              | false =>
                have K12 : Hid (∀ W H l, Its w0 (.book w0.heap.size g H S :: l) W → Calls Try.prog 12 #[.pointer (some ⟨g, 0, none⟩), .int .i64 x] W fun q w' => q = .returned (.tuple #[.bool false, .int .i64 e]) ∧ ∃ H', Its w0 (.book w0.heap.size g H' S :: l) w') := hide (fun W H l h => cancelS h Hx.out ⟨hy, he⟩ (Bk.ca_no hy))
                clear hy he hsz hl
                go_wp2_with (go_at_call 12; refine (K12.out _ _ _ HI1.out.swap).mono ?_; rintro e W3 ⟨rfl, H3, hg⟩; have HI3 := hide hg.swap; clear hg)
                go_meet
                exact ⟨S, H3, a4, n4, c4, rfl, rfl, hide (by have := HL.out; omega), HV, hide HI3.out.tail⟩
            by_cases k3 : kd = 3
            · subst k3
              have HBX : Hid (∀ W : World, W.heap[bo]? = some (.cells #[.int .i64 3, .int .i64 x, .int .i64 st, .int .i64 tt] 33) → W.cell? ⟨bo, 1, none⟩ = some (.int .i64 x) ∧ W.cell? ⟨bo, 2, none⟩ = some (.int .i64 st) ∧ W.cell? ⟨bo, 3, none⟩ = some (.int .i64 tt)) := hide (fun W h => ⟨(cells_at h 1).1, (cells_at h 2).1, (cells_at h 3).1⟩)
              obtain ⟨v1, v2, v3⟩ := HBX.out W1 HI1.out.one
              obtain ⟨e, he⟩ : ∃ e, S.seC x = e := ⟨_, rfl⟩
              have hsz := S.size_se x
              have HIn := hide (HV.out.se (bk_lie HI1.out.two).1 x)
              have HWn := hide (wn_se (bk_lie HI1.out.two).1 (x := x))
              have HLn : Hid ((S.se x).all.length ≤ i + 1 ∧ (S.se x).done.length ≤ i + 1) := hide (by have := HL.out; omega)
              have K14 : Hid (∀ W H l, Its w0 (.book w0.heap.size g H S :: l) W → Calls Try.prog 14 #[.pointer (some ⟨g, 0, none⟩), .int .i64 x] W fun q w' => q = .returned (.int .i64 e) ∧ ∃ H', Its w0 (.book w0.heap.size g H' (S.se x) :: l) w') := hide (fun W H l h => serveS h Hx.out (by have := HL.out; omega) he rfl)
              clear he hsz
              generalize S.se x = S1 at *
              go_wp2_with (go_at_call 14; refine (K14.out _ _ _ HI1.out.swap).mono ?_; rintro e W3 ⟨rfl, H3, hg⟩; have HI3 := hide hg.swap; clear hg)
              go_meet
              exact ⟨S1, H3, a4, n4, c4, rfl, rfl, hide ⟨HLn.out.1, HLn.out.2, by rw [HWn.out]; exact HL.out.2.2⟩, HIn, hide (by rw [HWn.out]; exact HI3.out.tail)⟩
            have r1 : (kd == 1) = false := beq_eq_false_iff_ne.2 k1
            have r2 : (kd == 2) = false := beq_eq_false_iff_ne.2 k2
            have r3 : (kd == 3) = false := beq_eq_false_iff_ne.2 k3
            clear k1 k2 k3
            go_wp2_with fail
            go_meet
            exact ⟨S, H, a4, n4, c4, rfl, rfl, hide (by have := HL.out; omega), HV, hide HI1.out.tail⟩
        case rest =>
          as_aux_lemma =>
            obtain ⟨S, H, a4, n4, c4, rfl, rfl, HL, HV, HI⟩ := hcut
            obtain ⟨wB, rfl⟩ : ∃ W, W = wc := ⟨_, rfl⟩
            have Hn4 := hide HL.out.2.2
            have hn4 : n4 ≤ i + 1 := by have := HL.out; have := wn_len S.all; omega
            have s4 : (n4 : Int) ≤ 200 := by omega
            obtain ⟨came, hcame⟩ : ∃ came, wn S.all = came := ⟨_, rfl⟩
            rw [hcame] at HI Hn4
            have HW : Hid (∀ s, idsAt s came = S.sv s ++ idsAt s (ops S.all)) := hide (fun s => by rw [← hcame]; exact HV.out s)
            have K22 : Hid (∀ W l s, Its w0 (.book w0.heap.size g H S :: l) W → Calls Try.prog 22 #[.pointer (some ⟨g, 0, none⟩), .int .i64 s] W fun e w' => e = .returned (.tuple #[rqV (fst S.all s), .bool (fst S.all s).isSome]) ∧ Its w0 (.book w0.heap.size g H S :: l) w') := hide (fun W l s h => firstS s h)
            have K20 : Hid (∀ W l s n, I64 s → (S.sv s).length = n → Its w0 (.book w0.heap.size g H S :: l) W → Calls Try.prog 20 #[.pointer (some ⟨g, 0, none⟩), .int .i64 s] W fun q w' => ∃ a' c', q = .returned (.slice a' n c') ∧ Its w0 (.ints w0.heap.size (.slice a' n c') (S.sv s) :: .book w0.heap.size g H S :: l) w') := hide (fun W l s n hs hn h => servedS h hs (by have := HL.out; omega) hn)
            have HC := hide hcame
            clear hcame
            go_wp2_with fail
            go_loopw [14] (fun v14 wr => ∃ (s : Nat), v14 = .int .i64 s ∧ s ≤ 40 ∧ Hid (Its w0 (.book w0.heap.size g H S :: .row rqE w0.heap.size (.slice a4 n4 c4) came :: []) wr)) (fun v14 _ => 40 - (intOf v14).toNat)
            case atStart => exact ⟨0, rfl, by omega, HI⟩
            case round =>
              obtain ⟨s, rfl, hs, HI1⟩ := hrel
              by_cases hlt : s < 40
              · have j0 : (s : Int) < 40 := by omega
                have Hs : Hid (I64 (s : Int)) := hide (i64_small (by omega) (by omega))
                have HI2 := hide (HI1.out.empty intE)
                clear HI1
                go_wp2_with fail
                obtain ⟨wC, rfl⟩ : ∃ W, W = wr := ⟨_, rfl⟩
                go_loopw [15, 101] (fun v15 v101 wr => ∃ (k : Nat) (v : Value), v = v15 ∧ v101 = .int .i64 k ∧ k ≤ n4 ∧ Hid (Its w0 (.ints w0.heap.size v (idsAt s (came.take k)) :: .book w0.heap.size g H S :: .row rqE w0.heap.size (.slice a4 n4 c4) came :: []) wr)) (fun _ v101 _ => n4 - (intOf v101).toNat)
                case atStart => exact ⟨0, _, rfl, rfl, by omega, HI2⟩
                case round =>
                  obtain ⟨k, v, hv, rfl, hk, HI3⟩ := hrel
                  subst hv
                  by_cases hkn : k < n4
                  · obtain ⟨r, hr⟩ : ∃ r, came[k]? = some r := ⟨_, List.getElem?_eq_getElem (by rw [Hn4.out]; exact hkn)⟩
                    obtain ⟨b4, off4, rfl, z0, z1, z2⟩ := rq_at (El.Own.rd HI3.out.three) k r hr
                    obtain ⟨ri, rs, rt⟩ := r
                    simp only at z0 z1 z2
                    have k0 : (k : Int) < (n4 : Int) := by omega
                    have k1 : (0 : Int) ≤ (k : Int) := by omega
                    have HT := hide (idsAt_take hr s)
                    have Hl4 : Hid ((idsAt s (came.take k)).length ≤ 200) := hide (by
                      have h1 : (idsAt s (came.take k)).length ≤ (came.take k).length := by unfold idsAt; rw [List.length_map]; exact List.length_filter_le _ _
                      have h2 : (came.take k).length ≤ k := by rw [List.length_take]; omega
                      omega)
                    go_upto_region 34 with fail
                    have HI5 := hide (HI3.out.alloc (.cells #[.int .i64 ri, .int .i64 rs, .int .i64 rt] 31))
                    have hb5 : (wr.alloc (.cells #[.int .i64 ri, .int .i64 rs, .int .i64 rt] 31)).heap[wr.heap.size]? = some (.cells #[.int .i64 ri, .int .i64 rs, .int .i64 rt] 31) := heap_new wr _
                    generalize wr.alloc (.cells #[.int .i64 ri, .int .i64 rs, .int .i64 rt] 31) = W5 at *
                    generalize wr.heap.size = bc at *
                    have d0 : W5.cell? ⟨bc, 0, none⟩ = some (.int .i64 ri) := (cells_at hb5 0).1
                    have d1 : W5.cell? ⟨bc, 1, none⟩ = some (.int .i64 rs) := (cells_at hb5 1).1
                    clear hb5 z0 z1 z2 hr HI3
                    by_cases q : rs = (s : Int)
                    · have hq : (rs == (s : Int)) = true := beq_iff_eq.2 q
                      have HT1 : Hid (idsAt s (came.take k) ++ [ri] = idsAt s (came.take (k + 1))) := hide (by rw [HT.out, if_pos q])
                      have HX5 := hide (HI5.out.alloc (.cells #[.int .i64 ri] 3))
                      have HR5 := hide (int_new W5 ri _ rfl)
                      have HNm : Hid ((idsAt s (came.take k)).length + [ri].length ≤ 1000000) := hide (by have := Hl4.out; simp only [List.length_cons, List.length_nil]; omega)
                      clear q HT
                      go_wp2_with (at_builtin; refine intE.wpB (B := w0.heap.size) HX5.out.size (by rfl) _ _ rfl _ _ rfl rfl _ [ri] HX5.out.one HR5.out HNm.out ?_; intro v5 W6 ho hg hs; rw [HT1.out] at ho; have HI6 := hide (HX5.out.grow ho hg hs); clear ho hg hs)
                      go_roundw
                      case rel => exact ⟨k + 1, _, rfl, by go_num, by omega, HI6⟩
                      case measure => simp [intOf]; omega
                    · have hq : (rs == (s : Int)) = false := beq_eq_false_iff_ne.2 q
                      have HT1 : Hid (idsAt s (came.take (k + 1)) = idsAt s (came.take k)) := hide (by rw [HT.out, if_neg q, List.append_nil])
                      clear q HT
                      go_wp2_with fail
                      go_roundw
                      case rel => exact ⟨k + 1, v, rfl, by go_num, by omega, hide (by rw [HT1.out]; exact HI5.out)⟩
                      case measure => simp [intOf]; omega
                  · have k0 : ¬ (k : Int) < (n4 : Int) := by omega
                    have htk : came.take k = came := List.take_of_length_le (by have := Hn4.out; omega)
                    have HI4 := HI3.out
                    rw [htk, HW.out s] at HI4
                    obtain ⟨nd, hnd⟩ : ∃ nd, (S.sv s).length = nd := ⟨_, rfl⟩
                    obtain ⟨nf, hnf⟩ : ∃ nf, (idsAt s (ops S.all)).length = nf := ⟨_, rfl⟩
                    obtain ⟨nw, hnw⟩ : ∃ nw, nd + nf = nw := ⟨_, rfl⟩
                    have hlen : (S.sv s ++ idsAt s (ops S.all)).length = nw := by rw [List.length_append, hnd, hnf]; exact hnw
                    have hsm : nd ≤ 200 := by
                      have h1 : (S.sv s).length ≤ S.done.length := List.length_filter_le _ _
                      have := HL.out
                      omega
                    have hsf : nf ≤ 100 := by
                      have h1 : (idsAt s (ops S.all)).length ≤ (ops S.all).length := by unfold idsAt; rw [List.length_map]; exact List.length_filter_le _ _
                      have := (bk_lie HI4.two).1.few
                      omega
                    obtain ⟨a5, c5, ev, hcap, hcm⟩ : ∃ a5 c5, v = .slice a5 nw c5 ∧ nw ≤ c5 ∧ c5 ≤ maxLen := by
                      have ho := HI4.one
                      rcases El.Own.form2 ho with ⟨a, c, h1, h2, h3⟩
                      rw [hlen] at h1 h2
                      exact ⟨a, c, h1, h2, h3⟩
                    subst ev
                    have HRt : Hid (∀ W : World, intE.Rd W (.slice a5 nw c5) (S.sv s ++ idsAt s (ops S.all)) → intE.Rd W (.slice a5 nd c5) (S.sv s)) := hide (fun W h => by
                      have := h.take nd (by rw [hlen]; omega)
                      have e5 : (S.sv s ++ idsAt s (ops S.all)).take nd = S.sv s := by rw [← hnd]; exact List.take_left
                      rw [e5] at this
                      exact this)
                    have KS := hide (K20.out wr _ s nd Hs.out hnd HI4.swap)
                    have K21 : Hid (∀ W (a b : Option Addr) (c d : Nat), intE.Rd W (.slice a nd c) (S.sv s) → intE.Rd W (.slice b nd d) (S.sv s) → Calls Try.prog 21 #[.slice a nd c, .slice b nd d] W fun e w' => e = .returned (.bool true) ∧ ∃ q, w' = W.drewN q) := hide (fun W a b c d h1 h2 => ints_eq a b c d nd _ W hnd h1 h2 (by omega))
                    have t0 : ¬ (nw : Int) < (nd : Int) := by omega
                    have t1 : (0 : Int) ≤ (nd : Int) := by omega
                    have t2 : (nd : Int) ≤ (c5 : Int) := by omega
                    have t3 : (nd : Int) ≤ (nw : Int) := by omega
                    have t4 : nd ≤ c5 := by omega
                    have t5 : (c5 : Int) ≤ 9223372036854775807 := by unfold maxLen at hcm; omega
                    clear htk hkn hk HI3 HI4 hcap hcm
                    go_upto_region 40 with (first
                      | (go_at_call 21; refine (K21.out _ _ _ _ _ (El.Own.rd HI6.out.one) (HRt.out _ (El.Own.rd HI6.out.three))).mono ?_; rintro e W7 ⟨rfl, q7, rfl⟩; have HI7 := hide (HI6.out.drew q7))
                      | (go_at_call 20; refine KS.out.mono ?_; rintro e W6 ⟨a6, c6, rfl, hg⟩; have HI6 := hide hg; clear hg))
                    have HI7s := hide HI7.out.swap
                    generalize W6.drewN q7 = W7 at *
                    clear KS K21 HRt HI6 HI7
                    have KF := hide (K22.out W7 _ s HI7s.out)
                    rcases fst_cases S.all s with ⟨hf1, hf2⟩ | ⟨r, t, hf1, hf2⟩
                    · rw [hf1] at KF
                      simp only [rqV, Option.isSome_none] at KF
                      rw [hf2] at hnf
                      simp only [List.length_nil] at hnf
                      have hwd : nw = nd := by omega
                      clear hf1 hf2 hnf hnw hnd hlen
                      subst hwd
                      clear t0 t3
                      have t6 : decide ((nw : Int) < (nw : Int)) = false := decide_eq_false (by omega)
                      go_upto_region 41 with (go_at_call 22; refine KF.out.mono ?_; rintro e W8 ⟨rfl, hg⟩; have HI8 := hide (hg.alloc (.cells #[.int .i64 0, .int .i64 0, .int .i64 0] 31)); clear hg)
                      generalize W8.alloc (.cells #[.int .i64 0, .int .i64 0, .int .i64 0] 31) = W9 at *
                      go_quiet (fail)
                      have HI9 := hide (HI8.out.drew nq)
                      generalize W9.drewN nq = W10 at *
                      go_wp2_with fail
                      go_roundw
                      case rel => exact ⟨s + 1, by go_num, by omega, hide (HI9.out.rot3.tail.swap.tail)⟩
                      case measure => simp [intOf]; omega
                    · rw [hf1] at KF
                      obtain ⟨ri, rs, rt⟩ := r
                      simp only [rqV, Option.isSome_some] at KF
                      rw [hf2] at hnf
                      simp only [List.length_cons] at hnf
                      have hat : (S.sv s ++ idsAt s (ops S.all))[nd]? = some ri := by rw [hf2, ← hnd]; simp
                      have Hat := hide hat
                      have t6 : (nd : Int) < (nw : Int) := by omega
                      have t7 : (ri != ri) = false := bne_self_eq_false _
                      clear hf1 hf2 hnf hnw hnd hlen hat
                      go_upto_region 41 with (go_at_call 22; refine KF.out.mono ?_; rintro e W8 ⟨rfl, hg⟩; have HI8 := hide (hg.new (x := .box W8.heap.size #[.int .i64 ri, .int .i64 rs, .int .i64 rt] 31) (heap_new W8 _) (fun k hk => by cases hk; exact Nat.le_refl _) (below_new W8 _)); clear hg)
                      generalize W8.alloc (.cells #[.int .i64 ri, .int .i64 rs, .int .i64 rt] 31) = W9 at *
                      generalize W8.heap.size = bf at *
                      have p0 : W9.cell? ⟨bf, 0, none⟩ = some (.int .i64 ri) := (cells_at HI8.out.one 0).1
                      obtain ⟨b5, off5, rfl, p1⟩ := int_at (El.Own.rd HI8.out.four) nd ri Hat.out
                      go_quiet (fail)
                      have HI9 := hide (HI8.out.drew nq).tail
                      generalize W9.drewN nq = W10 at *
                      go_wp2_with fail
                      go_roundw
                      case rel => exact ⟨s + 1, by go_num, by omega, hide (HI9.out.rot3.tail.swap.tail)⟩
                      case measure => simp [intOf]; omega
              · have j0 : ¬ (s : Int) < 40 := by omega
                have HI1' := HI1
                go_wp2_with fail
                go_roundw
                case rel => exact ⟨i + 1, S, H, a4, n4, c4, rfl, by go_num, by omega, by omega, HL, HV, hide (by rw [HC.out]; exact HI1'.out)⟩
                case measure => simp [intOf]; omega
      · have q1 : ¬ (i : Int) < 120 := by omega
        go_wp2_with fail
        go_ret
        exact ⟨rfl, HI.out.bel⟩
    · have q0 : ¬ (i : Int) < (m : Int) := by omega
      go_wp2_with fail
      go_ret
      exact ⟨rfl, HI.out.bel⟩
end Go.Proofs.Ytfmpipihjnpimaa
