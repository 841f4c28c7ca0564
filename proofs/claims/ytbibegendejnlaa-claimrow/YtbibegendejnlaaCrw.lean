/- ClaimRow: the walk. -/
import Derived.Test.YtbibegendejnlaaCrm
namespace Go.Proofs.Ytbibegendejnlaa
open Go.RowKit
set_option linter.unusedVariables false

set_option maxRecDepth 100000 in
set_option maxHeartbeats 8000000 in
theorem row_walk (a : Option Addr) (m c : Nat) (zs : List Int) (n1 : Int) (w : World) (hm : zs.length = m) (hv : intE.Rd w (.slice a m c) zs) : Calls Try.prog 6 #[.slice a m c, .int .i64 n1] w fun e w' => e = .returned (.bool true) ∧ Below w.heap.size w w' := by
  obtain ⟨w0, rfl⟩ : ∃ w0, w0 = w := ⟨_, rfl⟩
  have KA := hide awake_any
  have HD : Hid (0 ≤ wrap64 ((IntKind.u64.wrap n1).tmod 5) ∧ wrap64 ((IntKind.u64.wrap n1).tmod 5) < 5) := hide (by obtain ⟨k, hk, hk5⟩ := few n1 5 (by omega); rw [hk]; omega)
  have HR : Hid (∀ W, Below w0.heap.size w0 W → intE.Rd W (.slice a m c) zs) := hide (fun W hb => hv.keep hb)
  have Hm := hide hm
  clear hm hv
  go_enter Try.func6, Try.ntmps6
  go_upto_region 3 with (go_at_call 9; refine (KA.out _).mono ?_; rintro e W1 ⟨rfl, hb1⟩; have HB := hide hb1; clear hb1)
  have KN := hide (new_ok 5 W1 (by omega) (by omega))
  go_upto_region 7 with (go_at_call 10; refine KN.out.mono ?_; rintro e WN ⟨g, rfl, gh, hT, hb, h1, h2, h3⟩; have HTN := hide (hT (bl (.slice none 0 0))); have HB2 := hide (HB.out.trans (hb.mono HB.out.size)); have Hg := hide (show W1.heap.size ≤ g ∧ g < WN.heap.size by obtain ⟨_, _, h⟩ := hT no; exact ⟨h.base, h3⟩); have Hgh := hide (show W1.heap.size ≤ gh ∧ gh < WN.heap.size from ⟨h1, h2⟩); clear hT hb h1 h2 h3)
  generalize wrap64 ((IntKind.u64.wrap n1).tmod 5) = d at *
  generalize (IntKind.u64.wrap n1).tmod 5 = y2 at *
  generalize IntKind.u64.wrap n1 = y3 at *
  have hBF : Hid (∀ W, Below w0.heap.size w0 W → ∀ W', Fr W1.heap.size g gh W W' → Below w0.heap.size w0 W') := hide (fun W hb W' hf => by
    have h1 := HB.out.size
    have h2 := Hg.out.1
    have h3 := Hgh.out.1
    exact hf.below hb hb.size (by omega) (by omega) (by omega))
  clear KN KA
  go_upto_region 9 with fail
  go_loopw [7, 8] (fun v7 v8 wr => ∃ (i : Nat) (ord : List Int), v8 = .int .i64 i ∧ i ≤ m ∧ i ≤ 30 ∧ Hid (intE.Own wr WN.heap.size v7 ord ∧ ord.length ≤ i) ∧ Hid (∃ T, Tbl wr W1.heap.size g gh (bl v7) T ∧ RW d ord T) ∧ Hid (Below w0.heap.size w0 wr) ∧ Hid (WN.heap.size ≤ wr.heap.size)) (fun _ v8 _ => 40 - (intOf v8).toNat)
  case atStart => exact ⟨0, [], rfl, by omega, by omega, hide ⟨El.Own.nil _ _ _, by simp⟩, hide ⟨_, HTN.out, RW.start d⟩, HB2, hide (Nat.le_refl _)⟩
  case round =>
    clear HTN
    obtain ⟨i, ord, rfl, him, hi30, HO, HT, HB4, HsW⟩ := hrel
    obtain ⟨vo, hvo⟩ : ∃ v, v = u7 := ⟨_, rfl⟩
    subst hvo
    have q2 : (0 : Int) ≤ (i : Int) := by omega
    obtain ⟨a7, c7, hf7⟩ := HO.out.1.rd.form
    obtain ⟨n7, hn7⟩ : ∃ n, ord.length = n := ⟨_, rfl⟩
    rw [hn7] at hf7
    subst hf7
    have Hn7 := hide hn7
    have q7 : (n7 : Int) ≤ 30 := by have := HO.out.2; omega
    have q8 : (0 : Int) ≤ (n7 : Int) := by omega
    clear hn7
    by_cases hgo : i < m ∧ i < 30
    · obtain ⟨x, hx⟩ : ∃ x, zs[i]? = some x := ⟨_, List.getElem?_eq_getElem (by rw [Hm.out]; exact hgo.1)⟩
      obtain ⟨b, off, rfl, c0⟩ := int_at (HR.out wr HB4.out) i x hx
      obtain ⟨k, hk, hk30⟩ := few x 30 (by omega)
      obtain ⟨t, ht⟩ : ∃ t : Int, (k : Int) + 1 = t := ⟨_, rfl⟩
      have Ht : Hid (1 ≤ t ∧ t ≤ 30) := hide (by omega)
      have q0 : (i : Int) < (m : Int) := by omega
      have q1 : (i : Int) < 30 := by omega
      have K11 : Hid (Calls Try.prog 11 #[.pointer (some ⟨g, 0, none⟩), .int .i64 t, .slice (some ⟨wr.heap.size, 0, none⟩) 1 1] (wr.alloc (.cells #[.int .i64 d] 3)) fun e w' => ∃ yes code, e = .returned (.tuple #[.bool yes, .int .i64 code]) ∧ RCase W1.heap.size g gh (.slice a7 n7 c7) d t ord yes code w' ∧ Fr W1.heap.size g gh wr w') := hide (by
        obtain ⟨T, h1, h2⟩ := HT.out
        exact row_claim h1 HO.out.1 HD.out Ht.out h2)
      clear hx hgo
      go_upto_region 13 with (go_at_call 11; refine K11.out.mono ?_; rintro e W5 ⟨yes, code, rfl, hC, hF⟩; have HC := hide hC; have HO5 := hide (hF.ownN HO.out.1 Hg.out.2 Hgh.out.2); have HB5 := hide (hBF.out _ HB4.out _ hF); have Hs5 := hide (Nat.le_trans HsW.out hF.size); clear hC hF)
      clear K11 hk ht hk30 c0
      generalize wrap64 ((IntKind.u64.wrap x).tmod 30) = y4 at *
      generalize (IntKind.u64.wrap x).tmod 30 = y5 at *
      generalize IntKind.u64.wrap x = y6 at *
      go_upto_region 15 with fail
      go_loopw [12, 64] (fun v12 v64 wr => ∃ k : Nat, wr = W5 ∧ v64 = .int .i64 k ∧ k ≤ n7 ∧ v12 = .bool (decide (t ∈ ord.take k))) (fun _ v64 _ => n7 - (intOf v64).toNat)
      case atStart => exact ⟨0, rfl, rfl, Nat.zero_le _, by simp⟩
      case round =>
        obtain ⟨k, hw, rfl, hkn, rfl⟩ := hrel
        have hw' := hw.symm
        clear hw
        subst hw'
        have g0 : (0 : Int) ≤ (k : Int) := by omega
        by_cases hkl : k < n7
        · obtain ⟨p, hp⟩ : ∃ p, ord[k]? = some p := ⟨_, List.getElem?_eq_getElem (by rw [Hn7.out]; exact hkl)⟩
          obtain ⟨bo, oo, rfl, c1⟩ := int_at HO5.out.rd k p hp
          have g1 : (k : Int) < (n7 : Int) := by omega
          have Htk : Hid (decide (t ∈ ord.take (k + 1)) = (decide (t ∈ ord.take k) || decide (t = p))) := hide (by
            rw [List.take_add_one, hp, ← Bool.decide_or]
            exact decide_eq_decide.2 (by simp))
          clear hp
          cases hb : decide (t ∈ ord.take k) with
          | true =>
            rw [hb, Bool.true_or] at Htk
            clear hb
            go_wp2_with fail
            go_roundw
            case rel => exact ⟨k + 1, trivial, by go_num, by omega, by rw [Htk.out]⟩
            case measure => simp [intOf]; omega
          | false =>
            rw [hb, Bool.false_or] at Htk
            clear hb
            by_cases he : p = t
            · have he1 : decide (t = p) = true := decide_eq_true he.symm
              have he2 : (p == t) = true := beq_iff_eq.2 he
              rw [he1] at Htk
              clear he1
              go_wp2_with fail
              go_roundw
              case rel => exact ⟨k + 1, trivial, by go_num, by omega, by rw [Htk.out]⟩
              case measure => simp [intOf]; omega
            · have he' : (p == t) = false := beq_eq_false_iff_ne.2 he
              have he1 : decide (t = p) = false := decide_eq_false (fun e => he e.symm)
              rw [he1] at Htk
              clear he1
              go_wp2_with fail
              go_roundw
              case rel => exact ⟨k + 1, trivial, by go_num, by omega, by rw [Htk.out]⟩
              case measure => simp [intOf]; omega
        · obtain rfl : k = n7 := by omega
          have g1 : ¬ (k : Int) < (k : Int) := by omega
          rw [List.take_of_length_le (by rw [Hn7.out]; exact Nat.le_refl _)]
          obtain ⟨n7, hn7⟩ : ∃ n, n = k := ⟨_, rfl⟩
          subst hn7
          have Hba : Hid (∀ (o : Obj), Below W5.heap.size W5 (W5.alloc o)) := hide (fun o => (Below.refl _ _).alloc (Nat.le_refl _) o)
          have Happ : Hid (∀ (w6 : World) (v6 : Value) (o : Obj), (∃ T, Tbl W5 W1.heap.size g gh (bl (.slice a7 n7 c7)) T ∧ RW d (ord ++ [t]) T) → intE.Own w6 WN.heap.size v6 (ord ++ [t]) → (W5.alloc o).grownBy w6 (Value.slice a7 n7 c7).ownBlock → (v6.ownBlock = (Value.slice a7 n7 c7).ownBlock ∨ v6.ownBlock = some (W5.alloc o).heap.size) → (∃ T, Tbl w6 W1.heap.size g gh (bl v6) T ∧ RW d (ord ++ [t]) T) ∧ Below w0.heap.size w0 w6 ∧ WN.heap.size ≤ w6.heap.size) := hide (fun w6 v6 o hTT ho hg hs => by
            obtain ⟨T, h1, h2⟩ := hTT
            have hb := HB5.out.trans ((Hba.out o).mono HB5.out.size)
            refine ⟨⟨T, h1.rowApp HO5.out hg hs Hg.out.2 Hgh.out.2, h2⟩, hb.grown hg hb.size (fun k hk => ?_), Nat.le_trans Hs5.out (Nat.le_trans (Hba.out o).size hg.size)⟩
            have e1 := HO5.out.ge k hk
            have e2 := HB2.out.size
            omega)
          have Hl2 : Hid (ord.length + [t].length ≤ 1000000) := hide (by have := HO.out.2; simp only [List.length_cons, List.length_nil]; omega)
          have Hl3 : Hid ((ord ++ [t]).length ≤ i + 1) := hide (by have := HO.out.2; rw [List.length_append]; simp only [List.length_cons, List.length_nil]; omega)
          rcases HC.out with ⟨hord, rfl, rfl, hTT⟩ | ⟨f, r, hord, hft, htr, rfl, rfl, hTT⟩ | ⟨f, r, hord, hft, htr, rfl, rfl, hTT⟩ | ⟨hord, rfl, rfl, hTT⟩ | ⟨f, r, hord, rfl, rfl, hTT⟩
          · have hz : n7 = 0 := by rw [← Hn7.out, hord]; rfl
            have hno : decide (t ∈ ord) = false := by rw [hord]; simp
            rw [hno]
            have HTT := hide hTT
            subst hz
            clear hno hTT HC hord
            go_wp2_with (at_builtin; refine intE.wpB (B := WN.heap.size) (Nat.le_trans Hs5.out (Hba.out _).size) (by rfl) _ _ rfl _ _ rfl rfl ord [t] (HO5.out.keep (Hba.out _)) (int_new _ _ _ rfl) Hl2.out ?_; intro v6 w6 ho6 hg6 hs6; have HS := hide (Happ.out _ _ _ HTT.out ho6 hg6 hs6); have HO6 := hide ho6; clear ho6 hg6 hs6)
            have HX := hide (show _ ∧ _ from ⟨HO6.out, Hl3.out⟩)
            have HX1 := hide HS.out.1
            have HX2 := hide HS.out.2.1
            have HX3 := hide HS.out.2.2
            go_roundw
            case rel => exact ⟨i + 1, ord ++ [t], by go_num, by omega, by omega, HX, HX1, HX2, HX3⟩
            case measure => simp [intOf]; omega
          · have hno : decide (t ∈ ord) = false := decide_eq_false (by rw [hord]; intro hm; rcases List.mem_cons.1 hm with e | e; exact hft e.symm; exact htr e)
            rw [hno]
            have HTT := hide hTT
            have hpos : ¬ (n7 = 0) := by rw [← Hn7.out, hord]; simp
            have hpos' : (0 : Int) < (n7 : Int) := by omega
            have hpos2 : ((n7 : Int) == 0) = false := beq_eq_false_iff_ne.2 (by omega)
            obtain ⟨bo, oo, rfl, c1⟩ := int_at HO5.out.rd 0 f (by rw [hord]; rfl)
            rw [Nat.add_zero] at c1
            have he' : (f == t) = false := beq_eq_false_iff_ne.2 hft
            clear hno hTT HC hord
            go_wp2_with (at_builtin; refine intE.wpB (B := WN.heap.size) (Nat.le_trans Hs5.out (Hba.out _).size) (by rfl) _ _ rfl _ _ rfl rfl ord [t] (HO5.out.keep (Hba.out _)) (int_new _ _ _ rfl) Hl2.out ?_; intro v6 w6 ho6 hg6 hs6; have HS := hide (Happ.out _ _ _ HTT.out ho6 hg6 hs6); have HO6 := hide ho6; clear ho6 hg6 hs6)
            have HX := hide (show _ ∧ _ from ⟨HO6.out, Hl3.out⟩)
            have HX1 := hide HS.out.1
            have HX2 := hide HS.out.2.1
            have HX3 := hide HS.out.2.2
            go_roundw
            case rel => exact ⟨i + 1, ord ++ [t], by go_num, by omega, by omega, HX, HX1, HX2, HX3⟩
            case measure => simp [intOf]; omega
          · have hno : decide (t ∈ ord) = true := decide_eq_true (by rw [hord]; exact List.mem_cons_of_mem _ htr)
            rw [hno]
            have HTT := hide hTT
            have hpos : ¬ (n7 = 0) := by rw [← Hn7.out, hord]; simp
            have hpos' : (0 : Int) < (n7 : Int) := by omega
            have hpos2 : ((n7 : Int) == 0) = false := beq_eq_false_iff_ne.2 (by omega)
            obtain ⟨bo, oo, rfl, c1⟩ := int_at HO5.out.rd 0 f (by rw [hord]; rfl)
            rw [Nat.add_zero] at c1
            have he' : (f == t) = false := beq_eq_false_iff_ne.2 hft
            have HX := hide (show intE.Own W5 WN.heap.size (.slice (some ⟨bo, oo, none⟩) n7 c7) ord ∧ ord.length ≤ i + 1 from ⟨HO5.out, by have := HO.out.2; omega⟩)
            clear hno hTT HC hord
            go_wp2_with fail
            go_roundw
            case rel => exact ⟨i + 1, ord, by go_num, by omega, by omega, HX, HTT, HB5, Hs5⟩
            case measure => simp [intOf]; omega
          · have hno : decide (t ∈ ord) = true := decide_eq_true (by rw [hord]; simp)
            rw [hno]
            have HTT := hide hTT
            have hz : n7 = 1 := by rw [← Hn7.out, hord]; rfl
            subst hz
            obtain ⟨bo, oo, rfl, c1⟩ := int_at HO5.out.rd 0 t (by rw [hord]; rfl)
            rw [Nat.add_zero] at c1
            have HX := hide (show intE.Own W5 WN.heap.size (.slice (some ⟨bo, oo, none⟩) 1 c7) ord ∧ ord.length ≤ i + 1 from ⟨HO5.out, by have := HO.out.2; omega⟩)
            have K22 : Hid (Calls Try.prog 22 #[.pointer (some ⟨g, 0, none⟩)] W5 fun e w' => (∃ a c, e = .returned (.slice a 0 c)) ∧ Below W5.heap.size W5 w') := hide (by
              obtain ⟨T, h1, h2⟩ := hTT
              refine (waiting_any h1 (by have := h2.wf.qlen; omega)).mono ?_
              rintro e w' ⟨⟨v, rfl, ho⟩, hb⟩
              obtain ⟨a', c', hf⟩ := ho.rd.form
              rw [List.length_map, h2.q, hord] at hf
              exact ⟨⟨a', c', by rw [hf]; rfl⟩, hb⟩)
            clear hno hTT HC hord
            go_wp2_with (go_at_call 22; refine K22.out.mono ?_; rintro e W6 ⟨⟨a6, c6, rfl⟩, hb⟩; have HO6 := hide (show _ ∧ _ from ⟨HX.out.1.keep hb, HX.out.2⟩); have HT6 : Hid (∃ T, Tbl W6 W1.heap.size g gh (bl (.slice (some ⟨bo, oo, none⟩) 1 c7)) T ∧ RW d ord T) := hide (by obtain ⟨T, h1, h2⟩ := HTT.out; exact ⟨T, h1.keep hb, h2⟩); have HB6 := hide (HB5.out.trans (hb.mono HB5.out.size)); have Hs6 := hide (Nat.le_trans Hs5.out hb.size); clear hb)
            go_roundw
            case rel => exact ⟨i + 1, ord, by go_num, by omega, by omega, HO6, HT6, HB6, Hs6⟩
            case measure => simp [intOf]; omega
          · have hno : decide (t ∈ ord) = true := decide_eq_true (by rw [hord]; simp)
            rw [hno]
            have hpos : ¬ (n7 = 0) := by rw [← Hn7.out, hord]; simp
            have hpos' : (0 : Int) < (n7 : Int) := by omega
            have hpos2 : ((n7 : Int) == 0) = false := beq_eq_false_iff_ne.2 (by omega)
            obtain ⟨bo, oo, rfl, c1⟩ := int_at HO5.out.rd 0 t (by rw [hord]; rfl)
            rw [Nat.add_zero] at c1
            have HX := hide (show intE.Own W5 WN.heap.size (.slice (some ⟨bo, oo, none⟩) n7 c7) ord ∧ ord.length ≤ i + 1 from ⟨HO5.out, by have := HO.out.2; omega⟩)
            have HK : Hid (Calls Try.prog 22 #[.pointer (some ⟨g, 0, none⟩)] W5 (fun e w' => (∃ a n c, e = .returned (.slice a (n + 1) c)) ∧ Below W5.heap.size W5 w') ∧ ∀ W, Below W5.heap.size W5 W → Calls Try.prog 16 #[.pointer (some ⟨g, 0, none⟩), .int .i64 t] W fun e w' => (∃ v, e = .returned (.tuple #[v, .int .i64 0])) ∧ (∃ T, Tbl w' W1.heap.size g gh (bl (.slice (some ⟨bo, oo, none⟩) n7 c7)) T ∧ RW d ord T) ∧ Fr W1.heap.size g gh W w') := hide (by
              obtain ⟨T, h1, hwa, h2⟩ := hTT
              refine ⟨(waiting_any h2 (by have := hwa.qlen; omega)).mono ?_, fun W hb => ?_⟩
              · rintro e w' ⟨⟨v, rfl, ho⟩, hb⟩
                obtain ⟨a', c', hf⟩ := ho.rd.form
                rw [List.length_map, List.length_append] at hf
                exact ⟨⟨a', T.q.length, c', by rw [hf]; rfl⟩, hb⟩
              · refine (row_drop (h2.keep hb) h1 hwa Ht.out (by rw [hord]; intro hm; have := h1.nd; rw [hord] at this; exact (List.nodup_cons.1 this).1 hm)).mono ?_
                rintro e w' ⟨he, hT', hF⟩
                exact ⟨he, ⟨T, hT', h1⟩, hF⟩)
            have K22 := hide HK.out.1
            have K16 := hide HK.out.2
            clear hno hTT HC hord HK
            go_wp2_with (first | (go_at_call 22; refine K22.out.mono ?_; rintro e W6 ⟨⟨a6, n6, c6, rfl⟩, hb⟩; have q6 : ((n6 : Int) + 1 == 0) = false := beq_eq_false_iff_ne.2 (by omega); have q6' : ¬ ((n6 : Int) + 1 = 0) := (by omega); have HOb := hide hb; clear hb) | (go_at_call 16; refine (K16.out _ HOb.out).mono ?_; rintro e W7 ⟨⟨v7, rfl⟩, hT, hF⟩; have HT6 := hide hT; have HO6 := hide (show _ ∧ _ from ⟨hF.ownN (HX.out.1.keep HOb.out) Hg.out.2 Hgh.out.2, HX.out.2⟩); have HB6 := hide (hBF.out _ (HB5.out.trans (HOb.out.mono HB5.out.size)) _ hF); have Hs6 := hide (Nat.le_trans (Nat.le_trans Hs5.out HOb.out.size) hF.size); clear hT hF))
            go_roundw
            case rel => exact ⟨i + 1, ord, by go_num, by omega, by omega, HO6, HT6, HB6, Hs6⟩
            case measure => simp [intOf]; omega
    · have hor : i = m ∨ (i < m ∧ i = 30) := by omega
      clear hgo
      rcases hor with hor | hor
      · have q0 : ¬ (i : Int) < (m : Int) := by omega
        clear hor
        go_upto_region 30 with fail
        go_loopw [139] (fun v139 wr => ∃ (j : Nat), v139 = .int .i64 j ∧ j ≤ n7 ∧ Hid (intE.Own wr WN.heap.size (.slice a7 n7 c7) ord) ∧ Hid (∃ T, Tbl wr W1.heap.size g gh (bl (.slice a7 n7 c7)) T ∧ RW d (ord.drop j) T) ∧ Hid (Below w0.heap.size w0 wr)) (fun v139 _ => n7 - (intOf v139).toNat)
        case atStart => exact ⟨0, rfl, by omega, hide HO.out.1, HT, HB4⟩
        case round =>
          clear HT HB4
          obtain ⟨j, rfl, hj, HO5, HT5, HB5⟩ := hrel
          have g0 : (0 : Int) ≤ (j : Int) := by omega
          by_cases hjn : j < n7
          · obtain ⟨f, hf⟩ : ∃ f, ord[j]? = some f := ⟨_, List.getElem?_eq_getElem (by rw [Hn7.out]; exact hjn)⟩
            obtain ⟨bo, oo, rfl, c1⟩ := int_at HO5.out.rd j f hf
            have hdj : ord.drop j = f :: ord.drop (j + 1) := by
              have hlt : j < ord.length := by rw [Hn7.out]; exact hjn
              rw [List.getElem?_eq_getElem hlt] at hf
              cases hf
              exact List.drop_eq_getElem_cons hlt
            obtain ⟨T, h1, h2⟩ := HT5.out
            rw [hdj] at h2
            have K21 := hide (holder_any h1 d)
            rw [show hat T.hold d = f from h2.head] at K21
            have K14 : Hid (Calls Try.prog 14 #[.pointer (some ⟨g, 0, none⟩), .int .i64 f, .int .i64 d] wr fun e w' => ∃ v, e = .returned (.tuple #[v, .int .i64 0]) ∧ intE.Own w' wr.heap.size v ((ord.drop (j + 1)).take 1) ∧ (∃ T, Tbl w' W1.heap.size g gh (bl (.slice (some ⟨bo, oo, none⟩) n7 c7)) T ∧ RW d (ord.drop (j + 1)) T) ∧ Fr W1.heap.size g gh wr w') := hide (by
              have hbad : badN T.hold.length f d = false := by
                unfold badN
                rw [show toteB f = true from decide_eq_true (h2.tot f (by simp)), show inB T.hold.length d = true from decide_eq_true (by rw [h2.len]; exact HD.out)]; rfl
              refine (rel_ok h1 h2.wf f d hbad h2.head).mono ?_
              rintro e w' ⟨v, rfl, T', l, ho, hG, hT', hF⟩
              obtain ⟨e1, e2⟩ := h2.rel HD.out hG
              subst e1
              exact ⟨v, rfl, ho, ⟨T', hT', e2⟩, hF⟩)
            have qf : (f != f) = false := bne_self_eq_false _
            have Hle : Hid ((ord.drop (j + 1)).length = n7 - (j + 1)) := hide (by rw [List.length_drop, Hn7.out])
            obtain ⟨_, cc, hform, hc1, hc2⟩ := HO5.out.some (fun e => by rw [e] at hf; simp at hf)
            simp only [Value.slice.injEq, Option.some.injEq, Addr.mk.injEq] at hform
            obtain ⟨⟨rfl, rfl, _⟩, hnn, hcc⟩ := hform
            rw [Nat.zero_add] at c1
            have hcap : (n7 : Int) ≤ (c7 : Int) := by rw [Hn7.out] at hc1; omega
            have hcm : (c7 : Int) ≤ 9223372036854775807 := by unfold maxLen at hc2; omega
            clear hf hdj h1 h2 hc1 hc2 hcc hnn
            have g1 : (j : Int) < (n7 : Int) := by omega
            by_cases hnx : j + 1 < n7
            · have g2 : (j : Int) + 1 < (n7 : Int) := by omega
              have g3 : ((j : Int) + 1 == (n7 : Int)) = false := beq_eq_false_iff_ne.2 (by omega)
              have g4 : ¬ ((j : Int) + 1 = (n7 : Int)) := by omega
              obtain ⟨x, hx⟩ : ∃ x, (ord.drop (j + 1)).take 1 = [x] ∧ ord[j + 1]? = some x := by
                have hlt : j + 1 < ord.length := by rw [Hn7.out]; exact hnx
                exact ⟨ord[j + 1], by rw [List.drop_eq_getElem_cons hlt]; rfl, List.getElem?_eq_getElem hlt⟩
              rw [hx.1] at K14
              have hnc : ¬ (c7 = j + 1) := by omega
              have KI : Hid (∀ (W : World) (v : Value) (B' c' : Nat), intE.Own W B' v [x] → intE.Own W WN.heap.size (.slice (some ⟨bo, 0, none⟩) n7 c7) ord → Calls Try.prog 13 #[v, .slice (some ⟨bo, j + 1, none⟩) 1 c'] W fun e w' => e = .returned (.bool true) ∧ Below W.heap.size W w') := hide (fun W v B' c' ho hord => by
                obtain ⟨a, c, rfl⟩ := ho.rd.form
                have h1 := (hord.rd.drop (cap' := c') (j + 1) (n7 - (j + 1)) (by rw [Hn7.out]) (by rw [Hn7.out]; omega)).take 1 (by rw [Hle.out]; omega)
                rw [hx.1] at h1
                rw [show 0 + (j + 1) * intE.k = j + 1 by show 0 + (j + 1) * 1 = _; omega] at h1
                refine (ints_any a _ c c' 1 1 [x] [x] _ rfl rfl ho.rd h1 (by omega)).mono ?_
                rintro e w' ⟨rfl, q, rfl⟩
                exact ⟨by rw [decide_eq_true rfl], ⟨rfl, rfl, rfl, Nat.le_refl _, fun _ _ => rfl⟩⟩)
              go_wp2_with (first
                | (go_at_call 21; refine K21.out.mono ?_; rintro e W6 ⟨rfl, hW⟩; have hW' := hW.symm; clear hW; subst hW')
                | (go_at_call 14; refine K14.out.mono ?_; rintro e W7 ⟨v7, rfl, ho, hT, hF⟩; have HO7 := hide ho; have HT7 := hide hT; have HOO := hide (hF.ownN HO5.out Hg.out.2 Hgh.out.2); have HB7 := hide (hBF.out _ HB5.out _ hF); clear ho hT hF)
                | (go_at_call 13; refine (KI.out _ _ _ _ HO7.out HOO.out).mono ?_; rintro e W8 ⟨rfl, hb⟩; have HO8 := hide (HOO.out.keep hb); have HT8 : Hid (∃ T, Tbl W8 W1.heap.size g gh (bl (.slice (some ⟨bo, 0, none⟩) n7 c7)) T ∧ RW d (ord.drop (j + 1)) T) := hide (by obtain ⟨T, h1, h2⟩ := HT7.out; exact ⟨T, h1.keep hb, h2⟩); have HB8 := hide (HB7.out.trans (hb.mono HB7.out.size)); clear hb))
              go_roundw
              case rel => exact ⟨j + 1, by go_num, by omega, HO8, HT8, HB8⟩
              case measure => simp [intOf]; omega
            · have hjl : j + 1 = n7 := by omega
              have g2 : ¬ ((j : Int) + 1 < (n7 : Int)) := by omega
              have g3 : ((j : Int) + 1 == (n7 : Int)) = true := beq_iff_eq.2 (by omega)
              have hnil : (ord.drop (j + 1)).take 1 = [] := by rw [List.drop_of_length_le (by rw [Hn7.out]; omega)]; rfl
              rw [hnil] at K14
              have Hjl := hide hjl
              clear hnil hjl
              go_wp2_with (first
                | (go_at_call 21; refine K21.out.mono ?_; rintro e W6 ⟨rfl, hW⟩; have hW' := hW.symm; clear hW; subst hW')
                | (go_at_call 14; refine K14.out.mono ?_; rintro e W7 ⟨v7, rfl, ho, hT, hF⟩; obtain ⟨a8, c8, rfl⟩ := ho.rd.form; have HT7 := hide hT; have HOO := hide (hF.ownN HO5.out Hg.out.2 Hgh.out.2); have HB7 := hide (hBF.out _ HB5.out _ hF); clear ho hT hF))
              go_roundw
              case rel => exact ⟨j + 1, by go_num, by omega, HOO, HT7, HB7⟩
              case measure => simp [intOf]; omega
          · obtain rfl : j = n7 := by omega
            have g1 : ¬ (j : Int) < (j : Int) := by omega
            obtain ⟨T, h1, h2⟩ := HT5.out
            rw [List.drop_of_length_le (by rw [Hn7.out]; exact Nat.le_refl _)] at h2
            have K21 := hide (holder_any h1 d)
            rw [show hat T.hold d = 0 from h2.head] at K21
            clear h1 h2
            go_wp2_with (go_at_call 21; refine K21.out.mono ?_; rintro e W6 ⟨rfl, hW⟩; have hW' := hW.symm; clear hW; subst hW')
            go_ret
            exact ⟨by simp, HB5.out⟩
      · have q0 : (i : Int) < (m : Int) := by omega
        have q1 : ¬ (i : Int) < 30 := by omega
        clear hor
        go_upto_region 30 with fail
        go_loopw [139] (fun v139 wr => ∃ (j : Nat), v139 = .int .i64 j ∧ j ≤ n7 ∧ Hid (intE.Own wr WN.heap.size (.slice a7 n7 c7) ord) ∧ Hid (∃ T, Tbl wr W1.heap.size g gh (bl (.slice a7 n7 c7)) T ∧ RW d (ord.drop j) T) ∧ Hid (Below w0.heap.size w0 wr)) (fun v139 _ => n7 - (intOf v139).toNat)
        case atStart => exact ⟨0, rfl, by omega, hide HO.out.1, HT, HB4⟩
        case round =>
          clear HT HB4
          obtain ⟨j, rfl, hj, HO5, HT5, HB5⟩ := hrel
          have g0 : (0 : Int) ≤ (j : Int) := by omega
          by_cases hjn : j < n7
          · obtain ⟨f, hf⟩ : ∃ f, ord[j]? = some f := ⟨_, List.getElem?_eq_getElem (by rw [Hn7.out]; exact hjn)⟩
            obtain ⟨bo, oo, rfl, c1⟩ := int_at HO5.out.rd j f hf
            have hdj : ord.drop j = f :: ord.drop (j + 1) := by
              have hlt : j < ord.length := by rw [Hn7.out]; exact hjn
              rw [List.getElem?_eq_getElem hlt] at hf
              cases hf
              exact List.drop_eq_getElem_cons hlt
            obtain ⟨T, h1, h2⟩ := HT5.out
            rw [hdj] at h2
            have K21 := hide (holder_any h1 d)
            rw [show hat T.hold d = f from h2.head] at K21
            have K14 : Hid (Calls Try.prog 14 #[.pointer (some ⟨g, 0, none⟩), .int .i64 f, .int .i64 d] wr fun e w' => ∃ v, e = .returned (.tuple #[v, .int .i64 0]) ∧ intE.Own w' wr.heap.size v ((ord.drop (j + 1)).take 1) ∧ (∃ T, Tbl w' W1.heap.size g gh (bl (.slice (some ⟨bo, oo, none⟩) n7 c7)) T ∧ RW d (ord.drop (j + 1)) T) ∧ Fr W1.heap.size g gh wr w') := hide (by
              have hbad : badN T.hold.length f d = false := by
                unfold badN
                rw [show toteB f = true from decide_eq_true (h2.tot f (by simp)), show inB T.hold.length d = true from decide_eq_true (by rw [h2.len]; exact HD.out)]; rfl
              refine (rel_ok h1 h2.wf f d hbad h2.head).mono ?_
              rintro e w' ⟨v, rfl, T', l, ho, hG, hT', hF⟩
              obtain ⟨e1, e2⟩ := h2.rel HD.out hG
              subst e1
              exact ⟨v, rfl, ho, ⟨T', hT', e2⟩, hF⟩)
            have qf : (f != f) = false := bne_self_eq_false _
            have Hle : Hid ((ord.drop (j + 1)).length = n7 - (j + 1)) := hide (by rw [List.length_drop, Hn7.out])
            obtain ⟨_, cc, hform, hc1, hc2⟩ := HO5.out.some (fun e => by rw [e] at hf; simp at hf)
            simp only [Value.slice.injEq, Option.some.injEq, Addr.mk.injEq] at hform
            obtain ⟨⟨rfl, rfl, _⟩, hnn, hcc⟩ := hform
            rw [Nat.zero_add] at c1
            have hcap : (n7 : Int) ≤ (c7 : Int) := by rw [Hn7.out] at hc1; omega
            have hcm : (c7 : Int) ≤ 9223372036854775807 := by unfold maxLen at hc2; omega
            clear hf hdj h1 h2 hc1 hc2 hcc hnn
            have g1 : (j : Int) < (n7 : Int) := by omega
            by_cases hnx : j + 1 < n7
            · have g2 : (j : Int) + 1 < (n7 : Int) := by omega
              have g3 : ((j : Int) + 1 == (n7 : Int)) = false := beq_eq_false_iff_ne.2 (by omega)
              have g4 : ¬ ((j : Int) + 1 = (n7 : Int)) := by omega
              obtain ⟨x, hx⟩ : ∃ x, (ord.drop (j + 1)).take 1 = [x] ∧ ord[j + 1]? = some x := by
                have hlt : j + 1 < ord.length := by rw [Hn7.out]; exact hnx
                exact ⟨ord[j + 1], by rw [List.drop_eq_getElem_cons hlt]; rfl, List.getElem?_eq_getElem hlt⟩
              rw [hx.1] at K14
              have hnc : ¬ (c7 = j + 1) := by omega
              have KI : Hid (∀ (W : World) (v : Value) (B' c' : Nat), intE.Own W B' v [x] → intE.Own W WN.heap.size (.slice (some ⟨bo, 0, none⟩) n7 c7) ord → Calls Try.prog 13 #[v, .slice (some ⟨bo, j + 1, none⟩) 1 c'] W fun e w' => e = .returned (.bool true) ∧ Below W.heap.size W w') := hide (fun W v B' c' ho hord => by
                obtain ⟨a, c, rfl⟩ := ho.rd.form
                have h1 := (hord.rd.drop (cap' := c') (j + 1) (n7 - (j + 1)) (by rw [Hn7.out]) (by rw [Hn7.out]; omega)).take 1 (by rw [Hle.out]; omega)
                rw [hx.1] at h1
                rw [show 0 + (j + 1) * intE.k = j + 1 by show 0 + (j + 1) * 1 = _; omega] at h1
                refine (ints_any a _ c c' 1 1 [x] [x] _ rfl rfl ho.rd h1 (by omega)).mono ?_
                rintro e w' ⟨rfl, q, rfl⟩
                exact ⟨by rw [decide_eq_true rfl], ⟨rfl, rfl, rfl, Nat.le_refl _, fun _ _ => rfl⟩⟩)
              go_wp2_with (first
                | (go_at_call 21; refine K21.out.mono ?_; rintro e W6 ⟨rfl, hW⟩; have hW' := hW.symm; clear hW; subst hW')
                | (go_at_call 14; refine K14.out.mono ?_; rintro e W7 ⟨v7, rfl, ho, hT, hF⟩; have HO7 := hide ho; have HT7 := hide hT; have HOO := hide (hF.ownN HO5.out Hg.out.2 Hgh.out.2); have HB7 := hide (hBF.out _ HB5.out _ hF); clear ho hT hF)
                | (go_at_call 13; refine (KI.out _ _ _ _ HO7.out HOO.out).mono ?_; rintro e W8 ⟨rfl, hb⟩; have HO8 := hide (HOO.out.keep hb); have HT8 : Hid (∃ T, Tbl W8 W1.heap.size g gh (bl (.slice (some ⟨bo, 0, none⟩) n7 c7)) T ∧ RW d (ord.drop (j + 1)) T) := hide (by obtain ⟨T, h1, h2⟩ := HT7.out; exact ⟨T, h1.keep hb, h2⟩); have HB8 := hide (HB7.out.trans (hb.mono HB7.out.size)); clear hb))
              go_roundw
              case rel => exact ⟨j + 1, by go_num, by omega, HO8, HT8, HB8⟩
              case measure => simp [intOf]; omega
            · have hjl : j + 1 = n7 := by omega
              have g2 : ¬ ((j : Int) + 1 < (n7 : Int)) := by omega
              have g3 : ((j : Int) + 1 == (n7 : Int)) = true := beq_iff_eq.2 (by omega)
              have hnil : (ord.drop (j + 1)).take 1 = [] := by rw [List.drop_of_length_le (by rw [Hn7.out]; omega)]; rfl
              rw [hnil] at K14
              have Hjl := hide hjl
              clear hnil hjl
              go_wp2_with (first
                | (go_at_call 21; refine K21.out.mono ?_; rintro e W6 ⟨rfl, hW⟩; have hW' := hW.symm; clear hW; subst hW')
                | (go_at_call 14; refine K14.out.mono ?_; rintro e W7 ⟨v7, rfl, ho, hT, hF⟩; obtain ⟨a8, c8, rfl⟩ := ho.rd.form; have HT7 := hide hT; have HOO := hide (hF.ownN HO5.out Hg.out.2 Hgh.out.2); have HB7 := hide (hBF.out _ HB5.out _ hF); clear ho hT hF))
              go_roundw
              case rel => exact ⟨j + 1, by go_num, by omega, HOO, HT7, HB7⟩
              case measure => simp [intOf]; omega
          · obtain rfl : j = n7 := by omega
            have g1 : ¬ (j : Int) < (j : Int) := by omega
            obtain ⟨T, h1, h2⟩ := HT5.out
            rw [List.drop_of_length_le (by rw [Hn7.out]; exact Nat.le_refl _)] at h2
            have K21 := hide (holder_any h1 d)
            rw [show hat T.hold d = 0 from h2.head] at K21
            clear h1 h2
            go_wp2_with (go_at_call 21; refine K21.out.mono ?_; rintro e W6 ⟨rfl, hW⟩; have hW' := hW.symm; clear hW; subst hW')
            go_ret
            exact ⟨by simp, HB5.out⟩
end Go.Proofs.Ytbibegendejnlaa
