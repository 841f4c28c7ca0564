/- The law on the best one: no pairing drives less. -/
import Derived.Test.YtochllbnlnammaaPrn
namespace Go.Proofs.Ytochllbnlnammaa
open Go.RowKit
set_option linter.unusedVariables false

theorem own_form {w : World} {B : Nat} {v : Value} {xs : List Int} (h : intE.Own w B v xs) : ∃ g c, v = .slice g xs.length c ∧ xs.length ≤ c := by
  rcases h.2 with ⟨h, h'⟩ | ⟨g, cap, cur, h, _, _, h4, _⟩
  · exact ⟨none, 0, by rw [h, h'], by omega⟩
  · exact ⟨_, cap, h, h4⟩
theorem own_rep {w : World} {B n : Nat} {v : Value} (h : intE.Own w B v (List.replicate n 0)) : intE.Own w B v (List.replicate 0 (-1) ++ List.replicate (n - 0) 0) := h
theorem rep_at {n t : Nat} (h : t < n) : (List.replicate t (-1 : Int) ++ List.replicate (n - t) 0)[t]? = some 0 := by
  rw [List.getElem?_append_right (by simp), List.length_replicate, Nat.sub_self, List.getElem?_replicate, if_pos (by omega)]
theorem rep_set {n t : Nat} (h : t < n) : (List.replicate t (-1 : Int) ++ List.replicate (n - t) 0).set t (-1) = List.replicate (t + 1) (-1) ++ List.replicate (n - (t + 1)) 0 := by
  rw [List.set_append_right _ _ (by simp), List.length_replicate, Nat.sub_self, show n - t = (n - (t + 1)) + 1 by omega, List.replicate_succ, List.set_cons_zero, List.replicate_succ', List.append_assoc]
  rfl

set_option maxRecDepth 100000 in
set_option maxHeartbeats 4000000 in
theorem least_walk (a : Option Addr) (n c : Nat) (L : List (Int × Int)) (b : Option Addr) (m d : Nat) (M : List (Int × Int)) (p : Option Addr) (k c' : Nat) (ps : List Int) (w : World) (hn : L.length = n) (hv : spE.Rd w (.slice a n c) L) (q1 : n * 16 ≤ 140737488351232) (hm : M.length = m) (hu : spE.Rd w (.slice b m d) M) (q2 : m * 16 ≤ 140737488351232) (hk : ps.length = k) (hq : intE.Rd w (.slice p k c') ps) (q3 : k * 8 ≤ 140737488351232) :
    Calls Try.prog 6 #[.slice a n c, .slice b m d, .slice p k c'] w fun e w' => e = .returned (.bool true) ∧ Below w.heap.size w w' := by
  obtain ⟨w0, rfl⟩ : ∃ w0, w0 = w := ⟨_, rfl⟩
  have K9 := hide awake_any
  have x1 : (n : Int) ≤ 140737488351232 := by omega
  have x2 : (m : Int) ≤ 140737488351232 := by omega
  have x3 : (k : Int) ≤ 140737488351232 := by omega
  by_cases hbig : (n : Int) + (m : Int) + (k : Int) > 100
  · clear hn hv hm hu hk hq q1 q2 q3
    go_enter Try.func6, Try.ntmps6
    go_wp2_with (first
      | (go_at_call 9; refine (K9.out _).mono ?_; rintro e W1 ⟨rfl, hb⟩; first | (have HB2 := hide (HB1.out.trans (hb.mono HB1.out.size)); clear hb) | (have HB1 := hide hb; clear hb)))
    go_ret
    exact ⟨rfl, HB2.out⟩
  have n1 : n ≤ 100 := by omega
  have m1 : m ≤ 100 := by omega
  have k1 : k ≤ 100 := by omega
  have i0 : (n : Int) ≤ 100 := by omega
  have i1 : (m : Int) ≤ 100 := by omega
  have i2 : (k : Int) ≤ 100 := by omega
  have KA : Hid (∀ W, Below w0.heap.size w0 W → Calls Try.prog 13 #[.slice a n c] W fun e w' => ∃ g c', e = .returned (.slice g n c') ∧ spE.Own w' W.heap.size (.slice g n c') L ∧ Below W.heap.size W w') := hide (fun W h => own_any a n c L W hn (by omega) (hv.keep h))
  have KB : Hid (∀ W, Below w0.heap.size w0 W → Calls Try.prog 13 #[.slice b m d] W fun e w' => ∃ g c', e = .returned (.slice g m c') ∧ spE.Own w' W.heap.size (.slice g m c') M ∧ Below W.heap.size W w') := hide (fun W h => own_any b m d M W hm (by omega) (hu.keep h))
  have K16 : Hid (∀ W a1 c1 b1 d1, spE.Rd W (.slice a1 n c1) L → spE.Rd W (.slice b1 m d1) M → Calls Try.prog 16 #[.slice a1 n c1, .slice b1 m d1] W (BestP L M W)) := hide (fun W a1 c1 b1 d1 h1 h2 => best_any a1 b1 n c1 m d1 L M W hn hm h1 h2)
  have K12 : Hid (∀ W a1 c1 b1 d1 p1 k1 c2 qs, spE.Rd W (.slice a1 n c1) L → spE.Rd W (.slice b1 m d1) M → qs.length = k1 → intE.Rd W (.slice p1 k1 c2) qs → k1 ≤ c2 → k1 ≤ 1000 → Calls Try.prog 12 #[.slice a1 n c1, .slice b1 m d1, .slice p1 k1 c2] W (CostP L M qs W)) := hide (fun W a1 c1 b1 d1 p1 k1 c2 qs h1 h2 h3 h4 h5 h6 => cost_any a1 b1 p1 n c1 m d1 k1 c2 L M qs W hn hm h3 h1 h2 h4 h5 (by omega))
  have HQ := hide hq
  have Hk := hide hk
  have Hn := hide hn
  have Hm := hide hm
  clear hn hv hm hu hk hq q1 q2 q3 x1 x2 x3
  have e1 : wrap64 ((n : Int) + (m : Int)) = (n : Int) + (m : Int) := by unfold wrap64; omega
  have e2 : wrap64 ((n : Int) + (m : Int) + (k : Int)) = (n : Int) + (m : Int) + (k : Int) := by unfold wrap64; omega
  go_enter Try.func6, Try.ntmps6
  go_upto_region 3 with (go_at_call 9; refine (K9.out _).mono ?_; rintro e W1 ⟨rfl, hb⟩; have Hb := hide hb; clear hb)
  clear e1 e2
  by_cases hok : Alw L ∧ Alw M
  · have K16' : Hid (∀ W a1 c1 b1 d1, spE.Rd W (.slice a1 n c1) L → spE.Rd W (.slice b1 m d1) M → Calls Try.prog 16 #[.slice a1 n c1, .slice b1 m d1] W fun e w' => ∃ a3 c3, e = .returned (.tuple #[.slice a3 n c3, .int .i64 (cst L M (bst L M)), .int .i64 0]) ∧ intE.Own w' W.heap.size (.slice a3 n c3) (bst L M) ∧ Below W.heap.size W w') := hide (fun W a1 c1 b1 d1 h1 h2 => (K16.out W a1 c1 b1 d1 h1 h2).mono (by
      rintro e w' ⟨hb, ⟨h, _⟩ | ⟨_, _, a3, c3, rfl, ho⟩⟩
      · exact absurd hok h
      · rw [Hn.out] at ho ⊢
        exact ⟨a3, c3, rfl, ho, hb⟩))
    have Hge : Hid (cstC L M ps = 0 → cst L M (bst L M) ≤ cstN L M ps) := hide cost_ge
    have Hno : Hid (cstC L M (List.replicate n (-1)) = 0 ∧ cst L M (bst L M) ≤ cstN L M (List.replicate n (-1))) := hide (by
      rw [← Hn.out]; exact ⟨none_cost hok.1 hok.2, cost_ge (none_cost hok.1 hok.2)⟩)
    have Hbc : Hid (cstC L M (bst L M) = 0 ∧ cstN L M (bst L M) = cst L M (bst L M)) := hide (bst_cost hok.1 hok.2)
    have Hbl : Hid ((bst L M).length = n) := hide (by rw [← Hn.out]; exact (bst_pl L M).1)
    obtain ⟨bs, hbs⟩ : ∃ bs, bst L M = bs := ⟨_, rfl⟩
    have K12b : Hid (∀ W a1 c1 b1 d1 p1 c2, spE.Rd W (.slice a1 n c1) L → spE.Rd W (.slice b1 m d1) M → intE.Own W w0.heap.size (.slice p1 n c2) (bst L M) → Calls Try.prog 12 #[.slice a1 n c1, .slice b1 m d1, .slice p1 n c2] W fun e w' => e = .returned (.tuple #[.int .i64 (cst L M (bst L M)), .int .i64 0]) ∧ Below W.heap.size W w') := hide (fun W a1 c1 b1 d1 p1 c2 h1 h2 h3 => (K12.out W a1 c1 b1 d1 p1 n c2 _ h1 h2 Hbl.out h3.rd (by
        rcases h3.2 with ⟨h, h'⟩ | ⟨g, cap, cur, h, _, _, h4, _⟩
        · rw [Hbl.out] at h'; omega
        · cases h; rw [← Hbl.out]; exact h4) (by omega)).mono (by
      rintro e w' ⟨rfl, hb⟩
      rw [Hbc.out.1, Hbc.out.2]
      exact ⟨rfl, hb⟩))
    rw [hbs] at K16' Hge Hno K12b Hbc Hbl
    generalize cst L M bs = nn at *
    clear hok Hbc K16 hbs
    go_upto_region 6 with (first
      | (go_at_call_of 13 (Value.slice a n c); refine (KA.out _ Hb.out).mono ?_; rintro e W2 ⟨ga, ca, rfl, ho, hb⟩; have HA := hide ho.rd; have Hb := hide (Hb.out.trans (hb.mono Hb.out.size)); clear ho hb)
      | (go_at_call_of 13 (Value.slice b m d); refine (KB.out _ Hb.out).mono ?_; rintro e W3 ⟨gb, cb, rfl, ho, hb⟩; have HA := hide (HA.out.keep hb); have HG := hide ho.rd; have Hb := hide (Hb.out.trans (hb.mono Hb.out.size)); clear ho hb)
      | (go_at_call 16; refine (K16'.out _ _ _ _ _ HA.out HG.out).mono ?_; rintro e W4 ⟨a3, c3, rfl, ho, hb⟩; have Hl := hide (ho.mono Hb.out.size); have Hb := hide (Hb.out.trans (hb.mono Hb.out.size)); clear ho hb))
    go_upto_region 9 with (first
      | (go_at_call_of 13 (Value.slice a n c); refine (KA.out _ Hb.out).mono ?_; rintro e W5 ⟨ga, ca, rfl, ho, hb⟩; have HA := hide ho.rd; have Hl := hide (Hl.out.keep hb); have Hb := hide (Hb.out.trans (hb.mono Hb.out.size)); clear ho hb)
      | (go_at_call_of 13 (Value.slice b m d); refine (KB.out _ Hb.out).mono ?_; rintro e W6 ⟨gb, cb, rfl, ho, hb⟩; have HA := hide (HA.out.keep hb); have HG := hide ho.rd; have Hl := hide (Hl.out.keep hb); have Hb := hide (Hb.out.trans (hb.mono Hb.out.size)); clear ho hb)
      | (go_at_call 12; refine (K12b.out _ _ _ _ _ _ _ HA.out HG.out Hl.out).mono ?_; rintro e W7 ⟨rfl, hb⟩; have Hb := hide (Hb.out.trans (hb.mono Hb.out.size)); clear hb))
    have HcN : Hid (∀ W p1 c2, intE.Own W W.heap.size (.slice p1 k c2) ps → True) := hide (fun _ _ _ _ => trivial)
    have K12p := hide (fun W a1 c1 b1 d1 p1 c2 h1 h2 h4 h5 => K12.out W a1 c1 b1 d1 p1 k c2 ps h1 h2 Hk.out h4 h5 (by omega))
    have K12n : Hid (∀ W a1 c1 b1 d1 p1, spE.Rd W (.slice a1 n c1) L → spE.Rd W (.slice b1 m d1) M → intE.Rd W (.slice p1 n n) (List.replicate n (-1)) → Calls Try.prog 12 #[.slice a1 n c1, .slice b1 m d1, .slice p1 n n] W (CostP L M (List.replicate n (-1)) W)) := hide (fun W a1 c1 b1 d1 p1 h1 h2 h4 => K12.out W a1 c1 b1 d1 p1 n n _ h1 h2 List.length_replicate h4 (Nat.le_refl _) (by omega))
    unfold CostP at K12p K12n
    generalize cstN L M (List.replicate n (-1)) = aN at *
    generalize cstC L M (List.replicate n (-1)) = aC at *
    generalize cstN L M ps = cN at *
    generalize cstC L M ps = cC at *
    obtain ⟨haC, haN⟩ := Hno.out
    subst haC
    clear Hl Hno K12 K12b K16' Hbl
    go_upto_region 10 with (first
      | (go_at_call_of 13 (Value.slice a n c); refine (KA.out _ Hb.out).mono ?_; rintro e W8 ⟨ga, ca, rfl, ho, hb⟩; have HA := hide ho.rd; have Hb := hide (Hb.out.trans (hb.mono Hb.out.size)); clear ho hb)
      | (go_at_call_of 13 (Value.slice b m d); refine (KB.out _ Hb.out).mono ?_; rintro e W9 ⟨gb, cb, rfl, ho, hb⟩; have HA := hide (HA.out.keep hb); have HG := hide ho.rd; have Hb := hide (Hb.out.trans (hb.mono Hb.out.size)); clear ho hb)
      | (at_builtin; refine intE.wp (w0 := W9) ((Below.refl _ _).alloc (Nat.le_refl _) _) (by rfl) _ _ rfl _ _ rfl rfl [] ps (El.Own.new intE W9 W9.heap.size (Nat.le_refl _) #[] [] rfl (by decide) _ _ _ rfl rfl rfl) ((HQ.out.keep Hb.out).keep ((Below.refl _ _).alloc (Nat.le_refl _) _)) (by rw [Hk.out]; simp; omega) ?_; intro v' w' ho _ _ hb; obtain ⟨gp, cp, e8, hcp⟩ := own_form ho; rw [List.nil_append, Hk.out] at e8 hcp; subst e8; have HPs := hide ho.rd; have Hcp := hide hcp; have HA := hide (HA.out.keep hb); have HG := hide (HG.out.keep hb); have Hb := hide (Hb.out.trans (hb.mono Hb.out.size)); clear ho hb hcp)
      | (go_at_call 12; refine (K12p.out _ _ _ _ _ _ _ HA.out HG.out HPs.out Hcp.out).mono ?_; rintro e W10 ⟨rfl, hb⟩; have Hb := hide (Hb.out.trans (hb.mono Hb.out.size)); clear hb))
    obtain ⟨WM, hmk, hown, hbm, hlt⟩ := made_ints W10 n (by omega)
    have HbM := hide (Hb.out.trans (hbm.mono Hb.out.size))
    have HoM := hide (own_rep hown)
    have Hb10 := hide Hb.out.size
    generalize W10.heap.size = gM at *
    clear hown hbm hlt
    go_upto_region 12 with fail
    go_loopw [93] (fun v93 wr => ∃ t : Nat, v93 = .int .i64 t ∧ t ≤ n ∧ Hid (Below w0.heap.size w0 wr) ∧ Hid (intE.Own wr gM (.slice (some ⟨gM, 0, none⟩) n n) (List.replicate t (-1) ++ List.replicate (n - t) 0))) (fun v93 _ => n - (intOf v93).toNat)
    case atStart => exact ⟨0, rfl, Nat.zero_le _, HbM, HoM⟩
    case round =>
      clear HbM HoM hmk
      obtain ⟨t, rfl, ht, Hb, HO⟩ := hrel
      by_cases hlt : t < n
      · have t0 : (0 : Int) ≤ (t : Int) := by omega
        have t1 : (t : Int) < (n : Int) := by omega
        obtain ⟨y0, y1⟩ := HO.out.at1 (Value.int .i64) (fun _ => rfl) rfl t 0 (rep_at hlt)
        have HO1 : Hid (intE.Own (wr.setCell ⟨gM, t, none⟩ (.int .i64 (-1))) gM (.slice (some ⟨gM, 0, none⟩) n n) (List.replicate (t + 1) (-1) ++ List.replicate (n - (t + 1)) 0)) := hide (by
          have := HO.out.set (Value.int .i64) (fun _ => rfl) rfl t (-1)
          rwa [rep_set hlt] at this)
        have Hb1 : Hid (Below w0.heap.size w0 (wr.setCell ⟨gM, t, none⟩ (.int .i64 (-1)))) := hide (below_put Hb.out Hb10.out)
        go_wp2_with fail
        go_roundw
        case rel => exact ⟨t + 1, by go_num, by omega, Hb1, HO1⟩
        case measure => simp [intOf] <;> omega
      · obtain rfl : t = n := by omega
        have t1 : ¬ (t : Int) < (t : Int) := by omega
        have HO1 : Hid (intE.Rd wr (.slice (some ⟨gM, 0, none⟩) t t) (List.replicate t (-1))) := hide (by have := HO.out.rd; rw [Nat.sub_self] at this; simpa using this)
        have hnn : ∃ b, (cC != 0) = b ∧ (b = false → nn ≤ cN) := ⟨_, rfl, fun h => Hge.out (by simpa using h)⟩
        obtain ⟨bb, hbb, hbn⟩ := hnn
        go_upto_region 17 with (first
          | (go_at_call_of 13 (Value.slice a t c); refine (KA.out _ Hb.out).mono ?_; rintro e W11 ⟨ga, ca, rfl, ho, hb⟩; have HA := hide ho.rd; have HO1 := hide (HO1.out.keep hb); have Hb := hide (Hb.out.trans (hb.mono Hb.out.size)); clear ho hb)
          | (go_at_call_of 13 (Value.slice b m d); refine (KB.out _ Hb.out).mono ?_; rintro e W12 ⟨gb, cb, rfl, ho, hb⟩; have HA := hide (HA.out.keep hb); have HG := hide ho.rd; have HO1 := hide (HO1.out.keep hb); have Hb := hide (Hb.out.trans (hb.mono Hb.out.size)); clear ho hb)
          | (go_at_call 12; refine (K12n.out _ _ _ _ _ _ HA.out HG.out HO1.out).mono ?_; rintro e W13 ⟨rfl, hb⟩; have Hb := hide (Hb.out.trans (hb.mono Hb.out.size)); clear hb))
        cases bb with
        | false =>
          have hn1 := hbn rfl
          clear hbn
          go_wp2_with fail
          go_ret
          exact ⟨rfl, Hb.out⟩
        | true =>
          clear hbn
          go_wp2_with fail
          go_ret
          exact ⟨rfl, Hb.out⟩
  · have K16' : Hid (∀ W a1 c1 b1 d1, spE.Rd W (.slice a1 n c1) L → spE.Rd W (.slice b1 m d1) M → Calls Try.prog 16 #[.slice a1 n c1, .slice b1 m d1] W fun e w' => e = .returned (.tuple #[.slice none 0 0, .int .i64 0, .int .i64 1]) ∧ Below W.heap.size W w') := hide (fun W a1 c1 b1 d1 h1 h2 => (K16.out W a1 c1 b1 d1 h1 h2).mono (by
      rintro e w' ⟨hb, ⟨_, h⟩ | ⟨h1, h2, _⟩⟩
      · exact ⟨h, hb⟩
      · exact absurd ⟨h1, h2⟩ hok))
    clear hok K16 K12
    go_wp2_with (first
      | (go_at_call_of 13 (Value.slice a n c); refine (KA.out _ Hb.out).mono ?_; rintro e W2 ⟨ga, ca, rfl, ho, hb⟩; have HA := hide ho.rd; have Hb := hide (Hb.out.trans (hb.mono Hb.out.size)); clear ho hb)
      | (go_at_call_of 13 (Value.slice b m d); refine (KB.out _ Hb.out).mono ?_; rintro e W3 ⟨gb, cb, rfl, ho, hb⟩; have HA := hide (HA.out.keep hb); have HG := hide ho.rd; have Hb := hide (Hb.out.trans (hb.mono Hb.out.size)); clear ho hb)
      | (go_at_call 16; refine (K16'.out _ _ _ _ _ HA.out HG.out).mono ?_; rintro e W4 ⟨rfl, hb⟩; have Hb := hide (Hb.out.trans (hb.mono Hb.out.size)); clear hb))
    go_ret
    exact ⟨rfl, Hb.out⟩
end Go.Proofs.Ytochllbnlnammaa
