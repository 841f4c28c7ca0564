/- The document's Best; the law on the best pairing. -/
import Derived.Test.YtochllbnlnammaaPru
namespace Go.Proofs.Ytochllbnlnammaa
open Go.RowKit
set_option linter.unusedVariables false

set_option maxRecDepth 100000 in
set_option maxHeartbeats 2000000 in
theorem rbst_any (a b : Option Addr) (n c m d : Nat) (L M : List (Int × Int)) (w : World) (hn : L.length = n) (hm : M.length = m) (hn1 : n ≤ 100) (hm1 : m ≤ 100) (hv : rsE.Rd w (.slice a n c) L) (hu : rsE.Rd w (.slice b m d) M) :
    Calls Try.prog 17 #[.slice a n c, .slice b m d] w fun e w' => Below w.heap.size w w' ∧ ((¬ (Alw L ∧ Alw M) ∧ e = .returned (.tuple #[.slice none 0 0, .int .i64 0, .int .i64 1])) ∨
      (Alw L ∧ Alw M ∧ ∃ a' c', e = .returned (.tuple #[.slice a' n c', .int .i64 (cst L M (bst L M)), .int .i64 0]) ∧ intE.Rd w' (.slice a' n c') (bst L M))) := by
  obtain ⟨w0, rfl⟩ : ∃ w0, w0 = w := ⟨_, rfl⟩
  have K1 := hide (good_any a n c L w0 hn hn1 hv)
  have K2 := hide (good_any b m d M w0 hm hm1 hu)
  by_cases h1 : Alw L
  · rw [decide_eq_true h1] at K1
    by_cases h2 : Alw M
    · rw [decide_eq_true h2] at K2
      have K27 : Hid (Calls Try.prog 27 #[.slice a n c, .slice b m d, .slice none 0 0] w0 fun e w' => ∃ a' c', e = .returned (.tuple #[.slice a' n c', .int .i64 (cst L M (bst L M))]) ∧ intE.Rd w' (.slice a' n c') (bst L M) ∧ Below w0.heap.size w0 w') := hide ((rbest_any a b n c m d L M hn hm h1 h2 n (Nat.le_refl _) none 0 (2 ^ m - 1) 0 [] w0 (by omega) hv hu (.inl ⟨rfl, rfl⟩) rfl (by intro x hx; cases hx) trivial ⟨by have := Nat.one_le_two_pow (n := m); omega, fun g hg => by rw [full_bit m g hg]; rfl⟩).mono (by
        rintro e w' ⟨a', c', rfl, hrd, hb⟩
        have e1 : bgn L M [] - tp (sg L M) m n n (2 ^ m - 1) = cst L M (bst L M) := by
          rw [cst_bst]; unfold bgn mxs; rw [hn, hm]; simp [mof, sv]
        have e2 : [] ++ lst (sg L M) m n n (2 ^ m - 1) = bst L M := by unfold bst; rw [hn, hm]; rfl
        rw [e1]
        rw [e2] at hrd
        exact ⟨a', c', rfl, hrd, hb⟩))
      have hcon : Alw L ∧ Alw M := ⟨h1, h2⟩
      have HP : Hid (∀ W a' c', Below w0.heap.size w0 W → intE.Rd W (.slice a' n c') (bst L M) → (fun e w' => Below w0.heap.size w0 w' ∧ ((¬ (Alw L ∧ Alw M) ∧ e = Ending.returned (.tuple #[.slice none 0 0, .int .i64 0, .int .i64 1])) ∨
      (Alw L ∧ Alw M ∧ ∃ a' c', e = .returned (.tuple #[.slice a' n c', .int .i64 (cst L M (bst L M)), .int .i64 0]) ∧ intE.Rd w' (.slice a' n c') (bst L M)))) (.returned (.tuple #[.slice a' n c', .int .i64 (cst L M (bst L M)), .int .i64 0])) W) := hide (fun W a' c' hb hrd => ⟨hb, .inr ⟨h1, h2, a', c', rfl, hrd⟩⟩)
      generalize cst L M (bst L M) = cc at *
      clear hn hm hv hu h1 h2 hcon
      go_enter Try.func17, Try.ntmps17
      go_wp2_with (first
        | (go_at_call_of 25 (Value.slice a n c); refine (K1.out).mono ?_; rintro e W1 ⟨rfl, hw⟩; have hw' := hw.symm; clear hw; subst hw')
        | (go_at_call_of 25 (Value.slice b m d); refine (K2.out).mono ?_; rintro e W2 ⟨rfl, hw⟩; have hw' := hw.symm; clear hw; subst hw')
        | (go_at_call 27; refine (K27.out).mono ?_; rintro e W3 ⟨a3, c3, rfl, hrd, hb⟩; have HR := hide hrd; have HB := hide hb; clear hrd hb))
      exact bodyPost_ret (v := .tuple #[.slice a3 n c3, .int .i64 cc, .int .i64 0]) (by simp [results, Try.results17, go_sem]) rfl (HP.out _ _ _ HB.out HR.out)
    · rw [decide_eq_false h2] at K2
      have HP : Hid (¬ (Alw L ∧ Alw M)) := hide (fun h => h2 h.2)
      clear hn hm hv hu h1 h2
      go_enter Try.func17, Try.ntmps17
      go_wp2_with (first
        | (go_at_call_of 25 (Value.slice a n c); refine (K1.out).mono ?_; rintro e W1 ⟨rfl, hw⟩; have hw' := hw.symm; clear hw; subst hw')
        | (go_at_call_of 25 (Value.slice b m d); refine (K2.out).mono ?_; rintro e W2 ⟨rfl, hw⟩; have hw' := hw.symm; clear hw; subst hw'))
      exact bodyPost_ret (v := .tuple #[.slice none 0 0, .int .i64 0, .int .i64 1]) (by simp [results, Try.results17, go_sem]) rfl ⟨Below.refl _ _, .inl ⟨HP.out, rfl⟩⟩
  · rw [decide_eq_false h1] at K1
    have HP : Hid (¬ (Alw L ∧ Alw M)) := hide (fun h => h1 h.1)
    clear hn hm hv hu h1
    go_enter Try.func17, Try.ntmps17
    go_wp2_with (go_at_call_of 25 (Value.slice a n c); refine (K1.out).mono ?_; rintro e W1 ⟨rfl, hw⟩; have hw' := hw.symm; clear hw; subst hw')
    exact bodyPost_ret (v := .tuple #[.slice none 0 0, .int .i64 0, .int .i64 1]) (by simp [results, Try.results17, go_sem]) rfl ⟨Below.refl _ _, .inl ⟨HP.out, rfl⟩⟩

set_option maxRecDepth 100000 in
set_option maxHeartbeats 2000000 in
theorem same_any (a b : Option Addr) (c d n : Nat) (xs : List (Int × Int)) (w : World) (hn : xs.length = n) (hv : spE.Rd w (.slice a n c) xs) (hu : spE.Rd w (.slice b n d) xs) (hl : n ≤ 1000) :
    Calls Try.prog 19 #[.slice a n c, .slice b n d] w fun e w' => e = .returned (.bool true) ∧ ∃ q, w' = w.drewN q := by
  have Hn := hide hn
  have Hv := hide hv
  have Hu := hide hu
  have i0 : (n : Int) ≤ 1000 := by omega
  clear hn hv hu hl
  go_enter Try.func19, Try.ntmps19
  go_upto_region 2 with fail
  go_loopw [8] (fun v8 wr => ∃ k q : Nat, k ≤ n ∧ v8 = .int .i64 k ∧ wr = w.drewN q) (fun v8 _ => n - (intOf v8).toNat)
  case atStart => exact ⟨0, 0, by omega, rfl, rfl⟩
  case round =>
    obtain ⟨k, q, hk, rfl, rfl⟩ := hrel
    by_cases hlt : k < n
    · obtain ⟨⟨x, y⟩, hp⟩ : ∃ p, xs[k]? = some p := ⟨_, List.getElem?_eq_getElem (by rw [Hn.out]; exact hlt)⟩
      obtain ⟨b1, off1, rfl, c0, c1⟩ := sp_at Hv.out k _ hp
      obtain ⟨b2, off2, rfl, c3, c4⟩ := sp_at Hu.out k _ hp
      have j0 : (0 : Int) ≤ (k : Int) := by omega
      have j1 : (k : Int) < (n : Int) := by omega
      clear hp
      go_upto_region 4 with fail
      go_quiet (fail)
      go_wp2_with fail
      go_roundw
      case rel => exact ⟨k + 1, _, by omega, by go_num, rfl⟩
      case measure => simp [intOf]; omega
    · obtain rfl : k = n := by omega
      have j1 : ¬ (k : Int) < (k : Int) := by omega
      go_wp2_with fail
      go_ret
      exact ⟨rfl, _, rfl⟩

set_option maxRecDepth 100000 in
set_option maxHeartbeats 4000000 in
theorem best_walk (a : Option Addr) (n c : Nat) (L : List (Int × Int)) (b : Option Addr) (m d : Nat) (M : List (Int × Int)) (w : World) (hn : L.length = n) (hv : spE.Rd w (.slice a n c) L) (q1 : n * 16 ≤ 140737488351232) (hm : M.length = m) (hu : spE.Rd w (.slice b m d) M) (q2 : m * 16 ≤ 140737488351232) :
    Calls Try.prog 5 #[.slice a n c, .slice b m d] w fun e w' => e = .returned (.bool true) ∧ Below w.heap.size w w' := by
  obtain ⟨w0, rfl⟩ : ∃ w0, w0 = w := ⟨_, rfl⟩
  have K9 := hide awake_any
  have x1 : (n : Int) ≤ 140737488351232 := by omega
  have x2 : (m : Int) ≤ 140737488351232 := by omega
  have e1 : wrap64 ((n : Int) + (m : Int)) = (n : Int) + (m : Int) := by unfold wrap64; omega
  by_cases hbig : (n : Int) + (m : Int) > 100
  · clear hn hv hm hu q1 q2
    go_enter Try.func5, Try.ntmps5
    go_wp2_with (first
      | (go_at_call 9; refine (K9.out _).mono ?_; rintro e W1 ⟨rfl, hb⟩; first | (have HB2 := hide (HB1.out.trans (hb.mono HB1.out.size)); clear hb) | (have HB1 := hide hb; clear hb)))
    go_ret
    exact ⟨rfl, HB2.out⟩
  obtain ⟨mn, hmn⟩ : ∃ x, min (n : Int) (m : Int) = x := ⟨_, rfl⟩
  by_cases hmb : mn > 4
  · clear hn hv hm hu q1 q2
    go_enter Try.func5, Try.ntmps5
    go_wp2_with (first
      | (go_at_call 9; refine (K9.out _).mono ?_; rintro e W1 ⟨rfl, hb⟩; first | (have HB2 := hide (HB1.out.trans (hb.mono HB1.out.size)); clear hb) | (have HB1 := hide hb; clear hb)))
    go_ret
    exact ⟨rfl, HB2.out⟩
  have n1 : n ≤ 100 := by omega
  have m1 : m ≤ 100 := by omega
  have i0 : (n : Int) ≤ 100 := by omega
  have i1 : (m : Int) ≤ 100 := by omega
  have KA : Hid (∀ W, Below w0.heap.size w0 W → Calls Try.prog 13 #[.slice a n c] W fun e w' => ∃ g c', e = .returned (.slice g n c') ∧ spE.Own w' W.heap.size (.slice g n c') L ∧ Below W.heap.size W w') := hide (fun W h => own_any a n c L W hn (by omega) (hv.keep h))
  have KB : Hid (∀ W, Below w0.heap.size w0 W → Calls Try.prog 13 #[.slice b m d] W fun e w' => ∃ g c', e = .returned (.slice g m c') ∧ spE.Own w' W.heap.size (.slice g m c') M ∧ Below W.heap.size W w') := hide (fun W h => own_any b m d M W hm (by omega) (hu.keep h))
  have RA : Hid (∀ W, Below w0.heap.size w0 W → Calls Try.prog 15 #[.slice a n c] W fun e w' => ∃ g c', e = .returned (.slice g n c') ∧ rsE.Own w' W.heap.size (.slice g n c') L ∧ Below W.heap.size W w') := hide (fun W h => ref_any a n c L W hn (by omega) (hv.keep h))
  have RB : Hid (∀ W, Below w0.heap.size w0 W → Calls Try.prog 15 #[.slice b m d] W fun e w' => ∃ g c', e = .returned (.slice g m c') ∧ rsE.Own w' W.heap.size (.slice g m c') M ∧ Below W.heap.size W w') := hide (fun W h => ref_any b m d M W hm (by omega) (hu.keep h))
  have KS1 : Hid (∀ W a1 c1, Below w0.heap.size w0 W → spE.Rd W (.slice a1 n c1) L → Calls Try.prog 19 #[.slice a1 n c1, .slice a n c] W fun e w' => e = .returned (.bool true) ∧ Below W.heap.size W w') := hide (fun W a1 c1 h hr => (same_any a1 a c1 c n L W hn hr (hv.keep h) (by omega)).mono (by rintro e w' ⟨rfl, q, rfl⟩; exact ⟨rfl, below_drewN _ q⟩))
  have KS2 : Hid (∀ W a1 c1, Below w0.heap.size w0 W → spE.Rd W (.slice a1 m c1) M → Calls Try.prog 19 #[.slice a1 m c1, .slice b m d] W fun e w' => e = .returned (.bool true) ∧ Below W.heap.size W w') := hide (fun W a1 c1 h hr => (same_any a1 b c1 d m M W hm hr (hu.keep h) (by omega)).mono (by rintro e w' ⟨rfl, q, rfl⟩; exact ⟨rfl, below_drewN _ q⟩))
  have K : Hid (∃ (nn cc : Int) (k : Nat) (ls : List Int), ls.length = k ∧ k ≤ 1000 ∧ (∀ W a1 c1 b1 d1, spE.Rd W (.slice a1 n c1) L → spE.Rd W (.slice b1 m d1) M → Calls Try.prog 16 #[.slice a1 n c1, .slice b1 m d1] W fun e w' => ∃ a3 c3, e = .returned (.tuple #[.slice a3 k c3, .int .i64 nn, .int .i64 cc]) ∧ intE.Rd w' (.slice a3 k c3) ls ∧ Below W.heap.size W w') ∧
      (∀ W a1 c1 b1 d1, rsE.Rd W (.slice a1 n c1) L → rsE.Rd W (.slice b1 m d1) M → Calls Try.prog 17 #[.slice a1 n c1, .slice b1 m d1] W fun e w' => ∃ a3 c3, e = .returned (.tuple #[.slice a3 k c3, .int .i64 nn, .int .i64 cc]) ∧ intE.Rd w' (.slice a3 k c3) ls ∧ Below W.heap.size W w')) := hide (by
    by_cases hok : Alw L ∧ Alw M
    · refine ⟨cst L M (bst L M), 0, n, bst L M, by rw [← hn]; exact (bst_pl L M).1, by omega, fun W a1 c1 b1 d1 h1 h2 => (best_any a1 b1 n c1 m d1 L M W hn hm h1 h2).mono ?_, fun W a1 c1 b1 d1 h1 h2 => (rbst_any a1 b1 n c1 m d1 L M W hn hm n1 m1 h1 h2).mono ?_⟩
      · rintro e w' ⟨hb, ⟨h, _⟩ | ⟨_, _, a3, c3, rfl, ho⟩⟩
        · exact absurd hok h
        · rw [hn] at ho ⊢
          exact ⟨a3, c3, rfl, ho.rd, hb⟩
      · rintro e w' ⟨hb, ⟨h, _⟩ | ⟨_, _, a3, c3, rfl, ho⟩⟩
        · exact absurd hok h
        · exact ⟨a3, c3, rfl, ho, hb⟩
    · refine ⟨0, 1, 0, [], rfl, by omega, fun W a1 c1 b1 d1 h1 h2 => (best_any a1 b1 n c1 m d1 L M W hn hm h1 h2).mono ?_, fun W a1 c1 b1 d1 h1 h2 => (rbst_any a1 b1 n c1 m d1 L M W hn hm n1 m1 h1 h2).mono ?_⟩
      · rintro e w' ⟨hb, ⟨_, rfl⟩ | ⟨h1, h2, _⟩⟩
        · exact ⟨none, 0, rfl, .inl ⟨rfl, rfl⟩, hb⟩
        · exact absurd ⟨h1, h2⟩ hok
      · rintro e w' ⟨hb, ⟨_, rfl⟩ | ⟨h1, h2, _⟩⟩
        · exact ⟨none, 0, rfl, .inl ⟨rfl, rfl⟩, hb⟩
        · exact absurd ⟨h1, h2⟩ hok)
  obtain ⟨nn, cc, k, ls, hls, hk, k16, k17⟩ := K.out
  have K16 := hide k16
  have K17 := hide k17
  have K18 : Hid (∀ W a1 c1 b1 d1, intE.Rd W (.slice a1 k c1) ls → intE.Rd W (.slice b1 k d1) ls → Calls Try.prog 18 #[.slice a1 k c1, .slice b1 k d1] W fun e w' => e = .returned (.bool true) ∧ Below W.heap.size W w') := hide (fun W a1 c1 b1 d1 h1 h2 => (ints_same a1 b1 c1 d1 k ls W hls h1 h2 (by omega)).mono (by rintro e w' ⟨rfl, q, rfl⟩; exact ⟨rfl, below_drewN _ q⟩))
  clear hn hv hm hu q1 q2 x1 x2 K k16 k17 hls hk
  go_enter Try.func5, Try.ntmps5
  go_upto_region 3 with (go_at_call 9; refine (K9.out _).mono ?_; rintro e W1 ⟨rfl, hb⟩; have Hb := hide hb; clear hb)
  clear e1 hmn hmb
  go_upto_region 5 with (first
    | (go_at_call_of 13 (Value.slice a n c); refine (KA.out _ Hb.out).mono ?_; rintro e W2 ⟨ga, ca, rfl, ho, hb⟩; have HA := hide ho.rd; have Hb := hide (Hb.out.trans (hb.mono Hb.out.size)); clear ho hb)
    | (go_at_call_of 13 (Value.slice b m d); refine (KB.out _ Hb.out).mono ?_; rintro e W3 ⟨gb, cb, rfl, ho, hb⟩; have HA := hide (HA.out.keep hb); have HG := hide ho.rd; have Hb := hide (Hb.out.trans (hb.mono Hb.out.size)); clear ho hb)
    | (go_at_call 16; refine (K16.out _ _ _ _ _ HA.out HG.out).mono ?_; rintro e W4 ⟨a3, c3, rfl, hrd, hb⟩; have HR := hide hrd; have HA := hide (HA.out.keep hb); have HG := hide (HG.out.keep hb); have Hb := hide (Hb.out.trans (hb.mono Hb.out.size)); clear hrd hb))
  go_upto_region 6 with (first
    | (go_at_call_of 15 (Value.slice a n c); refine (RA.out _ Hb.out).mono ?_; rintro e W5 ⟨gr, cr, rfl, ho, hb⟩; have HSa := hide ho.rd; have HR := hide (HR.out.keep hb); have HA := hide (HA.out.keep hb); have HG := hide (HG.out.keep hb); have Hb := hide (Hb.out.trans (hb.mono Hb.out.size)); clear ho hb)
    | (go_at_call_of 15 (Value.slice b m d); refine (RB.out _ Hb.out).mono ?_; rintro e W6 ⟨gs, cs, rfl, ho, hb⟩; have HSa := hide (HSa.out.keep hb); have HSg := hide ho.rd; have HR := hide (HR.out.keep hb); have HA := hide (HA.out.keep hb); have HG := hide (HG.out.keep hb); have Hb := hide (Hb.out.trans (hb.mono Hb.out.size)); clear ho hb)
    | (go_at_call 17; refine (K17.out _ _ _ _ _ HSa.out HSg.out).mono ?_; rintro e W7 ⟨a7, c7, rfl, hrd, hb⟩; have HR7 := hide hrd; have HR := hide (HR.out.keep hb); have HA := hide (HA.out.keep hb); have HG := hide (HG.out.keep hb); have Hb := hide (Hb.out.trans (hb.mono Hb.out.size)); clear hrd hb))
  go_wp2_with (first
    | (go_at_call 18; refine (K18.out _ _ _ _ _ HR.out HR7.out).mono ?_; rintro e W8 ⟨rfl, hb⟩; have HA := hide (HA.out.keep hb); have HG := hide (HG.out.keep hb); have Hb := hide (Hb.out.trans (hb.mono Hb.out.size)); clear hb)
    | (go_at_call_of 19 (Value.slice ga n ca); refine (KS1.out _ _ _ Hb.out HA.out).mono ?_; rintro e W9 ⟨rfl, hb⟩; have HG := hide (HG.out.keep hb); have Hb := hide (Hb.out.trans (hb.mono Hb.out.size)); clear hb)
    | (go_at_call_of 19 (Value.slice gb m cb); refine (KS2.out _ _ _ Hb.out HG.out).mono ?_; rintro e W10 ⟨rfl, hb⟩; have Hb := hide (Hb.out.trans (hb.mono Hb.out.size)); clear hb))
  go_ret
  exact ⟨rfl, Hb.out⟩
end Go.Proofs.Ytochllbnlnammaa
