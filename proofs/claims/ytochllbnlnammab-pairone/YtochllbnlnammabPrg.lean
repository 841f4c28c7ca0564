/- Best; lists of numbers held against each other; the law's awake. -/
import Derived.Test.YtochllbnlnammabPrf
namespace Go.Proofs.Ytochllbnlnammab
open Go.RowKit
set_option linter.unusedVariables false

/-- the best places -/
def bst (L M : List (Int × Int)) : List Int := lst (sg L M) M.length L.length L.length (2 ^ M.length - 1)
theorem bst_pl (L M : List (Int × Int)) : Pl L.length M.length (bst L M) := ⟨lst_len _ _ _ _ _, (lst_ok (sg L M) M.length L.length L.length _ (Nat.le_refl _)).2.2⟩
/-- what Best answers -/
def BestP (L M : List (Int × Int)) (w : World) (e : Ending) (w' : World) : Prop := Below w.heap.size w w' ∧
  ((¬ (Alw L ∧ Alw M) ∧ e = .returned (.tuple #[.slice none 0 0, .int .i64 0, .int .i64 1])) ∨
   (Alw L ∧ Alw M ∧ ∃ a c, e = .returned (.tuple #[.slice a L.length c, .int .i64 (cst L M (bst L M)), .int .i64 0]) ∧ intE.Own w' w.heap.size (.slice a L.length c) (bst L M)))

set_option maxRecDepth 100000 in
set_option maxHeartbeats 2000000 in
theorem best_any (a b : Option Addr) (n c m d : Nat) (L M : List (Int × Int)) (w : World) (hn : L.length = n) (hm : M.length = m) (hv : spE.Rd w (.slice a n c) L) (hu : spE.Rd w (.slice b m d) M) :
    Calls Try.prog 5 #[.slice a n c, .slice b m d] w (BestP L M w) := by
  obtain ⟨w0, rfl⟩ : ∃ w0, w0 = w := ⟨_, rfl⟩
  have K1 : Hid (∀ W, Below w0.heap.size w0 W → Calls Try.prog 8 #[.slice a n c] W fun e w' => e = .returned (.bool (decide (Alw L))) ∧ Below W.heap.size W w') := hide (fun W h => allowed_any a n c L W hn (hv.keep h))
  have K2 : Hid (∀ W, Below w0.heap.size w0 W → Calls Try.prog 8 #[.slice b m d] W fun e w' => e = .returned (.bool (decide (Alw M))) ∧ Below W.heap.size W w') := hide (fun W h => allowed_any b m d M W hm (hu.keep h))
  by_cases h1 : Alw L
  · rw [decide_eq_true h1] at K1
    by_cases h2 : Alw M
    · rw [decide_eq_true h2] at K2
      have K26 : Hid (∀ W, Below w0.heap.size w0 W → Calls Try.prog 9 #[.slice a n c, .slice b m d] W (LeastP n m L M W)) := hide (fun W h => least_any a b n c m d L M W hn hm (hv.keep h) (hu.keep h) h1 h2)
      have K24 : Hid (∀ W p c', Below w0.heap.size w0 W → intE.Rd W (.slice p n c') (bst L M) → Calls Try.prog 10 #[.slice a n c, .slice b m d, .slice p n c'] W fun e w' => e = .returned (.int .i64 (cst L M (bst L M))) ∧ Below W.heap.size W w') := hide (fun W p c' h hr => drives_any a b p n c m d c' L M (bst L M) W hn hm (hv.keep h) (hu.keep h) hr h1 h2 (by rw [← hn, ← hm]; exact bst_pl L M))
      have HL : Hid (∀ W e w', LeastP n m L M W e w' → ∃ a c, e = .returned (.slice a n c) ∧ intE.Own w' W.heap.size (.slice a n c) (bst L M) ∧ Below W.heap.size W w') := hide (fun W e w' h => by unfold bst; rw [hn, hm]; exact h)
      have HP : Hid (∀ W a c, Below w0.heap.size w0 W → intE.Own W w0.heap.size (.slice a n c) (bst L M) → BestP L M w0 (.returned (.tuple #[.slice a n c, .int .i64 (cst L M (bst L M)), .int .i64 0])) W) := hide (fun W a c h ho => ⟨h, .inr ⟨h1, h2, a, c, by rw [hn], by rw [hn]; exact ho⟩⟩)
      clear hn hm hv hu h1 h2
      generalize cst L M (bst L M) = cc at *
      generalize bst L M = ps at *
      go_enter Try.func5, Try.ntmps5
      go_upto_region 3 with (first
        | (go_at_call_of 8 (Value.slice a n c); refine (K1.out _ (Below.refl _ _)).mono ?_; rintro e W1 ⟨rfl, hb⟩; have HB1 := hide hb; clear hb)
        | (go_at_call 8; refine (K2.out _ HB1.out).mono ?_; rintro e W2 ⟨rfl, hb⟩; have HB2 := hide (HB1.out.trans (hb.mono HB1.out.size)); clear hb))
      go_wp2_with (first
        | (go_at_call 9; refine (K26.out _ HB2.out).mono ?_; intro e W3 hP; obtain ⟨a3, c3, rfl, ho, hb⟩ := HL.out _ _ _ hP; have HO3 := hide (ho.mono HB2.out.size); have HB3 := hide (HB2.out.trans (hb.mono HB2.out.size)); clear hP ho hb)
        | (go_at_call 10; refine (K24.out _ _ _ HB3.out HO3.out.rd).mono ?_; rintro e W4 ⟨rfl, hb⟩; have HB4 := hide (HB3.out.trans (hb.mono HB3.out.size)); have HO4 := hide (HO3.out.keep hb); clear hb))
      exact bodyPost_ret (v := .tuple #[.slice a3 n c3, .int .i64 cc, .int .i64 0]) (by simp [results, Try.results5, go_sem]) rfl (HP.out _ _ _ HB4.out HO4.out)
    · rw [decide_eq_false h2] at K2
      have HP : Hid (∀ W, Below w0.heap.size w0 W → BestP L M w0 (.returned (.tuple #[.slice none 0 0, .int .i64 0, .int .i64 1])) W) := hide (fun W h => ⟨h, .inl ⟨fun h => h2 h.2, rfl⟩⟩)
      clear hn hm hv hu h1 h2
      go_enter Try.func5, Try.ntmps5
      go_wp2_with (first
        | (go_at_call_of 8 (Value.slice a n c); refine (K1.out _ (Below.refl _ _)).mono ?_; rintro e W1 ⟨rfl, hb⟩; have HB1 := hide hb; clear hb)
        | (go_at_call 8; refine (K2.out _ HB1.out).mono ?_; rintro e W2 ⟨rfl, hb⟩; have HB2 := hide (HB1.out.trans (hb.mono HB1.out.size)); clear hb))
      exact bodyPost_ret (v := .tuple #[.slice none 0 0, .int .i64 0, .int .i64 1]) (by simp [results, Try.results5, go_sem]) rfl (HP.out _ HB2.out)
  · rw [decide_eq_false h1] at K1
    have HP : Hid (∀ W, Below w0.heap.size w0 W → BestP L M w0 (.returned (.tuple #[.slice none 0 0, .int .i64 0, .int .i64 1])) W) := hide (fun W h => ⟨h, .inl ⟨fun h => h1 h.1, rfl⟩⟩)
    clear hn hm hv hu h1
    go_enter Try.func5, Try.ntmps5
    go_wp2_with (go_at_call_of 8 (Value.slice a n c); refine (K1.out _ (Below.refl _ _)).mono ?_; rintro e W1 ⟨rfl, hb⟩; have HB1 := hide hb; clear hb)
    exact bodyPost_ret (v := .tuple #[.slice none 0 0, .int .i64 0, .int .i64 1]) (by simp [results, Try.results5, go_sem]) rfl (HP.out _ HB1.out)

set_option maxRecDepth 100000 in
set_option maxHeartbeats 2000000 in
theorem ints_same (a b : Option Addr) (c d n : Nat) (xs : List Int) (w : World) (hn : xs.length = n) (hv : intE.Rd w (.slice a n c) xs) (hu : intE.Rd w (.slice b n d) xs) (hl : n ≤ 9223372036854775807) :
    Calls Try.prog 7 #[.slice a n c, .slice b n d] w fun e w' => e = .returned (.bool true) ∧ ∃ q, w' = w.drewN q := by
  have q1 : ((n : Int) != (n : Int)) = false := bne_self_eq_false _
  have Hn := hide hn
  have Hv := hide hv
  have Hu := hide hu
  have i0 : (n : Int) ≤ 9223372036854775807 := by omega
  clear hn hv hu hl
  go_enter Try.func7, Try.ntmps7
  go_wp2_with fail
  go_loopw [13] (fun v13 wr => ∃ k q : Nat, k ≤ n ∧ v13 = .int .i64 k ∧ wr = w.drewN q) (fun v13 _ => n - (intOf v13).toNat)
  case atStart => exact ⟨0, 0, by omega, rfl, rfl⟩
  case round =>
    obtain ⟨k, q, hk, rfl, rfl⟩ := hrel
    by_cases hlt : k < n
    · obtain ⟨p, hp⟩ : ∃ p, xs[k]? = some p := ⟨_, List.getElem?_eq_getElem (by rw [Hn.out]; exact hlt)⟩
      obtain ⟨b1, off1, rfl, c0⟩ := int_at Hv.out k p hp
      obtain ⟨b2, off2, rfl, c3⟩ := int_at Hu.out k p hp
      have j0 : (0 : Int) ≤ (k : Int) := by omega
      have j1 : (k : Int) < (n : Int) := by omega
      have j2 : (k : Int) < 9223372036854775807 := by omega
      have hbe : (p != p) = false := bne_self_eq_false _
      clear hp
      go_upto_region 6 with fail
      go_quiet (fail)
      go_wp2_with fail
      go_roundw
      case rel => exact ⟨k + 1, _, by omega, by go_num, rfl⟩
      case measure => simp [intOf]; omega
    · obtain rfl : k = n := by omega
      have j1 : ¬ (k : Int) < (k : Int) := by omega
      go_wp2_with fail
      go_ret
      exact ⟨rfl, _, rfl⟩

theorem sp_new (w : World) (C : Array Value) (xs : List (Int × Int)) (hC : C.toList = spE.fl xs) (hm : xs.length ≤ 1000000) (g n : Nat) (hg : g = w.heap.size) (hn : n = xs.length) : spE.Rd (w.alloc (.cells C 23)) (.slice (some ⟨g, 0, none⟩) n n) xs :=
  (El.Own.new spE w w.heap.size (Nat.le_refl _) C xs hC hm _ _ _ hg hn hn).rd
theorem ex_bst : bst [(3, 1), (9, 9)] [(8, 9)] = [-1, 0] ∧ cst [(3, 1), (9, 9)] [(8, 9)] [-1, 0] = 25 ∧ Alw [(3, 1), (9, 9)] ∧ Alw [(8, 9)] := by decide +kernel

set_option maxRecDepth 100000 in
set_option maxHeartbeats 2000000 in
theorem awake_any (w : World) : Calls Try.prog 4 #[] w fun e w' => e = .returned (.bool true) ∧ Below w.heap.size w w' := by
  obtain ⟨w0, rfl⟩ : ∃ w0, w0 = w := ⟨_, rfl⟩
  have K16 : Hid (Calls Try.prog 5 #[.slice (some ⟨w0.heap.size, 0, none⟩) 2 2, .slice (some ⟨w0.heap.size + 1, 0, none⟩) 1 1] ((w0.alloc (.cells #[.int .i64 3, .int .i64 1, .int .i64 9, .int .i64 9] 23)).alloc (.cells #[.int .i64 8, .int .i64 9] 23)) fun e w' => ∃ a c, e = .returned (.tuple #[.slice a 2 c, .int .i64 25, .int .i64 0]) ∧ intE.Rd w' (.slice a 2 c) [-1, 0] ∧ Below w0.heap.size w0 w') := hide (by
    have e : (w0.alloc (.cells #[.int .i64 3, .int .i64 1, .int .i64 9, .int .i64 9] 23)).heap.size = w0.heap.size + 1 := by show (w0.heap.push _).size = _; simp
    have r1 := (sp_new w0 #[.int .i64 3, .int .i64 1, .int .i64 9, .int .i64 9] [(3, 1), (9, 9)] rfl (by decide) w0.heap.size 2 rfl rfl).keep ((Below.refl _ _).alloc (Nat.le_refl _) (.cells #[.int .i64 8, .int .i64 9] 23))
    have r2 := sp_new (w0.alloc (.cells #[.int .i64 3, .int .i64 1, .int .i64 9, .int .i64 9] 23)) #[.int .i64 8, .int .i64 9] [(8, 9)] rfl (by decide) (w0.heap.size + 1) 1 e.symm rfl
    refine (best_any _ _ 2 2 1 1 [(3, 1), (9, 9)] [(8, 9)] _ rfl rfl r1 r2).mono ?_
    obtain ⟨h1, h2, h3, h4⟩ := ex_bst
    rintro e w' ⟨hb, ⟨h, _⟩ | ⟨_, _, a, c, rfl, ho⟩⟩
    · exact absurd ⟨h3, h4⟩ h
    · rw [h1] at ho
      rw [h1, h2]
      exact ⟨a, c, rfl, ho.rd, (below_alloc2 w0 _ _).trans (hb.mono (below_alloc2 w0 _ _).size)⟩)
  have K18 : Hid (∀ (W : World) a c, intE.Rd W (.slice a 2 c) [-1, 0] → Calls Try.prog 7 #[.slice a 2 c, .slice (some ⟨W.heap.size, 0, none⟩) 2 2] (W.alloc (.cells #[.int .i64 (-1), .int .i64 0] 3)) fun e w' => e = .returned (.bool true) ∧ ∃ q, w' = (W.alloc (.cells #[.int .i64 (-1), .int .i64 0] 3)).drewN q) := hide (fun W a c h => ints_same a _ c 2 2 [-1, 0] _ rfl (h.keep ((Below.refl _ _).alloc (Nat.le_refl _) _)) (El.Own.new intE W W.heap.size (Nat.le_refl _) _ [-1, 0] rfl (by decide) _ _ _ rfl rfl rfl).rd (by omega))
  have HB : Hid (∀ (W : World) q, Below w0.heap.size w0 W → Below w0.heap.size w0 ((W.alloc (.cells #[.int .i64 (-1), .int .i64 0] 3)).drewN q)) := hide (fun W q h => by
    have h1 : Below w0.heap.size w0 (W.alloc (.cells #[.int .i64 (-1), .int .i64 0] 3)) := h.alloc h.size _
    exact h1.trans ((below_drewN _ q).mono h1.size))
  go_enter Try.func4, Try.ntmps4
  go_wp2_with (first
    | (go_at_call 5; refine K16.out.mono ?_; rintro e W1 ⟨a1, c1, rfl, hr, hb⟩; have HR := hide hr; have HB1 := hide hb; clear hr hb)
    | (go_at_call 7; refine (K18.out _ _ _ HR.out).mono ?_; rintro e W2 ⟨rfl, q, rfl⟩))
  go_ret
  exact ⟨rfl, HB.out _ _ HB1.out⟩
end Go.Proofs.Ytochllbnlnammab
