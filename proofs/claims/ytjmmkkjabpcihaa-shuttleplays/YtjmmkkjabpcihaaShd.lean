/- New, Assign, Moved, Picked, Dropped, Reset. -/
import Derived.Test.YtjmmkkjabpcihaaShc
namespace Go.Proofs.Ytjmmkkjabpcihaa
open Go.RowKit
set_option linter.unusedVariables false
variable {w w' w0 : World} {g h : Nat} {S : Sh}

/-- is it no shuttle? -/
def noN (n a p : Int) : Prop := n < 1 ∨ 40 < n ∨ p < 1 ∨ 1000 < p ∨ a < 0 ∨ n ≤ a
/-- a new one -/
def shN (n a p : Int) : Sh := ⟨n, p, a, 0, 0, 0, 0, 0, 0, 0⟩
theorem shb_new (w : World) (S : Sh) : Shb (w.alloc (.cells (shC S) 60)) w.heap.size S := ⟨heap_new _ _⟩

set_option maxRecDepth 100000 in
set_option maxHeartbeats 1000000 in
theorem new_no (n a p : Int) (w : World) (hno : noN n a p) : Calls Try.prog 9 #[.int .i64 n, .int .i64 a, .int .i64 p] w fun e w' => e = .returned (.tuple #[.pointer none, .int .i64 1]) ∧ Below w.heap.size w w' := by
  unfold noN at hno
  by_cases h1 : n < 1
  · clear hno
    go_enter Try.func9, Try.ntmps9
    go_wp2_with fail
    go_ret2
    exact ⟨rfl, Below.refl _ _⟩
  by_cases h2 : n > 40
  · clear hno
    go_enter Try.func9, Try.ntmps9
    go_wp2_with fail
    go_ret2
    exact ⟨rfl, Below.refl _ _⟩
  by_cases h3 : p < 1
  · clear hno
    go_enter Try.func9, Try.ntmps9
    go_wp2_with fail
    go_ret2
    exact ⟨rfl, Below.refl _ _⟩
  by_cases h4 : p > 1000
  · clear hno
    go_enter Try.func9, Try.ntmps9
    go_wp2_with fail
    go_ret2
    exact ⟨rfl, Below.refl _ _⟩
  have e : (shN n a p).has a = false := decide_eq_false (by simp only [shN]; omega)
  have HB : Hid (Below w.heap.size w (w.alloc (.cells (shC (shN n a p)) 60))) := hide ((Below.refl _ _).alloc (Nat.le_refl _) _)
  have K := hide (has_any (shb_new w (shN n a p)) a)
  rw [e] at K
  clear hno e
  go_enter Try.func9, Try.ntmps9
  go_wp2_with (go_at_call 28; refine K.out.mono ?_; rintro e W2 ⟨rfl, hW⟩; have hW' := hW.symm; clear hW; subst hW')
  go_ret2
  exact ⟨rfl, HB.out⟩

set_option maxRecDepth 100000 in
set_option maxHeartbeats 1000000 in
theorem new_ok (n a p : Int) (w : World) (hno : ¬ noN n a p) : Calls Try.prog 9 #[.int .i64 n, .int .i64 a, .int .i64 p] w fun e w' => e = .returned (.tuple #[.pointer (some ⟨w.heap.size, 0, none⟩), .int .i64 0]) ∧ Shb w' w.heap.size (shN n a p) ∧ Below w.heap.size w w' := by
  unfold noN at hno
  have h1 : ¬ n < 1 := by omega
  have h2 : ¬ n > 40 := by omega
  have h3 : ¬ p < 1 := by omega
  have h4 : ¬ p > 1000 := by omega
  have e : (shN n a p).has a = true := decide_eq_true (by simp only [shN]; omega)
  have HB : Hid (Below w.heap.size w (w.alloc (.cells (shC (shN n a p)) 60))) := hide ((Below.refl _ _).alloc (Nat.le_refl _) _)
  have HS := hide (shb_new w (shN n a p))
  have K := hide (has_any (shb_new w (shN n a p)) a)
  rw [e] at K
  clear hno e
  go_enter Try.func9, Try.ntmps9
  go_wp2_with (go_at_call 28; refine K.out.mono ?_; rintro e W2 ⟨rfl, hW⟩; have hW' := hW.symm; clear hW; subst hW')
  go_ret2
  exact ⟨rfl, HS.out, HB.out⟩


set_option maxRecDepth 100000 in
set_option maxHeartbeats 1000000 in
theorem as_any (hS : Shb w g S) (t f o : Int) : Calls Try.prog 11 #[.pointer (some ⟨g, 0, none⟩), .agg #[.int .i64 t, .int .i64 f, .int .i64 o]] w fun e w' => e = .returned (.int .i64 (S.asC t f o)) ∧ Chg w g (S.as t f o) w' := by
  have HB : Hid (Below w.heap.size w (w.alloc (.cells #[.int .i64 t, .int .i64 f, .int .i64 o] 31))) := hide ((Below.refl _ _).alloc (Nat.le_refl _) _)
  have HX : Hid ((w.alloc (.cells #[.int .i64 t, .int .i64 f, .int .i64 o] 31)).heap[w.heap.size]? = some (.cells #[.int .i64 t, .int .i64 f, .int .i64 o] 31)) := hide (heap_new _ _)
  have HC : Hid (Chg w g S (w.alloc (.cells #[.int .i64 t, .int .i64 f, .int .i64 o] 31))) := hide ((Chg.refl hS).keep HB.out)
  have Hgh : Hid (g ≠ w.heap.size) := hide (Nat.ne_of_lt hS.lt)
  obtain ⟨h, hh⟩ : ∃ h, w.heap.size = h := ⟨_, rfl⟩
  rw [hh] at HX Hgh
  have Hh := hide hh
  have KF : Hid (∀ W, Shb W g S → _) := hide (fun W hW => has_any hW f)
  have KO : Hid (∀ W, Shb W g S → _) := hide (fun W hW => has_any hW o)
  clear hh hS HB
  obtain ⟨n, pt, pl, st, was, tk, jt, jf, jo, dn⟩ := S
  by_cases h1 : t < 1
  · have e1 : Sh.asC ⟨n, pt, pl, st, was, tk, jt, jf, jo, dn⟩ t f o = 1 := if_pos (.inl h1)
    have e2 : Sh.as ⟨n, pt, pl, st, was, tk, jt, jf, jo, dn⟩ t f o = ⟨n, pt, pl, st, was, tk, jt, jf, jo, dn⟩ := if_neg (by rw [e1]; decide)
    rw [e1, e2]
    clear e1 e2
    go_enter Try.func11, Try.ntmps11
    go_wp2_with fail
    go_ret
    exact ⟨rfl, HC.out⟩
  by_cases h2 : t > 30
  · have e1 : Sh.asC ⟨n, pt, pl, st, was, tk, jt, jf, jo, dn⟩ t f o = 1 := if_pos (.inr (.inl h2))
    have e2 : Sh.as ⟨n, pt, pl, st, was, tk, jt, jf, jo, dn⟩ t f o = ⟨n, pt, pl, st, was, tk, jt, jf, jo, dn⟩ := if_neg (by rw [e1]; decide)
    rw [e1, e2]
    clear e1 e2
    go_enter Try.func11, Try.ntmps11
    go_wp2_with fail
    go_ret
    exact ⟨rfl, HC.out⟩
  cases hf : Sh.has ⟨n, pt, pl, st, was, tk, jt, jf, jo, dn⟩ f
  · have e1 : Sh.asC ⟨n, pt, pl, st, was, tk, jt, jf, jo, dn⟩ t f o = 1 := if_pos (.inr (.inr (.inl hf)))
    have e2 : Sh.as ⟨n, pt, pl, st, was, tk, jt, jf, jo, dn⟩ t f o = ⟨n, pt, pl, st, was, tk, jt, jf, jo, dn⟩ := if_neg (by rw [e1]; decide)
    rw [e1, e2]
    rw [hf] at KF
    clear e1 e2 hf KO
    go_enter Try.func11, Try.ntmps11
    go_wp2_with (go_at_call 28; refine (KF.out _ HC.out.sh).mono ?_; rintro e W2 ⟨rfl, hW⟩; have hW' := hW.symm; clear hW; subst hW')
    go_ret
    exact ⟨rfl, HC.out⟩
  rw [hf] at KF
  cases ho : Sh.has ⟨n, pt, pl, st, was, tk, jt, jf, jo, dn⟩ o
  · have e1 : Sh.asC ⟨n, pt, pl, st, was, tk, jt, jf, jo, dn⟩ t f o = 1 := if_pos (.inr (.inr (.inr ho)))
    have e2 : Sh.as ⟨n, pt, pl, st, was, tk, jt, jf, jo, dn⟩ t f o = ⟨n, pt, pl, st, was, tk, jt, jf, jo, dn⟩ := if_neg (by rw [e1]; decide)
    rw [e1, e2]
    rw [ho] at KO
    have hfo : f ≠ o := fun e => by rw [e, ho] at hf; cases hf
    clear e1 e2 ho hf
    go_enter Try.func11, Try.ntmps11
    go_upto_region 1 with fail
    rw [Hh.out]
    generalize w.alloc (.cells #[.int .i64 t, .int .i64 f, .int .i64 o] 31) = W at *
    have x0 : W.cell? ⟨h, 0, none⟩ = some (.int .i64 t) := (cells_at HX.out 0).1
    have x1 : W.cell? ⟨h, 1, none⟩ = some (.int .i64 f) := (cells_at HX.out 1).1
    have x2 : W.cell? ⟨h, 2, none⟩ = some (.int .i64 o) := (cells_at HX.out 2).1
    go_wp2_with (first
      | (go_at_call_of 28 (Value.int .i64 f); refine (KF.out _ HC.out.sh).mono ?_; rintro e W2 ⟨rfl, hW⟩; have hW' := hW.symm; clear hW; subst hW')
      | (go_at_call_of 28 (Value.int .i64 o); refine (KO.out _ HC.out.sh).mono ?_; rintro e W2 ⟨rfl, hW⟩; have hW' := hW.symm; clear hW; subst hW'))
    go_ret
    exact ⟨rfl, HC.out⟩
  rw [ho] at KO
  have hne : ¬ (t < 1 ∨ 30 < t ∨ Sh.has ⟨n, pt, pl, st, was, tk, jt, jf, jo, dn⟩ f = false ∨ Sh.has ⟨n, pt, pl, st, was, tk, jt, jf, jo, dn⟩ o = false) := by
    rw [hf, ho]
    rintro (h | h | h | h)
    · exact h1 h
    · exact h2 h
    · cases h
    · cases h
  by_cases s0 : st = 0
  · have e1 : Sh.asC ⟨n, pt, pl, st, was, tk, jt, jf, jo, dn⟩ t f o = 0 := (if_neg hne).trans (if_neg (Decidable.not_not.2 s0))
    have e2 : Sh.as ⟨n, pt, pl, st, was, tk, jt, jf, jo, dn⟩ t f o = Sh.on ⟨n, pt, pl, st, was, tk, t, f, o, dn⟩ 1 := if_pos e1
    rw [e1, e2]
    subst s0
    clear e1 e2 ho hf hne
    have K29 : Hid (∀ W, Shb W g ⟨n, pt, pl, 0, was, tk, t, f, o, dn⟩ → _) := hide (fun W hW => on_any hW 1)
    generalize Sh.on ⟨n, pt, pl, 0, was, tk, t, f, o, dn⟩ 1 = R at *
    go_enter Try.func11, Try.ntmps11
    go_upto_region 1 with fail
    rw [Hh.out]
    generalize w.alloc (.cells #[.int .i64 t, .int .i64 f, .int .i64 o] 31) = W at *
    have x0 : W.cell? ⟨h, 0, none⟩ = some (.int .i64 t) := (cells_at HX.out 0).1
    have x1 : W.cell? ⟨h, 1, none⟩ = some (.int .i64 f) := (cells_at HX.out 1).1
    have x2 : W.cell? ⟨h, 2, none⟩ = some (.int .i64 o) := (cells_at HX.out 2).1
    obtain ⟨_, _, _, c3, _, _, c6, c7, c8, _, cf⟩ := HC.out.sh.cells
    have f6 := cf 6
    have f7 := cf 7
    have f8 := cf 8
    clear cf
    have HC2 : Hid (Chg w g ⟨n, pt, pl, 0, was, tk, t, f, o, dn⟩ (((W.setCell ⟨g, 6, none⟩ (.int .i64 t)).setCell ⟨g, 7, none⟩ (.int .i64 f)).setCell ⟨g, 8, none⟩ (.int .i64 o))) := hide (((HC.out.put 6 _ (S2 := ⟨n, pt, pl, 0, was, tk, t, jf, jo, dn⟩) rfl).put 7 _ (S2 := ⟨n, pt, pl, 0, was, tk, t, f, jo, dn⟩) rfl).put 8 _ rfl)
    go_upto_region 6 with (first
      | (go_at_call_of 28 (Value.int .i64 f); refine (KF.out _ HC.out.sh).mono ?_; rintro e W2 ⟨rfl, hW⟩; have hW' := hW.symm; clear hW; subst hW')
      | (go_at_call_of 28 (Value.int .i64 o); refine (KO.out _ HC.out.sh).mono ?_; rintro e W2 ⟨rfl, hW⟩; have hW' := hW.symm; clear hW; subst hW'))
    clear HC HX x0 x1 x2 c3 c6 c7 c8 f6 f7 f8 KF KO
    generalize ((W.setCell ⟨g, 6, none⟩ (.int .i64 t)).setCell ⟨g, 7, none⟩ (.int .i64 f)).setCell ⟨g, 8, none⟩ (.int .i64 o) = W3 at *
    go_wp2_with (go_at_call 29; refine (K29.out _ HC2.out.sh).mono ?_; rintro e W4 ⟨rfl, hc⟩; have HC3 := hide (HC2.out.trans hc); clear hc)
    go_ret
    exact ⟨rfl, HC3.out⟩
  · have e1 : Sh.asC ⟨n, pt, pl, st, was, tk, jt, jf, jo, dn⟩ t f o = 140 := (if_neg hne).trans (if_pos s0)
    have e2 : Sh.as ⟨n, pt, pl, st, was, tk, jt, jf, jo, dn⟩ t f o = ⟨n, pt, pl, st, was, tk, jt, jf, jo, dn⟩ := if_neg (by rw [e1]; decide)
    rw [e1, e2]
    have b0 : (st != 0) = true := bne_iff_ne.2 s0
    clear e1 e2 ho hf hne s0
    go_enter Try.func11, Try.ntmps11
    go_upto_region 1 with fail
    rw [Hh.out]
    generalize w.alloc (.cells #[.int .i64 t, .int .i64 f, .int .i64 o] 31) = W at *
    have x0 : W.cell? ⟨h, 0, none⟩ = some (.int .i64 t) := (cells_at HX.out 0).1
    have x1 : W.cell? ⟨h, 1, none⟩ = some (.int .i64 f) := (cells_at HX.out 1).1
    have x2 : W.cell? ⟨h, 2, none⟩ = some (.int .i64 o) := (cells_at HX.out 2).1
    obtain ⟨_, _, _, c3, _, _, c6, c7, c8, _, cf⟩ := HC.out.sh.cells
    clear cf
    go_wp2_with (first
      | (go_at_call_of 28 (Value.int .i64 f); refine (KF.out _ HC.out.sh).mono ?_; rintro e W2 ⟨rfl, hW⟩; have hW' := hW.symm; clear hW; subst hW')
      | (go_at_call_of 28 (Value.int .i64 o); refine (KO.out _ HC.out.sh).mono ?_; rintro e W2 ⟨rfl, hW⟩; have hW' := hW.symm; clear hW; subst hW'))
    go_ret
    exact ⟨rfl, HC.out⟩

set_option maxRecDepth 100000 in
set_option maxHeartbeats 1000000 in
theorem mv_any (hS : Shb w g S) (p : Int) : Calls Try.prog 15 #[.pointer (some ⟨g, 0, none⟩), .int .i64 p] w fun e w' => e = .returned (.int .i64 (S.mvC p)) ∧ Chg w g (S.mv p) w' := by
  have HC := hide (Chg.refl hS)
  have KP := hide (has_any hS p)
  obtain ⟨_, _, c2, c3, _, _, _, _, _, _, cf⟩ := hS.cells
  have f2 := cf 2
  clear cf hS
  obtain ⟨n, pt, pl, st, was, tk, jt, jf, jo, dn⟩ := S
  simp only at c2 c3
  cases hp : Sh.has ⟨n, pt, pl, st, was, tk, jt, jf, jo, dn⟩ p
  · have e1 : Sh.mvC ⟨n, pt, pl, st, was, tk, jt, jf, jo, dn⟩ p = 1 := if_pos hp
    have e2 : Sh.mv ⟨n, pt, pl, st, was, tk, jt, jf, jo, dn⟩ p = ⟨n, pt, pl, st, was, tk, jt, jf, jo, dn⟩ := if_neg (by rw [e1]; decide)
    rw [e1, e2]
    rw [hp] at KP
    clear e1 e2 hp
    go_enter Try.func15, Try.ntmps15
    go_wp2_with (go_at_call 28; refine KP.out.mono ?_; rintro e W2 ⟨rfl, hW⟩; have hW' := hW.symm; clear hW; subst hW')
    go_ret
    exact ⟨rfl, HC.out⟩
  rw [hp] at KP
  have hp' : ¬ Sh.has ⟨n, pt, pl, st, was, tk, jt, jf, jo, dn⟩ p = false := by rw [hp]; decide
  by_cases hs : st ≠ 1 ∧ st ≠ 3
  · have e1 : Sh.mvC ⟨n, pt, pl, st, was, tk, jt, jf, jo, dn⟩ p = 140 := (if_neg hp').trans (if_pos hs)
    have e2 : Sh.mv ⟨n, pt, pl, st, was, tk, jt, jf, jo, dn⟩ p = ⟨n, pt, pl, st, was, tk, jt, jf, jo, dn⟩ := if_neg (by rw [e1]; decide)
    rw [e1, e2]
    have b1 : (st != 1) = true := bne_iff_ne.2 hs.1
    have b3 : (st != 3) = true := bne_iff_ne.2 hs.2
    clear e1 e2 hp hs hp'
    go_enter Try.func15, Try.ntmps15
    go_wp2_with (go_at_call 28; refine KP.out.mono ?_; rintro e W2 ⟨rfl, hW⟩; have hW' := hW.symm; clear hW; subst hW')
    go_ret
    exact ⟨rfl, HC.out⟩
  have e1 : Sh.mvC ⟨n, pt, pl, st, was, tk, jt, jf, jo, dn⟩ p = 0 := (if_neg hp').trans (if_neg hs)
  have e2 : Sh.mv ⟨n, pt, pl, st, was, tk, jt, jf, jo, dn⟩ p = Sh.on ⟨n, pt, p, st, was, tk, jt, jf, jo, dn⟩ st := if_pos e1
  rw [e1, e2]
  have K29 : Hid (∀ W, Shb W g ⟨n, pt, p, st, was, tk, jt, jf, jo, dn⟩ → _) := hide (fun W hW => on_any hW st)
  have HC2 : Hid (Chg w g ⟨n, pt, p, st, was, tk, jt, jf, jo, dn⟩ (w.setCell ⟨g, 2, none⟩ (.int .i64 p))) := hide (HC.out.put 2 _ rfl)
  have hs' : st = 1 ∨ st = 3 := by omega
  clear e1 e2 hp hp' hs HC
  generalize Sh.on ⟨n, pt, p, st, was, tk, jt, jf, jo, dn⟩ st = R at *
  rcases hs' with rfl | rfl
  · go_enter Try.func15, Try.ntmps15
    go_upto_region 6 with (go_at_call 28; refine KP.out.mono ?_; rintro e W2 ⟨rfl, hW⟩; have hW' := hW.symm; clear hW; subst hW')
    clear KP c2 c3 f2
    generalize w.setCell ⟨g, 2, none⟩ (.int .i64 p) = W3 at *
    obtain ⟨_, _, c2, c3, _, _, _, _, _, _, _⟩ := HC2.out.sh.cells
    go_wp2_with (go_at_call 29; refine (K29.out _ HC2.out.sh).mono ?_; rintro e W4 ⟨rfl, hc⟩; have HC3 := hide (HC2.out.trans hc); clear hc)
    go_ret
    exact ⟨rfl, HC3.out⟩
  · go_enter Try.func15, Try.ntmps15
    go_upto_region 6 with (go_at_call 28; refine KP.out.mono ?_; rintro e W2 ⟨rfl, hW⟩; have hW' := hW.symm; clear hW; subst hW')
    clear KP c2 c3 f2
    generalize w.setCell ⟨g, 2, none⟩ (.int .i64 p) = W3 at *
    obtain ⟨_, _, c2, c3, _, _, _, _, _, _, _⟩ := HC2.out.sh.cells
    go_wp2_with (go_at_call 29; refine (K29.out _ HC2.out.sh).mono ?_; rintro e W4 ⟨rfl, hc⟩; have HC3 := hide (HC2.out.trans hc); clear hc)
    go_ret
    exact ⟨rfl, HC3.out⟩

theorem hdC_no {S : Sh} {k t : Int} (h : S.hdC k t ≠ 0) : S.hdC k t = 140 ∨ S.hdC k t = 160 := by
  unfold Sh.hdC at h ⊢
  split at h
  · rename_i h1; rw [if_pos h1]; exact .inl rfl
  · rename_i h1
    rw [if_neg h1]
    split at h
    · rename_i h2; rw [if_pos h2]; exact .inr rfl
    · exact absurd rfl h

set_option maxRecDepth 100000 in
set_option maxHeartbeats 1000000 in
theorem pk_any (hS : Shb w g S) (t : Int) : Calls Try.prog 17 #[.pointer (some ⟨g, 0, none⟩), .int .i64 t] w fun e w' => e = .returned (.int .i64 (S.hdC 2 t)) ∧ Chg w g (S.pk t) w' := by
  have HC := hide (Chg.refl hS)
  have K32 := hide (exp_any hS 2 t)
  have K29 := hide (on_any hS 3)
  clear hS
  by_cases hc : S.hdC 2 t = 0
  · have e2 : S.pk t = S.on 3 := if_pos hc
    rw [hc] at K32 ⊢
    rw [e2]
    clear hc e2
    generalize S.on 3 = R at *
    go_enter Try.func17, Try.ntmps17
    go_wp2_with (first
      | (go_at_call 32; refine K32.out.mono ?_; rintro e W2 ⟨rfl, hW⟩; have hW' := hW.symm; clear hW; subst hW')
      | (go_at_call 29; refine K29.out.mono ?_; rintro e W4 ⟨rfl, hc⟩; have HC3 := hide (HC.out.trans hc); clear hc))
    go_ret
    exact ⟨rfl, HC3.out⟩
  · have e2 : S.pk t = S := if_neg hc
    rw [e2]
    have b0 : (S.hdC 2 t != 0) = true := bne_iff_ne.2 hc
    generalize S.hdC 2 t = cd at *
    clear hc e2 K29
    go_enter Try.func17, Try.ntmps17
    go_wp2_with (go_at_call 32; refine K32.out.mono ?_; rintro e W2 ⟨rfl, hW⟩; have hW' := hW.symm; clear hW; subst hW')
    go_ret
    exact ⟨rfl, HC.out⟩

set_option maxRecDepth 100000 in
set_option maxHeartbeats 1000000 in
theorem dp_any (hS : Shb w g S) (t : Int) (hd : 0 ≤ S.dn ∧ S.dn ≤ 1000000) : Calls Try.prog 19 #[.pointer (some ⟨g, 0, none⟩), .int .i64 t] w fun e w' => e = .returned (.int .i64 (S.hdC 4 t)) ∧ Chg w g (S.dp t) w' := by
  have HC := hide (Chg.refl hS)
  have K32 := hide (exp_any hS 4 t)
  have K29 := hide (on_any hS 0)
  clear hS
  by_cases hc : S.hdC 4 t = 0
  · have e2 : S.dp t = (S.on 0).more := if_pos hc
    rw [hc] at K32 ⊢
    rw [e2]
    have hd1 : 0 ≤ (S.on 0).dn := hd.1
    have hd2 : (S.on 0).dn ≤ 1000000 := hd.2
    clear hc e2 hd
    generalize S.on 0 = R at *
    have HP : Hid (∀ W, Chg w g R W → Chg w g R.more (W.setCell ⟨g, 9, none⟩ (.int .i64 (R.dn + 1)))) := hide (fun W h => h.put 9 _ rfl)
    go_enter Try.func19, Try.ntmps19
    go_wp2_with (first
      | (go_at_call 32; refine K32.out.mono ?_; rintro e W2 ⟨rfl, hW⟩; have hW' := hW.symm; clear hW; subst hW')
      | (go_at_call 29; refine K29.out.mono ?_; rintro e W4 ⟨rfl, hc⟩; have HC3 := hide (HC.out.trans hc); clear hc; obtain ⟨_, _, _, _, _, _, _, _, _, c9, cf⟩ := HC3.out.sh.cells; have f9 := cf 9; clear cf))
    go_ret
    exact ⟨rfl, HP.out _ HC3.out⟩
  · have e2 : S.dp t = S := if_neg hc
    rw [e2]
    have b0 : (S.hdC 4 t != 0) = true := bne_iff_ne.2 hc
    generalize S.hdC 4 t = cd at *
    clear hc e2 K29
    go_enter Try.func19, Try.ntmps19
    go_wp2_with (go_at_call 32; refine K32.out.mono ?_; rintro e W2 ⟨rfl, hW⟩; have hW' := hW.symm; clear hW; subst hW')
    go_ret
    exact ⟨rfl, HC.out⟩

set_option maxRecDepth 100000 in
set_option maxHeartbeats 1000000 in
theorem rs_any (hS : Shb w g S) : Calls Try.prog 20 #[.pointer (some ⟨g, 0, none⟩)] w fun e w' => e = .returned (.int .i64 S.rsC) ∧ Chg w g S.rs w' := by
  have HC := hide (Chg.refl hS)
  obtain ⟨_, _, _, c3, c4, _, _, _, _, _, _⟩ := hS.cells
  by_cases h5 : S.st = 5
  · have e1 : S.rsC = 0 := if_neg (Decidable.not_not.2 h5)
    have e2 : S.rs = S.on S.was := if_pos e1
    have K29 := hide (on_any hS S.was)
    rw [e1, e2]
    rw [h5] at c3
    clear e1 e2 h5 hS
    generalize S.on S.was = R at *
    generalize S.was = x at *
    go_enter Try.func20, Try.ntmps20
    go_wp2_with (go_at_call 29; refine K29.out.mono ?_; rintro e W4 ⟨rfl, hc⟩; have HC3 := hide (HC.out.trans hc); clear hc)
    go_ret
    exact ⟨rfl, HC3.out⟩
  · have e1 : S.rsC = 140 := if_pos h5
    have e2 : S.rs = S := if_neg (by rw [e1]; decide)
    rw [e1, e2]
    have b5 : (S.st != 5) = true := bne_iff_ne.2 h5
    clear e1 e2 h5 hS
    go_enter Try.func20, Try.ntmps20
    go_wp2_with fail
    go_ret
    exact ⟨rfl, HC.out⟩
end Go.Proofs.Ytjmmkkjabpcihaa
