/- A shuttle as it lies in memory; what only reads it; getOn, order. -/
import Derived.Test.YtjmmkkjabpcihaaShm
import Derived.Deep.RegionWith
import Derived.Deep.QuietTactic
namespace Go.Proofs.Ytjmmkkjabpcihaa
open Go.RowKit
set_option linter.unusedVariables false

def shC (S : Sh) : Array Value := #[.int .i64 S.n, .int .i64 S.pt, .int .i64 S.pl, .int .i64 S.st, .int .i64 S.was, .int .i64 S.tk, .int .i64 S.jt, .int .i64 S.jf, .int .i64 S.jo, .int .i64 S.dn]
/-- a shuttle -/
structure Shb (w : World) (g : Nat) (S : Sh) : Prop where
  box : w.heap[g]? = some (.cells (shC S) 60)
variable {w w' : World} {g : Nat} {S : Sh}
theorem Shb.cells (h : Shb w g S) : w.cell? ⟨g, 0, none⟩ = some (.int .i64 S.n) ∧ w.cell? ⟨g, 1, none⟩ = some (.int .i64 S.pt) ∧ w.cell? ⟨g, 2, none⟩ = some (.int .i64 S.pl) ∧ w.cell? ⟨g, 3, none⟩ = some (.int .i64 S.st) ∧ w.cell? ⟨g, 4, none⟩ = some (.int .i64 S.was) ∧ w.cell? ⟨g, 5, none⟩ = some (.int .i64 S.tk) ∧ w.cell? ⟨g, 6, none⟩ = some (.int .i64 S.jt) ∧ w.cell? ⟨g, 7, none⟩ = some (.int .i64 S.jf) ∧ w.cell? ⟨g, 8, none⟩ = some (.int .i64 S.jo) ∧ w.cell? ⟨g, 9, none⟩ = some (.int .i64 S.dn) ∧ ∀ i, w.frozen? ⟨g, i, none⟩ = false :=
  ⟨(cells_at h.box 0).1, (cells_at h.box 1).1, (cells_at h.box 2).1, (cells_at h.box 3).1, (cells_at h.box 4).1, (cells_at h.box 5).1, (cells_at h.box 6).1, (cells_at h.box 7).1, (cells_at h.box 8).1, (cells_at h.box 9).1, fun i => (cells_at h.box i).2⟩
theorem Shb.stay (h : Shb w g S) (hs : w'.heap[g]? = w.heap[g]?) : Shb w' g S := ⟨by rw [hs]; exact h.box⟩
theorem Shb.lt (h : Shb w g S) : g < w.heap.size := heap_lt h.box
theorem Shb.keep (h : Shb w g S) (hb : Below w.heap.size w w') : Shb w' g S := h.stay (hb.block _ h.lt)
theorem Shb.drewN (h : Shb w g S) (q : Nat) : Shb (w.drewN q) g S := h.stay rfl
theorem grown_set (w : World) (g i : Nat) (u : Value) : w.grownBy (w.setCell ⟨g, i, none⟩ u) (some g) :=
  ⟨rfl, rfl, rfl, by simp [World.setCell], fun k _ hk => Below.heap_setCell _ _ _ _ (fun e => hk (by rw [e]))⟩
theorem grown_drew {w w' : World} {r : Option Nat} (h : w.grownBy w' r) (q : Nat) : w.grownBy (w'.drewN q) r := ⟨h.os, h.tape, h.output, h.size, h.block⟩
theorem grown_below {w w' : World} (h : Below w.heap.size w w') (r : Option Nat) : w.grownBy w' r := ⟨h.os, h.tape, h.output, h.size, fun k hk _ => h.block k hk⟩
theorem below_drew {n : Nat} {w w' : World} (h : Below n w w') (q : Nat) : Below n w (w'.drewN q) := ⟨h.os, h.tape, h.output, h.size, h.block⟩
/-- only the shuttle changes -/
structure Chg (w : World) (g : Nat) (S : Sh) (w' : World) : Prop where
  sh : Shb w' g S
  gr : w.grownBy w' (some g)
theorem Chg.drewN (h : Chg w g S w') (q : Nat) : Chg w g S (w'.drewN q) := ⟨h.sh.drewN q, grown_drew h.gr q⟩
theorem Chg.refl (h : Shb w g S) : Chg w g S w := ⟨h, .refl _ _⟩
theorem Chg.keep {w2 : World} (h : Chg w g S w') (hb : Below w'.heap.size w' w2) : Chg w g S w2 := ⟨h.sh.keep hb, h.gr.trans (grown_below hb _)⟩
theorem Chg.trans {w2 : World} {S2 : Sh} (h : Chg w g S w') (h2 : Chg w' g S2 w2) : Chg w g S2 w2 := ⟨h2.sh, h.gr.trans h2.gr⟩
theorem Chg.put (h : Chg w g S w') (i : Nat) (u : Value) {S2 : Sh} (e : (shC S).setIfInBounds i u = shC S2) : Chg w g S2 (w'.setCell ⟨g, i, none⟩ u) :=
  ⟨⟨by rw [heap_put h.sh.box, e]⟩, h.gr.trans (grown_set _ _ _ _)⟩

set_option maxRecDepth 100000 in
theorem has_any (h : Shb w g S) (p : Int) : Calls Try.prog 28 #[.pointer (some ⟨g, 0, none⟩), .int .i64 p] w fun e w' => e = .returned (.bool (S.has p)) ∧ w' = w := by
  obtain ⟨c0, _⟩ := h.cells
  by_cases h1 : 0 ≤ p
  · by_cases h2 : p < S.n
    · have e : S.has p = true := (Sh.has_iff S p).2 ⟨h1, h2⟩
      rw [e]
      have j : p ≥ 0 := h1
      clear e h h1
      go_enter Try.func28, Try.ntmps28
      go_wp2_with fail
      go_ret
      exact ⟨rfl, rfl⟩
    · have e : S.has p = false := decide_eq_false (by omega)
      rw [e]
      have j : p ≥ 0 := h1
      clear e h h1
      go_enter Try.func28, Try.ntmps28
      go_wp2_with fail
      go_ret
      exact ⟨rfl, rfl⟩
  · have e : S.has p = false := decide_eq_false (by omega)
    rw [e]
    have j : ¬ p ≥ 0 := h1
    clear e h h1 c0
    go_enter Try.func28, Try.ntmps28
    go_wp2_with fail
    go_ret
    exact ⟨rfl, rfl⟩

set_option maxRecDepth 100000 in
theorem state_any (h : Shb w g S) : Calls Try.prog 23 #[.pointer (some ⟨g, 0, none⟩)] w fun e w' => e = .returned (.int .i64 S.st) ∧ w' = w := by
  obtain ⟨_, _, _, c3, _⟩ := h.cells
  clear h
  go_enter Try.func23, Try.ntmps23
  go_wp2_with fail
  go_ret
  exact ⟨rfl, rfl⟩
set_option maxRecDepth 100000 in
theorem place_any (h : Shb w g S) : Calls Try.prog 24 #[.pointer (some ⟨g, 0, none⟩)] w fun e w' => e = .returned (.int .i64 S.pl) ∧ w' = w := by
  obtain ⟨_, _, c2, _⟩ := h.cells
  clear h
  go_enter Try.func24, Try.ntmps24
  go_wp2_with fail
  go_ret
  exact ⟨rfl, rfl⟩
set_option maxRecDepth 100000 in
theorem done_any (h : Shb w g S) : Calls Try.prog 26 #[.pointer (some ⟨g, 0, none⟩)] w fun e w' => e = .returned (.int .i64 S.dn) ∧ w' = w := by
  obtain ⟨_, _, _, _, _, _, _, _, _, c9, _⟩ := h.cells
  clear h
  go_enter Try.func26, Try.ntmps26
  go_wp2_with fail
  go_ret
  exact ⟨rfl, rfl⟩
set_option maxRecDepth 100000 in
theorem load_any (h : Shb w g S) : Calls Try.prog 25 #[.pointer (some ⟨g, 0, none⟩)] w fun e w' => e = .returned (.int .i64 S.load) ∧ w' = w := by
  obtain ⟨_, _, _, c3, c4, _, c6, _, _, _, _⟩ := h.cells
  obtain ⟨n, pt, pl, st, was, tk, jt, jf, jo, dn⟩ := S
  simp only at c3 c4 c6
  clear h
  by_cases h5 : st = 5
  · subst h5
    have e : Sh.load ⟨n, pt, pl, 5, was, tk, jt, jf, jo, dn⟩ = if was = 3 ∨ was = 4 then jt else 0 := rfl
    rw [e]
    clear e
    by_cases h3 : was = 3
    · subst h3
      go_enter Try.func25, Try.ntmps25
      go_wp2_with fail
      go_ret
      exact ⟨rfl, rfl⟩
    have b3 : (was != 3) = true := bne_iff_ne.2 h3
    by_cases h4 : was = 4
    · subst h4
      go_enter Try.func25, Try.ntmps25
      go_wp2_with fail
      go_ret
      exact ⟨rfl, rfl⟩
    have b4 : (was != 4) = true := bne_iff_ne.2 h4
    rw [if_neg (by omega)]
    clear h3 h4
    go_enter Try.func25, Try.ntmps25
    go_wp2_with fail
    go_ret
    exact ⟨rfl, rfl⟩
  have e : Sh.load ⟨n, pt, pl, st, was, tk, jt, jf, jo, dn⟩ = if st = 3 ∨ st = 4 then jt else 0 := by simp [Sh.load, Sh.eff, h5]
  rw [e]
  have b5 : (st == 5) = false := beq_eq_false_iff_ne.2 h5
  clear e h5
  by_cases h3 : st = 3
  · subst h3
    go_enter Try.func25, Try.ntmps25
    go_wp2_with fail
    go_ret
    exact ⟨rfl, rfl⟩
  have b3 : (st != 3) = true := bne_iff_ne.2 h3
  by_cases h4 : st = 4
  · subst h4
    go_enter Try.func25, Try.ntmps25
    go_wp2_with fail
    go_ret
    exact ⟨rfl, rfl⟩
  have b4 : (st != 4) = true := bne_iff_ne.2 h4
  rw [if_neg (by omega)]
  clear h3 h4
  go_enter Try.func25, Try.ntmps25
  go_wp2_with fail
  go_ret
  exact ⟨rfl, rfl⟩

set_option maxRecDepth 100000 in
theorem exp_any (h : Shb w g S) (k t : Int) : Calls Try.prog 32 #[.pointer (some ⟨g, 0, none⟩), .int .i64 k, .int .i64 t] w fun e w' => e = .returned (.int .i64 (S.hdC k t)) ∧ w' = w := by
  obtain ⟨_, _, _, c3, _, _, c6, _, _, _, _⟩ := h.cells
  clear h
  unfold Sh.hdC
  by_cases h1 : S.st = k
  · rw [if_neg (Decidable.not_not.2 h1)]
    rw [h1] at c3
    have b1 : (k != k) = false := bne_self_eq_false _
    by_cases h2 : t = S.jt
    · rw [if_neg (Decidable.not_not.2 h2)]
      rw [← h2] at c6
      have b2 : (t != t) = false := bne_self_eq_false _
      clear h1 h2
      go_enter Try.func32, Try.ntmps32
      go_wp2_with fail
      go_ret
      exact ⟨rfl, rfl⟩
    · rw [if_pos h2]
      have b2 : (t != S.jt) = true := bne_iff_ne.2 h2
      clear h1 h2
      go_enter Try.func32, Try.ntmps32
      go_wp2_with fail
      go_ret
      exact ⟨rfl, rfl⟩
  · rw [if_pos h1]
    have b1 : (S.st != k) = true := bne_iff_ne.2 h1
    clear h1 c6
    go_enter Try.func32, Try.ntmps32
    go_wp2_with fail
    go_ret
    exact ⟨rfl, rfl⟩

set_option maxRecDepth 100000 in
theorem on_any (h : Shb w g S) (k : Int) : Calls Try.prog 29 #[.pointer (some ⟨g, 0, none⟩), .int .i64 k] w fun e w' => e = .returned (.tuple #[]) ∧ Chg w g (S.on k) w' := by
  obtain ⟨_, _, c2, c3, _, c5, _, c7, c8, _, cf⟩ := h.cells
  have f3 := cf 3
  have f5 := cf 5
  clear cf
  obtain ⟨n, pt, pl, st, was, tk, jt, jf, jo, dn⟩ := S
  simp only at c2 c3 c5 c7 c8
  have H := hide h
  clear h
  have fin : Hid (∀ (q : Nat) (x : Int), Chg w g ⟨n, pt, pl, x, was, 0, jt, jf, jo, dn⟩ (((w.drewN q).setCell ⟨g, 3, none⟩ (.int .i64 x)).setCell ⟨g, 5, none⟩ (.int .i64 0))) := hide (fun q x => (((Chg.refl H.out).drewN q).put 3 _ (S2 := ⟨n, pt, pl, x, was, tk, jt, jf, jo, dn⟩) rfl).put 5 _ rfl)
  by_cases k1 : k = 1
  · subst k1
    by_cases hp : pl = jf
    · have e : Sh.on ⟨n, pt, pl, st, was, tk, jt, jf, jo, dn⟩ 1 = ⟨n, pt, pl, 2, was, 0, jt, jf, jo, dn⟩ := by simp [Sh.on, hp]
      rw [e]
      have b1 : (pl == jf) = true := by rw [hp]; exact beq_self_eq_true _
      clear e hp H
      go_enter Try.func29, Try.ntmps29
      go_upto_region 0 with fail
      go_quiet (fail)
      go_wp2_with fail
      refine bodyPost_end (results_none rfl _ _ _) rfl ?_
      exact ⟨rfl, fin.out _ _⟩
    · have e : Sh.on ⟨n, pt, pl, st, was, tk, jt, jf, jo, dn⟩ 1 = ⟨n, pt, pl, 1, was, 0, jt, jf, jo, dn⟩ := by simp [Sh.on, hp]
      rw [e]
      have b1 : (pl == jf) = false := beq_eq_false_iff_ne.2 hp
      clear e hp H
      go_enter Try.func29, Try.ntmps29
      go_upto_region 0 with fail
      go_quiet (fail)
      go_upto_region 2 with fail
      go_quiet (fail)
      go_wp2_with fail
      refine bodyPost_end (results_none rfl _ _ _) rfl ?_
      exact ⟨rfl, fin.out _ _⟩
  have k1' : (k == 1) = false := beq_eq_false_iff_ne.2 k1
  by_cases k3 : k = 3
  · subst k3
    by_cases hp : pl = jo
    · have e : Sh.on ⟨n, pt, pl, st, was, tk, jt, jf, jo, dn⟩ 3 = ⟨n, pt, pl, 4, was, 0, jt, jf, jo, dn⟩ := by simp [Sh.on, hp]
      rw [e]
      have b1 : (pl == jo) = true := by rw [hp]; exact beq_self_eq_true _
      clear e hp H
      go_enter Try.func29, Try.ntmps29
      go_upto_region 0 with fail
      go_quiet (fail)
      go_upto_region 2 with fail
      go_quiet (fail)
      go_wp2_with fail
      refine bodyPost_end (results_none rfl _ _ _) rfl ?_
      exact ⟨rfl, fin.out _ _⟩
    · have e : Sh.on ⟨n, pt, pl, st, was, tk, jt, jf, jo, dn⟩ 3 = ⟨n, pt, pl, 3, was, 0, jt, jf, jo, dn⟩ := by simp [Sh.on, hp]
      rw [e]
      have b1 : (pl == jo) = false := beq_eq_false_iff_ne.2 hp
      clear e hp H
      go_enter Try.func29, Try.ntmps29
      go_upto_region 0 with fail
      go_quiet (fail)
      go_upto_region 2 with fail
      go_quiet (fail)
      go_wp2_with fail
      refine bodyPost_end (results_none rfl _ _ _) rfl ?_
      exact ⟨rfl, fin.out _ _⟩
  have k3' : (k == 3) = false := beq_eq_false_iff_ne.2 k3
  have e : Sh.on ⟨n, pt, pl, st, was, tk, jt, jf, jo, dn⟩ k = ⟨n, pt, pl, k, was, 0, jt, jf, jo, dn⟩ := by simp [Sh.on, k1, k3]
  rw [e]
  clear e k1 k3 H
  go_enter Try.func29, Try.ntmps29
  go_upto_region 0 with fail
  go_quiet (fail)
  go_upto_region 2 with fail
  go_quiet (fail)
  go_wp2_with fail
  refine bodyPost_end (results_none rfl _ _ _) rfl ?_
  exact ⟨rfl, fin.out _ _⟩
end Go.Proofs.Ytjmmkkjabpcihaa
