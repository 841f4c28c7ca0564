/- Where each tote is known to be, and how PlantStill counts. -/
import Derived.Test.YthcdfclhenmleaaPag
import Derived.Test.YthcdfclhenmleaaPmu
namespace Go.Proofs.Ythcdfclhenmleaa
open Go.RowKit
set_option linter.unusedVariables false

theorem rmap_at {α : Type} (f : Nat → α) {n j : Nat} (h : j < n) : ((List.range n).map f)[j]? = some (f j) := by
  rw [List.getElem?_map, List.getElem?_range h]; rfl
theorem rmap_set {α : Type} (f g : Nat → α) {n k : Nat} (v : α) (hv : g k = v) (ho : ∀ j, j < n → j ≠ k → g j = f j) : ((List.range n).map f).set k v = (List.range n).map g := by
  apply List.ext_getElem?
  intro j
  rcases Nat.lt_or_ge j n with h | h
  · rw [rmap_at g h]
    by_cases e : k = j
    · subst e
      rw [List.getElem?_set, if_pos rfl, if_pos (by simpa using h), hv]
    · rw [set_off e, rmap_at f h, ho j h (fun q => e q.symm)]
  · rw [List.getElem?_eq_none (by simpa using h), List.getElem?_eq_none (by simpa using h)]
theorem rmap_eq {α : Type} (f g : Nat → α) {n : Nat} (ho : ∀ j, j < n → g j = f j) : (List.range n).map g = (List.range n).map f := List.map_congr_left (fun j hj => ho j (List.mem_range.1 hj))
theorem tb_set {α : Type} (f : α → Value) (L : List α) (i : Nat) (x : α) : (L.map f).toArray.setIfInBounds i (f x) = ((L.set i x).map f).toArray := by
  rw [List.map_set]; simp
theorem tb_at {α : Type} (f : α → Value) {w : World} {g : Nat} {t : TypeId} {L : List α} (h : w.heap[g]? = some (.cells (L.map f).toArray t)) {i : Nat} {x : α} (hx : L[i]? = some x) : w.cell? ⟨g, i, none⟩ = some (f x) ∧ w.frozen? ⟨g, i, none⟩ = false := by
  refine ⟨?_, (cells_at h i).2⟩
  rw [(cells_at h i).1]
  simp [hx]
/-- where each tote is known to be: its place in the plant -/
def wsL (S : Pl) : List Int := (List.range 31).map (fun t : Nat => S.whr t)
theorem wsL_len (S : Pl) : (wsL S).length = 31 := by simp [wsL]
theorem wsL_at (S : Pl) {t : Nat} (h : t < 31) : (wsL S)[t]? = some (S.whr t) := rmap_at _ h
theorem wsL_eq {S S' : Pl} (h : S'.ts = S.ts) : wsL S' = wsL S := rmap_eq _ _ (fun j _ => by unfold Pl.whr; rw [h])
theorem wsL_nw (n : Nat) (es : List (Int × Int)) : wsL (Pl.nw n es) = List.replicate 31 (-1) := by
  unfold wsL
  rw [List.eq_replicate_iff]
  refine ⟨by simp, fun b hb => ?_⟩
  obtain ⟨t, ht, rfl⟩ := List.mem_map.1 hb
  unfold Pl.whr
  by_cases h : isT (t : Int) = true
  · rw [if_pos h]
    refine loc_no (fun q => ?_)
    have := List.eq_of_mem_replicate q
    have := isT_iff.1 h
    omega
  · rw [if_neg h]
section
variable {S : Pl} {n : Nat} {es : List (Int × Int)} (H : S.Ok n es)
include H
theorem isN_n {j : Nat} (hj : j < n) : S.isN (j : Int) = true := Pl.isN_iff.2 (by have := H.ln; omega)
/-- a tote that stands somewhere stands at one node alone -/
theorem whr_iff {t x : Int} (ht : isT t = true) (hx : S.isN x = true) : S.whr t = x ↔ S.att x = t := by
  constructor
  · intro h
    have hN := Pl.isN_iff.1 hx
    have := (whr_at ht (by rw [h]; omega)).2
    rwa [h] at this
  · exact whr_of H ht hx
theorem whr_bound {t : Int} : S.whr t = -1 ∨ (0 ≤ S.whr t ∧ S.whr t < n) := by
  by_cases h : isT t = true
  · by_cases h2 : S.whr t = -1
    · exact .inl h2
    · have := Pl.isN_iff.1 (whr_at h h2).1
      have := H.ln
      exact .inr (by omega)
  · left; unfold Pl.whr; rw [if_neg h]
/-- what stands elsewhere stays, what is nowhere stays there -/
theorem whr_same {S' : Pl} (H' : S'.Ok n es) {t : Int} (ht : isT t = true) (h : ∀ x, S.isN x = true → (S'.att x = t ↔ S.att x = t)) : S'.whr t = S.whr t := by
  have hn : ∀ x, S'.isN x = S.isN x := fun x => by unfold Pl.isN; rw [H.ln, H'.ln]
  by_cases h2 : S.whr t = -1
  · rw [h2]
    by_cases h3 : S'.whr t = -1
    · exact h3
    · obtain ⟨a1, a2⟩ := whr_at ht h3
      rw [hn] at a1
      have := (whr_iff H ht a1).2 ((h _ a1).1 a2)
      rw [h2] at this
      have := Pl.isN_iff.1 a1
      omega
  · obtain ⟨a1, a2⟩ := whr_at ht h2
    exact (whr_iff H' ht (by rw [hn]; exact a1)).2 ((h _ a1).2 a2)
theorem put_yes {t x : Int} (hc : (S.put t x).1 = 0) : isT t = true ∧ S.isN x = true ∧ S.whr t = -1 ∧ (S.put t x).2.whr t = x ∧ wsL (S.put t x).2 = (wsL S).set t.toNat x := by
  have hok := H.put t x
  unfold Pl.put at hc hok ⊢
  by_cases h1 : (isT t && S.isN x) = false
  · rw [if_pos h1] at hc; cases hc
  rw [if_neg h1] at hc hok ⊢
  by_cases h2 : S.whr t ≠ -1
  · rw [if_pos h2] at hc; cases hc
  rw [if_neg h2] at hc hok ⊢
  by_cases h3 : S.att x ≠ 0
  · rw [if_pos h3] at hc; cases hc
  rw [if_neg h3] at hc hok ⊢
  simp only [Bool.not_eq_false, Bool.and_eq_true] at h1
  have h2' : S.whr t = -1 := by simpa using h2
  have h3' : S.att x = 0 := by simpa using h3
  have hT := isT_iff.1 h1.1
  have hat : ∀ y, Pl.att { S with ts := S.ts.set x.toNat t } y = if y = x then t else S.att y := fun y => att_set (ds := S.ds) (v := S.mv) h1.2 t y
  have hx : Pl.isN { S with ts := S.ts.set x.toNat t } x = true := by rw [Pl.isN_iff]; simpa using Pl.isN_iff.1 h1.2
  have hw : Pl.whr { S with ts := S.ts.set x.toNat t } t = x := whr_of hok h1.1 hx (by rw [hat, if_pos rfl])
  refine ⟨h1.1, h1.2, h2', hw, ?_⟩
  symm
  refine rmap_set _ _ x ?_ (fun j hj hne => ?_)
  · show Pl.whr { S with ts := S.ts.set x.toNat t } ((t.toNat : Nat) : Int) = x
    rw [show ((t.toNat : Nat) : Int) = t by omega]; exact hw
  · show Pl.whr { S with ts := S.ts.set x.toNat t } (j : Int) = S.whr j
    cases hj0 : isT (j : Int) with
    | false => unfold Pl.whr; rw [hj0]; rfl
    | true =>
      refine whr_same H hok hj0 (fun y hy => ?_)
      rw [hat]
      have := isT_iff.1 hj0
      by_cases e : y = x
      · rw [if_pos e, e, h3']; omega
      · rw [if_neg e]
omit H in
theorem put_no {t x : Int} (hc : (S.put t x).1 ≠ 0) : (S.put t x).2 = S := by
  unfold Pl.put at hc ⊢
  split
  · rfl
  split
  · rfl
  split
  · rfl
  · rename_i a1 a2 a3
    rw [if_neg a1, if_neg a2, if_neg a3] at hc
    exact absurd rfl hc
/-- the one move -/
theorem go_yes {t : Tl} (ht : t.In) (hd : S.isD t.d = true) (hw : S.whr t.a = (S.dev t.d).fr) (ha : S.att (S.dev t.d).en = 0) : (S.go t).whr t.a = (S.dev t.d).en ∧ wsL (S.go t) = (wsL S).set t.a.toNat (S.dev t.d).en := by
  have hok := H.go ht hd hw
  have hT := whr_in H hd hw
  have hT' := isT_iff.1 hT
  obtain ⟨i1, i2, i3⟩ := H.ins (Pl.dev_at hd).2
  have hat := go_att H (t := t) hd
  have hfr : S.att (S.dev t.d).fr = t.a := (whr_iff H hT i1).1 hw
  have hx : (S.go t).isN (S.dev t.d).en = true := by
    have := Pl.isN_iff.1 i2
    rw [Pl.isN_iff]; unfold Pl.go; simp only [List.length_set]; exact this
  have hw2 : (S.go t).whr t.a = (S.dev t.d).en := whr_of hok hT hx (by rw [hat, if_pos rfl])
  refine ⟨hw2, ?_⟩
  symm
  refine rmap_set _ _ _ ?_ (fun j hj hne => ?_)
  · show (S.go t).whr ((t.a.toNat : Nat) : Int) = _
    rw [show ((t.a.toNat : Nat) : Int) = t.a by omega]; exact hw2
  · show (S.go t).whr (j : Int) = S.whr j
    cases hj0 : isT (j : Int) with
    | false => unfold Pl.whr; rw [hj0]; rfl
    | true =>
      refine whr_same H hok hj0 (fun y hy => ?_)
      rw [hat]
      have := isT_iff.1 hj0
      by_cases e : y = (S.dev t.d).en
      · rw [if_pos e, e, ha]; omega
      · rw [if_neg e]
        by_cases e2 : y = (S.dev t.d).fr
        · rw [if_pos e2, e2, hfr]; omega
        · rw [if_neg e2]
end
theorem brk_ts (S : Pl) (d k : Int) (b : Bool) : (S.brk d k b).2.ts = S.ts := by
  unfold Pl.brk
  split <;> rfl
/-- how often each node was met, behind the totes below t -/
def eA (S : Pl) (t j : Nat) : Int := if 1 ≤ S.att j ∧ S.att j < t then 1 else 0
def eL (S : Pl) (n t : Nat) : List Int := (List.range n).map (eA S t)
theorem eL_len (S : Pl) (n t : Nat) : (eL S n t).length = n := by simp [eL]
theorem eL_one (S : Pl) (n : Nat) : eL S n 1 = List.replicate n 0 := by
  unfold eL
  rw [List.eq_replicate_iff]
  refine ⟨by simp, fun b hb => ?_⟩
  obtain ⟨j, _, rfl⟩ := List.mem_map.1 hb
  unfold eA
  rw [if_neg (by omega)]
section
variable {S : Pl} {n : Nat} {es : List (Int × Int)} (H : S.Ok n es)
include H
theorem eL_no {t : Nat} (ht : isT (t : Int) = true) (hw : S.whr t = -1) : eL S n (t + 1) = eL S n t := by
  have hT := isT_iff.1 ht
  refine rmap_eq _ _ fun j hj => ?_
  unfold eA
  have : S.att j ≠ t := fun q => by
    have h := whr_of H ht (isN_n H hj) q
    omega
  congr 1
  simp only [eq_iff_iff]
  omega
theorem eL_yes {t k : Nat} (ht : isT (t : Int) = true) (hw : S.whr t = (k : Int)) (hk : k < n) : eA S t k = 0 ∧ (eL S n t).set k 1 = eL S n (t + 1) ∧ S.att k = t := by
  have hT := isT_iff.1 ht
  have hat : S.att k = t := by
    have := (whr_at ht (by rw [hw]; omega)).2
    rwa [hw] at this
  refine ⟨?_, rmap_set _ _ 1 ?_ (fun j hj hne => ?_), hat⟩
  · unfold eA
    rw [if_neg]
    omega
  · unfold eA
    rw [if_pos (by omega)]
  · unfold eA
    have : S.att j ≠ t := fun q => by
      have h := whr_of H ht (isN_n H hj) q
      omega
    congr 1
    simp only [eq_iff_iff]
    omega
end
end Go.Proofs.Ythcdfclhenmleaa
