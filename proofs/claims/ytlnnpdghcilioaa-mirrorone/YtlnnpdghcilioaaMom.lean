/- How MirrorOne counts: ends, moving, put. Knows no program. -/
import Derived.Test.YtlnnpdghcilioaaMcs
namespace Go.Proofs.Ytlnnpdghcilioaa
set_option linter.unusedVariables false

theorem rmap_at {α : Type} (f : Nat → α) {n j : Nat} (h : j < n) : ((List.range n).map f)[j]? = some (f j) := by
  rw [List.getElem?_map, List.getElem?_range h]; rfl
theorem rmap_set {α : Type} (f g : Nat → α) {n k : Nat} (v : α) (hv : g k = v) (ho : ∀ j, j < n → j ≠ k → g j = f j) : ((List.range n).map f).set k v = (List.range n).map g := by
  apply List.ext_getElem?
  intro j
  rcases Nat.lt_or_ge j n with h | h
  · rw [rmap_at g h]
    by_cases e : k = j
    · subst e
      rw [List.getElem?_set, if_pos rfl, if_pos (by simpa using h), hv]
    · rw [set_off e, rmap_at f h, ho j h (fun q => e q.symm)]
  · rw [List.getElem?_eq_none (by simpa using h), List.getElem?_eq_none (by simpa using h)]
theorem rmap_eq {α : Type} (f g : Nat → α) {n : Nat} (ho : ∀ j, j < n → g j = f j) : (List.range n).map g = (List.range n).map f := List.map_congr_left (fun j hj => ho j (List.mem_range.1 hj))
theorem any_one {ds : List Dv} {k : Nat} {D : Dv} (h : ds[k]? = some D) (p : Dv → Bool) : (ds.take (k + 1)).any p = ((ds.take k).any p || p D) := by
  rw [List.take_add_one, h]; simp

def eA (S : Mr) (t k j : Nat) : Int := if (1 ≤ S.att j ∧ S.att j < t) ∨ (S.ds.take k).any (comes j) = true then 1 else 0
def eL (S : Mr) (n t k : Nat) : List Int := (List.range n).map (eA S t k)
def mA (S : Mr) (k t : Nat) : Int := if t ≠ 0 ∧ (S.ds.take k).any (takes t) = true then 1 else 0
def mL (S : Mr) (k : Nat) : List Int := (List.range 31).map (mA S k)
theorem eL_len (S : Mr) (n t k : Nat) : (eL S n t k).length = n := by simp [eL]
theorem mL_len (S : Mr) (k : Nat) : (mL S k).length = 31 := by simp [mL]
theorem eL_zero (S : Mr) (n : Nat) : eL S n 1 0 = List.replicate n 0 := by
  unfold eL
  rw [List.eq_replicate_iff]
  refine ⟨by simp, fun b hb => ?_⟩
  obtain ⟨j, _, rfl⟩ := List.mem_map.1 hb
  unfold eA
  rw [if_neg]
  rintro (h | h)
  · omega
  · simp at h
theorem mL_zero (S : Mr) : mL S 0 = List.replicate 31 0 := by
  unfold mL
  rw [List.eq_replicate_iff]
  refine ⟨by simp, fun b hb => ?_⟩
  obtain ⟨j, _, rfl⟩ := List.mem_map.1 hb
  unfold mA
  rw [if_neg]
  rintro ⟨_, h⟩
  simp at h
section
variable {S : Mr} {n : Nat} {es : List (Int × Int)} (H : S.Ok n es)
include H
theorem isN_n {j : Nat} (hj : j < n) : S.isN (j : Int) = true := Mr.isN_iff.2 (by have := H.ln; omega)
theorem eL_no {t : Nat} (ht : isT (t : Int) = true) (hw : S.whr t = -1) : eL S n (t + 1) 0 = eL S n t 0 := by
  have hT := isT_iff.1 ht
  refine rmap_eq _ _ fun j hj => ?_
  unfold eA
  have : S.att j ≠ t := fun q => by
    have h := whr_of H ht (isN_n H hj) q
    omega
  congr 1
  simp only [eq_iff_iff]
  simp only [List.take_zero, List.any_nil, Bool.false_eq_true, or_false]
  omega
theorem eL_yes {t k : Nat} (ht : isT (t : Int) = true) (hw : S.whr t = (k : Int)) (hk : k < n) : eA S t 0 k = 0 ∧ (eL S n t 0).set k 1 = eL S n (t + 1) 0 ∧ S.att k = t := by
  have hT := isT_iff.1 ht
  have hat : S.att k = t := by
    have := (whr_at ht (by rw [hw]; omega)).2
    rwa [hw] at this
  refine ⟨?_, rmap_set _ _ 1 ?_ (fun j hj hne => ?_), hat⟩
  · unfold eA
    rw [if_neg]
    rintro (h | h)
    · omega
    · simp at h
  · unfold eA
    rw [if_pos (.inl (by omega))]
  · unfold eA
    have : S.att j ≠ t := fun q => by
      have h := whr_of H ht (isN_n H hj) q
      omega
    congr 1
    simp only [eq_iff_iff]
    simp only [List.take_zero, List.any_nil, Bool.false_eq_true, or_false]
    omega
omit H in
theorem dev_no {k : Nat} {D : Dv} (hD : S.ds[k]? = some D) (h0 : D.tt = 0) : eL S n 31 (k + 1) = eL S n 31 k ∧ mL S (k + 1) = mL S k := by
  constructor
  · refine rmap_eq _ _ fun j hj => ?_
    unfold eA
    rw [any_one hD, show comes (j : Int) D = false by simp [comes, h0], Bool.or_false]
  · refine rmap_eq _ _ fun j hj => ?_
    unfold mA
    rw [any_one hD]
    congr 1
    simp only [eq_iff_iff, Bool.or_eq_true]
    constructor
    · rintro ⟨h1, h2 | h2⟩
      · exact ⟨h1, h2⟩
      · have := of_decide_eq_true h2; omega
    · rintro ⟨h1, h2⟩; exact ⟨h1, .inl h2⟩
theorem dev_yes {k : Nat} {D : Dv} (hD : S.ds[k]? = some D) (h0 : D.tt ≠ 0) : isT D.tt = true ∧ S.whr D.tt = D.fr ∧ ∃ tt en : Nat, D.tt = (tt : Int) ∧ tt < 31 ∧ D.en = (en : Int) ∧ en < n ∧ mA S k tt = 0 ∧ (mL S k).set tt 1 = mL S (k + 1) ∧ eA S 31 k en = 0 ∧ (eL S n 31 k).set en 1 = eL S n 31 (k + 1) := by
  have hm := List.mem_of_getElem? hD
  have ⟨i1, i2, i3⟩ := H.ins hm
  have ⟨t1, t2, t3⟩ := H.td D hm h0
  have hin : D.tt ∈ S.ts := (mem_att h0).2 ⟨_, i1, t1⟩
  have hr := H.rg _ hin
  have ht : isT D.tt = true := isT_iff.2 (by omega)
  have hl := H.ln
  have N2 := Mr.isN_iff.1 i2
  refine ⟨ht, whr_of H ht i1 t1, D.tt.toNat, D.en.toNat, by omega, by omega, by omega, by omega, ?_, ?_, ?_, ?_⟩
  · unfold mA
    rw [if_neg]
    rintro ⟨h1, h2⟩
    obtain ⟨E, hE, q⟩ := List.any_eq_true.1 h2
    have q := of_decide_eq_true q
    obtain ⟨i, hi⟩ := List.getElem?_of_mem hE
    rw [List.getElem?_take] at hi
    split at hi
    · rename_i hik
      exact (H.tw i k E D hi hD (by omega) (by omega) h0).1 (by omega)
    · cases hi
  · refine rmap_set _ _ 1 ?_ (fun j hj hne => ?_)
    · unfold mA
      rw [if_pos ⟨by omega, by rw [any_one hD, show takes ((D.tt.toNat : Nat) : Int) D = true from decide_eq_true (by omega), Bool.or_true]⟩]
    · unfold mA
      rw [any_one hD, show takes (j : Int) D = false from decide_eq_false (by omega), Bool.or_false]
  · unfold eA
    rw [if_neg]
    rw [show ((D.en.toNat : Nat) : Int) = D.en by omega]
    rintro (h1 | h2)
    · omega
    · obtain ⟨E, hE, q⟩ := List.any_eq_true.1 h2
      simp only [comes, Bool.and_eq_true, decide_eq_true_eq] at q
      obtain ⟨i, hi⟩ := List.getElem?_of_mem hE
      rw [List.getElem?_take] at hi
      split at hi
      · rename_i hik
        exact (H.tw i k E D hi hD (by omega) q.1 h0).2 q.2
      · cases hi
  · refine rmap_set _ _ 1 ?_ (fun j hj hne => ?_)
    · unfold eA
      rw [if_pos (.inr (by rw [any_one hD, show comes ((D.en.toNat : Nat) : Int) D = true by simp [comes, h0]; omega, Bool.or_true]))]
    · unfold eA
      rw [any_one hD, show comes (j : Int) D = false by simp [comes, h0]; omega, Bool.or_false]
theorem eA_end {j : Nat} (hj : j < n) : eA S 31 S.ds.length j = if S.tak j = true then 1 else 0 := by
  unfold eA
  rw [List.take_length]
  congr 1
  simp only [eq_iff_iff, Mr.tak, Bool.or_eq_true, decide_eq_true_eq]
  have hr : 0 ≤ S.att j ∧ S.att j ≤ 30 := H.rg _ (List.mem_of_getElem? (Mr.att_at (isN_n H hj)))
  constructor
  · rintro (h | h)
    · exact .inl (by omega)
    · exact .inr h
  · rintro (h | h)
    · exact .inl (by omega)
    · exact .inr h
end
/-- which totes were put -/
def PL (S : Mr) (pl : List Bool) : Prop := pl.length = 31 ∧ ∀ t : Nat, 1 ≤ t → t ≤ 30 → pl[t]? = some (decide (0 ≤ S.whr t))
theorem PL.nw {S : Mr} (h : ∀ x ∈ S.ts, x = 0) : PL S (List.replicate 31 false) := by
  refine ⟨by simp, fun t h1 h2 => ?_⟩
  rw [List.getElem?_replicate, if_pos (by omega), whr_mem (isT_iff.2 (by omega)), decide_eq_false (fun q => by have := h _ q; omega)]
theorem PL.no {S : Mr} {n : Nat} {es : List (Int × Int)} (H : S.Ok n es) {pl : List Bool} (h : PL S pl) (x : Nt) (hx : ¬ ((S.app x).1 = 0 ∧ x.kind = 1)) : PL (S.app x).2 pl := by
  refine ⟨h.1, fun t h1 h2 => ?_⟩
  have ht : isT (t : Int) = true := isT_iff.2 (by omega)
  rw [h.2 t h1 h2, whr_mem ht, whr_mem ht]
  congr 1
  simp only [decide_eq_decide]
  rw [app_mem H x ht]
  exact ⟨.inl, fun q => q.elim id (fun q => absurd q.2 hx)⟩
theorem PL.yes {S : Mr} {n : Nat} {es : List (Int × Int)} (H : S.Ok n es) {pl : List Bool} (h : PL S pl) (x : Nt) (h1 : (S.app x).1 = 0) (h2 : x.kind = 1) : PL (S.app x).2 (pl.set x.a.toNat true) := by
  have hA := isT_iff.1 (app_a h1 h2)
  refine ⟨by rw [List.length_set]; exact h.1, fun t t1 t2 => ?_⟩
  have ht : isT (t : Int) = true := isT_iff.2 (by omega)
  rw [whr_mem ht]
  by_cases e : x.a.toNat = t
  · rw [List.getElem?_set, if_pos e, if_pos (by rw [h.1]; omega), decide_eq_true ((app_mem H x ht).2 (.inr ⟨by omega, h1, h2⟩))]
  · rw [set_off e, h.2 t t1 t2, whr_mem ht]
    congr 1
    simp only [decide_eq_decide]
    rw [app_mem H x ht]
    exact ⟨.inl, fun q => q.elim id (fun q => absurd q.1 (by omega))⟩
end Go.Proofs.Ytlnnpdghcilioaa
