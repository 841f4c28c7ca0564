/- The devices that go from each node: in order, and all of them together are all edges. -/
import Derived.Test.YtpjolnaomdmnnaaDoorOut
namespace Go.Proofs.YtpjolnaomdmnnaaDoor
open Go.RowKit
set_option linter.unusedVariables false

theorem outs_mem (es : List Ed) (x : Int) : ∀ k (d : Int), d ∈ outs es x k → ∃ i : Nat, i < k ∧ d = ((i + 1 : Nat) : Int) ∧ ∃ e, es[i]? = some e ∧ e.1 = x
  | 0, d, h => by simp [outs] at h
  | k + 1, d, h => by
    unfold outs at h
    rcases List.mem_append.1 h with h | h
    · obtain ⟨i, h1, h2⟩ := outs_mem es x k d h
      exact ⟨i, by omega, h2⟩
    · split at h
      · next e he =>
        split at h
        · next hx =>
          simp only [List.mem_singleton] at h
          exact ⟨k, by omega, h, e, he, hx⟩
        · simp at h
      · simp at h
theorem outs_rise (es : List Ed) (x : Int) : ∀ k, (outs es x k).Pairwise (· < ·)
  | 0 => by simp [outs]
  | k + 1 => by
    unfold outs
    rw [List.pairwise_append]
    refine ⟨outs_rise es x k, ?_, fun a ha b hb => ?_⟩
    · split
      · split <;> simp
      · simp
    · obtain ⟨i, h1, h2, _⟩ := outs_mem es x k a ha
      split at hb
      · split at hb
        · simp only [List.mem_singleton] at hb
          omega
        · simp at hb
      · simp at hb
theorem outs_next {es : List Ed} {x : Int} {k q : Nat} {a b : Int} (ha : (outs es x k)[q]? = some a) (hb : (outs es x k)[q + 1]? = some b) : a < b := by
  have h := outs_rise es x k
  have hl : q + 1 < (outs es x k).length := by
    rcases Nat.lt_or_ge (q + 1) (outs es x k).length with h' | h'
    · exact h'
    · rw [List.getElem?_eq_none h'] at hb; cases hb
  rw [List.getElem?_eq_getElem (by omega)] at ha
  rw [List.getElem?_eq_getElem hl] at hb
  rw [← Option.some.inj ha, ← Option.some.inj hb]
  exact List.pairwise_iff_getElem.1 h q (q + 1) (by omega) hl (by omega)
def sumTo (f : Nat → Nat) : Nat → Nat
  | 0 => 0
  | n + 1 => sumTo f n + f n
theorem sum_one (f g : Nat → Nat) (y : Nat) (h : ∀ i, i ≠ y → f i = g i) (hy : f y = g y + 1) : ∀ n, sumTo f n = sumTo g n + (if y < n then 1 else 0)
  | 0 => by simp [sumTo]
  | n + 1 => by
    have := sum_one f g y h hy n
    unfold sumTo
    rw [this]
    by_cases e : n = y
    · subst e
      rw [hy, if_neg (by omega), if_pos (by omega)]
      omega
    · rw [h n e]
      by_cases l : y < n
      · rw [if_pos l, if_pos (by omega)]; omega
      · rw [if_neg l, if_neg (by omega)]; omega
theorem sum_zero (f : Nat → Nat) (h : ∀ i, f i = 0) : ∀ n, sumTo f n = 0
  | 0 => rfl
  | n + 1 => by unfold sumTo; rw [sum_zero f h n, h]
/-- of edges that go from nodes each is one of those of its first end -/
theorem outs_all (es : List Ed) (n : Nat) (hE : ∀ e ∈ es, 0 ≤ e.1 ∧ e.1 < (n : Int)) : ∀ k, k ≤ es.length → sumTo (fun i => (outs es (i : Int) k).length) n = k
  | 0, _ => sum_zero _ (fun i => rfl) n
  | k + 1, hk => by
    have ih := outs_all es n hE k (by omega)
    obtain ⟨e, he⟩ : ∃ e, es[k]? = some e := ⟨_, List.getElem?_eq_getElem (by omega)⟩
    have hb := hE e (List.mem_of_getElem? he)
    obtain ⟨y, hy⟩ := Int.eq_ofNat_of_zero_le hb.1
    have h1 := sum_one (fun i => (outs es (i : Int) (k + 1)).length) (fun i => (outs es (i : Int) k).length) y (fun i hi => by
      show (outs es (i : Int) k ++ _).length = _
      rw [he]
      simp only
      rw [if_neg (by omega), List.append_nil]) (by
      show (outs es (y : Int) k ++ _).length = _
      rw [he]
      simp only
      rw [if_pos hy, List.length_append]
      rfl) n
    rw [h1, ih, if_pos (by omega)]
/-- of a good layout: names are once each, edges go from nodes -/
theorem good_first {ns : List Nd} {es : List Ed} (h : good ns es = true) {k : Nat} {p : Nd} (hp : ns[k]? = some p) : (firstAt ns p.name).getD (-1) = (k : Int) := by
  unfold good goodN at h
  simp only [Bool.and_eq_true, decide_eq_true_eq] at h
  obtain ⟨⟨_, _, _, hnd⟩, _⟩ := h
  rw [first_self hp (fun hm => ?_)]
  · rfl
  · have e : ns.map (·.name) = (ns.take k).map (·.name) ++ (ns.drop k).map (·.name) := by rw [← List.map_append, List.take_append_drop]
    rw [e, List.nodup_append] at hnd
    have hk : k < ns.length := by
      rcases Nat.lt_or_ge k ns.length with h' | h'
      · exact h'
      · rw [List.getElem?_eq_none h'] at hp; cases hp
    have hmem : p.name ∈ (ns.drop k).map (·.name) := by
      refine List.mem_map.2 ⟨p, ?_, rfl⟩
      rw [← List.getElem_cons_drop hk]
      rw [List.getElem?_eq_getElem hk] at hp
      rw [Option.some.inj hp]
      exact List.mem_cons_self
    exact hnd.2.2 _ hm _ hmem rfl
theorem good_edges {ns : List Nd} {es : List Ed} (h : good ns es = true) : 1 ≤ ns.length ∧ ns.length ≤ 40 ∧ es.length ≤ 120 ∧ ∀ e ∈ es, 0 ≤ e.1 ∧ e.1 < (ns.length : Int) := by
  unfold good goodN goodE at h
  simp only [Bool.and_eq_true, decide_eq_true_eq] at h
  obtain ⟨⟨h1, h2, _, _⟩, h3, h4, _⟩ := h
  refine ⟨h1, h2, h3, fun e he => ?_⟩
  have := h4 e he
  unfold edB placeB at this
  simp only [Bool.and_eq_true, decide_eq_true_eq] at this
  exact this.1.1.1
end Go.Proofs.YtpjolnaomdmnnaaDoor
