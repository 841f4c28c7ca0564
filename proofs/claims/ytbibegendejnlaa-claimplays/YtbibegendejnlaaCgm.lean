/- Grants reckoned; a claim that comes to a table where none may be granted. -/
import Derived.Test.YtbibegendejnlaaCmt
namespace Go.Proofs.Ytbibegendejnlaa
set_option linter.unusedVariables false

def first (T : Tb) : Option Nat := (List.range T.q.length).find? (fun i => mayB T i)
def grF : Nat → Tb → Tb × List Int
  | 0, T => (T, [])
  | k + 1, T => match first T with
    | none => (T, [])
    | some i => match T.q[i]? with
      | none => (T, [])
      | some c => ((grF k (grant T i c)).1, c.tote :: (grF k (grant T i c)).2)
theorem first_none {T : Tb} (h : first T = none) : Set' T := fun i => by
  rcases Nat.lt_or_ge i T.q.length with g | g
  · have := List.find?_eq_none.1 h i (List.mem_range.2 g)
    simpa using this
  · exact mayB_out g
theorem first_some {T : Tb} {i : Nat} (h : first T = some i) : mayB T i = true ∧ ∀ j, j < i → mayB T j = false := by
  have h1 := List.find?_some h
  refine ⟨by simpa using h1, fun j hj => ?_⟩
  unfold first at h
  rw [List.find?_range_eq_some] at h
  have := h.2.2 j hj
  simpa using this
theorem grF_gr : ∀ (k : Nat) (T : Tb), T.q.length ≤ k → Gr T (grF k T).1 (grF k T).2
  | 0, T, h => .done T (fun i => mayB_out (by omega))
  | k + 1, T, h => by
    unfold grF
    cases hf : first T with
    | none => exact .done T (first_none hf)
    | some i =>
      obtain ⟨h1, h2⟩ := first_some hf
      obtain ⟨c, hc, hlt⟩ := getq h1
      simp only [hc]
      exact .step T i c _ _ hc h1 h2 (grF_gr k (grant T i c) (by have := len_grant (T := T) (c := c) hlt; omega))
theorem gr_is {T T' : Tb} {l : List Int} (h : Gr T T' l) (k : Nat) (hk : T.q.length ≤ k) {r : Tb × List Int} (hr : grF k T = r) : T' = r.1 ∧ l = r.2 := by
  subst hr
  exact h.uniq (grF_gr k T hk)

/-- as long as what is held by others stays so, none may be granted -/
theorem set_mono {T : Tb} {h' : List Int} (hs : Set' T) (hh : ∀ c ∈ T.q, ∀ n, heldB T.hold c.tote n = true → heldB h' c.tote n = true) : Set' ⟨h', T.q⟩ := fun i => by
  rcases Nat.lt_or_ge i T.q.length with g | g
  · have hc : T.q[i]? = some T.q[i] := List.getElem?_eq_getElem g
    have h1 := hs i
    rw [mayB_at hc] at h1
    rw [mayB_at (T := ⟨h', T.q⟩) hc]
    unfold mayC at h1 ⊢
    rw [List.all_eq_false] at h1 ⊢
    obtain ⟨n, hn, hb⟩ := h1
    refine ⟨n, hn, ?_⟩
    have hb' : barB T.hold (T.q.take i) T.q[i].tote n = true := by simpa using hb
    unfold barB at hb'
    have : barB h' (T.q.take i) T.q[i].tote n = true := by
      unfold barB
      rw [Bool.or_eq_true] at hb' ⊢
      rcases hb' with h2 | h2
      · exact .inl (hh _ (List.getElem_mem g) n h2)
      · exact .inr h2
    simp [this]
  · exact mayB_out g
/-- who may be granted finds its nodes free, or its own -/
theorem may_free {h : List Int} {pre : List Cl} {c : Cl} (hm : mayC h pre c = true) {n : Int} (hn : n ∈ c.nodes) : hat h n = 0 ∨ hat h n = c.tote := by
  unfold mayC at hm
  have := List.all_eq_true.1 hm n hn
  have h1 : barB h pre c.tote n = false := by simpa using this
  unfold barB at h1
  rw [Bool.or_eq_false_iff] at h1
  have h2 := of_decide_eq_false h1.1
  by_cases e : hat h n = 0
  · exact .inl e
  · refine .inr ?_
    by_cases e' : hat h n = c.tote
    · exact e'
    · exact absurd ⟨e, e'⟩ h2
theorem heldB_true {h : List Int} {t n : Int} : heldB h t n = true ↔ hat h n ≠ 0 ∧ hat h n ≠ t := by unfold heldB; exact decide_eq_true_iff
/-- what others hold they hold behind a grant, too -/
theorem held_grant {h : List Int} {pre : List Cl} {c : Cl} (hm : mayC h pre c = true) (hr : inT h.length c.nodes) (ht : c.tote ≠ 0) {t n : Int} (hne : t ≠ c.tote) (hh : heldB h t n = true) : heldB (setL h c.tote c.nodes) t n = true := by
  rw [heldB_true] at hh ⊢
  rw [hat_setL _ _ _ hr]
  by_cases hn : n ∈ c.nodes
  · rw [if_pos hn]; exact ⟨ht, fun e => hne e.symm⟩
  · rw [if_neg hn]; exact hh

theorem mayB_app (h : List Int) (q : List Cl) (c : Cl) (i : Nat) (hi : i < q.length) : mayB ⟨h, q ++ [c]⟩ i = mayB ⟨h, q⟩ i := by
  have hc : q[i]? = some q[i] := List.getElem?_eq_getElem hi
  rw [mayB_at (T := ⟨h, q ++ [c]⟩) (c := q[i]) (by show (q ++ [c])[i]? = _; rw [List.getElem?_append_left hi, hc]), mayB_at (T := ⟨h, q⟩) hc]
  show mayC h ((q ++ [c]).take i) _ = mayC h (q.take i) _
  rw [List.take_append_of_le_length (by omega)]
theorem mayB_last (h : List Int) (q : List Cl) (c : Cl) : mayB ⟨h, q ++ [c]⟩ q.length = mayC h q c := by
  rw [mayB_at (T := ⟨h, q ++ [c]⟩) (c := c) (by show (q ++ [c])[q.length]? = _; simp)]
  show mayC h ((q ++ [c]).take q.length) _ = _
  rw [List.take_left']; rfl
/-- a claim behind all: it is granted at once, or waits; nobody else is -/
theorem gr_add {T : Tb} {c : Cl} (hs : Set' T) (hw : Wf ⟨T.hold, T.q ++ [c]⟩) {T' : Tb} {l : List Int} (hG : Gr ⟨T.hold, T.q ++ [c]⟩ T' l) :
    (mayC T.hold T.q c = true ∧ l = [c.tote] ∧ T' = ⟨setL T.hold c.tote c.nodes, T.q⟩) ∨ (mayC T.hold T.q c = false ∧ l = [] ∧ T' = ⟨T.hold, T.q ++ [c]⟩) := by
  have hno : ∀ j, j < T.q.length → mayB ⟨T.hold, T.q ++ [c]⟩ j = false := fun j hj => by rw [mayB_app _ _ _ _ hj]; exact hs j
  have hcm : c ∈ T.q ++ [c] := by simp
  cases hm : mayC T.hold T.q c with
  | false =>
    refine .inr ⟨rfl, ?_⟩
    have : Gr ⟨T.hold, T.q ++ [c]⟩ ⟨T.hold, T.q ++ [c]⟩ [] := .done _ (fun i => by
      rcases Nat.lt_trichotomy i T.q.length with g | g | g
      · exact hno i g
      · rw [g, mayB_last]; exact hm
      · exact mayB_out (by show (T.q ++ [c]).length ≤ i; simp; omega))
    obtain ⟨e1, e2⟩ := hG.uniq this
    exact ⟨e2, e1⟩
  | true =>
    refine .inl ⟨rfl, ?_⟩
    have hg : grant ⟨T.hold, T.q ++ [c]⟩ T.q.length c = ⟨setL T.hold c.tote c.nodes, T.q⟩ := by
      unfold grant
      congr 1
      simp
    have hset : Set' ⟨setL T.hold c.tote c.nodes, T.q⟩ := by
      refine set_mono hs fun d hd n hh => held_grant hm (hw.nodes c hcm).1 (by have := (hw.tote c hcm).1; omega) (fun e => ?_) hh
      have h1 := hw.once
      rw [List.map_append, List.nodup_append] at h1
      exact h1.2.2 d.tote (List.mem_map.2 ⟨d, hd, rfl⟩) c.tote (by simp) e
    have : Gr ⟨T.hold, T.q ++ [c]⟩ ⟨setL T.hold c.tote c.nodes, T.q⟩ [c.tote] := .step _ T.q.length c _ _ (by show (T.q ++ [c])[T.q.length]? = _; simp) (by rw [mayB_last]; exact hm) hno (by rw [hg]; exact .done _ hset)
    obtain ⟨e1, e2⟩ := hG.uniq this
    exact ⟨e2, e1⟩
end Go.Proofs.Ytbibegendejnlaa
