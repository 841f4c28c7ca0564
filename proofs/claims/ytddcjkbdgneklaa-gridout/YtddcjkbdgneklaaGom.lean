/- Racks with room to spare, as plain data. -/
import Derived.Test.YtddcjkbdgneklaaGpn
namespace Go.Proofs.Ytddcjkbdgneklaa
open Go.RowKit
set_option linter.unusedVariables false

/-- the totes that stand in a rack of lanes of one depth D: T slots, at most M totes -/
structure GI (T M D : Nat) (ins : List Int) (R : Rack) : Prop where
  on : ∀ y, y ∈ ins ↔ On R y
  nd : ins.Nodup
  rm : rm R + ins.length = T
  le : ins.length ≤ M
  dep : ∀ (i : Nat) (l : Nat × List Int), R[i]? = some l → l.1 = D
theorem gi_mk {N D M : Nat} : GI (N * D) M D [] (mk (List.replicate N (D : Int))) := by
  have e : mk (List.replicate N (D : Int)) = List.replicate N (D, []) := by unfold mk; rw [List.map_replicate]; simp
  have hx : ∀ (i : Nat) (l : Nat × List Int), (List.replicate N ((D, []) : Nat × List Int))[i]? = some l → l = (D, []) := fun i l hl => List.eq_of_mem_replicate (List.mem_of_getElem? hl)
  rw [e]
  refine ⟨fun y => ⟨fun h => (by cases h), fun ⟨i, l, hl, hy⟩ => ?_⟩, List.nodup_nil, ?_, Nat.zero_le _, fun i l hl => by rw [hx i l hl]⟩
  · rw [hx i l hl] at hy; cases hy
  · unfold Go.Proofs.Ytddcjkbdgneklaa.rm; rw [List.map_replicate, List.sum_replicate_nat]; simp
theorem GI.put {T M D : Nat} {ins : List Int} {R : Rack} (h : GI T M D ins R) (t : Int) : (putC R t ≠ 0 ∧ putR R t = R) ∨ (putC R t = 0 ∧ (ins.length < M → GI T M D (ins ++ [t]) (putR R t))) := by
  rcases put_form R t with ⟨h1, h2, _⟩ | ⟨h1, k, l, _, hl, hlt, e, ht, hn, _⟩
  · exact .inl ⟨h1, h2⟩
  · refine .inr ⟨h1, fun hM => ⟨fun y => ?_, ?_, ?_, by simp; omega, fun i q hq => ?_⟩⟩
    · rw [e, on_add hl, List.mem_append, h.on]; simp
    · rw [List.nodup_append]
      exact ⟨h.nd, by simp, fun a ha b hb e9 => by simp at hb; rw [hb] at e9; rw [e9] at ha; obtain ⟨i, m, hm, hy⟩ := (h.on _).1 ha; exact hn i m hm hy⟩
    · have := rm_set (l.1, l.2 ++ [t]) hl
      have h2 := h.rm
      rw [e]
      simp at this ⊢
      omega
    · rw [e] at hq
      by_cases g : k = i
      · subst g
        rw [set_at hl] at hq
        cases hq
        exact h.dep k l hl
      · rw [set_off g] at hq; exact h.dep i q hq
theorem GI.plan {T M D : Nat} {ins : List Int} {R : Rack} (h : GI T M D ins R) (hT : T = M + D) (hw : Wf R) (hf : Fit R) {x : Int} (hx : x ∈ ins) : ∃ i : Nat, whr R x = (i : Int) ∧ planC R x = 0 ∧ (planM R x).length ≤ D := by
  rcases whr_form R x with ⟨_, hno⟩ | ⟨i, l, hwh, hil, hl, hm, _⟩
  · obtain ⟨j, q, hq, hy⟩ := (h.on x).1 hx
    exact absurd hy (hno j q hq)
  obtain ⟨p, hp, hpl, _⟩ := loc_in hm
  have hd := h.dep i l hl
  have hle := hf i l hl
  have hr := els_room (lds_at hl)
  rw [s2_lds] at hr
  simp only at hr
  have h1 := h.rm
  have h2 := h.le
  have ha : (ahd l.2 p).length = l.2.length - 1 - p := by simp [ahd]; omega
  rcases plan_len hwh hl hp with ⟨g1, g2, _⟩ | ⟨_, g2⟩
  · exact ⟨i, hwh, g1, by rw [g2]; omega⟩
  · exfalso; omega
theorem GI.out {T M D : Nat} {ins : List Int} {R R' : Rack} (h : GI T M D ins R) {x : Int} {j i : Nat} (hx : ins[j]? = some x) (hp : Pst R x i R' []) : GI T M D (ins.take j ++ ins.drop (j + 1)) R' := by
  obtain ⟨⟨hf, hd⟩, ⟨h0, _⟩ | ⟨_, hon, hrm⟩⟩ := hp
  · exact absurd rfl h0
  have hj := idx_lt hx
  have hsp : ins = ins.take j ++ x :: ins.drop (j + 1) := by
    rw [List.getElem?_eq_getElem hj] at hx
    rw [← Option.some.inj hx, ← List.drop_eq_getElem_cons hj, List.take_append_drop]
  have hnd := h.nd
  rw [hsp] at hnd
  rw [List.nodup_append] at hnd
  obtain ⟨n1, n2, n3⟩ := hnd
  rw [List.nodup_cons] at n2
  have hlen : (ins.take j ++ ins.drop (j + 1)).length + 1 = ins.length := by simp; omega
  have h1 := h.rm
  have h2 := h.le
  refine ⟨fun y => ?_, ?_, by omega, by omega, fun q l hl => ?_⟩
  · rw [hon, ← h.on]
    constructor
    · intro hy
      rcases List.mem_append.1 hy with hy | hy
      · exact ⟨by rw [hsp]; exact List.mem_append.2 (.inl hy), fun e => n3 y hy x (by simp) e⟩
      · exact ⟨by rw [hsp]; exact List.mem_append.2 (.inr (List.mem_cons_of_mem _ hy)), fun e => n2.1 (by rw [← e]; exact hy)⟩
    · rintro ⟨hy, hne⟩
      rw [hsp] at hy
      rcases List.mem_append.1 hy with hy | hy
      · exact List.mem_append.2 (.inl hy)
      · rcases List.mem_cons.1 hy with hy | hy
        · exact absurd hy hne
        · exact List.mem_append.2 (.inr hy)
  · rw [List.nodup_append]
    exact ⟨n1, n2.2, fun a ha b hb => n3 a ha b (List.mem_cons_of_mem _ hb)⟩
  · have h3 : (R'.map (·.1))[q]? = some l.1 := by rw [List.getElem?_map, hl]; rfl
    rw [hd, List.getElem?_map] at h3
    cases hq : R[q]? with
    | none => rw [hq] at h3; cases h3
    | some l' => rw [hq] at h3; simp at h3; rw [← h3]; exact h.dep q l' hq
end Go.Proofs.Ytddcjkbdgneklaa
