/- Lengths of shortest ways: what follows of them. -/
import Derived.Test.YtmmkfcmbmecleaaFro
namespace Go.Proofs.Ytmmkfcmbmecleaa
open Go
set_option linter.unusedVariables false
theorem eg_back (es : List Ed) (cl : List Bool) : Eg es cl 1 = fun u v => Eg es cl 0 v u := rfl
theorem far_self {E : Nat → Nat → Prop} {T : Nat → Prop} {s n : Nat} {l : List Int} (h : Far E T s n l) (hs : s < n) : va l s = 0 := by
  rcases h.2 s hs with ⟨_, h1⟩ | ⟨k, h1, _, h3⟩
  · exact absurd .here (h1 0)
  · have := h3 0 .here
    omega
theorem far_step {E : Nat → Nat → Prop} {T : Nat → Prop} {s n u v : Nat} {l : List Int} (h : Far E T s n l) (hu : u < n) (hv : v < n) (hE : E u v) (hT : u = s ∨ T u) (h0 : 0 ≤ va l u) : 0 ≤ va l v ∧ va l v ≤ va l u + 1 := by
  rcases h.2 u hu with ⟨h1, _⟩ | ⟨k, h1, h2, _⟩
  · omega
  · have hw := Way.step h2 hT hE
    rcases h.2 v hv with ⟨_, g1⟩ | ⟨j, g1, _, g3⟩
    · exact absurd hw (g1 _)
    · have := g3 _ hw
      omega
theorem far_low {E : Nat → Nat → Prop} {T : Nat → Prop} {s n : Nat} {l : List Int} (h : Far E T s n l) (v : Nat) : -1 ≤ va l v := by
  rcases Nat.lt_or_ge v n with hv | hv
  · rcases h.2 v hv with ⟨h1, _⟩ | ⟨k, h1, _⟩ <;> omega
  · rw [va_out l v (by rw [h.1]; exact hv)]; omega
theorem way_short {E : Nat → Nat → Prop} {T : Nat → Prop} {s n : Nat} (hb : ∀ u v, E u v → v < n) (hs : s < n) {l : List Int} (h : Far E T s n l) : ∀ k : Nat, ∀ v, v < n → va l v = k → ∀ j : Nat, j ≤ k → ∃ u, u < n ∧ va l u = j := by
  intro k
  induction k with
  | zero =>
    intro v hv h0 j hj
    obtain rfl : j = 0 := by omega
    exact ⟨v, hv, h0⟩
  | succ k ih =>
    intro v hv h0 j hj
    rcases Nat.lt_or_ge j (k + 1) with h' | h'
    · rcases h.2 v hv with ⟨g1, _⟩ | ⟨q, g1, g2, g3⟩
      · omega
      · obtain rfl : q = k + 1 := by omega
        cases g2 with
        | @step _ u _ w1 w2 w3 =>
          have hu : u < n := by
            cases w1 with
            | here => exact hs
            | step _ _ e => exact hb _ _ e
          refine ih u hu ?_ j (by omega)
          rcases h.2 u hu with ⟨_, f1⟩ | ⟨r, f1, f2, f3⟩
          · exact absurd w1 (f1 _)
          · have a1 := f3 _ w1
            have a2 := g3 _ (.step f2 w2 w3)
            omega
    · obtain rfl : j = k + 1 := by omega
      exact ⟨v, hv, h0⟩
theorem far_high {E : Nat → Nat → Prop} {T : Nat → Prop} {s n : Nat} (hb : ∀ u v, E u v → v < n) (hs : s < n) {l : List Int} (h : Far E T s n l) (v : Nat) : va l v < n := by
  rcases Nat.lt_or_ge v n with hv | hv
  · rcases h.2 v hv with ⟨h1, _⟩ | ⟨k, h1, _⟩
    · omega
    · have key : ∀ j : Nat, j ≤ k → ∃ q : List Nat, q.length = j + 1 ∧ q.Nodup ∧ ∀ u ∈ q, u < n ∧ va l u ≤ j := by
        intro j
        induction j with
        | zero =>
          intro _
          obtain ⟨u, hu, h0⟩ := way_short hb hs h k v hv h1 0 (by omega)
          exact ⟨[u], rfl, by simp, fun x hx => by simp at hx; subst hx; exact ⟨hu, by omega⟩⟩
        | succ j ih =>
          intro hj
          obtain ⟨q, q1, q2, q3⟩ := ih (by omega)
          obtain ⟨u, hu, h0⟩ := way_short hb hs h k v hv h1 (j + 1) hj
          refine ⟨u :: q, by simp [q1], List.nodup_cons.2 ⟨fun hm => ?_, q2⟩, fun x hx => ?_⟩
          · have := (q3 u hm).2
            omega
          · rcases List.mem_cons.1 hx with rfl | hx
            · exact ⟨hu, by omega⟩
            · have := q3 x hx
              exact ⟨this.1, by omega⟩
      obtain ⟨q, q1, q2, q3⟩ := key k (Nat.le_refl _)
      have := nodup_len n q q2 (fun u hu => (q3 u hu).1)
      omega
  · rw [va_out l v (by rw [h.1]; exact hv)]; omega
theorem eg_lt {es : List Ed} {cl : List Bool} {n u v : Nat} (hE : inB n es) (h : Eg es cl 0 u v) : v < n := by
  obtain ⟨i, _, h2⟩ := h
  have := hE _ (List.mem_of_getElem? h2)
  simp only [if_pos] at this
  omega
theorem far_both {es : List Ed} {cl : List Bool} {T : Nat → Prop} {a b n : Nat} {l l' : List Int} (h : Far (Eg es cl 0) T a n l) (h' : Far (Eg es cl 1) T b n l') (ha : a < n) (hb : b < n) : va l' a = va l b := by
  have h1 := (h.2 b hb).back
  have h2 := h'.2 a ha
  rw [eg_back] at h2
  exact h2.uniq h1

theorem Dst.le {E : Nat → Nat → Prop} {T : Nat → Prop} {s v k : Nat} {d : Int} (h : Dst E T s v d) (hw : Way E T s k v) : 0 ≤ d ∧ d ≤ k := by
  rcases h with ⟨_, h1⟩ | ⟨j, rfl, _, h3⟩
  · exact absurd hw (h1 _)
  · have := h3 _ hw
    omega
theorem Dst.way {E : Nat → Nat → Prop} {T : Nat → Prop} {s v : Nat} {d : Int} (h : Dst E T s v d) (h0 : 0 ≤ d) : ∃ k : Nat, d = k ∧ Way E T s k v := by
  rcases h with ⟨h1, _⟩ | ⟨j, h1, h2, _⟩
  · omega
  · exact ⟨j, h1, h2⟩
theorem Way.cat {E : Nat → Nat → Prop} {T : Nat → Prop} {a b c i j : Nat} (h : Way E T a i b) (hT : T b) (h' : Way E T b j c) : Way E T a (i + j) c := by
  induction h' with
  | here => exact h
  | @step k u v _ h2 h3 ih =>
    exact .step ih (.inr (h2.elim (fun e => by rw [e]; exact hT) id)) h3

end Go.Proofs.Ytmmkfcmbmecleaa
