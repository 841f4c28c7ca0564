/- What Split makes of streams: fewer than twelve bytes are left, every byte is counted; a stream without the mark has no telegram; telegrams one behind the other are found; a stream cut in two. -/
import Derived.Test.YtapbjfllcjfpaaaSplit
namespace Go.Proofs.Ytapbjfllcjfpaaa
open Go.ChangeShapes Go.WideShapes Go.ChangeAt Go.RowKit

theorem spl_ind (P : List Int → Prop) (h : ∀ l, (∀ m, m.length < l.length → P m) → P l) (l : List Int) : P l := by
  generalize hn : l.length = n
  induction n using Nat.strongRecOn generalizing l with
  | ind n ih => exact h l (fun m hm => ih m.length (by omega) m rfl)

theorem spl_left_len (l : List Int) : (spl l).2.1.length < 12 := by
  refine spl_ind (fun l => (spl l).2.1.length < 12) (fun l ih => ?_) l
  by_cases h : 12 ≤ l.length
  · by_cases h0 : dcode (l.take 12) = 0
    · rw [spl_hit h h0]
      exact ih (l.drop 12) (by simp; omega)
    · rw [spl_miss h h0]
      exact ih (l.drop 1) (by simp; omega)
  · rw [spl_short (by omega)]
    show l.length < 12
    omega

theorem spl_count (l : List Int) : 12 * (spl l).1.length + (spl l).2.1.length + (spl l).2.2 = l.length := by
  refine spl_ind (fun l => 12 * (spl l).1.length + (spl l).2.1.length + (spl l).2.2 = l.length) (fun l ih => ?_) l
  by_cases h : 12 ≤ l.length
  · by_cases h0 : dcode (l.take 12) = 0
    · rw [spl_hit h h0]
      have := ih (l.drop 12) (by simp; omega)
      simp only [List.length_cons, List.length_drop] at this ⊢
      omega
    · rw [spl_miss h h0]
      have := ih (l.drop 1) (by simp; omega)
      simp only [List.length_drop] at this ⊢
      omega
  · rw [spl_short (by omega)]
    simp


/-- a telegram at the head is found -/
theorem spl_enc (t : Tl) (h : chk t = 0) (l : List Int) : spl (enc t ++ l) = (t :: (spl l).1, (spl l).2.1, (spl l).2.2) := by
  have e1 : (enc t ++ l).take 12 = enc t := by rw [List.take_append_of_le_length (by rw [enc_len]; omega)]; rfl
  have e2 : (enc t ++ l).drop 12 = l := by rw [List.drop_append_of_le_length (by rw [enc_len]; omega)]; rfl
  rw [spl_hit (by simp; rw [enc_len]; omega) (by rw [e1, dcode_enc, h]), e1, e2, dtele_enc t h]


/-- telegrams one behind the other are split into just these -/
theorem spl_encs (ts : List Tl) (h : ∀ t ∈ ts, chk t = 0) : spl (ts.flatMap enc) = (ts, [], 0) := by
  induction ts with
  | nil => exact spl_short (by simp)
  | cons t ts ih =>
    rw [List.flatMap_cons, spl_enc t (h t (by simp)), ih (fun u hu => h u (by simp [hu]))]


/-- a byte that isn't the mark is gone by -/
theorem spl_off {z : Int} (hz : z ≠ 165) (l : List Int) (h : 11 ≤ l.length) : spl (z :: l) = ((spl l).1, (spl l).2.1, (spl l).2.2 + 1) := by
  have h0 : dcode ((z :: l).take 12) ≠ 0 := by
    intro h
    have := (dcode_zero h).2.1
    simp at this
    exact hz this
  rw [spl_miss (by simp; omega) h0]
  rfl

theorem spl_none (l : List Int) (h : ∀ z ∈ l, z ≠ 165) : (spl l).1 = [] := by
  refine spl_ind (fun l => (∀ z ∈ l, z ≠ 165) → (spl l).1 = []) (fun l ih hl => ?_) l h
  by_cases h12 : 12 ≤ l.length
  · cases l with
    | nil => simp at h12
    | cons z l =>
      rw [spl_off (hl z (by simp)) l (by simp at h12; omega)]
      exact ih l (by simp) (fun y hy => hl y (by simp [hy]))
  · rw [spl_short (by omega)]


/-- noise, a telegram, noise: just that one is found -/
theorem spl_between (p q : List Int) (t : Tl) (hc : chk t = 0) (hp : ∀ z ∈ p, z ≠ 165) (hq : ∀ z ∈ q, z ≠ 165) : (spl (p ++ enc t ++ q)).1 = [t] := by
  induction p with
  | nil =>
    rw [List.nil_append, spl_enc t hc, spl_none q hq]
  | cons z p ih =>
    rw [List.cons_append, List.cons_append, spl_off (hp z (by simp)) _ (by simp; rw [enc_len]; omega)]
    exact ih (fun y hy => hp y (by simp [hy]))


/-- a stream cut in two: the second piece behind what the first one left -/
theorem spl_cut (l m : List Int) : spl (l ++ m) = ((spl l).1 ++ (spl ((spl l).2.1 ++ m)).1, (spl ((spl l).2.1 ++ m)).2.1, (spl l).2.2 + (spl ((spl l).2.1 ++ m)).2.2) := by
  refine spl_ind (fun l => spl (l ++ m) = ((spl l).1 ++ (spl ((spl l).2.1 ++ m)).1, (spl ((spl l).2.1 ++ m)).2.1, (spl l).2.2 + (spl ((spl l).2.1 ++ m)).2.2)) (fun l ih => ?_) l
  by_cases h : 12 ≤ l.length
  · have e1 : (l ++ m).take 12 = l.take 12 := List.take_append_of_le_length h
    have e2 : (l ++ m).drop 12 = l.drop 12 ++ m := List.drop_append_of_le_length h
    have e3 : (l ++ m).drop 1 = l.drop 1 ++ m := List.drop_append_of_le_length (by omega)
    by_cases h0 : dcode (l.take 12) = 0
    · rw [spl_hit (l := l ++ m) (by simp; omega) (by rw [e1]; exact h0), e1, e2, ih (l.drop 12) (by simp; omega), spl_hit h h0]
      simp
    · rw [spl_miss (l := l ++ m) (by simp; omega) (by rw [e1]; exact h0), e3, ih (l.drop 1) (by simp; omega), spl_miss h h0]
      simp
      omega
  · rw [spl_short (l := l) (by omega)]
    simp

end Go.Proofs.Ytapbjfllcjfpaaa
