/- What a plant goes on saying: a telegram heard again; devices out of order; the last moves. Knows no program. -/
import Derived.Test.YthcdfclhenmleaaPmt
namespace Go.Proofs.Ythcdfclhenmleaa
set_option linter.unusedVariables false

/-- what a telegram does: nothing, or the one move -/
theorem hear_cases (S : Pl) (t : Tl) : (S.hear t).2 = S ∨ (S.wrk t.d = true ∧ t.k = 1 ∧ Pl.jst (S.dev t.d) t = false ∧ Pl.lte (S.dev t.d) t = false ∧ S.whr t.a = (S.dev t.d).fr ∧ S.att (S.dev t.d).en = 0 ∧ S.hear t = ((dn t, true), S.go t)) := by
  by_cases h1 : S.wrk t.d = false
  · left; unfold Pl.hear; rw [if_pos h1]
  by_cases h2 : t.k = 1
  · by_cases h3 : Pl.jst (S.dev t.d) t = true
    · left; unfold Pl.hear Pl.mov; rw [if_neg h1, if_pos h2, if_pos h3]
    by_cases h4 : Pl.lte (S.dev t.d) t = true
    · left; unfold Pl.hear Pl.mov; rw [if_neg h1, if_pos h2, if_neg h3, if_pos h4]
    by_cases h5 : S.whr t.a ≠ (S.dev t.d).fr
    · left; unfold Pl.hear Pl.mov; rw [if_neg h1, if_pos h2, if_neg h3, if_neg h4, if_pos h5]
    by_cases h6 : S.att (S.dev t.d).en ≠ 0
    · left; unfold Pl.hear Pl.mov; rw [if_neg h1, if_pos h2, if_neg h3, if_neg h4, if_neg h5, if_pos h6]
    right
    refine ⟨by simpa using h1, h2, by simpa using h3, by simpa using h4, by simpa using h5, by simpa using h6, ?_⟩
    unfold Pl.hear Pl.mov; rw [if_neg h1, if_pos h2, if_neg h3, if_neg h4, if_neg h5, if_neg h6]
  · by_cases h3 : t.k = 6
    · left; unfold Pl.hear; rw [if_neg h1, if_neg h2, if_pos h3]
    · left; unfold Pl.hear; rw [if_neg h1, if_neg h2, if_neg h3]
theorem go_isD {S : Pl} {t : Tl} {d : Int} : (S.go t).isD d = S.isD d := by unfold Pl.isD Pl.go; simp only [List.length_set]
theorem go_dev {S : Pl} {t : Tl} {d : Int} (hd : S.isD t.d = true) (hd' : S.isD d = true) : (S.go t).dev d = if d = t.d then { S.dev t.d with sq := t.s, tt := t.a } else S.dev d := by
  have h1 := Pl.isD_iff.1 hd
  have h2 := Pl.isD_iff.1 hd'
  by_cases e : d = t.d
  · subst e
    rw [if_pos rfl]
    unfold Pl.dev Pl.go
    simp only
    rw [set_at (Pl.dev_at hd).1]; rfl
  · rw [if_neg e]
    unfold Pl.dev Pl.go
    simp only
    rw [set_off (by omega)]
theorem setD_isD {S : Pl} {d d' : Int} {D : Dv} : (S.setD d D).isD d' = S.isD d' := by unfold Pl.isD Pl.setD; simp only [List.length_set]
theorem setD_dev {S : Pl} {d d' : Int} {D : Dv} (hd : S.isD d = true) (hd' : S.isD d' = true) : (S.setD d D).dev d' = if d' = d then D else S.dev d' := by
  have h1 := Pl.isD_iff.1 hd
  have h2 := Pl.isD_iff.1 hd'
  by_cases e : d' = d
  · subst e
    rw [if_pos rfl]
    unfold Pl.dev Pl.setD
    simp only
    rw [set_at (Pl.dev_at hd).1]; rfl
  · rw [if_neg e]
    unfold Pl.dev Pl.setD
    simp only
    rw [set_off (by omega)]
theorem put_dev (S : Pl) (t n d : Int) : (S.put t n).2.dev d = S.dev d ∧ (S.put t n).2.isD d = S.isD d ∧ (S.put t n).2.mv = S.mv := by
  unfold Pl.put
  split
  · exact ⟨rfl, rfl, rfl⟩
  split
  · exact ⟨rfl, rfl, rfl⟩
  split
  · exact ⟨rfl, rfl, rfl⟩
  · exact ⟨rfl, rfl, rfl⟩
theorem brk_mv (S : Pl) (d k : Int) (b : Bool) : (S.brk d k b).2.mv = S.mv := by
  unfold Pl.brk
  split <;> rfl
theorem hear_mv (S : Pl) (t : Tl) : (S.hear t).2.mv ≤ S.mv + 1 ∧ S.mv ≤ (S.hear t).2.mv := by
  rcases hear_cases S t with h | ⟨_, _, _, _, _, _, h⟩
  · rw [h]; omega
  · rw [h]; show S.mv + 1 ≤ S.mv + 1 ∧ S.mv ≤ S.mv + 1; omega
theorem hear_isD (S : Pl) (t : Tl) (d : Int) : (S.hear t).2.isD d = S.isD d := by
  rcases hear_cases S t with h | ⟨_, _, _, _, _, _, h⟩
  · rw [h]
  · rw [h]; exact go_isD
section
variable {S : Pl} {n : Nat} {es : List (Int × Int)} (H : S.Ok n es)
include H
theorem whr_in {t d : Int} (hd : S.isD d = true) (h : S.whr t = (S.dev d).fr) : isT t = true := by
  have := Pl.isN_iff.1 (H.ins (Pl.dev_at hd).2).1
  unfold Pl.whr at h
  cases q : isT t with
  | true => rfl
  | false => rw [q] at h; simp at h; omega
/-- a telegram that is heard again is answered alike and changes nothing -/
theorem hear_again (t : Tl) : (S.hear t).2.hear t = S.hear t := by
  rcases hear_cases S t with h | ⟨h1, h2, _, _, h5, _, h⟩
  · rw [h]
  · rw [h]
    have hd := Pl.wrk_isD h1
    have hT := isT_iff.1 (whr_in H hd h5)
    have e1 := go_dev (t := t) hd hd
    rw [if_pos rfl] at e1
    have e2 : (S.go t).wrk t.d = true := by unfold Pl.wrk at h1 ⊢; rw [go_isD, e1]; exact h1
    show (S.go t).hear t = _
    unfold Pl.hear Pl.mov
    rw [if_neg (by rw [e2]; simp), if_pos h2, e1, if_pos]
    unfold Pl.jst
    simp; omega
end
/-- whether a device works isn't changed by a telegram -/
theorem hear_wrk (S : Pl) (t : Tl) (d : Int) : (S.hear t).2.wrk d = S.wrk d := by
  rcases hear_cases S t with h | ⟨h1, _, _, _, _, _, h⟩
  · rw [h]
  · rw [h]
    unfold Pl.wrk
    cases q : S.isD d with
    | false => rw [show (S.go t).isD d = S.isD d from go_isD, q]; rfl
    | true =>
      rw [show (S.go t).isD d = S.isD d from go_isD, q]
      show (true && !((S.go t).dev d).bk) = _
      rw [go_dev (Pl.wrk_isD h1) q]
      split
      · rename_i e; rw [e]
      · rfl
/-- what is answered is for who asked; who is out of order answers nothing -/
theorem hear_says (S : Pl) (t : Tl) (h : (S.hear t).1.2 = true) : S.wrk t.d = true ∧ (S.hear t).1.1.d = t.d ∧ (S.hear t).1.1.s = t.s := by
  by_cases h1 : S.wrk t.d = false
  · unfold Pl.hear at h; rw [if_pos h1] at h; cases h
  refine ⟨by simpa using h1, ?_⟩
  by_cases h2 : t.k = 1
  · unfold Pl.hear Pl.mov at h ⊢
    rw [if_neg h1, if_pos h2] at h ⊢
    by_cases h3 : Pl.jst (S.dev t.d) t = true
    · rw [if_pos h3]; exact ⟨rfl, rfl⟩
    rw [if_neg h3] at h ⊢
    by_cases h4 : Pl.lte (S.dev t.d) t = true
    · rw [if_pos h4] at h; cases h
    rw [if_neg h4]
    split
    · exact ⟨rfl, rfl⟩
    split
    · exact ⟨rfl, rfl⟩
    · exact ⟨rfl, rfl⟩
  · by_cases h3 : t.k = 6
    · unfold Pl.hear; rw [if_neg h1, if_neg h2, if_pos h3]; exact ⟨rfl, rfl⟩
    · unfold Pl.hear at h; rw [if_neg h1, if_neg h2, if_neg h3] at h; cases h

/-- a device that is out of order and never did a move -/
def Bkn (S : Pl) (d : Int) : Prop := S.isD d = true ∧ (S.dev d).bk = true ∧ (S.dev d).sq = 0 ∧ (S.dev d).tt = 0
theorem Bkn.off {S : Pl} {d : Int} (h : Bkn S d) : S.wrk d = false := by unfold Pl.wrk; rw [h.1, h.2.1]; rfl
theorem Bkn.put {S : Pl} {d : Int} (h : Bkn S d) (t n : Int) : Bkn (S.put t n).2 d := by
  obtain ⟨e1, e2, _⟩ := put_dev S t n d
  unfold Bkn
  rw [e1, e2]; exact h
theorem Bkn.hear {S : Pl} {d : Int} (h : Bkn S d) (t : Tl) : Bkn (S.hear t).2 d := by
  rcases hear_cases S t with q | ⟨h1, _, _, _, _, _, q⟩
  · rw [q]; exact h
  · rw [q]
    have hne : d ≠ t.d := fun e => by rw [← e, h.off] at h1; cases h1
    show Bkn (S.go t) d
    unfold Bkn
    rw [go_isD, go_dev (Pl.wrk_isD h1) h.1, if_neg hne]
    exact h
theorem Bkn.hear_no {S : Pl} {t : Tl} (h : Bkn S t.d) : S.hear t = ((tz, false), S) := by unfold Pl.hear; rw [if_pos h.off]
theorem Bkn.brk {S : Pl} {d : Int} (h : Bkn S d) (d' k : Int) (b : Bool) (hb : d' ≠ d ∨ b = true) : Bkn (S.brk d' k b).2 d := by
  unfold Pl.brk
  by_cases hd : S.isD d' = false
  · rw [if_pos hd]; exact h
  · rw [if_neg hd]
    have hd' : S.isD d' = true := by simpa using hd
    unfold Bkn
    simp only
    rw [setD_isD, setD_dev hd' h.1]
    refine ⟨h.1, ?_⟩
    by_cases e : d = d'
    · subst e
      rw [if_pos rfl]
      rcases hb with q | q
      · exact absurd rfl q
      · exact ⟨q, h.2.2⟩
    · rw [if_neg e]; exact h.2
end Go.Proofs.Ythcdfclhenmleaa
