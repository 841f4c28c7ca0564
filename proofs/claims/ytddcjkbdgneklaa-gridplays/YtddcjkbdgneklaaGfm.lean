/- Rooms of a rack, as plain data. -/
import Derived.Test.YtddcjkbdgneklaaGrh
namespace Go.Proofs.Ytddcjkbdgneklaa
open Go.RowKit
set_option linter.unusedVariables false

theorem rm_cons (l : Nat × List Int) (R : Rack) : rm (l :: R) = (l.1 - l.2.length) + rm R := by simp [rm]
theorem rm_set {R : Rack} : ∀ {k : Nat} {l : Nat × List Int} (m : Nat × List Int), R[k]? = some l → rm (R.set k m) + (l.1 - l.2.length) = rm R + (m.1 - m.2.length) := by
  induction R with
  | nil => intro k l m h; simp at h
  | cons x R ih =>
    intro k l m h
    cases k with
    | zero => simp at h; subst h; rw [List.set_cons_zero, rm_cons, rm_cons]; omega
    | succ k =>
      have := ih m (by simpa using h)
      rw [List.set_cons_succ, rm_cons, rm_cons]; omega
theorem rm_ge {R : Rack} : ∀ {k : Nat} {l : Nat × List Int}, R[k]? = some l → l.1 - l.2.length ≤ rm R := by
  intro k l h
  have := rm_set (0, []) h
  simp at this
  omega
theorem rm_zero {R : Rack} (h : rm R = 0) (i : Nat) (l : Nat × List Int) (hl : R[i]? = some l) : l.1 - l.2.length = 0 := by
  have := rm_ge hl
  omega
theorem rm_pos {R : Rack} : rm R ≠ 0 → ∃ (i : Nat) (l : Nat × List Int), R[i]? = some l ∧ l.1 - l.2.length ≠ 0 := by
  induction R with
  | nil => intro h; exact absurd rfl h
  | cons x R ih =>
    intro h
    by_cases hx : x.1 - x.2.length = 0
    · obtain ⟨i, l, h1, h2⟩ := ih (by rw [rm_cons] at h; omega)
      exact ⟨i + 1, l, by simpa using h1, h2⟩
    · exact ⟨0, x, rfl, hx⟩
/-- what Put of a new tote answers -/
theorem put_new {R : Rack} {t : Int} (ht : 1 ≤ t ∧ t ≤ 30) (hn : ∀ (i : Nat) (m : Nat × List Int), R[i]? = some m → t ∉ m.2) : (rm R ≠ 0 ∧ putC R t = 0 ∧ rm (putR R t) + 1 = rm R) ∨ (rm R = 0 ∧ putC R t = 5 ∧ putN R t = 0 ∧ putR R t = R) := by
  have h1 : ¬ (t < 1 ∨ 30 < t) := by omega
  have h2 : ¬ whr R t ≠ -1 := fun h => h (whr_no hn)
  have hb := bst_is (lds R) (-1)
  by_cases h : rm R = 0
  · right
    have h3 : bst (lds R) (-1) = -1 := by
      rcases hb with ⟨hx, _⟩ | ⟨k, l, hk, hkl, hl, _, hl2, _⟩
      · exact hx
      · exfalso
        rw [lds_len] at hkl
        rw [lds_at (List.getElem?_eq_getElem hkl)] at hl
        cases hl
        exact hl2 (rm_zero h k _ (List.getElem?_eq_getElem hkl))
    have e1 : putC R t = 5 := (if_neg h1).trans ((if_neg h2).trans (if_pos h3))
    exact ⟨h, e1, if_neg (by rw [e1]; decide), if_neg (by rw [e1]; decide)⟩
  · left
    have h3 : bst (lds R) (-1) ≠ -1 := fun h' => by
      obtain ⟨i, l, hi, hl⟩ := rm_pos h
      rcases hb with ⟨_, hx⟩ | ⟨k, l, hk, hkl, hl, _, hl2, _⟩
      · exact hl (hx i _ (by rw [lds_len]; exact idx_lt hi) (lds_at hi) (by omega))
      · omega
    have e1 : putC R t = 0 := (if_neg h1).trans ((if_neg h2).trans (if_neg h3))
    refine ⟨h, e1, ?_⟩
    rcases put_form R t with ⟨e, _⟩ | ⟨_, k, l, _, hl, hlt, e, _⟩
    · exact absurd e1 e
    · have := rm_set (l.1, l.2 ++ [t]) hl
      rw [e]
      simp at this
      omega
/-- all totes are below t -/
def Tb (R : Rack) (t : Int) : Prop := ∀ (i : Nat) (m : Nat × List Int) (x : Int), R[i]? = some m → x ∈ m.2 → x < t
theorem tb_mk (ds : List Int) (t : Int) : Tb (mk ds) t := fun i m x h hm => by
  unfold mk at h
  rw [List.getElem?_map] at h
  cases hd : ds[i]? with
  | none => rw [hd] at h; cases h
  | some d => rw [hd] at h; cases h; cases hm
theorem Tb.put {R : Rack} {t : Int} (h : Tb R t) : Tb (putR R t) (t + 1) := fun i m x hi hx => by
  rcases put_form R t with ⟨_, e, _⟩ | ⟨_, k, l, _, hl, _, e, _⟩
  · rw [e] at hi; have := h i m x hi hx; omega
  · rw [e] at hi
    by_cases e' : k = i
    · subst e'
      rw [set_at hl] at hi
      cases hi
      rcases List.mem_append.1 hx with hx | hx
      · have := h k l x hl hx; omega
      · simp at hx; omega
    · rw [set_off e'] at hi
      have := h i m x hi hx; omega
/-- the sum of depths -/
def sm (ds : List Int) : Nat := rm (mk ds)
theorem sm_take {ds : List Int} {k : Nat} {d : Int} (h : ds[k]? = some d) : sm (ds.take (k + 1)) = sm (ds.take k) + d.toNat := by
  unfold sm rm
  rw [mk_take h]
  simp
theorem sm_le {ds : List Int} (h : ∀ d ∈ ds, 1 ≤ d ∧ d ≤ 8) : ∀ n, sm (ds.take n) ≤ 8 * n
  | 0 => by simp [sm, mk, rm]
  | n + 1 => by
    have ih := sm_le h n
    rcases Nat.lt_or_ge n ds.length with g | g
    · have hg := List.getElem?_eq_getElem g
      rw [sm_take hg]
      have := h _ (List.mem_of_getElem? hg)
      omega
    · rw [List.take_of_length_le (by omega)]
      rw [List.take_of_length_le (by omega)] at ih
      omega
end Go.Proofs.Ytddcjkbdgneklaa
