/- What is saved at most, as numbers alone: by the retrievals that are left, store by store; matchings; the least place that comes to it. -/
import Derived.Test.YtochllbnlnammabBas
namespace Go.Proofs.Ytochllbnlnammab
set_option linter.unusedVariables false

/-- without this one -/
def clr (left g : Nat) : Nat := left ^^^ 2 ^ g
theorem clr_bit (left g h : Nat) : (clr left g).testBit h = (left.testBit h ^^ decide (g = h)) := by
  unfold clr
  rw [Nat.testBit_xor, Nat.testBit_two_pow]
theorem clr_bit_off {left g h : Nat} (hg : left.testBit g = true) : (clr left g).testBit h = (left.testBit h && !decide (g = h)) := by
  rw [clr_bit]
  by_cases e : g = h
  · subst e; simp [hg]
  · simp [e]
theorem clr_lt {left g n : Nat} (hl : left < 2 ^ n) (hg : g < n) : clr left g < 2 ^ n := by
  unfold clr
  exact Nat.xor_lt_two_pow hl (Nat.pow_lt_pow_right (by omega) hg)

section
variable (row : Nat → Int) (nx : Nat → Int) (left : Nat)
/-- what is saved at most by the retrievals below g, or with none -/
def mxg : Nat → Int
  | 0 => nx left
  | g + 1 => if left.testBit g = true then (if row g + nx (clr left g) > mxg g then row g + nx (clr left g) else mxg g) else mxg g
/-- the least place that comes to it -/
def lsg : Nat → Int
  | 0 => -1
  | g + 1 => if left.testBit g = true ∧ row g + nx (clr left g) > mxg row nx left g then (g : Int) else lsg g
end

variable {row : Nat → Int} {nx : Nat → Int} {left : Nat}
theorem mxg_nx (n : Nat) : nx left ≤ mxg row nx left n := by
  induction n with
  | zero => exact Int.le_refl _
  | succ n ih =>
    rw [mxg]
    split
    · split <;> omega
    · exact ih
theorem mxg_mono (n m : Nat) (h : n ≤ m) : mxg row nx left n ≤ mxg row nx left m := by
  induction m with
  | zero => obtain rfl : n = 0 := by omega
            exact Int.le_refl _
  | succ m ih =>
    rcases Nat.lt_or_ge n (m + 1) with h' | h'
    · have := ih (by omega)
      rw [mxg]
      split
      · split <;> omega
      · exact this
    · obtain rfl : n = m + 1 := by omega
      exact Int.le_refl _
theorem mxg_ge {n g : Nat} (hg : g < n) (hb : left.testBit g = true) : row g + nx (clr left g) ≤ mxg row nx left n := by
  refine Int.le_trans ?_ (mxg_mono (g + 1) n hg)
  rw [mxg, if_pos hb]; split <;> omega
theorem lsg_first (n : Nat) : (nx left = mxg row nx left n → lsg row nx left n = -1) ∧ (nx left ≠ mxg row nx left n → ∃ g, g < n ∧ lsg row nx left n = (g : Int) ∧ left.testBit g = true ∧ row g + nx (clr left g) = mxg row nx left n ∧ ∀ h, h < g → left.testBit h = true → row h + nx (clr left h) ≠ mxg row nx left n) := by
  induction n with
  | zero => exact ⟨fun _ => rfl, fun h => absurd rfl h⟩
  | succ n ih =>
    rw [lsg, mxg]
    by_cases hb : left.testBit n = true
    · by_cases hc : row n + nx (clr left n) > mxg row nx left n
      · simp only [hb, hc, and_self, if_true]
        refine ⟨fun h => ?_, fun _ => ⟨n, by omega, rfl, hb, rfl, fun h hh hbt => ?_⟩⟩
        · have := mxg_nx (row := row) (nx := nx) (left := left) n; omega
        · have := mxg_ge (row := row) (nx := nx) hh hbt; omega
      · simp only [hb, hc, and_false, if_true, if_false]
        refine ⟨ih.1, fun h => ?_⟩
        obtain ⟨g, h1, h2⟩ := ih.2 h
        exact ⟨g, by omega, h2⟩
    · rw [if_neg hb, if_neg (fun h => hb h.1)]
      refine ⟨ih.1, fun h => ?_⟩
      obtain ⟨g, h1, h2⟩ := ih.2 h
      exact ⟨g, by omega, h2⟩
theorem lsg_cases (n : Nat) : (lsg row nx left n = -1 ∧ nx left = mxg row nx left n) ∨ ∃ g, g < n ∧ lsg row nx left n = (g : Int) ∧ left.testBit g = true ∧ row g + nx (clr left g) = mxg row nx left n := by
  by_cases h : nx left = mxg row nx left n
  · exact .inl ⟨(lsg_first n).1 h, h⟩
  · obtain ⟨g, h1, h2, h3, h4, _⟩ := (lsg_first n).2 h
    exact .inr ⟨g, h1, h2, h3, h4⟩

section
variable (F : Nat → Nat → Int) (ng ns : Nat)
/-- the greatest saving of the last r stores, if these are left -/
def tp : Nat → Nat → Int
  | 0, _ => 0
  | r + 1, left => mxg (F (ns - (r + 1))) (tp r) left ng
/-- what is left behind a place -/
def lf (left : Nat) (x : Int) : Nat := if x < 0 then left else clr left x.toNat
/-- the best places of the last r stores -/
def lst : Nat → Nat → List Int
  | 0, _ => []
  | r + 1, left => lsg (F (ns - (r + 1))) (tp F ng ns r) left ng :: lst r (lf left (lsg (F (ns - (r + 1))) (tp F ng ns r) left ng))
end
theorem lst_len (F : Nat → Nat → Int) (ng ns r left : Nat) : (lst F ng ns r left).length = r := by
  induction r generalizing left with
  | zero => rfl
  | succ r ih => rw [lst, List.length_cons, ih]

/-- the pairs of a list of places -/
def mof : Nat → List Int → List (Nat × Nat)
  | _, [] => []
  | k, x :: l => if 0 ≤ x then (k, x.toNat) :: mof (k + 1) l else mof (k + 1) l
def sv (F : Nat → Nat → Int) (m : List (Nat × Nat)) : Int := (m.map fun p => F p.1 p.2).sum
theorem sv_cons (F : Nat → Nat → Int) (p : Nat × Nat) (m : List (Nat × Nat)) : sv F (p :: m) = F p.1 p.2 + sv F m := rfl
theorem sv_app (F : Nat → Nat → Int) (m m' : List (Nat × Nat)) : sv F (m ++ m') = sv F m + sv F m' := by unfold sv; rw [List.map_append, List.sum_append]
theorem mof_app (k : Nat) (l l' : List Int) : mof k (l ++ l') = mof k l ++ mof (k + l.length) l' := by
  induction l generalizing k with
  | nil => rfl
  | cons x l ih =>
    rw [List.cons_append, mof, mof, ih, List.length_cons, show k + 1 + l.length = k + (l.length + 1) by omega]
    split <;> rfl
theorem mof_fst (k : Nat) (l : List Int) : ∀ p ∈ mof k l, k ≤ p.1 ∧ p.1 < k + l.length ∧ l[p.1 - k]? = some (p.2 : Int) := by
  induction l generalizing k with
  | nil => intro p h; cases h
  | cons x l ih =>
    intro p h
    have step : ∀ p ∈ mof (k + 1) l, k ≤ p.1 ∧ p.1 < k + (x :: l).length ∧ (x :: l)[p.1 - k]? = some (p.2 : Int) := by
      intro p h
      obtain ⟨h1, h2, h3⟩ := ih (k + 1) p h
      refine ⟨by omega, by rw [List.length_cons]; omega, ?_⟩
      rw [show p.1 - k = (p.1 - (k + 1)) + 1 by omega, List.getElem?_cons_succ]; exact h3
    rw [mof] at h
    split at h
    · rcases List.mem_cons.1 h with rfl | h
      · refine ⟨Nat.le_refl _, by rw [List.length_cons]; show k < _; omega, ?_⟩
        simp; omega
      · exact step p h
    · exact step p h

/-- a matching of stores from lo on with retrievals that are left -/
structure Mt (lo ns ng left : Nat) (m : List (Nat × Nat)) : Prop where
  a : (m.map Prod.fst).Nodup
  b : (m.map Prod.snd).Nodup
  c : ∀ p ∈ m, lo ≤ p.1 ∧ p.1 < ns ∧ p.2 < ng ∧ left.testBit p.2 = true

theorem perm_take {p : Nat × Nat} {m : List (Nat × Nat)} (h : p ∈ m) : ∃ m', m.Perm (p :: m') := ⟨m.erase p, List.perm_cons_erase h⟩
theorem sv_perm (F : Nat → Nat → Int) {m m' : List (Nat × Nat)} (h : m.Perm m') : sv F m = sv F m' := by
  induction h with
  | nil => rfl
  | cons x _ ih => rw [sv_cons, sv_cons, ih]
  | swap x y l => rw [sv_cons, sv_cons, sv_cons, sv_cons]; omega
  | trans _ _ ih1 ih2 => rw [ih1, ih2]
theorem Mt.perm {lo ns ng left : Nat} {m m' : List (Nat × Nat)} (h : Mt lo ns ng left m) (hp : m.Perm m') : Mt lo ns ng left m' :=
  ⟨(hp.map Prod.fst).nodup_iff.1 h.a, (hp.map Prod.snd).nodup_iff.1 h.b, fun p hm => h.c p (hp.mem_iff.2 hm)⟩

/-- no matching saves more -/
theorem tp_ub (F : Nat → Nat → Int) (ng ns r left : Nat) (hr : r ≤ ns) (m : List (Nat × Nat)) (h : Mt (ns - r) ns ng left m) : sv F m ≤ tp F ng ns r left := by
  induction r generalizing left m with
  | zero =>
    cases m with
    | nil => exact Int.le_refl _
    | cons p m => have := h.c p (List.mem_cons_self ..); omega
  | succ r ih =>
    rw [tp]
    by_cases hk : ∃ g, (ns - (r + 1), g) ∈ m
    · obtain ⟨g, hg⟩ := hk
      obtain ⟨m', hp⟩ := perm_take hg
      have h' := h.perm hp
      obtain ⟨_, _, hgn, hgb⟩ := h'.c _ (List.mem_cons_self ..)
      have ha := List.nodup_cons.1 h'.a
      have hb := List.nodup_cons.1 h'.b
      rw [sv_perm F hp, sv_cons]
      have : Mt (ns - r) ns ng (clr left g) m' := by
        refine ⟨ha.2, hb.2, fun p hm => ?_⟩
        obtain ⟨h1, h2, h3, h4⟩ := h'.c p (List.mem_cons_of_mem _ hm)
        have e1 : p.1 ≠ ns - (r + 1) := fun e => ha.1 (List.mem_map.2 ⟨p, hm, e⟩)
        have e2 : p.2 ≠ g := fun e => hb.1 (List.mem_map.2 ⟨p, hm, e⟩)
        refine ⟨by omega, h2, h3, ?_⟩
        rw [clr_bit_off hgb, h4]
        simp
        exact fun e => e2 e.symm
      have h1 := ih (clr left g) (by omega) m' this
      have h2 : F (ns - (r + 1)) g + tp F ng ns r (clr left g) ≤ mxg (F (ns - (r + 1))) (tp F ng ns r) left ng := mxg_ge hgn hgb
      show F (ns - (r + 1)) g + sv F m' ≤ _
      omega
    · have : Mt (ns - r) ns ng left m := ⟨h.a, h.b, fun p hm => by
        obtain ⟨h1, h2, h3⟩ := h.c p hm
        have e1 : p.1 ≠ ns - (r + 1) := fun e => hk ⟨p.2, by rw [← e]; exact hm⟩
        exact ⟨by omega, h2, h3⟩⟩
      exact Int.le_trans (ih left (by omega) m this) (mxg_nx ng)

/-- the places chosen come to it -/
theorem lst_ok (F : Nat → Nat → Int) (ng ns r left : Nat) (hr : r ≤ ns) : Mt (ns - r) ns ng left (mof (ns - r) (lst F ng ns r left)) ∧ sv F (mof (ns - r) (lst F ng ns r left)) = tp F ng ns r left ∧ ∀ x ∈ lst F ng ns r left, -1 ≤ x ∧ x < (ng : Int) := by
  induction r generalizing left with
  | zero => exact ⟨⟨by simp [lst, mof], by simp [lst, mof], by simp [lst, mof]⟩, rfl, by simp [lst]⟩
  | succ r ih =>
    rw [lst, tp]
    generalize hx : lsg (F (ns - (r + 1))) (tp F ng ns r) left ng = x
    have ek : ns - (r + 1) + 1 = ns - r := by omega
    rcases lsg_cases (row := F (ns - (r + 1))) (nx := tp F ng ns r) (left := left) ng with ⟨h1, h2⟩ | ⟨g, h1, h2, h3, h4⟩
    · obtain rfl : x = -1 := by rw [← hx]; exact h1
      obtain ⟨i1, i2, i3⟩ := ih left (by omega)
      rw [mof, if_neg (by omega), ek]
      refine ⟨⟨i1.a, i1.b, fun p hp => ?_⟩, by rw [← h2]; exact i2, ?_⟩
      · have := i1.c p hp; exact ⟨by omega, this.2⟩
      · intro y hy
        rcases List.mem_cons.1 hy with rfl | hy
        · omega
        · exact i3 y hy
    · obtain rfl : x = (g : Int) := by rw [← hx]; exact h2
      have el : lf left (g : Int) = clr left g := by unfold lf; rw [if_neg (by omega)]; simp
      obtain ⟨i1, i2, i3⟩ := ih (clr left g) (by omega)
      rw [el, mof, if_pos (by omega), ek, show (g : Int).toNat = g by simp]
      refine ⟨⟨?_, ?_, fun p hp => ?_⟩, ?_, ?_⟩
      · rw [List.map_cons, List.nodup_cons]
        refine ⟨fun hm => ?_, i1.a⟩
        obtain ⟨p, hp, e⟩ := List.mem_map.1 hm
        have := i1.c p hp
        simp at e; omega
      · rw [List.map_cons, List.nodup_cons]
        refine ⟨fun hm => ?_, i1.b⟩
        obtain ⟨p, hp, e⟩ := List.mem_map.1 hm
        obtain ⟨_, _, _, hb⟩ := i1.c p hp
        rw [clr_bit_off h3] at hb
        simp at e hb
        exact hb.2 e.symm
      · rcases List.mem_cons.1 hp with rfl | hp
        · exact ⟨Nat.le_refl _, by show ns - (r + 1) < ns; omega, h1, h3⟩
        · obtain ⟨q1, q2, q3, q4⟩ := i1.c p hp
          rw [clr_bit_off h3] at q4
          simp at q4
          exact ⟨by omega, q2, q3, q4.1⟩
      · rw [sv_cons, i2]; exact h4
      · intro y hy
        rcases List.mem_cons.1 hy with rfl | hy
        · omega
        · exact i3 y hy

/-- the bounds of what is saved -/
theorem tp_bd (F : Nat → Nat → Int) (ng ns : Nat) (B : Int) (hB : 0 ≤ B) (hF : ∀ s g, s < ns → g < ng → F s g ≤ B) (r left : Nat) (hr : r ≤ ns) : 0 ≤ tp F ng ns r left ∧ tp F ng ns r left ≤ r * B := by
  induction r generalizing left with
  | zero => simp [tp]
  | succ r ih =>
    rw [tp]
    have i0 := ih left (by omega)
    refine ⟨Int.le_trans i0.1 (mxg_nx ng), ?_⟩
    rw [show ((r + 1 : Nat) : Int) * B = r * B + B by rw [Int.natCast_add, Int.add_mul]; simp]
    rcases lsg_cases (row := F (ns - (r + 1))) (nx := tp F ng ns r) (left := left) ng with ⟨_, h2⟩ | ⟨g, h1, _, _, h4⟩
    · omega
    · have := (ih (clr left g) (by omega)).2
      have := hF (ns - (r + 1)) g (by omega) h1
      omega
theorem mxg_bd (F : Nat → Nat → Int) (ng ns : Nat) (B : Int) (hB : 0 ≤ B) (hF : ∀ s g, s < ns → g < ng → F s g ≤ B) (r left n : Nat) (hr : r < ns) (hn : n ≤ ng) : 0 ≤ mxg (F (ns - (r + 1))) (tp F ng ns r) left n ∧ mxg (F (ns - (r + 1))) (tp F ng ns r) left n ≤ (r + 1 : Nat) * B := by
  refine ⟨Int.le_trans (tp_bd F ng ns B hB hF r left (by omega)).1 (mxg_nx n), ?_⟩
  exact Int.le_trans (mxg_mono n ng hn) (tp_bd F ng ns B hB hF (r + 1) left hr).2
end Go.Proofs.Ytochllbnlnammab
