/- Racks as plain data: where a tote stands, which lane is best, what a plan is; knows no program. -/
import Derived.Test.YtddcjkbdgneklaaLnb
namespace Go.Proofs.Ytddcjkbdgneklaa
open Go.RowKit
set_option linter.unusedVariables false

/-- a rack: of each lane its depth and its totes, the innermost first -/
abbrev Rack := List (Nat × List Int)

/-- the lane of a tote; -1: none -/
def whr (R : Rack) (t : Int) : Int := if R.findIdx (fun l => decide (t ∈ l.2)) < R.length then (R.findIdx (fun l => decide (t ∈ l.2)) : Int) else -1
theorem whr_yes {R : Rack} {t : Int} {k : Nat} {l : Nat × List Int} (h : R[k]? = some l) (hm : t ∈ l.2) (hn : ∀ (i : Nat) (l' : Nat × List Int), i < k → R[i]? = some l' → t ∉ l'.2) : whr R t = (k : Int) := by
  have hk := idx_lt h
  have h1 : ¬ k < R.findIdx (fun l => decide (t ∈ l.2)) := fun h' => by
    have := List.not_of_lt_findIdx h'
    rw [List.getElem?_eq_getElem hk] at h
    rw [Option.some.inj h] at this
    simp [hm] at this
  have hlt : R.findIdx (fun l => decide (t ∈ l.2)) < R.length := by omega
  have h2 : ¬ R.findIdx (fun l => decide (t ∈ l.2)) < k := fun h' => by
    have := List.findIdx_getElem (w := hlt)
    exact hn _ _ h' (List.getElem?_eq_getElem hlt) (by simpa using this)
  unfold whr
  rw [if_pos hlt]
  omega
theorem whr_no {R : Rack} {t : Int} (h : ∀ (i : Nat) (l : Nat × List Int), R[i]? = some l → t ∉ l.2) : whr R t = -1 := by
  unfold whr
  refine if_neg fun hlt => ?_
  have := List.findIdx_getElem (w := hlt)
  exact h _ _ (List.getElem?_eq_getElem hlt) (by simpa using this)
theorem whr_form (R : Rack) (t : Int) : (whr R t = -1 ∧ ∀ (i : Nat) (l : Nat × List Int), R[i]? = some l → t ∉ l.2) ∨ ∃ (k : Nat) (l : Nat × List Int), whr R t = (k : Int) ∧ k < R.length ∧ R[k]? = some l ∧ t ∈ l.2 ∧ ∀ (i : Nat) (l' : Nat × List Int), i < k → R[i]? = some l' → t ∉ l'.2 := by
  by_cases hlt : R.findIdx (fun l => decide (t ∈ l.2)) < R.length
  · have hg := List.findIdx_getElem (w := hlt)
    have hm : t ∈ (R[R.findIdx (fun l => decide (t ∈ l.2))]).2 := by simpa using hg
    refine .inr ⟨_, _, if_pos hlt, hlt, List.getElem?_eq_getElem hlt, hm, fun i l' hi hl => ?_⟩
    have := List.not_of_lt_findIdx hi
    have hil := idx_lt hl
    rw [List.getElem?_eq_getElem hil] at hl
    rw [Option.some.inj hl] at this
    simpa using this
  · refine .inl ⟨if_neg hlt, fun i l hl hm => hlt ?_⟩
    have hil := idx_lt hl
    rw [List.getElem?_eq_getElem hil] at hl
    exact List.findIdx_lt_length_of_exists ⟨l, List.mem_of_getElem? ((List.getElem?_eq_getElem hil).trans hl), by simpa using hm⟩

/-- how full the lanes are: totes held, room -/
def lds (R : Rack) : List (Nat × Nat) := R.map (fun l => (l.2.length, l.1 - l.2.length))
theorem lds_len (R : Rack) : (lds R).length = R.length := by simp [lds]
theorem lds_at {R : Rack} {i : Nat} {l : Nat × List Int} (h : R[i]? = some l) : (lds R)[i]? = some (l.2.length, l.1 - l.2.length) := by simp [lds, h]
/-- for how many more -/
def rm (R : Rack) : Nat := (R.map (fun l => l.1 - l.2.length)).sum

/-- the best lane among the first ones, but one; -1: none -/
def bstG (L : List (Nat × Nat)) (but : Int) : Nat → Int
  | 0 => -1
  | n + 1 => match L[n]? with
    | none => bstG L but n
    | some l => if (n : Int) = but ∨ l.2 = 0 then bstG L but n else if bstG L but n = -1 ∨ l.1 < (L[(bstG L but n).toNat]?.getD (0, 0)).1 then (n : Int) else bstG L but n
def bst (L : List (Nat × Nat)) (but : Int) : Int := bstG L but L.length

/-- what the best lane is -/
def IsB (L : List (Nat × Nat)) (but : Int) (n : Nat) (f : Int) : Prop :=
  (f = -1 ∧ ∀ (i : Nat) (l : Nat × Nat), i < n → L[i]? = some l → (i : Int) ≠ but → l.2 = 0) ∨
  ∃ (k : Nat) (l : Nat × Nat), f = (k : Int) ∧ k < n ∧ L[k]? = some l ∧ (k : Int) ≠ but ∧ l.2 ≠ 0 ∧ ∀ (i : Nat) (l' : Nat × Nat), i < n → L[i]? = some l' → (i : Int) ≠ but → l'.2 ≠ 0 → l.1 ≤ l'.1 ∧ (i < k → l.1 < l'.1)
theorem bstG_is (L : List (Nat × Nat)) (but : Int) : ∀ n, n ≤ L.length → IsB L but n (bstG L but n)
  | 0, _ => .inl ⟨rfl, fun i l hi => by omega⟩
  | n + 1, hn => by
    have ih := bstG_is L but n (by omega)
    obtain ⟨x, hx⟩ : ∃ x, L[n]? = some x := ⟨_, List.getElem?_eq_getElem (by omega)⟩
    unfold bstG
    rw [hx]
    simp only
    by_cases h1 : (n : Int) = but ∨ x.2 = 0
    · rw [if_pos h1]
      rcases ih with ⟨h2, h3⟩ | ⟨k, l, h2, h3, h4, h5, h6, h7⟩
      · refine .inl ⟨h2, fun i l hi hl hne => ?_⟩
        rcases Nat.lt_or_ge i n with g | g
        · exact h3 i l g hl hne
        · obtain rfl : i = n := by omega
          rw [hx] at hl
          cases hl
          exact h1.resolve_left hne
      · refine .inr ⟨k, l, h2, by omega, h4, h5, h6, fun i l' hi hl hne hr => ?_⟩
        rcases Nat.lt_or_ge i n with g | g
        · exact h7 i l' g hl hne hr
        · obtain rfl : i = n := by omega
          rw [hx] at hl
          cases hl
          exact absurd (h1.resolve_left hne) hr
    · rw [if_neg h1]
      have h1a : (n : Int) ≠ but := fun e => h1 (.inl e)
      have h1b : x.2 ≠ 0 := fun e => h1 (.inr e)
      rcases ih with ⟨h2, h3⟩ | ⟨k, l, h2, h3, h4, h5, h6, h7⟩
      · rw [if_pos (.inl h2)]
        refine .inr ⟨n, x, rfl, by omega, hx, h1a, h1b, fun i l' hi hl hne hr => ?_⟩
        rcases Nat.lt_or_ge i n with g | g
        · exact absurd (h3 i l' g hl hne) hr
        · obtain rfl : i = n := by omega
          rw [hx] at hl
          cases hl
          exact ⟨Nat.le_refl _, fun h => by omega⟩
      · rw [h2, Int.toNat_natCast, h4]
        simp only [Option.getD_some]
        by_cases h8 : x.1 < l.1
        · rw [if_pos (.inr h8)]
          refine .inr ⟨n, x, rfl, by omega, hx, h1a, h1b, fun i l' hi hl hne hr => ?_⟩
          rcases Nat.lt_or_ge i n with g | g
          · have := (h7 i l' g hl hne hr).1
            exact ⟨by omega, fun _ => by omega⟩
          · obtain rfl : i = n := by omega
            rw [hx] at hl
            cases hl
            exact ⟨Nat.le_refl _, fun h => by omega⟩
        · rw [if_neg (by rintro (h | h) <;> omega)]
          refine .inr ⟨k, l, rfl, by omega, h4, h5, h6, fun i l' hi hl hne hr => ?_⟩
          rcases Nat.lt_or_ge i n with g | g
          · exact h7 i l' g hl hne hr
          · obtain rfl : i = n := by omega
            rw [hx] at hl
            cases hl
            exact ⟨by omega, fun h => by omega⟩
theorem bst_is (L : List (Nat × Nat)) (but : Int) : IsB L but L.length (bst L but) := bstG_is L but _ (Nat.le_refl _)
theorem IsB.uniq {L : List (Nat × Nat)} {but : Int} {n : Nat} {f f' : Int} (h : IsB L but n f) (h' : IsB L but n f') : f = f' := by
  rcases h with ⟨h1, h2⟩ | ⟨k, l, h1, h2, h3, h4, h5, h6⟩ <;> rcases h' with ⟨g1, g2⟩ | ⟨k', l', g1, g2, g3, g4, g5, g6⟩
  · rw [h1, g1]
  · exact absurd (h2 k' l' g2 g3 g4) g5
  · exact absurd (g2 k l h2 h3 h4) h5
  · have a1 := h6 k' l' g2 g3 g4 g5
    have a2 := g6 k l h2 h3 h4 h5
    rw [h1, g1]
    rcases Nat.lt_trichotomy k k' with g | g | g
    · have := a2.2 g; omega
    · rw [g]
    · have := a1.2 g; omega

/-- a lane -/
def ln (R : Rack) (k : Nat) : Nat × List Int := R[k]?.getD (0, [])
theorem ln_at {R : Rack} {k : Nat} {l : Nat × List Int} (h : R[k]? = some l) : ln R k = l := by simp [ln, h]
/-- the totes of a lane; none of what is no lane -/
def lnx (R : Rack) (i : Int) : List Int := if 0 ≤ i ∧ i < (R.length : Int) then (ln R i.toNat).2 else []
def addAt (R : Rack) (k : Nat) (t : Int) : Rack := R.set k ((ln R k).1, (ln R k).2 ++ [t])
def dropAt (R : Rack) (k : Nat) : Rack := R.set k ((ln R k).1, (ln R k).2.dropLast)

/-- what Put answers -/
def putC (R : Rack) (t : Int) : Int := if t < 1 ∨ 30 < t then 1 else if whr R t ≠ -1 then 2 else if bst (lds R) (-1) = -1 then 5 else 0
def putN (R : Rack) (t : Int) : Int := if putC R t = 0 then bst (lds R) (-1) else 0
def putR (R : Rack) (t : Int) : Rack := if putC R t = 0 then addAt R (bst (lds R) (-1)).toNat t else R

/-- a move -/
structure Mv where
  t : Int
  f : Int
  o : Int
/-- what Do answers -/
def doC (R : Rack) (m : Mv) : Int :=
  if ¬ (0 ≤ m.f ∧ m.f < (R.length : Int)) ∨ (m.o ≠ -1 ∧ ¬ (0 ≤ m.o ∧ m.o < (R.length : Int))) ∨ m.f = m.o then 1
  else if (ln R m.f.toNat).2.getLast? ≠ some m.t then 160
  else if m.o ≠ -1 ∧ (ln R m.o.toNat).1 ≤ (ln R m.o.toNat).2.length then 5 else 0
def doR (R : Rack) (m : Mv) : Rack := if doC R m = 0 then (if m.o = -1 then dropAt R m.f.toNat else addAt (dropAt R m.f.toNat) m.o.toNat m.t) else R

/-- a tote counted into a lane -/
def inc (L : List (Nat × Nat)) (k : Nat) : List (Nat × Nat) := L.set k ((L[k]?.getD (0, 0)).1 + 1, (L[k]?.getD (0, 0)).2 - 1)
/-- the moves of those ahead -/
def pln (f : Int) : List (Nat × Nat) → List Int → Option (List Mv)
  | _, [] => some []
  | L, x :: xs => if bst L f = -1 then none else (pln f (inc L (bst L f).toNat) xs).map (⟨x, f, bst L f⟩ :: ·)
/-- the totes ahead of a tote -/
def ahx (R : Rack) (t : Int) : List Int := ahd (ln R (whr R t).toNat).2 (loc (ln R (whr R t).toNat).2 t).toNat
def planC (R : Rack) (t : Int) : Int := if whr R t = -1 then 160 else if pln (whr R t) (lds R) (ahx R t) = none then 5 else 0
def planM (R : Rack) (t : Int) : List Mv := if whr R t = -1 then [] else match pln (whr R t) (lds R) (ahx R t) with
  | none => []
  | some ms => ms ++ [⟨t, whr R t, -1⟩]

/-- what every rack keeps to -/
structure Wf (R : Rack) : Prop where
  nd : ∀ (i : Nat) (l : Nat × List Int), R[i]? = some l → l.2.Nodup
  dj : ∀ (i j : Nat) (l m : Nat × List Int) (t : Int), R[i]? = some l → R[j]? = some m → t ∈ l.2 → t ∈ m.2 → i = j
  rg : ∀ (i : Nat) (l : Nat × List Int) (t : Int), R[i]? = some l → t ∈ l.2 → 1 ≤ t ∧ t ≤ 30
end Go.Proofs.Ytddcjkbdgneklaa
