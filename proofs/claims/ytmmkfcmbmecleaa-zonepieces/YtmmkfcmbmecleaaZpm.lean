/- A path cut where the zone changes: its pieces, their zones. Knows no program. -/
import Derived.Test.YtmmkfcmbmecleaaZmt
namespace Go.Proofs.Ytmmkfcmbmecleaa
set_option linter.unusedVariables false

def pat (path : List Int) (i : Nat) : Int := path[i]?.getD 0
/-- whether a new piece begins -/
def chg (dz : Int → Int) (path : List Int) (i : Nat) : Bool := decide (i = 0 ∨ dz (pat path i) ≠ dz (pat path (i - 1)))
def pcs (dz : Int → Int) (path : List Int) : Nat → List (List Int)
  | 0 => []
  | i + 1 => if chg dz path i then pcs dz path i ++ [[pat path i]] else (pcs dz path i).dropLast ++ [((pcs dz path i).getLast?.getD []) ++ [pat path i]]
def pzs (dz : Int → Int) (path : List Int) : Nat → List Int
  | 0 => []
  | i + 1 => if chg dz path i then pzs dz path i ++ [dz (pat path i)] else pzs dz path i

theorem pat_at {path : List Int} {i : Nat} {x : Int} (h : path[i]? = some x) : pat path i = x := by unfold pat; rw [h]; rfl
theorem pcs_yes {dz : Int → Int} {path : List Int} {i : Nat} (h : chg dz path i = true) : pcs dz path (i + 1) = pcs dz path i ++ [[pat path i]] := by rw [pcs, if_pos h]
theorem pcs_no {dz : Int → Int} {path : List Int} {i : Nat} (h : chg dz path i = false) : pcs dz path (i + 1) = (pcs dz path i).dropLast ++ [((pcs dz path i).getLast?.getD []) ++ [pat path i]] := by rw [pcs, if_neg (by rw [h]; decide)]
theorem pzs_yes {dz : Int → Int} {path : List Int} {i : Nat} (h : chg dz path i = true) : pzs dz path (i + 1) = pzs dz path i ++ [dz (pat path i)] := by rw [pzs, if_pos h]
theorem pzs_no {dz : Int → Int} {path : List Int} {i : Nat} (h : chg dz path i = false) : pzs dz path (i + 1) = pzs dz path i := by rw [pzs, if_neg (by rw [h]; decide)]
theorem chg_zero (dz : Int → Int) (path : List Int) : chg dz path 0 = true := by simp [chg]

theorem last_snoc {α : Type} (l : List α) (x : α) : (l ++ [x]).getLast? = some x := by simp

/-- what holds of the first i -/
structure Pcf (dz : Int → Int) (path : List Int) (i : Nat) : Prop where
  flat : (pcs dz path i).flatten = path.take i
  len : (pcs dz path i).length = (pzs dz path i).length
  ne : ∀ p ∈ pcs dz path i, p ≠ []
  zn : ∀ (q : Nat) (p : List Int) (c : Int), (pcs dz path i)[q]? = some p → (pzs dz path i)[q]? = some c → ∀ x ∈ p, dz x = c
  adj : ∀ (q : Nat) (a b : Int), (pzs dz path i)[q]? = some a → (pzs dz path i)[q + 1]? = some b → a ≠ b
  last : 0 < i → (pzs dz path i).getLast? = some (dz (pat path (i - 1)))
  some : 0 < i → 0 < (pcs dz path i).length

theorem pcf (dz : Int → Int) (path : List Int) : ∀ i, i ≤ path.length → Pcf dz path i := by
  intro i
  induction i with
  | zero => exact fun _ => ⟨by simp [pcs], by simp [pcs, pzs], by simp [pcs], by simp [pcs], by simp [pzs], fun h => by omega, fun h => by omega⟩
  | succ i ih =>
    intro hi
    have h := ih (by omega)
    have hx : path[i]? = Option.some (pat path i) := by unfold pat; rw [List.getElem?_eq_getElem (by omega)]; rfl
    have ht : path.take (i + 1) = path.take i ++ [pat path i] := by rw [List.take_add_one, hx]; rfl
    cases hc : chg dz path i with
    | true =>
      have e1 := pcs_yes hc
      have e2 := pzs_yes hc
      refine ⟨?_, ?_, ?_, ?_, ?_, ?_, ?_⟩
      · rw [e1, List.flatten_append, h.flat, ht]; simp
      · rw [e1, e2, List.length_append, List.length_append, h.len]; rfl
      · intro p hp
        rw [e1] at hp
        rcases List.mem_append.1 hp with hp | hp
        · exact h.ne p hp
        · simp at hp; subst hp; simp
      · intro q p c hq hz x hx'
        rw [e1] at hq
        rw [e2] at hz
        rcases Nat.lt_or_ge q (pcs dz path i).length with g | g
        · rw [List.getElem?_append_left g] at hq
          rw [List.getElem?_append_left (by rw [← h.len]; exact g)] at hz
          exact h.zn q p c hq hz x hx'
        · rw [List.getElem?_append_right g] at hq
          rw [List.getElem?_append_right (by rw [← h.len]; exact g)] at hz
          have : q - (pcs dz path i).length = 0 := by have := idx_lt hq; simp at this; omega
          rw [this] at hq
          rw [← h.len, this] at hz
          simp at hq hz
          subst hq hz
          simp at hx'
          rw [hx']
      · intro q a b ha hb
        rw [e2] at ha hb
        have hql := idx_lt hb
        simp at hql
        rw [List.getElem?_append_left (by omega)] at ha
        rcases Nat.lt_or_ge (q + 1) (pzs dz path i).length with g | g
        · rw [List.getElem?_append_left g] at hb
          exact h.adj q a b ha hb
        · rw [List.getElem?_append_right g] at hb
          have e0 : q + 1 - (pzs dz path i).length = 0 := by omega
          rw [e0] at hb
          simp at hb
          subst hb
          have hi0 : 0 < i := by
            rcases Nat.eq_zero_or_pos i with e | e
            · subst e; simp [pzs] at g hql
            · exact e
          have hl := h.last hi0
          rw [List.getLast?_eq_getElem?] at hl
          rw [show (pzs dz path i).length - 1 = q by omega, ha] at hl
          simp only [Option.some.injEq] at hl
          subst hl
          have := of_decide_eq_true hc
          rcases this with h0 | h0
          · omega
          · exact fun e => h0 e.symm
      · intro _
        rw [e2, last_snoc]
        simp
      · intro _; rw [e1, List.length_append]; simp
    | false =>
      have e1 := pcs_no hc
      have e2 := pzs_no hc
      have hi0 : 0 < i := by
        rcases Nat.eq_zero_or_pos i with e | e
        · subst e; rw [chg_zero] at hc; cases hc
        · exact e
      have hpos := h.some hi0
      obtain ⟨P0, pl, hP⟩ : ∃ P0 pl, pcs dz path i = P0 ++ [pl] := ⟨_, _, (List.dropLast_concat_getLast (List.length_pos_iff.1 hpos)).symm⟩
      have hd : (pcs dz path i).dropLast = P0 := by rw [hP, List.dropLast_concat]
      have hgl : (pcs dz path i).getLast?.getD [] = pl := by rw [hP, last_snoc]; rfl
      rw [hd, hgl] at e1
      have hlen := h.len
      rw [hP, List.length_append] at hlen
      simp at hlen
      refine ⟨?_, ?_, ?_, ?_, ?_, ?_, ?_⟩
      · have := h.flat
        rw [hP] at this
        rw [e1, ht, ← this]
        simp
      · rw [e1, e2, List.length_append]; simp; exact hlen
      · intro p hp
        rw [e1] at hp
        rcases List.mem_append.1 hp with hp | hp
        · exact h.ne p (by rw [hP]; exact List.mem_append.2 (.inl hp))
        · simp at hp; subst hp; simp
      · intro q p c hq hz x hx'
        rw [e1] at hq
        rw [e2] at hz
        rcases Nat.lt_or_ge q P0.length with g | g
        · rw [List.getElem?_append_left g] at hq
          exact h.zn q p c (by rw [hP, List.getElem?_append_left g]; exact hq) hz x hx'
        · rw [List.getElem?_append_right g] at hq
          have hq0 : q - P0.length = 0 := by have := idx_lt hq; simp at this; omega
          rw [hq0] at hq
          simp at hq
          subst hq
          rcases List.mem_append.1 hx' with hx' | hx'
          · exact h.zn q pl c (by rw [hP, List.getElem?_append_right g, hq0]; rfl) hz x hx'
          · simp at hx'
            subst hx'
            have hl := h.last hi0
            rw [List.getLast?_eq_getElem?, show (pzs dz path i).length - 1 = q by omega, hz] at hl
            simp only [Option.some.injEq] at hl
            rw [hl]
            have := of_decide_eq_false hc
            simp only [not_or, Decidable.not_not] at this
            exact this.2
      · intro q a b ha hb
        rw [e2] at ha hb
        exact h.adj q a b ha hb
      · intro _
        rw [e2, h.last hi0]
        have := of_decide_eq_false hc
        simp only [not_or, Decidable.not_not] at this
        simp only [Nat.add_sub_cancel]
        rw [this.2]
      · intro _; rw [e1, List.length_append]; simp

theorem pcs_bound (dz : Int → Int) (path : List Int) : ∀ i, (pcs dz path i).length ≤ i := by
  intro i
  induction i with
  | zero => simp [pcs]
  | succ i ih =>
    cases hc : chg dz path i with
    | true => rw [pcs_yes hc, List.length_append]; simp; exact ih
    | false =>
      rw [pcs_no hc, List.length_append, List.length_dropLast]
      simp
      omega
theorem flat_le {L : List (List Int)} {p : List Int} (h : p ∈ L) : p.length ≤ L.flatten.length := by
  induction L with
  | nil => simp at h
  | cons q t ih =>
    rw [List.flatten_cons, List.length_append]
    rcases List.mem_cons.1 h with rfl | h
    · omega
    · have := ih h; omega
/-- a piece is no longer than the path so far -/
theorem piece_bound {dz : Int → Int} {path : List Int} {i : Nat} (h : Pcf dz path i) {p : List Int} (hp : p ∈ pcs dz path i) : p.length ≤ i := by
  have := flat_le hp
  rw [h.flat, List.length_take] at this
  omega
end Go.Proofs.Ytmmkfcmbmecleaa
