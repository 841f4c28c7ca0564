/- Holders: who waits for whom; who is safe: all that it waits for are; rings; the search for one. Knows no program. -/
import Derived.Test.YtmmkfcmbmecleaaBas
namespace Go.Proofs.Ytmmkfcmbmecleaa
set_option linter.unusedVariables false

structure Hl where
  has : List Int
  want : Int

/-- i wants a zone that k holds -/
def Wt (hs : List Hl) (i k : Nat) : Prop := ∃ p q, hs[i]? = some p ∧ hs[k]? = some q ∧ 0 ≤ p.want ∧ p.want ∈ q.has
/-- whoever waits for those that are safe alone -/
def Safe (hs : List Hl) (i : Nat) : Prop := Acc (fun k i => Wt hs i k) i

theorem idx_lt {α : Type} {l : List α} {i : Nat} {x : α} (h : l[i]? = some x) : i < l.length := (List.getElem?_eq_some_iff.1 h).1

theorem Wt.lt {hs : List Hl} {i k : Nat} (h : Wt hs i k) : i < hs.length ∧ k < hs.length := by
  obtain ⟨p, q, h1, h2, _⟩ := h
  exact ⟨idx_lt h1, idx_lt h2⟩

structure IsRing (hs : List Hl) (l : List Nat) : Prop where
  ne : l ≠ []
  nd : l.Nodup
  lt : ∀ x ∈ l, x < hs.length
  wt : ∀ j a b, l[j]? = some a → l[(j + 1) % l.length]? = some b → Wt hs a b

theorem IsRing.pos {hs : List Hl} {l : List Nat} (h : IsRing hs l) : 0 < l.length := List.length_pos_iff.2 h.ne

theorem IsRing.next {hs : List Hl} {l : List Nat} (h : IsRing hs l) (j : Nat) : ∃ b, l[(j + 1) % l.length]? = some b :=
  ⟨_, List.getElem?_eq_getElem (Nat.mod_lt _ h.pos)⟩

theorem IsRing.notSafe {hs : List Hl} {l : List Nat} (h : IsRing hs l) {x : Nat} (hs' : Safe hs x) : x ∉ l := by
  unfold Safe at hs'
  induction hs' with
  | intro x _ ih =>
    intro hx
    obtain ⟨j, hj⟩ := List.getElem?_of_mem hx
    obtain ⟨b, hb⟩ := h.next j
    exact ih b (h.wt j x b hj hb) (List.mem_of_getElem? hb)

/-- a row: each waits for the next one -/
def Row (hs : List Hl) (r : List Nat) : Prop := ∀ j a b, r[j]? = some a → r[j + 1]? = some b → Wt hs a b
/-- what comes behind a row -/
def Comes (hs : List Hl) (r : List Nat) (at' : Nat) : Prop := at' < hs.length ∧ ∀ z, r.getLast? = some z → Wt hs z at'

/-- where the search stands -/
structure Df (hs : List Hl) (r : List Nat) (sn : List Bool) : Prop where
  row : Row hs r
  nd : r.Nodup
  lt : ∀ x ∈ r, x < hs.length
  len : sn.length = hs.length
  seen : ∀ x ∈ r, sn[x]? = some true
  safe : ∀ x, sn[x]? = some true → x ∉ r → Safe hs x

theorem Df.start (hs : List Hl) : Df hs [] (List.replicate hs.length false) where
  row := fun j a b h => by simp at h
  nd := List.nodup_nil
  lt := fun x h => by simp at h
  len := by simp
  seen := fun x h => by simp at h
  safe := fun x h _ => by
    rw [List.getElem?_replicate] at h
    split at h <;> simp at h

/-- the row's end from a place on is a ring -/
theorem Df.ring {hs : List Hl} {r : List Nat} {sn : List Bool} (h : Df hs r sn) {at' f : Nat} (hc : Comes hs r at') (hf : r[f]? = some at') : IsRing hs (r.drop f) where
  ne := by
    have := idx_lt hf
    intro e
    have := congrArg List.length e
    simp at this
    omega
  nd := h.nd.sublist (List.drop_sublist f r)
  lt := fun x hx => h.lt x (List.mem_of_mem_drop hx)
  wt := fun j a b ha hb => by
    have hfl := idx_lt hf
    have hjl : j < (r.drop f).length := idx_lt ha
    rw [List.length_drop] at hb hjl
    rw [List.getElem?_drop] at ha
    rw [List.getElem?_drop] at hb
    by_cases e : j + 1 = r.length - f
    · rw [e, Nat.mod_self, Nat.add_zero, hf] at hb
      cases hb
      refine hc.2 a ?_
      rw [List.getLast?_eq_getElem?, ← ha]
      congr 1; omega
    · rw [Nat.mod_eq_of_lt (by omega)] at hb
      exact h.row (f + j) a b ha (by rw [← hb]; congr 1)

theorem Df.push {hs : List Hl} {r : List Nat} {sn : List Bool} (h : Df hs r sn) {at' : Nat} (hc : Comes hs r at') (hn : at' ∉ r) : Df hs (r ++ [at']) (sn.set at' true) where
  row := fun j a b ha hb => by
    have hjl := idx_lt hb
    simp at hjl
    rw [List.getElem?_append_left (by omega)] at ha
    by_cases e : j + 1 = r.length
    · rw [List.getElem?_append_right (by omega), e, Nat.sub_self] at hb
      simp at hb
      subst hb
      refine hc.2 a ?_
      rw [List.getLast?_eq_getElem?, ← ha]
      congr 1; omega
    · rw [List.getElem?_append_left (by omega)] at hb
      exact h.row j a b ha hb
  nd := by
    rw [List.nodup_append]
    exact ⟨h.nd, by simp, fun a ha b hb => by simp at hb; subst hb; rintro rfl; exact hn ha⟩
  lt := fun x hx => by
    rcases List.mem_append.1 hx with hx | hx
    · exact h.lt x hx
    · simp at hx; subst hx; exact hc.1
  len := by rw [List.length_set]; exact h.len
  seen := fun x hx => by
    rw [List.getElem?_set]
    split
    · rename_i e
      subst e
      rw [if_pos (by rw [h.len]; exact hc.1)]
    · rename_i e
      rcases List.mem_append.1 hx with hx | hx
      · exact h.seen x hx
      · simp at hx; exact absurd hx.symm e
  safe := fun x hx hr => by
    rw [List.mem_append] at hr
    simp only [List.mem_singleton, not_or] at hr
    rw [List.getElem?_set_ne (fun e => hr.2 e.symm)] at hx
    exact h.safe x hx hr.1

theorem Df.pop {hs : List Hl} {r : List Nat} {sn : List Bool} {at' : Nat} (h : Df hs (r ++ [at']) sn) (hsafe : Safe hs at') : Df hs r sn where
  row := fun j a b ha hb => h.row j a b (by rw [List.getElem?_append_left (idx_lt ha)]; exact ha) (by rw [List.getElem?_append_left (idx_lt hb)]; exact hb)
  nd := (List.nodup_append.1 h.nd).1
  lt := fun x hx => h.lt x (List.mem_append.2 (.inl hx))
  len := h.len
  seen := fun x hx => h.seen x (List.mem_append.2 (.inl hx))
  safe := fun x hx hr => by
    by_cases e : x = at'
    · subst e; exact hsafe
    · refine h.safe x hx (fun hm => ?_)
      rcases List.mem_append.1 hm with hm | hm
      · exact hr hm
      · simp at hm; exact e hm

theorem comes_push {hs : List Hl} {r : List Nat} {at' k : Nat} (h : Wt hs at' k) : Comes hs (r ++ [at']) k := ⟨h.lt.2, fun z hz => by
  rw [List.getLast?_append] at hz
  simp at hz
  subst hz; exact h⟩

theorem count_set {sn : List Bool} {i : Nat} (h : sn[i]? = some false) : (sn.set i true).count false + 1 = sn.count false := by
  induction sn generalizing i with
  | nil => simp at h
  | cons a t ih =>
    cases i with
    | zero =>
      simp at h
      subst h
      simp
    | succ i =>
      simp at h
      have := ih h
      rw [List.set_cons_succ, List.count_cons, List.count_cons]
      omega

theorem safe_none {hs : List Hl} {i : Nat} {p : Hl} (hp : hs[i]? = some p) (h : p.want < 0) : Safe hs i := Acc.intro i fun k hk => by
  obtain ⟨q, _, hq, _, h0, _⟩ := hk
  rw [hp] at hq
  cases hq
  omega

/-- whoever's all are safe -/
theorem safe_all {hs : List Hl} {i : Nat} (h : ∀ k, Wt hs i k → Safe hs k) : Safe hs i := Acc.intro i h

/-- rising -/
theorem safe_rise {hs : List Hl} (hw : ∀ p ∈ hs, p.want < 8) (hr : ∀ p ∈ hs, ∀ z ∈ p.has, p.want < 0 ∨ z < p.want) : ∀ i, Safe hs i := by
  have key : ∀ m : Nat, ∀ i p, hs[i]? = some p → 0 ≤ p.want → (8 - p.want).toNat ≤ m → Safe hs i := by
    intro m
    induction m with
    | zero => intro i p hp h0 hm; have := hw p (List.mem_of_getElem? hp); omega
    | succ m ih =>
      intro i p hp h0 hm
      refine safe_all fun k hk => ?_
      obtain ⟨p', q, hp', hq, _, hin⟩ := hk
      rw [hp] at hp'
      cases hp'
      rcases hr q (List.mem_of_getElem? hq) _ hin with h | h
      · exact safe_none hq h
      · exact ih k q hq (by omega) (by omega)
  intro i
  refine safe_all fun k hk => ?_
  obtain ⟨p, q, hp, hq, _, _⟩ := hk
  by_cases h : q.want < 0
  · exact safe_none hq h
  · exact key _ k q hq (by omega) (Nat.le_refl _)

/-- holders within their ranges -/
def okZ (z : Int) : Bool := decide (0 ≤ z ∧ z < 8)
def okH (p : Hl) : Bool := p.has.all okZ && decide (-1 ≤ p.want ∧ p.want < 8)

/-- whether nobody is stuck -/
def Free (hs : List Hl) : Prop := ∀ i, i < hs.length → Safe hs i
theorem IsRing.stuck {hs : List Hl} {l : List Nat} (h : IsRing hs l) : ¬ Free hs := fun hf => by
  obtain ⟨x, hx⟩ := List.exists_mem_of_ne_nil l h.ne
  exact h.notSafe (hf x (h.lt x hx)) hx
end Go.Proofs.Ytmmkfcmbmecleaa
