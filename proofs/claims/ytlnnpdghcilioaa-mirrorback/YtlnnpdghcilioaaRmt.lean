/- The document's mirror as plain data, and how it goes with the program's. Knows no program. -/
import Derived.Test.YtlnnpdghcilioaaMcs
namespace Go.Proofs.Ytlnnpdghcilioaa
set_option linter.unusedVariables false

structure Td where
  dev : Int
  tote : Int
  seq : Int
deriving DecidableEq, Inhabited
structure Rm where
  sp : List (Int × Int)
  td : List Td
  dw : List Int
  la : List Td
/-- the first place where it holds; -1: nowhere -/
def fx {α : Type} (p : α → Bool) (l : List α) : Int := if l.findIdx p < l.length then (l.findIdx p : Int) else -1
theorem fx_at {α : Type} {p : α → Bool} {q : List α} {i : Nat} {c : α} (hi : q[i]? = some c) (hp : p c = true) (hno : ∀ j d, j < i → q[j]? = some d → p d = false) : fx p q = (i : Int) := by
  obtain ⟨hlt, he⟩ := List.getElem?_eq_some_iff.1 hi
  have : q.findIdx p = i := by
    rw [List.findIdx_eq hlt]
    exact ⟨by rw [he]; exact hp, fun j hj => by have := hno j q[j] hj (List.getElem?_eq_getElem (by omega)); simpa using this⟩
  unfold fx
  rw [this, if_pos hlt]
theorem fx_none {α : Type} {p : α → Bool} {q : List α} (hno : ∀ (j : Nat) (d : α), j < q.length → q[j]? = some d → p d = false) : fx p q = -1 := by
  unfold fx
  rw [if_neg]
  have : q.findIdx p = q.length := by
    rw [List.findIdx_eq_length]
    intro c hc
    obtain ⟨j, hj, rfl⟩ := List.mem_iff_getElem.1 hc
    have := hno j _ hj (List.getElem?_eq_getElem hj)
    simpa using this
  omega
theorem fx_cases {α : Type} (p : α → Bool) (q : List α) : (∃ (i : Nat) (c : α), q[i]? = some c ∧ p c = true ∧ (∀ j d, j < i → q[j]? = some d → p d = false) ∧ fx p q = (i : Int)) ∨ ((∀ c ∈ q, p c = false) ∧ fx p q = -1) := by
  by_cases h : q.findIdx p < q.length
  · refine .inl ⟨q.findIdx p, q[q.findIdx p], List.getElem?_eq_getElem h, List.findIdx_getElem (w := h), fun j d hj hd => ?_, by unfold fx; rw [if_pos h]⟩
    have := List.not_of_lt_findIdx hj
    rw [List.getElem?_eq_getElem (by omega)] at hd
    cases hd
    simpa using this
  · refine .inr ⟨fun c hc => ?_, by unfold fx; rw [if_neg h]⟩
    cases e : p c with
    | false => rfl
    | true => exact absurd (List.findIdx_lt_length_of_exists ⟨c, hc, e⟩) h

def isTo (t : Int) (s : Int × Int) : Bool := decide (s.1 = t)
def isNo (n : Int) (s : Int × Int) : Bool := decide (s.2 = n)
def isDv (d : Int) (x : Td) : Bool := decide (x.dev = d)
def hasTo (t : Int) (x : Td) : Bool := decide (x.tote = t)
/-- the end of a device's edge -/
def edN (es : List (Int × Int)) (d : Int) : Int := ((es[(d - 1).toNat]?).getD (0, 0)).2
def edF (es : List (Int × Int)) (d : Int) : Int := ((es[(d - 1).toNat]?).getD (0, 0)).1
def goesTo (es : List (Int × Int)) (n : Int) (x : Td) : Bool := decide (edN es x.dev = n)
namespace Rm
variable (R : Rm)
def whr (t : Int) : Int := match R.sp.find? (isTo t) with
  | some s => s.2
  | none => -1
def att (n : Int) : Int := match R.sp.find? (isNo n) with
  | some s => s.1
  | none => 0
def fnd (d : Int) : Int := fx (isDv d) R.td
def tak (es : List (Int × Int)) (n : Int) : Bool := R.td.any (goesTo es n) || decide (0 < R.att n)
def isDn (d : Int) : Bool := decide (d ∈ R.dw)
def last (d : Int) : Int × Bool := match R.la.find? (isDv d) with
  | some x => (x.seq, true)
  | none => (0, false)
def put (n : Nat) (es : List (Int × Int)) (t x : Int) : Int × Rm := if (decide (t < 1) || decide (30 < t) || decide (x < 0) || decide ((n : Int) ≤ x)) = true then (1, R) else if 0 ≤ R.whr t then (2, R) else if R.tak es x = true then (100, R) else (0, { R with sp := R.sp ++ [(t, x)] })
def out (n m : Nat) (t x d : Int) : Bool := decide (t < 1) || decide (30 < t) || decide (x < 0) || decide ((n : Int) ≤ x) || decide (d < 1) || decide ((m : Int) < d)
def snd (n : Nat) (es : List (Int × Int)) (d t q : Int) : Int × Rm := if (out n es.length t 0 d || decide (q < 0) || decide (65535 < q)) = true then (1, R) else if (R.isDn d || decide (0 ≤ R.fnd d)) = true then (140, R) else if R.whr t ≠ edF es d then (160, R) else if R.td.any (hasTo t) = true then (160, R) else if R.tak es (edN es d) = true then (100, R) else
  (0, { R with td := R.td ++ [⟨d, t, q⟩], la := ⟨d, t, q⟩ :: R.la.filter (fun x => decide (x.dev ≠ d)) })
def mvS (t x : Int) (s : Int × Int) : Int × Int := if s.1 = t then (s.1, x) else s
def mov (n : Nat) (es : List (Int × Int)) (d t : Int) : Int × Rm := if out n es.length t 0 d = true then (1, R) else if R.fnd d < 0 then (4, R) else if (R.td.getD (R.fnd d).toNat default).tote ≠ t then (160, R) else (0, { R with td := R.td.eraseIdx (R.fnd d).toNat, sp := R.sp.map (mvS t (edN es d)) })
def drp (n : Nat) (es : List (Int × Int)) (d : Int) : Int × Rm := if out n es.length 1 0 d = true then (1, R) else if R.fnd d < 0 then (4, R) else (0, { R with td := R.td.eraseIdx (R.fnd d).toNat })
def dwF (m : Nat) (d : Int) (b : Bool) : List Int := ((List.range m).map (fun i : Nat => (i : Int) + 1)).filter (fun x => (decide (x = d) && b) || (decide (x ≠ d) && R.isDn x))
def msk (n : Nat) (es : List (Int × Int)) (d : Int) (b : Bool) : Int × Rm := if out n es.length 1 0 d = true then (1, R) else (0, { R with dw := R.dwF es.length d b })
def app (n : Nat) (es : List (Int × Int)) (x : Nt) : Int × Rm := if x.kind = 1 then R.put n es x.a x.b else if x.kind = 4 then R.snd n es x.a x.b x.c else if x.kind = 5 then R.mov n es x.a x.b else if x.kind = 7 then R.drp n es x.a else if x.kind = 8 then R.msk n es x.a (decide (x.b = 1)) else (23, R)
end Rm

/-- the program's mirror and the document's say the same -/
structure Rel (S : Mr) (R : Rm) (n : Nat) (es : List (Int × Int)) : Prop where
  ok : S.Ok n es
  n1 : 1 ≤ n
  sp : ∀ t x, (t, x) ∈ R.sp ↔ (t ≠ 0 ∧ S.att x = t)
  td : ∀ x : Td, x ∈ R.td ↔ (S.isD x.dev = true ∧ x.tote ≠ 0 ∧ (S.dev x.dev).tt = x.tote ∧ (S.dev x.dev).sq = x.seq)
  nd : (R.td.map (·.dev)).Nodup
  dw : R.dw = S.down
  la : ∀ d, R.last d = S.last d
theorem isN_of {S : Mr} {x t : Int} (ht : t ≠ 0) (h : S.att x = t) : S.isN x = true := by
  cases q : S.isN x with
  | true => rfl
  | false => rw [Mr.att_out q] at h; exact absurd h.symm ht
section
variable {S : Mr} {R : Rm} {n : Nat} {es : List (Int × Int)} (H : Rel S R n es)
include H
theorem Rel.att (x : Int) : R.att x = S.att x := by
  unfold Rm.att
  cases q : R.sp.find? (isNo x) with
  | some s =>
    have h1 := List.find?_some q
    have h2 := List.mem_of_find?_eq_some q
    have h3 := of_decide_eq_true h1
    obtain ⟨t, y⟩ := s
    simp only at h3
    subst h3
    exact ((H.sp t y).1 h2).2.symm
  | none =>
    by_cases h0 : S.att x = 0
    · exact h0.symm
    · have := List.find?_eq_none.1 q _ ((H.sp _ x).2 ⟨h0, rfl⟩)
      simp [isNo] at this
theorem Rel.whr (t : Int) : R.whr t = S.whr t := by
  unfold Rm.whr
  cases q : R.sp.find? (isTo t) with
  | some s =>
    have h1 := List.find?_some q
    have h2 := List.mem_of_find?_eq_some q
    have h3 := of_decide_eq_true h1
    obtain ⟨t', y⟩ := s
    simp only at h3
    subst h3
    obtain ⟨a1, a2⟩ := (H.sp t' y).1 h2
    have hN := isN_of a1 a2
    have hr := H.ok.rg _ (List.mem_of_getElem? (Mr.att_at hN))
    rw [a2] at hr
    exact (whr_of H.ok (isT_iff.2 (by omega)) hN a2).symm
  | none =>
    by_cases hT : isT t = true
    · by_cases hw : S.whr t = -1
      · exact hw.symm
      · obtain ⟨a1, a2⟩ := whr_at hT hw
        have hT' := isT_iff.1 hT
        have := List.find?_eq_none.1 q _ ((H.sp t _).2 ⟨by omega, a2⟩)
        simp [isTo] at this
    · unfold Mr.whr; rw [if_neg hT]
theorem Rel.edge {d : Int} (hd : S.isD d = true) : edN es d = (S.dev d).en ∧ edF es d = (S.dev d).fr := by
  unfold edN edF
  rw [H.ok.edge hd]
  exact ⟨rfl, rfl⟩
theorem Rel.tak {x : Int} : R.tak es x = S.tak x := by
  unfold Rm.tak Mr.tak
  rw [H.att]
  have hr : 0 ≤ S.att x := by
    cases q : S.isN x with
    | true => exact (H.ok.rg _ (List.mem_of_getElem? (Mr.att_at q))).1
    | false => rw [Mr.att_out q]; exact Int.le_refl _
  have h1 : decide (0 < S.att x) = decide (S.att x ≠ 0) := by simp only [decide_eq_decide]; omega
  have h2 : R.td.any (goesTo es x) = S.ds.any (comes x) := by
    rw [Bool.eq_iff_iff, List.any_eq_true, List.any_eq_true]
    constructor
    · rintro ⟨z, z1, z2⟩
      obtain ⟨a1, a2, a3, a4⟩ := (H.td z).1 z1
      have z3 := of_decide_eq_true z2
      rw [(H.edge a1).1] at z3
      exact ⟨S.dev z.dev, (Mr.dev_at a1).2, by simp [comes, z3, a3, a2]⟩
    · rintro ⟨D, d1, d2⟩
      simp only [comes, Bool.and_eq_true, decide_eq_true_eq] at d2
      obtain ⟨k, hk⟩ := List.getElem?_of_mem d1
      obtain ⟨e1, e2⟩ := Mr.dev_nat hk
      exact ⟨⟨(k : Int) + 1, D.tt, D.sq⟩, (H.td _).2 ⟨e2, d2.1, by rw [e1], by rw [e1]⟩, decide_eq_true (by rw [(H.edge e2).1, e1]; exact d2.2)⟩
  rw [h1, h2, Bool.or_comm]
theorem Rel.way {t : Int} (ht : t ≠ 0) : R.td.any (hasTo t) = S.way t := by
  unfold Mr.way
  rw [Bool.eq_iff_iff, List.any_eq_true, List.any_eq_true]
  constructor
  · rintro ⟨z, z1, z2⟩
    obtain ⟨a1, a2, a3, a4⟩ := (H.td z).1 z1
    exact ⟨S.dev z.dev, (Mr.dev_at a1).2, decide_eq_true (by rw [a3]; exact of_decide_eq_true z2)⟩
  · rintro ⟨D, d1, d2⟩
    have d3 := of_decide_eq_true d2
    obtain ⟨k, hk⟩ := List.getElem?_of_mem d1
    obtain ⟨e1, e2⟩ := Mr.dev_nat hk
    exact ⟨⟨(k : Int) + 1, D.tt, D.sq⟩, (H.td _).2 ⟨e2, by rw [d3]; exact ht, by rw [e1], by rw [e1]⟩, decide_eq_true d3⟩
/-- what a device was told -/
theorem Rel.fnd (d : Int) : (∃ (i : Nat) (x : Td), R.td[i]? = some x ∧ x.dev = d ∧ R.fnd d = (i : Int) ∧ S.isD d = true ∧ (S.dev d).tt = x.tote ∧ x.tote ≠ 0 ∧ (S.dev d).sq = x.seq) ∨ (R.fnd d = -1 ∧ (S.isD d = true → (S.dev d).tt = 0)) := by
  unfold Rm.fnd
  rcases fx_cases (isDv d) R.td with ⟨i, x, h1, h2, h3, h4⟩ | ⟨h1, h2⟩
  · have e := of_decide_eq_true h2
    have hm := (H.td x).1 (List.mem_of_getElem? h1)
    rw [e] at hm
    exact .inl ⟨i, x, h1, e, h4, hm.1, hm.2.2.1, hm.2.1, hm.2.2.2⟩
  · refine .inr ⟨h2, fun hd => ?_⟩
    by_cases h0 : (S.dev d).tt = 0
    · exact h0
    · have := h1 ⟨d, (S.dev d).tt, (S.dev d).sq⟩ ((H.td _).2 ⟨hd, h0, rfl, rfl⟩)
      simp [isDv] at this
theorem Rel.dn {d : Int} (hd : S.isD d = true) : R.isDn d = (S.dev d).dn := by
  unfold Rm.isDn
  rw [H.dw]
  have key : ∀ (l : List Dv) (i : Nat) (x : Int), x ∈ downF i l ↔ ∃ (k : Nat) (D : Dv), l[k]? = some D ∧ D.dn = true ∧ x = ((i + k : Nat) : Int) + 1 := by
    intro l
    induction l with
    | nil => intro i x; simp [downF]
    | cons D l ih =>
      intro i x
      unfold downF
      have step : (∃ (k : Nat) (E : Dv), (D :: l)[k]? = some E ∧ E.dn = true ∧ x = ((i + k : Nat) : Int) + 1) ↔ ((D.dn = true ∧ x = (i : Int) + 1) ∨ ∃ (k : Nat) (E : Dv), l[k]? = some E ∧ E.dn = true ∧ x = ((i + 1 + k : Nat) : Int) + 1) := by
        constructor
        · rintro ⟨k, E, h1, h2, h3⟩
          cases k with
          | zero => simp at h1; subst h1; exact .inl ⟨h2, by simpa using h3⟩
          | succ k => exact .inr ⟨k, E, by simpa using h1, h2, by rw [h3]; congr 2; omega⟩
        · rintro (⟨h1, h2⟩ | ⟨k, E, h1, h2, h3⟩)
          · exact ⟨0, D, rfl, h1, by simpa using h2⟩
          · exact ⟨k + 1, E, by simpa using h1, h2, by rw [h3]; congr 2; omega⟩
      rw [step, ← ih]
      by_cases h : D.dn = true
      · rw [if_pos h, List.mem_cons]; simp [h]
      · rw [if_neg h]; simp [h]
  have hx := Mr.isD_iff.1 hd
  rw [Bool.eq_iff_iff, decide_eq_true_iff]
  unfold Mr.down
  rw [key]
  constructor
  · rintro ⟨k, D, h1, h2, h3⟩
    obtain ⟨e1, e2⟩ := Mr.dev_nat h1
    rw [show d = (k : Int) + 1 by rw [h3]; simp, e1]
    exact h2
  · intro h
    exact ⟨(d - 1).toNat, S.dev d, (Mr.dev_at hd).1, h, by omega⟩
theorem Rel.len : S.ds.length = es.length ∧ S.ts.length = n := ⟨H.ok.len, H.ok.ln⟩
end
end Go.Proofs.Ytlnnpdghcilioaa
