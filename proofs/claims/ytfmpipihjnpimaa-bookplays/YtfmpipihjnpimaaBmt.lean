/- A book as plain data: all that ever came, in order, and how each ended. Knows no program. -/
namespace Go.Proofs.Ytfmpipihjnpimaa
set_option linter.unusedVariables false

/-- a number that an int holds -/
def I64 (x : Int) : Prop := -9223372036854775808 ≤ x ∧ x ≤ 9223372036854775807
/-- a request -/
structure Rq where
  id : Int
  st : Int
  tt : Int
deriving DecidableEq
/-- a request and how it ended: 1 open, 2 served, 3 cancelled -/
structure En where
  r : Rq
  en : Int
deriving DecidableEq
/-- all that ever came; the IDs that were served -/
structure Bk where
  all : List En
  done : List Int
deriving DecidableEq

def fnd (l : List En) (x : Int) : Option En := l.find? (fun e => e.r.id == x)
def ops (l : List En) : List Rq := (l.filter (fun e => e.en == 1)).map (·.r)
def fst (l : List En) (s : Int) : Option Rq := (ops l).find? (fun r => r.st == s)
def wnt (l : List En) (t : Int) : Option Rq := (ops l).find? (fun r => r.tt == t)
def rng (r : Rq) : Prop := 0 ≤ r.st ∧ r.st ≤ 39 ∧ 1 ≤ r.tt ∧ r.tt ≤ 30
instance (r : Rq) : Decidable (rng r) := by unfold rng; infer_instance
def setE (l : List En) (x v : Int) : List En := l.map (fun e => if e.r.id = x then ⟨e.r, v⟩ else e)
def stn (l : List En) (x : Int) : Int := match fnd l x with | some e => e.r.st | none => -1

namespace Bk
def adC (S : Bk) (r : Rq) : Int := if rng r then (match fnd S.all r.id with
  | some e => if e.r = r then 0 else 2
  | none => if (wnt S.all r.tt).isSome then 160 else if 64 ≤ (ops S.all).length then 5 else 0) else 1
def adY (S : Bk) (r : Rq) : Bool := decide (S.adC r = 0) && (fnd S.all r.id).isNone
def ad (S : Bk) (r : Rq) : Bk := if S.adY r = true then ⟨S.all ++ [⟨r, 1⟩], S.done⟩ else S
def sta (S : Bk) (x : Int) : Int := match fnd S.all x with | some e => e.en | none => 0
def caC (S : Bk) (x : Int) : Int := match fnd S.all x with | some e => if e.en = 2 then 140 else 0 | none => 4
def caY (S : Bk) (x : Int) : Bool := decide (S.sta x = 1)
def ca (S : Bk) (x : Int) : Bk := if S.caY x = true then ⟨setE S.all x 3, S.done⟩ else S
def seC (S : Bk) (x : Int) : Int := match fnd S.all x with
  | some e => if e.en = 1 then (if fst S.all e.r.st = some e.r then 0 else 110) else 140
  | none => 4
def se (S : Bk) (x : Int) : Bk := if S.seC x = 0 then ⟨setE S.all x 2, S.done ++ [x]⟩ else S
def sv (S : Bk) (s : Int) : List Int := S.done.filter (fun x => stn S.all x == s)
def new : Bk := ⟨[], []⟩

/-- what holds of every book -/
structure Ok (S : Bk) : Prop where
  nd : (S.all.map (·.r.id)).Nodup
  en : ∀ e ∈ S.all, e.en = 1 ∨ e.en = 2 ∨ e.en = 3
  rg : ∀ e ∈ S.all, rng e.r ∧ I64 e.r.id
  tt : ((ops S.all).map (·.tt)).Nodup
  dn : ∀ x ∈ S.done, ∃ e ∈ S.all, e.r.id = x ∧ e.en = 2
  dd : S.done.Nodup
end Bk

theorem fnd_some {l : List En} {x : Int} {e : En} (h : fnd l x = some e) : e ∈ l ∧ e.r.id = x := ⟨List.mem_of_find?_eq_some h, by have := List.find?_some h; simpa using this⟩
theorem fnd_none {l : List En} {x : Int} : fnd l x = none ↔ ∀ e ∈ l, e.r.id ≠ x := by simp [fnd]
theorem fnd_of {l : List En} (hn : (l.map (·.r.id)).Nodup) {e : En} (he : e ∈ l) : fnd l e.r.id = some e := by
  induction l with
  | nil => cases he
  | cons a l ih =>
    rw [List.map_cons, List.nodup_cons] at hn
    unfold fnd
    rw [List.find?_cons]
    rcases List.mem_cons.1 he with rfl | he
    · simp
    · have : (a.r.id == e.r.id) = false := by
        rw [beq_eq_false_iff_ne]
        intro q
        exact hn.1 (List.mem_map.2 ⟨e, he, q.symm⟩)
      rw [this]
      exact ih hn.2 he
theorem fnd_add (l : List En) (a : En) (x : Int) : fnd (l ++ [a]) x = (fnd l x).or (if a.r.id = x then some a else none) := by
  unfold fnd
  rw [List.find?_append]
  congr 1
  by_cases h : a.r.id = x
  · simp [h]
  · simp [h]
theorem fnd_set (l : List En) (y v x : Int) : fnd (setE l y v) x = (fnd l x).map (fun e => if e.r.id = y then ⟨e.r, v⟩ else e) := by
  unfold fnd setE
  rw [List.find?_map]
  congr 2
  funext e
  simp only [Function.comp]
  split <;> rfl
theorem setE_ids (l : List En) (y v : Int) : (setE l y v).map (·.r.id) = l.map (·.r.id) := by
  unfold setE
  rw [List.map_map]
  apply List.map_congr_left
  intro e _
  simp only [Function.comp]
  split <;> rfl
theorem setE_mem {l : List En} {y v : Int} {e : En} (h : e ∈ setE l y v) : ∃ e' ∈ l, e.r = e'.r ∧ ((e'.r.id = y ∧ e.en = v) ∨ (e'.r.id ≠ y ∧ e.en = e'.en)) := by
  obtain ⟨e', h1, h2⟩ := List.mem_map.1 h
  subst h2
  by_cases q : e'.r.id = y
  · exact ⟨e', h1, by rw [if_pos q], .inl ⟨q, by rw [if_pos q]⟩⟩
  · exact ⟨e', h1, by rw [if_neg q], .inr ⟨q, by rw [if_neg q]⟩⟩
theorem stn_set (l : List En) (y v x : Int) : stn (setE l y v) x = stn l x := by
  unfold stn
  rw [fnd_set]
  cases fnd l x with
  | none => rfl
  | some e => simp only [Option.map_some]; split <;> rfl
theorem ops_add (l : List En) (r : Rq) : ops (l ++ [⟨r, 1⟩]) = ops l ++ [r] := by simp [ops]
/-- one that ended is no longer open -/
theorem ops_set {l : List En} (hn : (l.map (·.r.id)).Nodup) (y v : Int) (hv : v ≠ 1) : ops (setE l y v) = (ops l).filter (fun r => r.id != y) := by
  induction l with
  | nil => rfl
  | cons a l ih =>
    rw [List.map_cons, List.nodup_cons] at hn
    have ih := ih hn.2
    unfold ops setE at *
    rw [List.map_cons]
    by_cases q : a.r.id = y
    · rw [if_pos q]
      have e1 : ((⟨a.r, v⟩ : En).en == 1) = false := by simpa using hv
      rw [List.filter_cons, e1, List.filter_cons]
      by_cases p : a.en = 1
      · simp [p, q, ih]
      · simp [p, ih]
    · rw [if_neg q, List.filter_cons, List.filter_cons]
      by_cases p : a.en = 1
      · simp [p, q, ih]
      · simp [p, ih]
theorem ops_mem {l : List En} {r : Rq} : r ∈ ops l ↔ ∃ e ∈ l, e.en = 1 ∧ e.r = r := by
  simp [ops, and_assoc]

namespace Bk
theorem new_ok : new.Ok := ⟨.nil, by simp [new], by simp [new], .nil, by simp [new], .nil⟩
theorem ad_no {S : Bk} {r : Rq} (h : S.adY r = false) : S.ad r = S := by unfold ad; rw [h]; rfl
theorem ad_yes {S : Bk} {r : Rq} (h : S.adY r = true) : S.ad r = ⟨S.all ++ [⟨r, 1⟩], S.done⟩ := if_pos h
theorem adY_iff {S : Bk} {r : Rq} : S.adY r = true ↔ rng r ∧ fnd S.all r.id = none ∧ wnt S.all r.tt = none ∧ (ops S.all).length < 64 := by
  unfold adY adC
  constructor
  · intro h
    rw [Bool.and_eq_true, decide_eq_true_eq, Option.isNone_iff_eq_none] at h
    obtain ⟨h1, h2⟩ := h
    by_cases hr : rng r
    · rw [if_pos hr, h2] at h1
      simp only at h1
      by_cases hw : (wnt S.all r.tt).isSome
      · rw [if_pos hw] at h1; cases h1
      · rw [if_neg hw] at h1
        by_cases h6 : 64 ≤ (ops S.all).length
        · rw [if_pos h6] at h1; cases h1
        · exact ⟨hr, h2, by simpa using hw, by omega⟩
    · rw [if_neg hr] at h1; cases h1
  · rintro ⟨hr, h2, h3, h4⟩
    rw [if_pos hr, h2, h3]
    simp
    omega
theorem Ok.ad {S : Bk} (h : S.Ok) {r : Rq} (hi : I64 r.id) : (S.ad r).Ok := by
  cases hy : S.adY r with
  | false => rw [ad_no hy]; exact h
  | true =>
    rw [ad_yes hy]
    obtain ⟨h1, h2, h3, _⟩ := adY_iff.1 hy
    rw [fnd_none] at h2
    refine ⟨?_, ?_, ?_, ?_, ?_, h.dd⟩
    · show ((S.all ++ [_]).map _).Nodup
      rw [List.map_append, List.nodup_append]
      refine ⟨h.nd, by simp, fun a ha b hb => ?_⟩
      obtain ⟨e, he, rfl⟩ := List.mem_map.1 ha
      simp at hb
      subst hb
      exact h2 e he
    · intro e he
      rcases List.mem_append.1 he with he | he
      · exact h.en e he
      · simp at he; subst he; exact .inl rfl
    · intro e he
      rcases List.mem_append.1 he with he | he
      · exact h.rg e he
      · simp at he; subst he; exact ⟨h1, hi⟩
    · show ((ops (S.all ++ [_])).map _).Nodup
      rw [ops_add, List.map_append, List.nodup_append]
      refine ⟨h.tt, by simp, fun a ha b hb => ?_⟩
      obtain ⟨e, he, rfl⟩ := List.mem_map.1 ha
      simp at hb
      subst hb
      have := List.find?_eq_none.1 h3 e he
      simpa using this
    · intro x hx
      obtain ⟨e, he, q⟩ := h.dn x hx
      exact ⟨e, List.mem_append.2 (.inl he), q⟩
theorem Ok.set {S : Bk} (h : S.Ok) {x v : Int} (hv : v = 2 ∨ v = 3) (hx : S.sta x = 1) (D : List Int) (hD : D = S.done ∨ v = 2 ∧ D = S.done ++ [x]) : Ok ⟨setE S.all x v, D⟩ := by
  obtain ⟨e, he⟩ : ∃ e, fnd S.all x = some e := by
    unfold sta at hx
    cases q : fnd S.all x with
    | none => rw [q] at hx; cases hx
    | some e => exact ⟨e, rfl⟩
  have h1 : e.en = 1 := by unfold sta at hx; rw [he] at hx; exact hx
  obtain ⟨he1, he2⟩ := fnd_some he
  have old : ∀ y ∈ S.done, ∃ e ∈ setE S.all x v, e.r.id = y ∧ e.en = 2 := by
    intro y hy
    obtain ⟨e', h3, h4, h5⟩ := h.dn y hy
    have hne : e'.r.id ≠ x := fun q => by
      have := fnd_of h.nd h3
      rw [q, he] at this
      cases this
      omega
    exact ⟨e', List.mem_map.2 ⟨e', h3, if_neg hne⟩, h4, h5⟩
  have hxd : x ∉ S.done := fun hy => by
    obtain ⟨e', h3, h4, h5⟩ := h.dn x hy
    have := fnd_of h.nd h3
    rw [h4, he] at this
    cases this
    omega
  refine ⟨?_, ?_, ?_, ?_, ?_, ?_⟩
  · show ((setE S.all x v).map _).Nodup
    rw [setE_ids]; exact h.nd
  · intro e he
    obtain ⟨e', q1, q2, q3⟩ := setE_mem he
    rcases q3 with q3 | q3
    · rw [q3.2]; rcases hv with rfl | rfl
      · exact .inr (.inl rfl)
      · exact .inr (.inr rfl)
    · rw [q3.2]; exact h.en e' q1
  · intro e he
    obtain ⟨e', q1, q2, q3⟩ := setE_mem he
    rw [q2]; exact h.rg e' q1
  · show ((ops (setE S.all x v)).map _).Nodup
    rw [ops_set h.nd x v (by rcases hv with rfl | rfl <;> decide)]
    exact h.tt.sublist (List.filter_sublist.map _)
  · intro y hy
    rcases hD with rfl | ⟨rfl, rfl⟩
    · exact old y hy
    · rcases List.mem_append.1 hy with hy | hy
      · exact old y hy
      · simp at hy
        subst hy
        exact ⟨⟨e.r, 2⟩, List.mem_map.2 ⟨e, he1, if_pos he2⟩, he2, rfl⟩
  · show D.Nodup
    rcases hD with rfl | ⟨rfl, rfl⟩
    · exact h.dd
    · rw [List.nodup_append]
      exact ⟨h.dd, by simp, fun a ha b hb => by simp at hb; subst hb; exact fun q => hxd (q ▸ ha)⟩
theorem ca_no {S : Bk} {x : Int} (h : S.caY x = false) : S.ca x = S := by unfold ca; rw [h]; rfl
theorem ca_yes {S : Bk} {x : Int} (h : S.caY x = true) : S.ca x = ⟨setE S.all x 3, S.done⟩ := if_pos h
theorem Ok.ca {S : Bk} (h : S.Ok) (x : Int) : (S.ca x).Ok := by
  cases hy : S.caY x with
  | false => rw [ca_no hy]; exact h
  | true => rw [ca_yes hy]; exact h.set (.inr rfl) (by unfold caY at hy; simpa using hy) _ (.inl rfl)
theorem se_no {S : Bk} {x : Int} (h : S.seC x ≠ 0) : S.se x = S := if_neg h
theorem se_yes {S : Bk} {x : Int} (h : S.seC x = 0) : S.se x = ⟨setE S.all x 2, S.done ++ [x]⟩ := if_pos h
theorem seC_iff {S : Bk} {x : Int} : S.seC x = 0 ↔ ∃ e, fnd S.all x = some e ∧ e.en = 1 ∧ fst S.all e.r.st = some e.r := by
  unfold seC
  cases q : fnd S.all x with
  | none => simp
  | some e =>
    simp only [Option.some.injEq, exists_eq_left']
    by_cases h1 : e.en = 1
    · rw [if_pos h1]
      by_cases h2 : fst S.all e.r.st = some e.r
      · rw [if_pos h2]; simp [h1, h2]
      · rw [if_neg h2]; simp [h1, h2]
    · rw [if_neg h1]; simp [h1]
theorem sta_of {S : Bk} {x : Int} {e : En} (h : fnd S.all x = some e) : S.sta x = e.en := by unfold sta; rw [h]
theorem Ok.se {S : Bk} (h : S.Ok) (x : Int) : (S.se x).Ok := by
  by_cases hy : S.seC x = 0
  · rw [se_yes hy]
    obtain ⟨e, q1, q2, q3⟩ := seC_iff.1 hy
    exact h.set (.inl rfl) (by rw [sta_of q1]; exact q2) _ (.inr ⟨rfl, rfl⟩)
  · rw [se_no hy]; exact h
theorem nodup_len : ∀ (n : Nat) (l : List Int), l.Nodup → (∀ x ∈ l, 1 ≤ x ∧ x ≤ (n : Int)) → l.length ≤ n
  | 0, l, _, h => by
    cases l with
    | nil => simp
    | cons x l => have := h x (by simp); omega
  | n + 1, l, hn, h => by
    have h1 := nodup_len n (l.erase ((n : Int) + 1)) (hn.erase _) (fun x hx => by
      have h2 := h x (List.mem_of_mem_erase hx)
      have h3 : x ≠ (n : Int) + 1 := fun e => by subst e; exact (List.Nodup.not_mem_erase hn) hx
      omega)
    have h2 := List.length_erase (a := (n : Int) + 1) (l := l)
    split at h2 <;> omega
/-- no more than 30 are open -/
theorem Ok.few {S : Bk} (h : S.Ok) : (ops S.all).length ≤ 30 := by
  have := nodup_len 30 ((ops S.all).map (·.tt)) h.tt (fun x hx => by
    obtain ⟨r, hr, rfl⟩ := List.mem_map.1 hx
    obtain ⟨e, he, _, rfl⟩ := ops_mem.1 hr
    obtain ⟨⟨_, _, h3, h4⟩, _⟩ := h.rg e he
    exact ⟨h3, h4⟩)
  simpa using this
theorem size_ad (S : Bk) (r : Rq) : (S.ad r).all.length ≤ S.all.length + 1 ∧ (S.ad r).done = S.done := by
  cases hy : S.adY r with
  | false => rw [ad_no hy]; exact ⟨by omega, rfl⟩
  | true => rw [ad_yes hy]; exact ⟨by simp, rfl⟩
theorem size_ca (S : Bk) (x : Int) : (S.ca x).all.length = S.all.length ∧ (S.ca x).done = S.done := by
  cases hy : S.caY x with
  | false => rw [ca_no hy]; exact ⟨rfl, rfl⟩
  | true => rw [ca_yes hy]; exact ⟨by simp [setE], rfl⟩
theorem size_se (S : Bk) (x : Int) : (S.se x).all.length = S.all.length ∧ (S.se x).done.length ≤ S.done.length + 1 := by
  by_cases hy : S.seC x = 0
  · rw [se_yes hy]; exact ⟨by simp [setE], by simp⟩
  · rw [se_no hy]; exact ⟨rfl, by omega⟩
end Bk
end Go.Proofs.Ytfmpipihjnpimaa
