/- BookTotes: the states, as plain data. -/
import Derived.Test.YtfmpipihjnpimaaBmt
namespace Go.Proofs.Ytfmpipihjnpimaa
set_option linter.unusedVariables false

theorem Bk.adC_yes {S : Bk} {r : Rq} (h : S.adY r = true) : S.adC r = 0 := by
  unfold Bk.adY at h
  simp at h
  exact h.1
def lo (st : Int) (t n : Nat) : List Rq := (List.range (n - t)).map (fun j : Nat => ⟨(t : Int) + 1 + (j : Int), st, (t : Int) + 1 + (j : Int)⟩)
def hi (st : Int) (t : Nat) : List Rq := (List.range t).map (fun j : Nat => ⟨101 + (j : Int), st, 1 + (j : Int)⟩)
theorem lo_mem {st : Int} {t n : Nat} {r : Rq} (h : r ∈ lo st t n) : (t : Int) < r.id ∧ r.id ≤ n ∧ r.tt = r.id ∧ r.st = st := by
  obtain ⟨j, hj, rfl⟩ := List.mem_map.1 h
  rw [List.mem_range] at hj
  refine ⟨?_, ?_, rfl, rfl⟩
  · show (t : Int) < (t : Int) + 1 + (j : Int)
    omega
  · show (t : Int) + 1 + (j : Int) ≤ (n : Int)
    omega
theorem hi_mem {st : Int} {t : Nat} {r : Rq} (h : r ∈ hi st t) : 101 ≤ r.id ∧ 1 ≤ r.tt ∧ r.tt ≤ t := by
  obtain ⟨j, hj, rfl⟩ := List.mem_map.1 h
  rw [List.mem_range] at hj
  refine ⟨?_, ?_, ?_⟩
  · show (101 : Int) ≤ 101 + (j : Int)
    omega
  · show (1 : Int) ≤ 1 + (j : Int)
    omega
  · show (1 : Int) + (j : Int) ≤ (t : Int)
    omega
theorem lo_head {st : Int} {t n : Nat} (h : t < n) : lo st t n = ⟨(t : Int) + 1, st, (t : Int) + 1⟩ :: lo st (t + 1) n := by
  unfold lo
  rw [show n - t = (n - (t + 1)) + 1 by omega, List.range_succ_eq_map, List.map_cons, List.map_map]
  congr 1
  simp
  intro a _
  omega
theorem lo_add (st : Int) (t : Nat) : lo st 0 t ++ [⟨(t : Int) + 1, st, (t : Int) + 1⟩] = lo st 0 (t + 1) := by
  unfold lo
  rw [show t + 1 - 0 = (t - 0) + 1 by omega, List.range_succ, List.map_append]
  simp
  omega
theorem hi_add (st : Int) (t : Nat) : hi st t ++ [⟨101 + (t : Int), st, (t : Int) + 1⟩] = hi st (t + 1) := by
  unfold hi
  rw [List.range_succ, List.map_append]
  simp
  omega

structure J1 (st : Int) (S : Bk) (t : Nat) : Prop where
  op : ops S.all = lo st 0 t
  dn : S.done = []
  ids : ∀ e ∈ S.all, 1 ≤ e.r.id ∧ e.r.id ≤ t
  sts : ∀ e ∈ S.all, e.r.st = st
  fn : ∀ i : Int, 1 ≤ i → i ≤ t → fnd S.all i = some ⟨⟨i, st, i⟩, 1⟩
  len : S.all.length = t
structure J2 (st : Int) (n : Nat) (S : Bk) (t : Nat) : Prop where
  op : ops S.all = lo st t n ++ hi st t
  dn : S.done.length = (t + 1) / 2
  ids : ∀ e ∈ S.all, (1 ≤ e.r.id ∧ e.r.id ≤ n) ∨ (101 ≤ e.r.id ∧ e.r.id ≤ 100 + t)
  sts : ∀ e ∈ S.all, e.r.st = st
  fn : ∀ i : Int, t < i → i ≤ n → fnd S.all i = some ⟨⟨i, st, i⟩, 1⟩
  len : S.all.length = n + t
theorem J1.new (st : Int) : J1 st Bk.new 0 := ⟨rfl, rfl, by simp [Bk.new], by simp [Bk.new], fun i h1 h2 => by simp at h2; omega, rfl⟩
theorem J1.two {st : Int} {S : Bk} {n : Nat} (h : J1 st S n) : J2 st n S 0 :=
  ⟨by rw [h.op]; simp [hi], by rw [h.dn]; rfl, fun e he => .inl (h.ids e he), h.sts, fun i h1 h2 => h.fn i (by simp at h1; omega) h2, by rw [h.len]; omega⟩

theorem J1.yes {st : Int} {S : Bk} {t : Nat} (h : J1 st S t) (ht : t < 30) (h0 : 0 ≤ st) (h1 : st ≤ 39) : S.adY ⟨(t : Int) + 1, st, (t : Int) + 1⟩ = true := by
  refine Bk.adY_iff.2 ⟨⟨h0, h1, ?_, ?_⟩, fnd_none.2 fun e he q => ?_, ?_, ?_⟩
  · show (1 : Int) ≤ (t : Int) + 1
    omega
  · show (t : Int) + 1 ≤ 30
    omega
  · have := h.ids e he
    simp only at q
    omega
  · unfold wnt
    rw [h.op, List.find?_eq_none]
    intro r hr
    have := lo_mem hr
    simp only [beq_iff_eq]
    omega
  · rw [h.op]; simp [lo]; omega
theorem J1.add {st : Int} {S : Bk} {t : Nat} (h : J1 st S t) (ht : t < 30) (h0 : 0 ≤ st) (h1 : st ≤ 39) : J1 st (S.ad ⟨(t : Int) + 1, st, (t : Int) + 1⟩) (t + 1) := by
  rw [Bk.ad_yes (h.yes ht h0 h1)]
  refine ⟨?_, h.dn, ?_, ?_, ?_, ?_⟩
  · show ops (S.all ++ [_]) = _
    rw [ops_add, h.op, lo_add]
  · intro e he
    rcases List.mem_append.1 he with he | he
    · have := h.ids e he
      omega
    · simp at he
      subst he
      simp only
      omega
  · intro e he
    rcases List.mem_append.1 he with he | he
    · exact h.sts e he
    · simp at he
      subst he
      rfl
  · intro i i1 i2
    show fnd (S.all ++ [_]) i = _
    rw [fnd_add]
    by_cases q : i ≤ t
    · rw [h.fn i i1 q]; rfl
    · obtain rfl : i = (t : Int) + 1 := by omega
      rw [fnd_none.2 (fun e he q => by have := h.ids e he; omega)]
      simp
  · show (S.all ++ [_]).length = _
    rw [List.length_append, h.len]; rfl
theorem J1.no {st : Int} {S : Bk} {t : Nat} (h : J1 st S (t + 1)) (ht : t < 30) (h0 : 0 ≤ st) (h1 : st ≤ 39) : S.adC ⟨100 + ((t : Int) + 1), st, (t : Int) + 1⟩ = 160 := by
  unfold Bk.adC
  have hr : rng ⟨100 + ((t : Int) + 1), st, (t : Int) + 1⟩ := ⟨h0, h1, by show (1 : Int) ≤ (t : Int) + 1; omega, by show (t : Int) + 1 ≤ 30; omega⟩
  rw [if_pos hr, fnd_none.2 (fun e he q => by have := h.ids e he; simp only at q; omega)]
  simp only
  rw [if_pos]
  cases q : wnt S.all ((t : Int) + 1) with
  | some r => rfl
  | none =>
    unfold wnt at q
    rw [h.op, List.find?_eq_none] at q
    have := q ⟨(t : Int) + 1, st, (t : Int) + 1⟩ (by rw [← lo_add]; simp)
    simp at this
theorem Bk.adY_no {S : Bk} {r : Rq} (h : S.adC r ≠ 0) : S.adY r = false := by
  unfold Bk.adY
  rw [decide_eq_false h]; rfl

/-- the first one ends: by a Serve or a Cancel -/
theorem J2.sta {st : Int} {S : Bk} {n t : Nat} (h : J2 st n S t) (ht : t < n) : S.sta ((t : Int) + 1) = 1 := by
  rw [Bk.sta_of (h.fn _ (by omega) (by omega))]
theorem J2.ca {st : Int} {S : Bk} {n t : Nat} (h : J2 st n S t) (ht : t < n) : S.caY ((t : Int) + 1) = true ∧ S.caC ((t : Int) + 1) = 0 := by
  refine ⟨?_, ?_⟩
  · unfold Bk.caY; rw [h.sta ht]; rfl
  · unfold Bk.caC; rw [h.fn _ (by omega) (by omega)]; rfl
theorem J2.se {st : Int} {S : Bk} {n t : Nat} (h : J2 st n S t) (ht : t < n) : S.seC ((t : Int) + 1) = 0 := by
  refine Bk.seC_iff.2 ⟨_, h.fn _ (by omega) (by omega), rfl, ?_⟩
  unfold fst
  rw [h.op, lo_head ht, List.cons_append, List.find?_cons]
  simp
/-- behind the end: the state, and what may be added then -/
structure J3 (st : Int) (n : Nat) (S : Bk) (t : Nat) : Prop where
  op : ops S.all = lo st (t + 1) n ++ hi st t
  dn : S.done.length = (t + 1 + 1) / 2
  ids : ∀ e ∈ S.all, (1 ≤ e.r.id ∧ e.r.id ≤ n) ∨ (101 ≤ e.r.id ∧ e.r.id ≤ 100 + t)
  sts : ∀ e ∈ S.all, e.r.st = st
  fn : ∀ i : Int, t + 1 < i → i ≤ n → fnd S.all i = some ⟨⟨i, st, i⟩, 1⟩
  len : S.all.length = n + t
theorem J2.set {st : Int} {S : Bk} {n t : Nat} (h : J2 st n S t) (hok : S.Ok) (ht : t < n) (hn : n ≤ 30) (v : Int) (hv : v ≠ 1) (D : List Int) (hD : D.length = (t + 1 + 1) / 2) : J3 st n ⟨setE S.all ((t : Int) + 1) v, D⟩ t := by
  refine ⟨?_, hD, ?_, ?_, ?_, ?_⟩
  · show ops (setE S.all _ v) = _
    rw [ops_set hok.nd _ v hv, h.op, lo_head ht, List.cons_append, List.filter_cons]
    simp only [bne_self_eq_false, Bool.false_eq_true, if_false]
    rw [List.filter_eq_self]
    intro r hr
    rw [bne_iff_ne]
    rcases List.mem_append.1 hr with hr | hr
    · have := lo_mem hr; omega
    · have := hi_mem hr; omega
  · intro e he
    obtain ⟨e', q1, q2, _⟩ := setE_mem he
    rw [q2]; exact h.ids e' q1
  · intro e he
    obtain ⟨e', q1, q2, _⟩ := setE_mem he
    rw [q2]; exact h.sts e' q1
  · intro i i1 i2
    show fnd (setE S.all _ v) i = _
    rw [fnd_set, h.fn i (by omega) i2]
    simp only [Option.map_some]
    rw [if_neg]
    omega
  · show (setE S.all _ v).length = _
    simp [setE, h.len]
theorem J3.yes {st : Int} {S : Bk} {n t : Nat} (h : J3 st n S t) (ht : t < n) (hn : n ≤ 30) (h0 : 0 ≤ st) (h1 : st ≤ 39) : S.adY ⟨100 + ((t : Int) + 1), st, (t : Int) + 1⟩ = true := by
  refine Bk.adY_iff.2 ⟨⟨h0, h1, ?_, ?_⟩, fnd_none.2 fun e he q => ?_, ?_, ?_⟩
  · show (1 : Int) ≤ (t : Int) + 1
    omega
  · show (t : Int) + 1 ≤ 30
    omega
  · have := h.ids e he
    simp only at q
    omega
  · unfold wnt
    rw [h.op, List.find?_eq_none]
    intro r hr
    rw [beq_iff_eq]
    rcases List.mem_append.1 hr with hr | hr
    · have := lo_mem hr; simp only; omega
    · have := hi_mem hr; simp only; omega
  · rw [h.op]; simp [lo, hi]; omega
theorem J3.add {st : Int} {S : Bk} {n t : Nat} (h : J3 st n S t) (ht : t < n) (hn : n ≤ 30) (h0 : 0 ≤ st) (h1 : st ≤ 39) : J2 st n (S.ad ⟨100 + ((t : Int) + 1), st, (t : Int) + 1⟩) (t + 1) := by
  rw [Bk.ad_yes (h.yes ht hn h0 h1)]
  refine ⟨?_, h.dn, ?_, ?_, ?_, ?_⟩
  · show ops (S.all ++ [_]) = _
    rw [ops_add, h.op, List.append_assoc, show 100 + ((t : Int) + 1) = 101 + (t : Int) by omega, hi_add]
  · intro e he
    rcases List.mem_append.1 he with he | he
    · have := h.ids e he
      omega
    · simp at he
      subst he
      simp only
      omega
  · intro e he
    rcases List.mem_append.1 he with he | he
    · exact h.sts e he
    · simp at he
      subst he
      rfl
  · intro i i1 i2
    show fnd (S.all ++ [_]) i = _
    rw [fnd_add, h.fn i (by omega) i2]; rfl
  · show (S.all ++ [_]).length = _
    rw [List.length_append, h.len]; rfl
theorem J2.done {st : Int} {S : Bk} {n : Nat} (h : J2 st n S n) (hok : S.Ok) : ops S.all = hi st n ∧ (S.sv st).length = (n + 1) / 2 := by
  refine ⟨by rw [h.op]; simp [lo], ?_⟩
  rw [← h.dn]
  unfold Bk.sv
  rw [List.filter_eq_self.2]
  intro x hx
  obtain ⟨e, he, q, _⟩ := hok.dn x hx
  have h1 := fnd_of hok.nd he
  rw [q] at h1
  unfold stn
  rw [h1]
  simp [h.sts e he]
end Go.Proofs.Ytfmpipihjnpimaa
