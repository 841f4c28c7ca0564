/- BookApart: a book and the part of it that is one station's, as plain data. -/
import Derived.Test.YtfmpipihjnpimaaBtm
namespace Go.Proofs.Ytfmpipihjnpimaa
set_option linter.unusedVariables false

structure Ap (s : Int) (A B : Bk) (mine : List Int) : Prop where
  all : B.all = A.all.filter (fun e => e.r.st == s)
  md : ∀ e ∈ A.all, e.r.st = e.r.tt.tmod 3
  ids : mine = B.all.map (·.r.id)
  done : B.done = A.sv s

theorem Ap.new (s : Int) : Ap s Bk.new Bk.new [] := ⟨rfl, by simp [Bk.new], rfl, rfl⟩
theorem find_filter {α : Type} (p q : α → Bool) (l : List α) (h : ∀ a ∈ l, q a = true → p a = true) : (l.filter p).find? q = l.find? q := by
  induction l with
  | nil => rfl
  | cons a l ih =>
    have ih := ih (fun b hb => h b (by simp [hb]))
    rw [List.filter_cons]
    by_cases hp : p a = true
    · rw [if_pos hp, List.find?_cons, List.find?_cons, ih]
    · rw [if_neg hp, List.find?_cons, ih]
      have : q a = false := by
        cases hq : q a with
        | false => rfl
        | true => exact absurd (h a (by simp) hq) hp
      rw [this]
theorem ops_filter (l : List En) (s : Int) : ops (l.filter (fun e => e.r.st == s)) = (ops l).filter (fun r => r.st == s) := by
  unfold ops
  rw [List.filter_filter, List.filter_map, List.filter_filter]
  congr 1
  congr 1
  funext e
  simp only [Function.comp]
  exact Bool.and_comm _ _
theorem setE_filter (l : List En) (x v s : Int) : setE (l.filter (fun e => e.r.st == s)) x v = (setE l x v).filter (fun e => e.r.st == s) := by
  unfold setE
  rw [List.filter_map]
  congr 2
  funext e
  simp only [Function.comp]
  split <;> rfl

variable {s : Int} {A B : Bk} {mine : List Int}
theorem Ap.fst (h : Ap s A B mine) : fst B.all s = fst A.all s := by
  unfold Ytfmpipihjnpimaa.fst
  rw [h.all, ops_filter]
  exact find_filter _ _ _ (fun a _ q => q)
theorem Ap.in {x : Int} (h : Ap s A B mine) (ha : A.Ok) (hx : x ∈ mine) : ∃ e, fnd A.all x = some e ∧ fnd B.all x = some e ∧ e.r.st = s := by
  rw [h.ids] at hx
  obtain ⟨e, he, rfl⟩ := List.mem_map.1 hx
  have h1 : e ∈ A.all := by rw [h.all] at he; exact (List.mem_filter.1 he).1
  have h2 : e.r.st = s := by rw [h.all] at he; simpa using (List.mem_filter.1 he).2
  have hb : (B.all.map (·.r.id)).Nodup := by rw [h.all]; exact ha.nd.sublist (List.filter_sublist.map _)
  exact ⟨e, fnd_of ha.nd h1, fnd_of hb he, h2⟩
theorem Ap.out {x : Int} (h : Ap s A B mine) (hx : x ∉ mine) : ∀ e ∈ A.all, e.r.id = x → e.r.st ≠ s := fun e he q hs => by
  apply hx
  rw [h.ids, h.all]
  exact List.mem_map.2 ⟨e, List.mem_filter.2 ⟨he, by simpa using hs⟩, q⟩
theorem Ap.sv (h : Ap s A B mine) (hb : B.Ok) : B.sv s = A.sv s := by
  rw [← h.done]
  unfold Bk.sv
  rw [List.filter_eq_self]
  intro x hx
  obtain ⟨e, he, q, _⟩ := hb.dn x hx
  have h1 := fnd_of hb.nd he
  rw [q] at h1
  unfold stn
  rw [h1]
  rw [h.all] at he
  exact (List.mem_filter.1 he).2
theorem Ap.md_set (h : Ap s A B mine) (x v : Int) : ∀ e ∈ setE A.all x v, e.r.st = e.r.tt.tmod 3 := fun e he => by
  obtain ⟨e', h1, h2, _⟩ := setE_mem he
  rw [h2]; exact h.md e' h1
theorem sv_setE (S : Bk) (x v : Int) (D : List Int) (s : Int) : Bk.sv ⟨setE S.all x v, D⟩ s = Bk.sv ⟨S.all, D⟩ s := by
  unfold Bk.sv
  simp only [stn_set]

/-- one that came -/
theorem Ap.add (h : Ap s A B mine) (ha : A.Ok) (hb : B.Ok) {r : Rq} (hm : r.st = r.tt.tmod 3) (hs : r.st = s) (hf : fnd A.all r.id = none) :
    B.adY r = A.adY r ∧ Ap s (A.ad r) (B.ad r) (if A.adY r = true then mine ++ [r.id] else mine) := by
  have e1 : fnd B.all r.id = none := by
    rw [fnd_none] at hf ⊢
    intro e he
    rw [h.all] at he
    exact hf e (List.mem_filter.1 he).1
  have e2 : wnt B.all r.tt = wnt A.all r.tt := by
    unfold wnt
    rw [h.all, ops_filter]
    refine find_filter _ _ _ (fun a hq q => ?_)
    obtain ⟨e, he, _, rfl⟩ := ops_mem.1 hq
    have := h.md e he
    have q' : e.r.tt = r.tt := by simpa using q
    rw [this, q', ← hm, hs]
    simp
  have hy : B.adY r = A.adY r := by
    rw [Bool.eq_iff_iff, Bk.adY_iff, Bk.adY_iff, e1, hf, e2]
    have := ha.few
    have := hb.few
    constructor
    · rintro ⟨q1, q2, q3, _⟩
      exact ⟨q1, rfl, q3, by omega⟩
    · rintro ⟨q1, q2, q3, _⟩
      exact ⟨q1, rfl, q3, by omega⟩
  refine ⟨hy, ?_⟩
  cases q : A.adY r with
  | false =>
    rw [Bk.ad_no q, Bk.ad_no (hy.trans q)]
    exact h
  | true =>
    rw [Bk.ad_yes q, Bk.ad_yes (hy.trans q), if_pos rfl]
    refine ⟨?_, ?_, ?_, ?_⟩
    · show B.all ++ [_] = (A.all ++ [_]).filter _
      rw [List.filter_append, h.all]
      simp [hs]
    · intro e he
      rcases List.mem_append.1 he with he | he
      · exact h.md e he
      · simp at he; subst he; exact hm
    · show _ = (B.all ++ [_]).map _
      rw [List.map_append, h.ids]; rfl
    · show B.done = _
      rw [h.done]
      unfold Bk.sv
      apply List.filter_congr
      intro x hx
      obtain ⟨e, he, q, _⟩ := ha.dn x hx
      have h1 := fnd_of ha.nd he
      rw [q] at h1
      unfold stn
      simp only [fnd_add, h1, Option.some_or]
theorem Ap.other (h : Ap s A B mine) (ha : A.Ok) {r : Rq} (hm : r.st = r.tt.tmod 3) (hs : r.st ≠ s) : Ap s (A.ad r) B mine := by
  cases q : A.adY r with
  | false => rw [Bk.ad_no q]; exact h
  | true =>
    rw [Bk.ad_yes q]
    refine ⟨?_, ?_, h.ids, ?_⟩
    · show B.all = (A.all ++ [_]).filter _
      rw [List.filter_append, h.all]
      simp [hs]
    · intro e he
      rcases List.mem_append.1 he with he | he
      · exact h.md e he
      · simp at he; subst he; exact hm
    · show B.done = _
      rw [h.done]
      unfold Bk.sv
      apply List.filter_congr
      intro x hx
      obtain ⟨e, he, q, _⟩ := ha.dn x hx
      have h1 := fnd_of ha.nd he
      rw [q] at h1
      unfold stn
      simp only [fnd_add, h1, Option.some_or]
theorem ad_out {S : Bk} {r : Rq} (h : ¬ rng r) : S.adY r = false ∧ S.ad r = S := by
  have : S.adY r = false := Bk.adY_no (by rw [show S.adC r = 1 from if_neg h]; decide)
  exact ⟨this, Bk.ad_no this⟩
theorem sta_zero {S : Bk} (hok : S.Ok) {x : Int} (h : S.sta x = 0) : fnd S.all x = none := by
  cases q : fnd S.all x with
  | none => rfl
  | some e =>
    rw [Bk.sta_of q] at h
    have := hok.en e (fnd_some q).1
    omega
/-- a cancellation -/
theorem Ap.ca (h : Ap s A B mine) (ha : A.Ok) {x : Int} (hx : x ∈ mine) : B.caC x = A.caC x ∧ Ap s (A.ca x) (B.ca x) mine := by
  obtain ⟨e, h1, h2, h3⟩ := h.in ha hx
  have hs : B.sta x = A.sta x := by rw [Bk.sta_of h1, Bk.sta_of h2]
  have hy : B.caY x = A.caY x := by unfold Bk.caY; rw [hs]
  refine ⟨by unfold Bk.caC; rw [h1, h2], ?_⟩
  cases q : A.caY x with
  | false => rw [Bk.ca_no q, Bk.ca_no (hy.trans q)]; exact h
  | true =>
    rw [Bk.ca_yes q, Bk.ca_yes (hy.trans q)]
    refine ⟨?_, h.md_set x 3, ?_, ?_⟩
    · show setE B.all x 3 = (setE A.all x 3).filter _
      rw [h.all, setE_filter]
    · show mine = (setE B.all x 3).map _
      rw [setE_ids, h.ids]
    · show B.done = _
      rw [sv_setE, h.done]
theorem setE_out (h : Ap s A B mine) {x v : Int} (hx : x ∉ mine) : B.all = (setE A.all x v).filter (fun e => e.r.st == s) := by
  rw [← setE_filter, ← h.all]
  unfold setE
  conv => lhs; rw [← List.map_id B.all]
  apply List.map_congr_left
  intro e he
  rw [if_neg]
  · rfl
  · intro q
    rw [h.all] at he
    exact h.out hx e (List.mem_filter.1 he).1 q (by simpa using (List.mem_filter.1 he).2)
theorem Ap.caOut (h : Ap s A B mine) {x : Int} (hx : x ∉ mine) : Ap s (A.ca x) B mine := by
  cases q : A.caY x with
  | false => rw [Bk.ca_no q]; exact h
  | true =>
    rw [Bk.ca_yes q]
    refine ⟨setE_out h hx, h.md_set x 3, h.ids, ?_⟩
    show B.done = _
    rw [sv_setE, h.done]
/-- a request served -/
theorem Ap.se (h : Ap s A B mine) (ha : A.Ok) {x : Int} (hx : x ∈ mine) : B.seC x = A.seC x ∧ Ap s (A.se x) (B.se x) mine := by
  obtain ⟨e, h1, h2, h3⟩ := h.in ha hx
  have hc : B.seC x = A.seC x := by
    unfold Bk.seC
    rw [h1, h2]
    simp only [h3, h.fst]
  refine ⟨hc, ?_⟩
  by_cases q : A.seC x = 0
  · rw [Bk.se_yes q, Bk.se_yes (hc.trans q)]
    refine ⟨?_, h.md_set x 2, ?_, ?_⟩
    · show setE B.all x 2 = (setE A.all x 2).filter _
      rw [h.all, setE_filter]
    · show mine = (setE B.all x 2).map _
      rw [setE_ids, h.ids]
    · show B.done ++ [x] = _
      rw [sv_setE, h.done]
      unfold Bk.sv
      have e1 : stn A.all x = s := by unfold stn; rw [h1]; exact h3
      rw [List.filter_append]
      simp [e1]
  · rw [Bk.se_no q, Bk.se_no (by rw [hc]; exact q)]
    exact h
theorem Ap.seOut (h : Ap s A B mine) {x : Int} (hx : x ∉ mine) : Ap s (A.se x) B mine := by
  by_cases q : A.seC x = 0
  · rw [Bk.se_yes q]
    obtain ⟨e, h1, h2, h3⟩ := Bk.seC_iff.1 q
    refine ⟨setE_out h hx, h.md_set x 2, h.ids, ?_⟩
    show B.done = _
    rw [sv_setE, h.done]
    unfold Bk.sv
    have e1 : stn A.all x ≠ s := by
      unfold stn
      rw [h1]
      exact h.out hx e (fnd_some h1).1 (fnd_some h1).2
    rw [List.filter_append]
    simp [e1]
  · rw [Bk.se_no q]; exact h
end Go.Proofs.Ytfmpipihjnpimaa
