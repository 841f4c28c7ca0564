/- A gate as plain data: who waits, who is inside, what each call answers. Knows no program. -/
namespace Go.Proofs.Ytdnkgfljkdbckaa
set_option linter.unusedVariables false

/-- a gate: its credits, who waits, who is inside -/
structure Gt where
  cr : Nat
  wt : List Int
  ins : List Int

structure Gt.Ok (S : Gt) : Prop where
  c0 : 1 ≤ S.cr
  c1 : S.cr ≤ 16
  il : S.ins.length ≤ S.cr
  ml : S.wt.length + S.ins.length ≤ 64
  nd : (S.ins ++ S.wt).Nodup

def Gt.new (c : Nat) : Gt := ⟨c, [], []⟩
theorem Gt.new_ok {c : Nat} (h0 : 1 ≤ c) (h1 : c ≤ 16) : (Gt.new c).Ok := ⟨h0, h1, by simp [Gt.new], by simp [Gt.new], by simp [Gt.new]⟩

/-- where a number waits, or what is wrong -/
def Gt.fp (S : Gt) (x : Int) : Nat := if x ∈ S.wt then S.wt.idxOf x else 0
def Gt.fc (S : Gt) (x : Int) : Int := if x ∈ S.wt then 0 else if x ∈ S.ins then 140 else 4
/-- Accept -/
def Gt.acC (S : Gt) (x : Int) : Int := if x ∈ S.wt ∨ x ∈ S.ins then 2 else if 64 ≤ S.wt.length + S.ins.length then 5 else 0
def Gt.ac (S : Gt) (x : Int) : Gt := if S.acC x = 0 then ⟨S.cr, S.wt ++ [x], S.ins⟩ else S
/-- Cancel -/
def Gt.ca (S : Gt) (x : Int) : Gt := ⟨S.cr, S.wt.erase x, S.ins⟩
/-- Arrive -/
def Gt.arC (S : Gt) (x : Int) : Int := if x ∈ S.wt then (if S.wt.idxOf x = 0 then (if S.cr ≤ S.ins.length then 5 else 0) else 110) else if x ∈ S.ins then 140 else 4
def Gt.ar (S : Gt) (x : Int) : Gt := if S.arC x = 0 then ⟨S.cr, S.wt.tail, S.ins ++ [x]⟩ else S
/-- Leave -/
def Gt.leC (S : Gt) : Int := if S.ins = [] then 4 else 0
def Gt.leV (S : Gt) : Int := S.ins.headD 0
def Gt.le (S : Gt) : Gt := ⟨S.cr, S.wt, S.ins.tail⟩

theorem Gt.ac_no {S : Gt} {x : Int} (h : S.acC x ≠ 0) : S.ac x = S := if_neg h
theorem Gt.ac_yes {S : Gt} {x : Int} (h : S.acC x = 0) : S.ac x = ⟨S.cr, S.wt ++ [x], S.ins⟩ := if_pos h
theorem Gt.acC_yes {S : Gt} {x : Int} (h1 : x ∉ S.wt) (h2 : x ∉ S.ins) (h3 : S.wt.length + S.ins.length < 64) : S.acC x = 0 := by
  unfold Gt.acC; rw [if_neg (by simp [h1, h2]), if_neg (by omega)]
theorem Gt.acC_zero {S : Gt} {x : Int} (h : S.acC x = 0) : x ∉ S.wt ∧ x ∉ S.ins ∧ S.wt.length + S.ins.length < 64 := by
  unfold Gt.acC at h
  by_cases h1 : x ∈ S.wt ∨ x ∈ S.ins
  · rw [if_pos h1] at h; omega
  · rw [if_neg h1] at h
    by_cases h2 : 64 ≤ S.wt.length + S.ins.length
    · rw [if_pos h2] at h; omega
    · exact ⟨fun h' => h1 (.inl h'), fun h' => h1 (.inr h'), by omega⟩
theorem Gt.arC_zero {S : Gt} {x : Int} (h : S.arC x = 0) : (∃ r, S.wt = x :: r) ∧ S.ins.length < S.cr := by
  unfold Gt.arC at h
  by_cases h1 : x ∈ S.wt
  · rw [if_pos h1] at h
    by_cases h2 : S.wt.idxOf x = 0
    · rw [if_pos h2] at h
      by_cases h3 : S.cr ≤ S.ins.length
      · rw [if_pos h3] at h; omega
      · refine ⟨?_, by omega⟩
        cases hw : S.wt with
        | nil => rw [hw] at h1; cases h1
        | cons y r =>
          rw [hw, List.idxOf_cons] at h2
          cases he : (y == x) with
          | true => rw [beq_iff_eq] at he; exact ⟨r, by rw [he]⟩
          | false => rw [he] at h2; simp at h2
    · rw [if_neg h2] at h; omega
  · rw [if_neg h1] at h
    by_cases h2 : x ∈ S.ins
    · rw [if_pos h2] at h; omega
    · rw [if_neg h2] at h; omega
theorem Gt.arC_yes {S : Gt} {x : Int} {r : List Int} (h : S.wt = x :: r) (h2 : S.ins.length < S.cr) : S.arC x = 0 := by
  unfold Gt.arC
  rw [if_pos (by rw [h]; simp), if_pos (by rw [h]; simp), if_neg (by omega)]
theorem Gt.arC_full {S : Gt} {x : Int} {r : List Int} (h : S.wt = x :: r) (h2 : S.cr ≤ S.ins.length) : S.arC x = 5 := by
  unfold Gt.arC
  rw [if_pos (by rw [h]; simp), if_pos (by rw [h]; simp), if_pos (by omega)]
theorem Gt.ar_no {S : Gt} {x : Int} (h : S.arC x ≠ 0) : S.ar x = S := if_neg h
theorem Gt.ar_yes {S : Gt} {x : Int} (h : S.arC x = 0) : S.ar x = ⟨S.cr, S.wt.tail, S.ins ++ [x]⟩ := if_pos h
theorem Gt.ca_no {S : Gt} {x : Int} (h : x ∉ S.wt) : S.ca x = S := by unfold Gt.ca; rw [List.erase_of_not_mem h]

theorem Gt.Ok.ac {S : Gt} (h : S.Ok) (x : Int) : (S.ac x).Ok := by
  by_cases hc : S.acC x = 0
  · obtain ⟨h1, h2, h3⟩ := Gt.acC_zero hc
    rw [Gt.ac_yes hc]
    refine ⟨h.c0, h.c1, h.il, by simp; omega, ?_⟩
    have := h.nd
    simp only [← List.append_assoc]
    rw [List.nodup_append] at this ⊢
    refine ⟨h.nd, by simp, fun a ha b hb => ?_⟩
    rcases List.mem_append.1 ha with q | q
    · simp at hb; subst hb; exact fun e => h2 (e ▸ q)
    · simp at hb; subst hb; exact fun e => h1 (e ▸ q)
  · rw [Gt.ac_no hc]; exact h
theorem Gt.Ok.ca {S : Gt} (h : S.Ok) (x : Int) : (S.ca x).Ok := by
  refine ⟨h.c0, h.c1, h.il, ?_, ?_⟩
  · have := List.length_erase_le (a := x) (l := S.wt)
    have := h.ml
    simp only [Gt.ca]; omega
  · have := h.nd
    simp only [Gt.ca]
    rw [List.nodup_append] at this ⊢
    exact ⟨this.1, this.2.1.erase x, fun a ha b hb => this.2.2 a ha b (List.mem_of_mem_erase hb)⟩
theorem Gt.Ok.ar {S : Gt} (h : S.Ok) (x : Int) : (S.ar x).Ok := by
  by_cases hc : S.arC x = 0
  · obtain ⟨⟨r, hr⟩, h2⟩ := Gt.arC_zero hc
    rw [Gt.ar_yes hc, hr]
    refine ⟨h.c0, h.c1, by simp; omega, ?_, ?_⟩
    · have := h.ml
      rw [hr] at this
      simp at this ⊢; omega
    · have := h.nd
      rw [hr] at this
      simpa using this
  · rw [Gt.ar_no hc]; exact h
theorem Gt.Ok.le {S : Gt} (h : S.Ok) : S.le.Ok := by
  have h1 := h.il
  have h2 := h.ml
  refine ⟨h.c0, h.c1, by simp [Gt.le]; omega, by simp [Gt.le]; omega, ?_⟩
  have := h.nd
  simp only [Gt.le]
  cases hi : S.ins with
  | nil => rw [hi] at this; simpa using this
  | cons y r =>
    rw [hi] at this
    simp only [List.cons_append, List.nodup_cons] at this
    simpa using this.2
theorem Gt.Ok.apart {S : Gt} (h : S.Ok) {x : Int} (h1 : x ∈ S.wt) : x ∉ S.ins := fun h2 => by
  have := h.nd
  rw [List.nodup_append] at this
  exact this.2.2 x h2 x h1 rfl
theorem Gt.Ok.ndw {S : Gt} (h : S.Ok) : S.wt.Nodup := by
  have := h.nd
  rw [List.nodup_append] at this
  exact this.2.1
/-- a place taken out -/
theorem erase_cut (l : List Int) (x : Int) : l.take (l.idxOf x) ++ l.drop (l.idxOf x + 1) = l.erase x := by
  rw [← List.eraseIdx_eq_take_drop_succ]; exact (List.erase_eq_eraseIdx_of_idxOf (by rfl)).symm
theorem erase_head {l : List Int} {x : Int} (hm : x ∈ l) (h : l.idxOf x = 0) : l.erase x = l.tail := by
  rw [← erase_cut, h]; simp
end Go.Proofs.Ytdnkgfljkdbckaa
