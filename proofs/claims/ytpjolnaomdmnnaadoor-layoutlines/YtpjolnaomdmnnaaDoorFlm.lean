/- By the last place of a name or by the first: the same answer. -/
import Derived.Test.YtpjolnaomdmnnaaDoorRgd
namespace Go.Proofs.YtpjolnaomdmnnaaDoor
open Go.RowKit
set_option linter.unusedVariables false

theorem lastFrom_acc (s : ByteArray) : ∀ (l : List Nd) (i : Nat) (acc : Option Int), s ∉ l.map (·.name) → lastFrom i acc l s = acc
  | [], _, _, _ => rfl
  | n :: l, i, acc, h => by
    simp only [List.map_cons, List.mem_cons, not_or] at h
    rw [lastFrom, if_neg (fun e => h.1 e.symm), lastFrom_acc s l (i + 1) acc h.2]
theorem firstFrom_none (s : ByteArray) : ∀ (l : List Nd) (i : Nat), s ∉ l.map (·.name) → firstFrom i l s = none
  | [], _, _ => rfl
  | n :: l, i, h => by
    simp only [List.map_cons, List.mem_cons, not_or] at h
    rw [firstFrom, if_neg (fun e => h.1 e.symm), firstFrom_none s l (i + 1) h.2]
theorem firstFrom_some (s : ByteArray) : ∀ (l : List Nd) (i : Nat), s ∈ l.map (·.name) → ∃ x, firstFrom i l s = some x
  | [], _, h => by simp at h
  | n :: l, i, h => by
    rw [firstFrom]
    by_cases e : n.name = s
    · rw [if_pos e]; exact ⟨_, rfl⟩
    · rw [if_neg e]
      simp only [List.map_cons, List.mem_cons] at h
      exact firstFrom_some s l (i + 1) (h.resolve_left (fun h => e h.symm))
theorem lastFrom_some (s : ByteArray) : ∀ (l : List Nd) (i : Nat) (acc : Option Int), s ∈ l.map (·.name) → ∃ x, lastFrom i acc l s = some x
  | [], _, _, h => by simp at h
  | n :: l, i, acc, h => by
    rw [lastFrom]
    by_cases hl : s ∈ l.map (·.name)
    · exact lastFrom_some s l (i + 1) _ hl
    · rw [lastFrom_acc s l _ _ hl]
      simp only [List.map_cons, List.mem_cons] at h
      rw [if_pos (h.resolve_right hl).symm]
      exact ⟨_, rfl⟩
theorem last_first (s : ByteArray) : ∀ (l : List Nd) (i : Nat), (l.map (·.name)).Nodup → lastFrom i none l s = firstFrom i l s
  | [], _, _ => rfl
  | n :: l, i, h => by
    simp only [List.map_cons, List.nodup_cons] at h
    rw [lastFrom, firstFrom]
    by_cases e : n.name = s
    · rw [if_pos e, if_pos e]
      rw [lastFrom_acc s l _ _ (by rw [← e]; exact h.1)]
    · rw [if_neg e, if_neg e]
      exact last_first s l (i + 1) h.2
theorem at_none (ns : List Nd) (s : ByteArray) : (lastAt ns s = none ↔ firstAt ns s = none) := by
  unfold lastAt firstAt
  by_cases h : s ∈ ns.map (·.name)
  · obtain ⟨x, hx⟩ := lastFrom_some s ns 0 none h
    obtain ⟨y, hy⟩ := firstFrom_some s ns 0 h
    rw [hx, hy]
    simp
  · rw [lastFrom_acc s ns 0 none h, firstFrom_none s ns 0 h]
theorem at_same (ns : List Nd) (h : (ns.map (·.name)).Nodup) : lastAt ns = firstAt ns := by
  funext s
  exact last_first s ns 0 h
/-- one line: both fail, or both go on with the same nodes -/
theorem line_both {st st' : St} (l : ByteArray) (h : st.1 = st'.1) :
    (lineS lastAt st l = none ∧ lineS firstAt st' l = none) ∨ ∃ x y, lineS lastAt st l = some x ∧ lineS firstAt st' l = some y ∧ x.1 = y.1 ∧ (∃ t, x.1 = st.1 ++ t) ∧ ((st.1.map (·.name)).Nodup → st.2 = st'.2 → x.2 = y.2) := by
  obtain ⟨ns, es⟩ := st
  obtain ⟨ns', es'⟩ := st'
  simp only at h
  subst h
  unfold lineS
  by_cases hs : skipS l = true
  · rw [if_pos hs, if_pos hs]
    exact .inr ⟨_, _, rfl, rfl, rfl, ⟨[], by simp⟩, fun _ h => h⟩
  · rw [if_neg hs, if_neg hs]
    cases pieces 32 l with
    | nil => exact .inl ⟨rfl, rfl⟩
    | cons w ws =>
      simp only
      by_cases e1 : w = nodeWd
      · rw [if_pos e1, if_pos e1]
        cases nodeS ws with
        | none => exact .inl ⟨rfl, rfl⟩
        | some n => exact .inr ⟨_, _, rfl, rfl, rfl, ⟨[n], rfl⟩, fun _ h => h⟩
      · rw [if_neg e1, if_neg e1]
        by_cases e2 : w = edgeWd
        · rw [if_pos e2, if_pos e2]
          match ws with
          | [] => exact .inl ⟨rfl, rfl⟩
          | [_] => exact .inl ⟨rfl, rfl⟩
          | a :: b :: _ :: _ => exact .inl ⟨rfl, rfl⟩
          | [a, b] =>
            have na := at_none ns a
            have nb := at_none ns b
            unfold edgeS
            simp only
            cases ha : lastAt ns a with
            | none =>
              rw [na.1 ha]
              exact .inl ⟨rfl, rfl⟩
            | some x =>
              cases ha' : firstAt ns a with
              | none => rw [na.2 ha'] at ha; cases ha
              | some x' =>
                cases hb : lastAt ns b with
                | none =>
                  rw [nb.1 hb]
                  exact .inl ⟨rfl, rfl⟩
                | some y =>
                  cases hb' : firstAt ns b with
                  | none => rw [nb.2 hb'] at hb; cases hb
                  | some y' =>
                    refine .inr ⟨_, _, rfl, rfl, rfl, ⟨[], by simp⟩, fun hnd he => ?_⟩
                    have hs := at_same ns hnd
                    rw [hs] at ha hb
                    rw [ha] at ha'
                    rw [hb] at hb'
                    cases ha'
                    cases hb'
                    simp only at he ⊢
                    rw [he]
        · rw [if_neg e2, if_neg e2]
          exact .inl ⟨rfl, rfl⟩
theorem lines_both : ∀ (ls : List ByteArray) (i : Nat) (st st' : St), st.1 = st'.1 →
    (∃ n, linesS lastAt i st ls = .inr n ∧ linesS firstAt i st' ls = .inr n) ∨ ∃ x y, linesS lastAt i st ls = .inl x ∧ linesS firstAt i st' ls = .inl y ∧ x.1 = y.1 ∧ (∃ t, x.1 = st.1 ++ t) ∧ ((x.1.map (·.name)).Nodup → st.2 = st'.2 → x.2 = y.2)
  | [], i, st, st', h => .inr ⟨st, st', rfl, rfl, h, ⟨[], by simp⟩, fun _ h => h⟩
  | l :: ls, i, st, st', h => by
    rcases line_both l h with ⟨h1, h2⟩ | ⟨x, y, h1, h2, h3, ⟨t, h4⟩, h5⟩
    · refine .inl ⟨i + 1, ?_, ?_⟩
      · rw [linesS, h1]
      · rw [linesS, h2]
    · rw [linesS, h1, linesS, h2]
      simp only
      rcases lines_both ls (i + 1) x y h3 with ⟨n, h6, h7⟩ | ⟨p, q, h6, h7, h8, ⟨u, h9⟩, h10⟩
      · exact .inl ⟨n, h6, h7⟩
      · refine .inr ⟨p, q, h6, h7, h8, ⟨t ++ u, by rw [h9, h4, List.append_assoc]⟩, fun hnd he => h10 hnd (h5 ?_ he)⟩
        rw [h9, h4, List.append_assoc, List.map_append] at hnd
        exact (List.nodup_append.1 hnd).1
theorem parse_both (text : ByteArray) : parseS lastAt text = parseS firstAt text := by
  unfold parseS
  split
  · rfl
  · rcases lines_both (pieces 10 text) 0 ([], []) ([], []) rfl with ⟨n, h1, h2⟩ | ⟨x, y, h1, h2, h3, _, h4⟩
    · rw [h1, h2]
    · rw [h1, h2]
      simp only
      by_cases hg : good x.1 x.2 = true
      · have hnd : (x.1.map (·.name)).Nodup := by
          unfold good goodN at hg
          simp only [Bool.and_eq_true, decide_eq_true_eq] at hg
          exact hg.1.2.2.2
        have e : x = y := by
          obtain ⟨a, b⟩ := x
          obtain ⟨c, d⟩ := y
          simp only at h3 h4
          rw [h3, h4 hnd (by first | trivial | rfl)]
        rw [e]
      · have hn : ¬ (x.1.map (·.name)).Nodup ∨ (x.1.map (·.name)).Nodup := Decidable.em _ |>.symm
        rcases hn with hn | hn
        · have hg' : good y.1 y.2 ≠ true := fun h => by
            unfold good goodN at h
            simp only [Bool.and_eq_true, decide_eq_true_eq] at h
            rw [h3] at hn
            exact hn h.1.2.2.2
          rw [if_neg hg, if_neg hg']
        · have e : x = y := by
            obtain ⟨a, b⟩ := x
            obtain ⟨c, d⟩ := y
            simp only at h3 h4
            rw [h3, h4 hn (by first | trivial | rfl)]
          rw [e]
end Go.Proofs.YtpjolnaomdmnnaaDoor
