/- A line that is none, put between the lines of a text that is shown: it is told by its number. -/
import Derived.Test.YtpjolnaomdmnnaaDoorBakM
import Derived.Test.YtpjolnaomdmnnaaDoorSho
namespace Go.Proofs.YtpjolnaomdmnnaaDoor
open Go.RowKit
set_option linter.unusedVariables false

def flt (bs : List (List UInt8)) : List UInt8 := bs.flatMap (fun b => b ++ [10])
theorem flt_app (a b : List (List UInt8)) : flt (a ++ b) = flt a ++ flt b := by simp [flt]
theorem flt_cons (b : List UInt8) (bs : List (List UInt8)) : flt (b :: bs) = b ++ 10 :: flt bs := by simp [flt]
theorem flt_nil {bs : List (List UInt8)} (h : flt bs = []) : bs = [] := by
  cases bs with
  | nil => rfl
  | cons b bs => rw [flt_cons] at h; simp at h
theorem lines_pre (lk : List Nd → ByteArray → Option Int) : ∀ (a b : List ByteArray) (i : Nat) (st x : St), linesS lk i st (a ++ b) = .inl x → ∃ y, linesS lk i st a = .inl y
  | [], _, _, st, _, _ => ⟨st, rfl⟩
  | l :: a, b, i, st, x, h => by
    rw [List.cons_append, linesS] at h
    rw [linesS]
    cases hl : lineS lk st l with
    | none => rw [hl] at h; cases h
    | some st' => rw [hl] at h; exact lines_pre lk a b _ st' x h
/-- a line that begins with a question mark is none -/
theorem line_bad (lk : List Nd → ByteArray → Option Int) (st : St) (l : List UInt8) : lineS lk st (str (63 :: l)) = none := by
  unfold lineS
  rw [if_neg (by rw [skip_no (by decide)]; simp)]
  have hp : ∃ h t, pieces 32 (str (63 :: l)) = str (63 :: h) :: t := by
    unfold pieces
    rw [str_list, cutL, if_neg (by decide)]
    cases hc : cutL 32 l with
    | nil => exact absurd hc (cutL_ne 32 l)
    | cons h t => exact ⟨h, t.map str, rfl⟩
  obtain ⟨h, t, hp⟩ := hp
  rw [hp]
  simp only
  have n1 : str (63 :: h) ≠ nodeWd := fun e => by
    have := str_inj e
    simp at this
  have n2 : str (63 :: h) ≠ edgeWd := fun e => by
    have := str_inj e
    simp at this
  rw [if_neg n1, if_neg n2]
def bodies (ns : List Nd) (es : List Ed) : List (List UInt8) := ns.map ndBody ++ es.map (edBody ns)
theorem bodies_len (ns : List Nd) (es : List Ed) : (bodies ns es).length = ns.length + es.length := by simp [bodies]
theorem show_flt (ns : List Nd) (es : List Ed) : showL ns es = flt (bodies ns es) := show_lines ns es
theorem bodies_wo {ns : List Nd} {es : List Ed} (h : good ns es = true) : ∀ b ∈ bodies ns es, Wo 10 b := by
  unfold good goodN goodE at h
  simp only [Bool.and_eq_true, decide_eq_true_eq] at h
  obtain ⟨⟨h1, h2, h3, h4⟩, h5, h6, h7⟩ := h
  intro b hb
  rcases List.mem_append.1 hb with hb | hb
  · obtain ⟨x, hx, rfl⟩ := List.mem_map.1 hb
    exact nd_wo (h3 x hx)
  · obtain ⟨x, hx, rfl⟩ := List.mem_map.1 hb
    exact ed_wo h3 (h6 x hx)
theorem bodies_lines {ns : List Nd} {es : List Ed} (h : good ns es = true) : linesS firstAt 0 ([], []) ((bodies ns es).map str) = .inl (ns, es) := by
  unfold good goodN goodE at h
  simp only [Bool.and_eq_true, decide_eq_true_eq] at h
  obtain ⟨⟨h1, h2, h3, h4⟩, h5, h6, h7⟩ := h
  have e1 : (bodies ns es).map str = ns.map (fun n => str (ndBody n)) ++ (es.map (fun e => str (edBody ns e)) ++ []) := by
    unfold bodies; simp; rfl
  rw [e1, lines_nodes ns 0 ([], []) _ h3, List.nil_append, lines_edges h3 h4 es _ [] [] h6]
  simp [linesS]
/-- the text with that line in it -/
theorem bad_parse {ns : List Nd} {es : List Ed} (hg : good ns es = true) (at' : Nat) (ha : at' ≤ (bodies ns es).length) {b : List UInt8} (hb : Wo 10 b) (hs : (flt ((bodies ns es).take at') ++ (63 :: b) ++ 10 :: flt ((bodies ns es).drop at')).length ≤ 4096) :
    parseS firstAt (str (flt ((bodies ns es).take at') ++ (63 :: b) ++ 10 :: flt ((bodies ns es).drop at'))) = (([], []), at' + 1, 60) := by
  have hw := bodies_wo hg
  have hp : pieces 10 (str (flt ((bodies ns es).take at') ++ (63 :: b) ++ 10 :: flt ((bodies ns es).drop at'))) = ((bodies ns es).take at').map str ++ (str (63 :: b) :: ((bodies ns es).drop at' ++ [[]]).map str) := by
    have e1 : flt ((bodies ns es).take at') ++ (63 :: b) ++ 10 :: flt ((bodies ns es).drop at') = flt ((bodies ns es).take at' ++ ((63 :: b) :: (bodies ns es).drop at')) := by
      rw [flt_app, flt_cons]; simp
    unfold pieces
    rw [str_list, e1]
    unfold flt
    rw [cut_lines 10 _ (fun x hx => by
      rcases List.mem_append.1 hx with hx | hx
      · exact hw x (List.mem_of_mem_take hx)
      · rcases List.mem_cons.1 hx with rfl | hx
        · exact wo_cons (by decide) hb
        · exact hw x (List.mem_of_mem_drop hx))]
    simp
  have hl := bodies_lines hg
  rw [← List.take_append_drop at' (bodies ns es), List.map_append] at hl
  obtain ⟨y, hy⟩ := lines_pre firstAt _ _ _ _ _ hl
  unfold parseS
  rw [if_neg (by rw [str_size]; omega), hp, lines_app firstAt _ _ 0 _ y hy, linesS, line_bad]
  simp only [List.length_map, List.length_take]
  rw [Nat.min_eq_left ha, Nat.zero_add]
theorem show_small {ns : List Nd} {es : List Ed} (hg : good ns es = true) (h : es.length ≤ 60) : (showL ns es).length ≤ 4000 := by
  unfold good goodN goodE at hg
  simp only [Bool.and_eq_true, decide_eq_true_eq] at hg
  obtain ⟨⟨h1, h2, h3, h4⟩, h5, h6, h7⟩ := hg
  have q1 := flat_len ndLine 40 ns (fun x hx => ndLine_small x (h3 x hx))
  have q2 := flat_len (edLine ns) 40 es (fun x hx => edLine_small ns x h3)
  unfold showL
  rw [List.length_append]
  omega
/-- how a text is gone through, line by line: what is left -/
def Lf (bs : List (List UInt8)) (a n : Nat) (R : List UInt8) : Prop := R = flt (bs.drop n) ∨ (n < a ∧ n < bs.length ∧ ∃ q, Wo 10 q ∧ R = q ++ 10 :: flt (bs.drop (n + 1)))
theorem Lf.step {bs : List (List UInt8)} {a n : Nat} {x : UInt8} {R : List UInt8} (hw : ∀ b ∈ bs, Wo 10 b) (h : Lf bs a n (x :: R)) (hn : n < a) : (x = 10 ∧ Lf bs a (n + 1) R ∧ n < bs.length) ∨ (x ≠ 10 ∧ Lf bs a n R) := by
  have key : ∀ q : List UInt8, Wo 10 q → n < bs.length → x :: R = q ++ 10 :: flt (bs.drop (n + 1)) → (x = 10 ∧ Lf bs a (n + 1) R ∧ n < bs.length) ∨ (x ≠ 10 ∧ Lf bs a n R) := fun q hq hl he => by
    cases q with
    | nil =>
      simp only [List.nil_append, List.cons.injEq] at he
      exact .inl ⟨he.1, .inl he.2, hl⟩
    | cons y q =>
      simp only [List.cons_append, List.cons.injEq] at he
      refine .inr ⟨fun e => hq (by rw [← he.1, e]; exact List.mem_cons_self), .inr ⟨hn, hl, q, fun hm => hq (List.mem_cons_of_mem _ hm), he.2⟩⟩
  rcases h with h | ⟨_, h2, q, h3, h4⟩
  · rcases Nat.lt_or_ge n bs.length with hl | hl
    · have e1 : bs.drop n = bs[n] :: bs.drop (n + 1) := by rw [List.getElem_cons_drop]
      rw [e1, flt_cons] at h
      exact key _ (hw _ (List.getElem_mem hl)) hl h
    · rw [List.drop_of_length_le hl] at h; simp [flt] at h
  · exact key q h3 h2 h4
theorem Lf.end {bs : List (List UInt8)} {a n : Nat} {R : List UInt8} (h : Lf bs a n R) (hn : n ≤ a) (ha : a ≤ bs.length) (he : n = a ∨ R = []) : n = a ∧ R = flt (bs.drop a) := by
  rcases h with h | ⟨h1, h2, q, h3, h4⟩
  · rcases he with rfl | rfl
    · exact ⟨rfl, h⟩
    · have := flt_nil h.symm
      have hl : bs.length ≤ n := by
        rcases Nat.lt_or_ge n bs.length with hl | hl
        · rw [List.drop_eq_getElem_cons hl] at this; cases this
        · exact hl
      obtain rfl : n = a := by omega
      exact ⟨rfl, h⟩
  · rcases he with rfl | rfl
    · omega
    · simp at h4
theorem flt_cut {bs : List (List UInt8)} {a f : Nat} (h : (flt bs).drop f = flt (bs.drop a)) (hf : f ≤ (flt bs).length) : (flt bs).take f = flt (bs.take a) := by
  have e : flt bs = flt (bs.take a) ++ flt (bs.drop a) := by rw [← flt_app, List.take_append_drop]
  have hl : (flt bs).length - f = (flt (bs.drop a)).length := by rw [← h, List.length_drop]
  have hl2 : f = (flt (bs.take a)).length := by
    have := congrArg List.length e
    rw [List.length_append] at this
    omega
  rw [hl2, e, List.take_left]
end Go.Proofs.YtpjolnaomdmnnaaDoor
