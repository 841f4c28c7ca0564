/- A text with a remark and an empty line ahead of it and a remark behind it: its lines, what is parsed. -/
import Derived.Test.YtpjolnaomdmnnaaDoorPsh
import Derived.Test.YtpjolnaomdmnnaaDoorFlm
namespace Go.Proofs.YtpjolnaomdmnnaaDoor
open Go.RowKit
set_option linter.unusedVariables false

theorem cutL_app (c : UInt8) : ∀ (a r : List UInt8), cutL c (a ++ c :: r) = cutL c a ++ cutL c r
  | [], r => by
    show cutL c (c :: r) = [] :: cutL c r
    rw [cutL, if_pos (beq_self_eq_true c)]
  | x :: a, r => by
    have ih := cutL_app c a r
    rw [List.cons_append, cutL, ih, cutL]
    split
    · rfl
    · cases h : cutL c a with
      | nil => exact absurd h (cutL_ne c a)
      | cons y t => rfl
theorem lines_at (lk : List Nd → ByteArray → Option Int) : ∀ (ls : List ByteArray) (i j : Nat) (st x : St), linesS lk i st ls = .inl x → linesS lk j st ls = .inl x
  | [], _, _, _, _, h => h
  | l :: ls, i, j, st, x, h => by
    rw [linesS] at h ⊢
    cases hl : lineS lk st l with
    | none => rw [hl] at h; cases h
    | some st' => rw [hl] at h; exact lines_at lk ls _ _ st' x h
theorem lines_app (lk : List Nd → ByteArray → Option Int) : ∀ (ls r : List ByteArray) (i : Nat) (st x : St), linesS lk i st ls = .inl x → linesS lk i st (ls ++ r) = linesS lk (i + ls.length) x r
  | [], r, i, st, x, h => by
    have : st = x := Sum.inl.inj h
    rw [this]; rfl
  | l :: ls, r, i, st, x, h => by
    rw [List.cons_append, linesS]
    rw [linesS] at h
    cases hl : lineS lk st l with
    | none => rw [hl] at h; cases h
    | some st' =>
      rw [hl] at h
      have := lines_app lk ls r (i + 1) st' x h
      rw [List.length_cons, show i + (ls.length + 1) = i + 1 + ls.length by omega]
      exact this
theorem skip_rem (l : List UInt8) : skipS (str (35 :: l)) = true := by
  unfold skipS
  have h2 : byteAt (str (35 :: l)) 0 = 35 := rfl
  rw [h2]; simp
theorem skip_nil : skipS (str []) = true := by
  unfold skipS
  have h2 : (str []).size = 0 := rfl
  rw [h2]; simp
theorem line_skip (lk : List Nd → ByteArray → Option Int) (st : St) {l : ByteArray} (h : skipS l = true) : lineS lk st l = some st := by unfold lineS; rw [if_pos h]
def wideL (b t : List UInt8) : List UInt8 := 35 :: b ++ 10 :: (10 :: (t ++ 10 :: [35]))
theorem wide_parse {b : List UInt8} {text : ByteArray} {st : St} (hb : Wo 10 b) (hs : (wideL b text.data.toList).length ≤ 4096) (h : parseS firstAt text = (st, 0, 0)) : parseS firstAt (str (wideL b text.data.toList)) = (st, 0, 0) := by
  have h0 : ¬ 4096 < text.size := by
    have h1 : text.data.toList.length = text.size := by rw [Array.length_toList]; rfl
    unfold wideL at hs
    simp only [List.length_append, List.length_cons, List.length_nil] at hs
    omega
  unfold parseS at h
  rw [if_neg h0] at h
  obtain ⟨x, hx, hg, hxe⟩ : ∃ x, linesS firstAt 0 ([], []) (pieces 10 text) = .inl x ∧ good x.1 x.2 = true ∧ x = st := by
    cases hl : linesS firstAt 0 ([], []) (pieces 10 text) with
    | inr k => rw [hl] at h; simp at h
    | inl x =>
      rw [hl] at h
      simp only at h
      by_cases hg : good x.1 x.2 = true
      · rw [if_pos hg] at h
        exact ⟨x, rfl, hg, (Prod.mk.inj h).1⟩
      · rw [if_neg hg] at h
        simp at h
  subst hxe
  have hp : pieces 10 (str (wideL b text.data.toList)) = str (35 :: b) :: str [] :: (pieces 10 text ++ [str [35]]) := by
    unfold pieces wideL
    rw [str_list, show (35 :: b ++ 10 :: (10 :: (text.data.toList ++ 10 :: [35]))) = (35 :: b) ++ 10 :: (10 :: (text.data.toList ++ 10 :: [35])) from rfl, cut_front 10 (35 :: b) _ (wo_cons (by decide) hb), show (10 :: (text.data.toList ++ 10 :: [35]) : List UInt8) = [] ++ 10 :: (text.data.toList ++ 10 :: [35]) from rfl, cut_front 10 [] _ (by simp [Wo]), cutL_app, cut_wo 10 [35] (by simp [Wo])]
    simp
  unfold parseS
  rw [if_neg (by rw [str_size]; omega), hp, linesS, line_skip _ _ (skip_rem b)]
  simp only
  rw [linesS, line_skip _ _ skip_nil]
  simp only
  rw [lines_app firstAt (pieces 10 text) [str [35]] _ _ x (lines_at firstAt _ 0 _ _ x hx), linesS, line_skip _ _ (skip_rem [])]
  simp only [linesS]
  rw [if_pos hg]
end Go.Proofs.YtpjolnaomdmnnaaDoor
