/- A text cut at a byte: what strings.Split makes of it. -/
import Derived.Test.YtpjolnaomdmnnaaDoorLay
import Derived.Test.YtpjolnaomdmnnaaDoorLib
import Derived.Lib.SplitLaws
import Derived.Lib.IndexBytes
namespace Go.Proofs.YtpjolnaomdmnnaaDoor
open Go.RowKit
set_option linter.unusedVariables false

def str (l : List UInt8) : ByteArray := ⟨l.toArray⟩
theorem str_list (l : List UInt8) : (str l).data.toList = l := rfl
theorem str_of (s : ByteArray) : str s.data.toList = s := by cases s; simp [str]
theorem str_size (l : List UInt8) : (str l).size = l.length := by simp [str, ByteArray.size]
theorem str_inj {a b : List UInt8} (h : str a = str b) : a = b := by rw [← str_list a, h, str_list]

def cutL (c : UInt8) : List UInt8 → List (List UInt8)
  | [] => [[]]
  | x :: l => if x == c then [] :: cutL c l else match cutL c l with
    | h :: t => (x :: h) :: t
    | [] => [[x]]
theorem cutL_ne (c : UInt8) (l : List UInt8) : cutL c l ≠ [] := by
  cases l with
  | nil => simp [cutL]
  | cons x l =>
    unfold cutL
    split
    · simp
    · split <;> simp
theorem cutL_miss (c : UInt8) : ∀ l : List UInt8, Lib.indexByte l c = -1 → cutL c l = [l]
  | [], _ => rfl
  | x :: l, h => by
    unfold Lib.indexByte at h
    unfold cutL
    by_cases e : (x == c) = true
    · rw [if_pos e] at h; cases h
    · rw [if_neg e] at h ⊢
      have h2 : Lib.indexByte l c = -1 := by
        by_cases e2 : (Lib.indexByte l c == -1) = true
        · exact beq_iff_eq.1 e2
        · rw [if_neg e2] at h
          have := Lib.indexByte_ge l c
          omega
      rw [cutL_miss c l h2]
theorem cutL_hit (c : UInt8) : ∀ (l : List UInt8) (i : Nat), Lib.indexByte l c = i → cutL c l = l.take i :: cutL c (l.drop (i + 1))
  | [], i, h => by unfold Lib.indexByte at h; omega
  | x :: l, i, h => by
    unfold Lib.indexByte at h
    by_cases e : (x == c) = true
    · rw [if_pos e] at h
      obtain rfl : i = 0 := by omega
      rw [cutL, if_pos e]; rfl
    · rw [if_neg e] at h
      by_cases e2 : (Lib.indexByte l c == -1) = true
      · rw [if_pos e2] at h; omega
      · rw [if_neg e2] at h
        obtain ⟨j, rfl⟩ : ∃ j, i = j + 1 := ⟨i - 1, by
          have := Lib.indexByte_ge l c
          have : Lib.indexByte l c ≠ -1 := fun e3 => e2 (beq_iff_eq.2 e3)
          omega⟩
        have ih := cutL_hit c l j (by omega)
        rw [cutL, if_neg e, ih]
        rfl
theorem cut_all (c : UInt8) : ∀ (k : Nat) (s : ByteArray), Lib.countB s (str [c]) = k → Lib.splitB (str [c]) 0 k s = (cutL c s.data.toList).map str := by
  have ix : ∀ s : ByteArray, Lib.indexB s (str [c]) = Lib.indexByte s.data.toList c := fun s => Lib.index_one _ _
  intro k
  induction k with
  | zero =>
    intro s hk
    rcases Lib.indexB_cases s (str [c]) with hix | ⟨i, hix, _⟩
    · rw [Lib.splitB_zero, cutL_miss c _ (by rw [← ix]; exact hix)]
      simp [str_of]
    · have := Lib.countB_hit s (str [c]) i (by simp [str_size]) hix
      omega
  | succ k ih =>
    intro s hk
    rcases Lib.indexB_cases s (str [c]) with hix | ⟨i, hix, _⟩
    · rw [Lib.countB_miss s _ hix] at hk; omega
    · rw [Lib.splitB_hit _ 0 k s i hix, ih _ (by have := Lib.countB_hit s (str [c]) i (by simp [str_size]) hix; omega), cutL_hit c s.data.toList i (by rw [← ix]; exact hix), List.map_cons]
      have h1 : s.extract 0 (i + 0) = str (s.data.toList.take i) := by rw [← str_of (s.extract 0 (i + 0)), Lib.extract_from_zero, Nat.add_zero]
      have h2 : (s.extract (i + (str [c]).size) s.size).data.toList = s.data.toList.drop (i + 1) := by rw [Lib.extract_to_end, str_size]; rfl
      rw [h1, h2]
theorem cut_len (c : UInt8) (s : ByteArray) : Lib.countB s (str [c]) + 1 = (cutL c s.data.toList).length := by
  rw [← Lib.splitB_all (str [c]) (by simp [str_size]) 0 _ s rfl, cut_all c _ s rfl, List.length_map]

def strE : El Tryd.prog ByteArray where
  t := 63
  e := 9
  k := 1
  by' := 16
  z := .string ByteArray.empty
  enc s := [.string s]
  ht := Tryd.underlying63
  info := by kernel_rfl
  zc := rfl
  kpos := by omega
  bsm := by omega
  len _ := rfl
  one x v hv := by simp at hv; subst hv; rfl
theorem strE_fl (xs : List ByteArray) : strE.fl xs = xs.map Value.string := by
  induction xs with
  | nil => rfl
  | cons x xs ih => unfold El.fl at ih ⊢; rw [List.flatMap_cons, ih]; rfl

/-- a text's pieces -/
def pieces (c : UInt8) (s : ByteArray) : List ByteArray := (cutL c s.data.toList).map str
theorem pieces_len_le (c : UInt8) (l : List UInt8) : (cutL c l).length ≤ l.length + 1 := by
  induction l with
  | nil => simp [cutL]
  | cons x l ih =>
    unfold cutL
    split
    · simp; omega
    · split
      · rename_i h t e; rw [e] at ih; simp at ih ⊢; omega
      · simp
theorem split_any (c : UInt8) (s sep : ByteArray) (hsep : sep = str [c]) (w : World) (hs : s.size ≤ 100000) (hm : ∃ m, w.cell? ⟨2, 0, none⟩ = some (.int .i64 m)) :
    Calls Tryd.prog 28 #[.string s, .string sep] w fun e w' => e = .returned (.slice (some ⟨w.heap.size, 0, none⟩) (pieces c s).length (pieces c s).length) ∧ strE.Own w' w.heap.size (.slice (some ⟨w.heap.size, 0, none⟩) (pieces c s).length (pieces c s).length) (pieces c s) ∧ Below w.heap.size w w' := by
  subst hsep
  obtain ⟨m, hm⟩ := hm
  have hl : Lib.countB s (str [c]) + 1 = (pieces c s).length := by unfold pieces; rw [List.length_map]; exact cut_len c s
  refine (Tryd.strings_Split s (str [c]) m w (by omega) hm (by simp [str_size])).mono ?_
  rintro e w' ⟨rfl, rfl⟩
  rw [hl, cut_all c _ s rfl]
  refine ⟨rfl, ?_, (Below.refl _ _).alloc (Nat.le_refl _) _⟩
  have hb := pieces_len_le c s.data.toList
  have hb2 : s.data.toList.length = s.size := rfl
  exact El.Own.new strE w _ (Nat.le_refl _) _ (pieces c s) (by rw [strE_fl]; rfl) (by unfold pieces; rw [List.length_map]; omega) _ _ _ rfl rfl rfl
theorem piece_small (c : UInt8) (l : List UInt8) : ∀ x ∈ cutL c l, x.length ≤ l.length := by
  induction l with
  | nil => simp [cutL]
  | cons y l ih =>
    intro x hx
    unfold cutL at hx
    split at hx
    · simp at hx
      rcases hx with rfl | hx
      · simp
      · have := ih x hx; simp; omega
    · split at hx
      · rename_i h t e
        simp at hx
        rcases hx with rfl | hx
        · have := ih h (by rw [e]; simp); simp; omega
        · have := ih x (by rw [e]; simp [hx]); simp; omega
      · simp at hx; subst hx; simp
end Go.Proofs.YtpjolnaomdmnnaaDoor
