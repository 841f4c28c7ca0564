/- GateOrder: what was accepted, what went in, what left. -/
import Derived.Test.YtdnkgfljkdbckaaGtf
import Derived.Test.YtdnkgfljkdbckaaLag
import Derived.Deep.CutBlock
namespace Go.Proofs.Ytdnkgfljkdbckaa
open Go.RowKit
set_option linter.unusedVariables false

/-- the law's three lists and the gate -/
structure Od (S : Gt) (N : Nat) (al wn lf : List Int) (n7 n8 n9 i : Nat) : Prop where
  cr : S.cr = N
  a : al = wn ++ S.wt
  b : wn = lf ++ S.ins
  l7 : al.length = n7
  l8 : wn.length = n8
  l9 : lf.length = n9
  le : n7 ≤ i
theorem Od.zero {N : Nat} : Od ⟨N, [], []⟩ N [] [] [] 0 0 0 0 := ⟨rfl, rfl, rfl, rfl, rfl, rfl, Nat.le_refl _⟩
theorem Od.same {S : Gt} {N : Nat} {al wn lf : List Int} {n7 n8 n9 i : Nat} (h : Od S N al wn lf n7 n8 n9 i) : Od S N al wn lf n7 n8 n9 (i + 1) := ⟨h.cr, h.a, h.b, h.l7, h.l8, h.l9, by have := h.le; omega⟩
theorem Od.ac {S : Gt} {N : Nat} {al wn lf : List Int} {n7 n8 n9 i n7' : Nat} {x : Int} (h : Od S N al wn lf n7 n8 n9 i) (hl : (al ++ [x]).length = n7') : Od ⟨S.cr, S.wt ++ [x], S.ins⟩ N (al ++ [x]) wn lf n7' n8 n9 (i + 1) :=
  ⟨h.cr, by rw [h.a, List.append_assoc], h.b, hl, h.l8, h.l9, by have := h.le; have := h.l7; simp at hl; omega⟩
theorem Od.ar {S : Gt} {N : Nat} {al wn lf : List Int} {n7 n8 n9 i n8' : Nat} {x : Int} {r : List Int} (h : Od S N al wn lf n7 n8 n9 i) (hr : S.wt = x :: r) (hl : (wn ++ [x]).length = n8') : Od ⟨S.cr, S.wt.tail, S.ins ++ [x]⟩ N al (wn ++ [x]) lf n7 n8' n9 (i + 1) :=
  ⟨h.cr, by rw [h.a, hr]; simp, by rw [h.b]; simp, h.l7, hl, h.l9, by have := h.le; omega⟩
theorem Od.le' {S : Gt} {N : Nat} {al wn lf : List Int} {n7 n8 n9 i n9' : Nat} {y : Int} {q : List Int} (h : Od S N al wn lf n7 n8 n9 i) (hi : S.ins = y :: q) (hl : (lf ++ [y]).length = n9') : Od S.le N al wn (lf ++ [y]) n7 n8 n9' (i + 1) :=
  ⟨h.cr, h.a, by rw [h.b, hi]; simp [Gt.le, hi], h.l7, h.l8, hl, by have := h.le; omega⟩
/-- the place of a number that waits, among all that were accepted -/
theorem Od.place {S : Gt} {N : Nat} {al wn lf : List Int} {n7 n8 n9 i : Nat} {x : Int} (h : Od S N al wn lf n7 n8 n9 i) (hx : x ∈ S.wt) : n8 + S.wt.idxOf x < n7 ∧ al[n8 + S.wt.idxOf x]? = some x ∧ al.take (n8 + S.wt.idxOf x) ++ al.drop (n8 + S.wt.idxOf x + 1) = wn ++ S.wt.erase x := by
  have hl := List.idxOf_lt_length_iff.2 hx
  have e := congrArg List.length h.a
  rw [List.length_append, h.l7, h.l8] at e
  refine ⟨by omega, ?_, ?_⟩
  · rw [h.a, List.getElem?_append_right (by rw [h.l8]; omega), h.l8, Nat.add_sub_cancel_left, List.getElem?_eq_getElem hl, List.getElem_idxOf hl]
  · rw [h.a, ← h.l8, List.take_length_add_append, Nat.add_assoc, List.drop_length_add_append, List.append_assoc, erase_cut]
theorem Od.only {S : Gt} {N : Nat} {al wn lf : List Int} {n7 n8 n9 i k : Nat} {x : Int} (h : Od S N al wn lf n7 n8 n9 i) (hd : S.wt.Nodup) (hx : x ∈ S.wt) (hk : n8 ≤ k) (ha : al[k]? = some x) : k = n8 + S.wt.idxOf x := by
  rw [h.a, List.getElem?_append_right (by rw [h.l8]; exact hk), h.l8] at ha
  have hlt := idx_lt ha
  have e : S.wt[k - n8] = x := by rw [List.getElem?_eq_getElem hlt] at ha; exact Option.some.inj ha
  have hl := List.idxOf_lt_length_iff.2 hx
  have := (List.getElem_inj hd).1 (e.trans (List.getElem_idxOf hl).symm)
  omega
theorem Od.ca {S : Gt} {N : Nat} {al wn lf : List Int} {n7 n8 n9 i n7' : Nat} {x : Int} (h : Od S N al wn lf n7 n8 n9 i) (hl : (wn ++ S.wt.erase x).length = n7') (hx : x ∈ S.wt) : Od (S.ca x) N (wn ++ S.wt.erase x) wn lf n7' n8 n9 (i + 1) :=
  ⟨h.cr, rfl, h.b, hl, h.l8, h.l9, by
    have e := congrArg List.length h.a
    have e2 := List.length_erase_le (a := x) (l := S.wt)
    have := h.le
    rw [List.length_append, h.l7] at e
    rw [List.length_append] at hl
    omega⟩
theorem Od.ends {S : Gt} {N : Nat} {al wn lf : List Int} {n7 n8 n9 i : Nat} (h : Od S N al wn lf n7 n8 n9 i) (hi : S.ins.length ≤ S.cr) : n8 ≤ n7 ∧ n9 ≤ n8 ∧ n8 - n9 ≤ N ∧ al.take n8 = wn ∧ wn.take n9 = lf := by
  have e1 := congrArg List.length h.a
  have e2 := congrArg List.length h.b
  rw [List.length_append, h.l7, h.l8] at e1
  rw [List.length_append, h.l8, h.l9] at e2
  rw [h.cr] at hi
  refine ⟨by omega, by omega, by omega, ?_, ?_⟩
  · rw [h.a, ← h.l8]; simp
  · rw [h.b, ← h.l9]; simp

theorem Own.cap {w : World} {B : Nat} {a : Option Addr} {n c : Nat} {xs : List Int} (h : intE.Own w B (.slice a n c) xs) : xs.length ≤ c ∧ c ≤ maxLen := by
  rcases h.2 with ⟨h1, h2⟩ | ⟨g', c', cur, h1, hb, hg, hn, hmx, hs, ht⟩
  · exact ⟨by omega, by simp only [Value.slice.injEq] at h1; rw [h1.2.2]; exact Nat.zero_le _⟩
  · simp only [Value.slice.injEq] at h1
    rw [h1.2.2]; exact ⟨hn, hmx⟩
/-- the fifth to the front -/
theorem Its.rot5 {w0 w : World} {x y z t u : It} {l : List It} (h : Its w0 (x :: y :: z :: t :: u :: l) w) : Its w0 (u :: x :: y :: z :: t :: l) w := h.perm ((List.Perm.cons x ((List.Perm.cons y ((List.Perm.cons z (.swap u t l)).trans (.swap u z _))).trans (.swap u y _))).trans (.swap u x _))
theorem Its.rot5' {w0 w : World} {x y z t u : It} {l : List It} (h : Its w0 (u :: x :: y :: z :: t :: l) w) : Its w0 (x :: y :: z :: t :: u :: l) w := h.perm ((List.Perm.cons x ((List.Perm.cons y ((List.Perm.cons z (.swap u t l)).trans (.swap u z _))).trans (.swap u y _))).trans (.swap u x _)).symm
end Go.Proofs.Ytdnkgfljkdbckaa
