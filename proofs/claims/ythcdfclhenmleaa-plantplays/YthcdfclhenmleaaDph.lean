/- The document's Hear: what it hands back; spots and last moves, as many as were gone through. -/
import Derived.Test.YthcdfclhenmleaaDpc
namespace Go.Proofs.Ythcdfclhenmleaa
open Go.RowKit
set_option linter.unusedVariables false
/-- a plant of the document's that is handed back, with a telegram or none -/
def RH (w0 : World) (l : List It) (a b : Option Addr) (c e n m k : Nat) (P : (Tl × Bool) × Rp) (r : Ending) (w' : World) : Prop := ∃ V : Vp, r = .returned (.tuple #[.agg #[.slice a n c, .slice b m e, .slice V.aS V.nS V.cS, .slice V.aD V.nD V.cD, .slice V.aL V.nL V.cL, .int .i64 P.2.mv], tv P.1.1, .bool P.1.2]) ∧ Its w0 (.dm w0.heap.size V P.2 k :: l) w'
theorem RH.mk {w0 : World} {l : List It} {a b : Option Addr} {c e n m k : Nat} {P : (Tl × Bool) × Rp} {w' : World} (V : Vp) {x : Bool} (t : Tl) (R : Rp) {v : Int} (hP : P = ((t, x), R)) (hv : R.mv = v) (h : Its w0 (.dm w0.heap.size V R k :: l) w') : RH w0 l a b c e n m k P (.returned (.tuple #[.agg #[.slice a n c, .slice b m e, .slice V.aS V.nS V.cS, .slice V.aD V.nD V.cD, .slice V.aL V.nL V.cL, .int .i64 v], .agg #[.int .u8 t.k, .int .u16 t.d, .int .u16 t.s, .int .u16 t.a, .int .u16 t.b], .bool x])) w' := by subst hP; subst hv; exact ⟨V, rfl, h⟩
theorem cells2 {w0 w : World} {b : Nat} {p0 p1 : Value} {t : TypeId} {l : List It} (h : Its w0 (.box b #[p0, p1] t :: l) w) : w.cell? ⟨b, 0, none⟩ = some p0 ∧ w.cell? ⟨b, 1, none⟩ = some p1 := ⟨(cells_at h.one 0).1, (cells_at h.one 1).1⟩
theorem ls_new (w : World) (p : Ls) (g : Nat) (hg : g = w.heap.size) : lsE.Rd (w.alloc (.cells #[.int .i64 p.dev, .int .u16 p.seq, .int .u16 p.tote] 84)) (.slice (some ⟨g, 0, none⟩) 1 1) [p] :=
  (El.Own.new lsE w w.heap.size (Nat.le_refl _) _ [p] rfl (by simp) _ _ _ hg rfl rfl).rd
/-- the spots, as many as were gone through -/
def mvP (sp : List (Int × Int)) (t x : Int) (j : Nat) : List (Int × Int) := (sp.take j).map (mvS t x) ++ sp.drop j
theorem mvP_zero (sp : List (Int × Int)) (t x : Int) : mvP sp t x 0 = sp := by simp [mvP]
theorem mvP_end (sp : List (Int × Int)) (t x : Int) {n : Nat} (h : sp.length = n) : mvP sp t x n = sp.map (mvS t x) := by simp [mvP, ← h]
theorem mvP_len (sp : List (Int × Int)) (t x : Int) (j : Nat) : (mvP sp t x j).length = sp.length := by simp [mvP]; omega
theorem mvP_at (sp : List (Int × Int)) (t x : Int) {j : Nat} {p : Int × Int} (h : sp[j]? = some p) : (mvP sp t x j)[j]? = some p := by
  have hj := idx_lt h
  have hl : ((sp.take j).map (mvS t x)).length = j := by rw [List.length_map, List.length_take]; omega
  unfold mvP
  rw [List.getElem?_append_right (by omega), hl, Nat.sub_self, List.getElem?_drop, Nat.add_zero, h]
theorem mvP_set (sp : List (Int × Int)) (t x : Int) {j : Nat} {p : Int × Int} (h : sp[j]? = some p) : (mvP sp t x j).set j (mvS t x p) = mvP sp t x (j + 1) := by
  have hj := idx_lt h
  have hl : ((sp.take j).map (mvS t x)).length = j := by rw [List.length_map, List.length_take]; omega
  unfold mvP
  have hd : sp.drop j = p :: sp.drop (j + 1) := by
    rw [List.drop_eq_getElem_cons hj]
    congr 1
    have := List.getElem?_eq_getElem hj
    rw [h] at this
    exact (Option.some.inj this).symm
  rw [take_one h, List.map_append, List.set_append_right _ _ (by omega), hl, Nat.sub_self, hd, List.set_cons_zero, List.append_assoc]
  rfl
def laP (la : List Ls) (x : Ls) (j : Nat) : List Ls := x :: (la.take j).filter (fun y => decide (y.dev ≠ x.dev))
theorem laP_succ {la : List Ls} (x : Ls) {j : Nat} {p : Ls} (h : la[j]? = some p) : laP la x (j + 1) = laP la x j ++ (if p.dev = x.dev then [] else [p]) := by
  unfold laP
  rw [take_one h, List.filter_append, List.cons_append]
  congr 2
  by_cases q : p.dev = x.dev <;> simp [q]
theorem laP_len (la : List Ls) (x : Ls) (j : Nat) : (laP la x j).length ≤ la.length + 1 := by
  unfold laP
  have := List.length_filter_le (fun y : Ls => decide (y.dev ≠ x.dev)) (la.take j)
  rw [List.length_take] at this
  simp only [List.length_cons]; omega
end Go.Proofs.Ythcdfclhenmleaa
