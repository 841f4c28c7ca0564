/- A law's world with a rack and boxes of the law's own; counting totes. -/
import Derived.Test.YtddcjkbdgneklaaGpm
namespace Go.Proofs.Ytddcjkbdgneklaa
open Go.RowKit
set_option linter.unusedVariables false

section
variable {w0 W W' : World} {B r : Nat} {a : Option Addr} {c : Nat} {gs : List Nat} {R R' : Rack}
/-- a rack stays where blocks of its types stay -/
theorem Rk.stay (h : Rk W B r a c gs R) (hs : ∀ (k : Nat) (C : Array Value) (t : TypeId), W.heap[k]? = some (.cells C t) → (t = 70 ∨ t = 71 ∨ t = 97) → W'.heap[k]? = W.heap[k]?) : Rk W' B r a c gs R :=
  ⟨by rw [hs _ _ _ h.box (.inl rfl)]; exact h.box, h.br, own_chg h.row (fun g cur _ hc => hs g cur _ hc (.inr (.inl rfl))), h.len, h.n32, h.nd, h.ge, fun i g l h1 h2 => by
    have hL := h.lns i g l h1 h2
    refine hL.stay ?_
    obtain ⟨s, hs'⟩ := hL
    exact hs _ _ _ hs'.box (.inr (.inr rfl))⟩
theorem RW.stay (h : RW w0 B r a c gs R W) (hb : Below w0.heap.size w0 W') (hs : ∀ (k : Nat) (C : Array Value) (t : TypeId), W.heap[k]? = some (.cells C t) → (t = 70 ∨ t = 71 ∨ t = 97) → W'.heap[k]? = W.heap[k]?) : RW w0 B r a c gs R W' := ⟨hb, h.hB, h.rk.stay hs, h.wf⟩
/-- a cell of a box of another type is written -/
theorem RW.cell (h : RW w0 B r a c gs R W) {g i : Nat} {C : Array Value} {t : TypeId} {u : Value} (hg : W.heap[g]? = some (.cells C t)) (ht : t ≠ 70 ∧ t ≠ 71 ∧ t ≠ 97) (hB : w0.heap.size ≤ g) : RW w0 B r a c gs R (W.setCell ⟨g, i, none⟩ u) :=
  h.stay (h.bel.setCell hB _) fun k C' t' hk ht' => Below.heap_setCell _ _ _ _ fun e => by
    subst e
    rw [hg] at hk
    simp only [Option.some.injEq, Obj.cells.injEq] at hk
    obtain ⟨_, e, _⟩ := hk
    rcases ht' with h | h | h
    · exact ht.1 (e.trans h)
    · exact ht.2.1 (e.trans h)
    · exact ht.2.2 (e.trans h)
/-- a row of another type grows -/
theorem RW.grow {α : Type} {E : El Try.prog α} {v : Value} {xs : List α} (h : RW w0 B r a c gs R W) (ho : E.Own W w0.heap.size v xs) (ht : E.e ≠ 70 ∧ E.e ≠ 71 ∧ E.e ≠ 97) (hg : W.grownBy W' v.ownBlock) : RW w0 B r a c gs R W' :=
  h.stay (h.bel.grown hg h.bel.size fun k hk => ho.ge k hk) fun k C t hk ht' => hg.block k (heap_lt hk) fun e => zown_ne ho hk (fun e' => by rcases ht' with h | h | h; exact ht.1 (e'.symm.trans h); exact ht.2.1 (e'.symm.trans h); exact ht.2.2 (e'.symm.trans h)) e.symm
theorem RW.fit (h : RW w0 B r a c gs R W) : Fit R := fun i l hl => by
  obtain ⟨_, _, _, _, _, _, hL, _⟩ := h.rk.lane hl
  exact hL.le.1
theorem RW.dep (h : RW w0 B r a c gs R W) (i : Nat) (l : Nat × List Int) (hl : R[i]? = some l) : l.2.length ≤ l.1 ∧ l.1 ≤ 8 := by
  obtain ⟨_, _, _, _, _, _, hL, _⟩ := h.rk.lane hl
  exact hL.le
theorem RW.n32 (h : RW w0 B r a c gs R W) : R.length ≤ 32 := by rw [← h.rk.len]; exact h.rk.n32
theorem RW.room_le (h : RW w0 B r a c gs R W) : rm R ≤ 256 := by
  have := rm_le (R := R) (fun i l hl => (h.dep i l hl).2) R.length
  rw [List.take_length] at this
  have := h.n32
  omega
end
theorem fld_dep {ds : List Int} {R : Rack} (h : Fld ds R) : R.map (·.1) = ds.map Int.toNat := by
  induction h with
  | nil => unfold mk; rw [List.map_map]; rfl
  | put t _ ih => rw [put_dep]; exact ih
theorem fld_len {ds : List Int} {R : Rack} (h : Fld ds R) : R.length = ds.length := by
  have := congrArg List.length (fld_dep h)
  simpa using this
theorem fld_at {ds : List Int} {R : Rack} (h : Fld ds R) {i : Nat} {l : Nat × List Int} (hl : R[i]? = some l) : ∃ d, ds[i]? = some d ∧ l.1 = d.toNat := by
  have h1 := fld_dep h
  have h2 : (R.map (·.1))[i]? = some l.1 := by rw [List.getElem?_map, hl]; rfl
  rw [h1, List.getElem?_map] at h2
  cases hd : ds[i]? with
  | none => rw [hd] at h2; cases h2
  | some d => rw [hd] at h2; simp at h2; exact ⟨d, rfl, h2.symm⟩

/-- how often a tote stands in the first lanes -/
def cnt (R : Rack) (y : Int) (k : Nat) : Nat := ((R.take k).map (fun l => l.2.count y)).sum
theorem cnt_succ {R : Rack} {k : Nat} {l : Nat × List Int} (y : Int) (h : R[k]? = some l) : cnt R y (k + 1) = cnt R y k + l.2.count y := by
  unfold cnt
  rw [List.take_add_one, h]
  simp
theorem cnt_wf {R : Rack} (hw : Wf R) (y : Int) : ∀ k, k ≤ R.length → (cnt R y k = 1 ∧ ∃ (i : Nat) (l : Nat × List Int), i < k ∧ R[i]? = some l ∧ y ∈ l.2) ∨ (cnt R y k = 0 ∧ ∀ (i : Nat) (l : Nat × List Int), i < k → R[i]? = some l → y ∉ l.2)
  | 0, _ => .inr ⟨rfl, fun i l hi => by omega⟩
  | k + 1, hk => by
    obtain ⟨l, hl⟩ : ∃ l, R[k]? = some l := ⟨_, List.getElem?_eq_getElem (by omega)⟩
    rw [cnt_succ y hl]
    have hn := hw.nd k l hl
    rcases cnt_wf hw y k (by omega) with ⟨h1, i, m, hi, hm, hy⟩ | ⟨h1, h2⟩
    · left
      have : y ∉ l.2 := fun h => by have := hw.dj i k m l y hm hl hy h; omega
      rw [List.count_eq_zero_of_not_mem this]
      exact ⟨h1, i, m, by omega, hm, hy⟩
    · by_cases h : y ∈ l.2
      · left
        refine ⟨?_, k, l, by omega, hl, h⟩
        have h3 : l.2.count y = 1 := List.Nodup.count hn |>.trans (if_pos h)
        omega
      · right
        rw [List.count_eq_zero_of_not_mem h]
        refine ⟨h1, fun i m hi hm => ?_⟩
        rcases Nat.lt_or_ge i k with g | g
        · exact h2 i m g hm
        · obtain rfl : i = k := by omega
          rw [hl] at hm
          cases hm
          exact h
theorem cnt_on {R : Rack} (hw : Wf R) (y : Int) : (cnt R y R.length = 1 ∧ On R y) ∨ (cnt R y R.length = 0 ∧ ¬ On R y) := by
  rcases cnt_wf hw y R.length (Nat.le_refl _) with ⟨h1, i, l, _, hl, hy⟩ | ⟨h1, h2⟩
  · exact .inl ⟨h1, i, l, hl, hy⟩
  · exact .inr ⟨h1, fun ⟨i, l, hl, hy⟩ => h2 i l (idx_lt hl) hl hy⟩
theorem whr_on (R : Rack) (y : Int) : (whr R y = -1 ∧ ¬ On R y) ∨ (0 ≤ whr R y ∧ whr R y < (R.length : Int) ∧ On R y) := by
  rcases whr_form R y with ⟨h, h'⟩ | ⟨k, l, h, hk, hl, hm, _⟩
  · exact .inl ⟨h, fun ⟨i, l, hl, hy⟩ => h' i l hl hy⟩
  · exact .inr ⟨by omega, by omega, k, l, hl, hm⟩
/-- which totes stand there, up to a number, as zeros and ones -/
def Mk (R : Rack) (C : List Int) (k : Nat) : Prop := C.length = 31 ∧ ∀ y : Nat, 1 ≤ y → y < k → (C[y]? = some 1 ∧ On R (y : Int)) ∨ (C[y]? = some 0 ∧ ¬ On R (y : Int))
/-- a box of numbers -/
def Bx (W : World) (g : Nat) (C : List Int) : Prop := W.heap[g]? = some (.cells (C.map (Value.int .i64)).toArray 60)
theorem Bx.at {W : World} {g : Nat} {C : List Int} (h : Bx W g C) (i : Nat) (x : Int) (hx : C[i]? = some x) : W.cell? ⟨g, i, none⟩ = some (.int .i64 x) ∧ W.frozen? ⟨g, i, none⟩ = false := by
  refine ⟨?_, (cells_at h i).2⟩
  rw [(cells_at h i).1]
  simp [hx]
theorem Bx.set {W : World} {g : Nat} {C : List Int} (h : Bx W g C) (i : Nat) (x : Int) : Bx (W.setCell ⟨g, i, none⟩ (.int .i64 x)) g (C.set i x) := by
  unfold Bx
  rw [heap_put h]
  congr 2
  rw [← Array.toList_inj]
  simp [List.map_set]
theorem Bx.keep {W W' : World} {g : Nat} {C : List Int} (h : Bx W g C) (hb : Below W.heap.size W W') : Bx W' g C := by
  unfold Bx
  rw [hb.block g (heap_lt h)]
  exact h
theorem Bx.fr {W W' : World} {B g : Nat} {C : List Int} (h : Bx W g C) (hf : Fr B W W') : Bx W' g C := hf.other h (by decide)
end Go.Proofs.Ytddcjkbdgneklaa
