/- The document's set: a rack with another lane in a place. -/
import Derived.Test.YtddcjkbdgneklaaGrj
namespace Go.Proofs.Ytddcjkbdgneklaa
open Go.RowKit
set_option linter.unusedVariables false

/-- three boxes: a rack, a lane, a rack -/
structure X3 (w0 : World) (h : Nat) (v : Value) (d : Nat) (s z : Value) (W : World) : Prop where
  bel : Below h w0 W
  b1 : W.heap[h]? = some (.cells #[v] 31)
  b2 : W.heap[h + 1]? = some (.cells #[.int .i64 d, s] 75)
  b3 : W.heap[h + 2]? = some (.cells #[z] 31)
section
variable {w0 W W' : World} {h : Nat} {v s z : Value} {d : Nat}
theorem X3.cells (x : X3 w0 h v d s z W) : W.cell? ⟨h, 0, none⟩ = some v ∧ W.cell? ⟨h + 1, 0, none⟩ = some (.int .i64 d) ∧ W.cell? ⟨h + 1, 1, none⟩ = some s ∧ W.cell? ⟨h + 2, 0, none⟩ = some z ∧ (∀ i, W.frozen? ⟨h, i, none⟩ = false) ∧ ∀ i, W.frozen? ⟨h + 2, i, none⟩ = false :=
  ⟨(cells_at x.b1 0).1, (cells_at x.b2 0).1, (cells_at x.b2 1).1, (cells_at x.b3 0).1, fun i => (cells_at x.b1 i).2, fun i => (cells_at x.b3 i).2⟩
theorem X3.keep (x : X3 w0 h v d s z W) (hb : Below W.heap.size W W') : X3 w0 h v d s z W' :=
  ⟨x.bel.trans (hb.mono (Nat.le_of_lt (heap_lt x.b1))), (hb.block _ (heap_lt x.b1)).trans x.b1, (hb.block _ (heap_lt x.b2)).trans x.b2, (hb.block _ (heap_lt x.b3)).trans x.b3⟩
theorem X3.new (w : World) (v s : Value) (d h : Nat) (hh : w.heap.size = h) : X3 w h v d s (.slice none 0 0) (((w.alloc (.cells #[v] 31)).alloc (.cells #[.int .i64 d, s] 75)).alloc (.cells #[.slice none 0 0] 31)) := by
  subst hh
  have sz : ∀ (V : World) (o : Obj), (V.alloc o).heap.size = V.heap.size + 1 := fun V o => by show (V.heap.push _).size = _; simp
  have b0 : ∀ (V : World) (o : Obj), Below V.heap.size V (V.alloc o) := fun V o => (Below.refl _ _).alloc (Nat.le_refl _) o
  have n1 := heap_new w (.cells #[v] 31)
  have n2 := heap_new (w.alloc (.cells #[v] 31)) (.cells #[.int .i64 d, s] 75)
  have n3 := heap_new ((w.alloc (.cells #[v] 31)).alloc (.cells #[.int .i64 d, s] 75)) (.cells #[.slice none 0 0] 31)
  rw [sz] at n2
  rw [sz, sz] at n3
  have m1 := (b0 (w.alloc (.cells #[v] 31)) (.cells #[.int .i64 d, s] 75)).block _ (heap_lt n1)
  have m2 := (b0 ((w.alloc (.cells #[v] 31)).alloc (.cells #[.int .i64 d, s] 75)) (.cells #[.slice none 0 0] 31)).block w.heap.size (by rw [sz, sz]; omega)
  have m3 := (b0 ((w.alloc (.cells #[v] 31)).alloc (.cells #[.int .i64 d, s] 75)) (.cells #[.slice none 0 0] 31)).block (w.heap.size + 1) (by rw [sz, sz]; omega)
  refine ⟨((b0 w _).trans ((b0 _ _).mono (by rw [sz]; omega))).trans ((b0 _ _).mono (by rw [sz, sz]; omega)), m2.trans (m1.trans n1), m3.trans n2, n3⟩
/-- the first box is written -/
theorem X3.put (x : X3 w0 h v d s z W) (u : Value) : X3 w0 h u d s z (W.setCell ⟨h, 0, none⟩ u) :=
  ⟨x.bel.setCell (p := ⟨h, 0, none⟩) (Nat.le_refl _) _, by rw [heap_put x.b1]; rfl, by rw [Below.heap_setCell _ _ _ _ (by show h + 1 ≠ h; omega)]; exact x.b2, by rw [Below.heap_setCell _ _ _ _ (by show h + 2 ≠ h; omega)]; exact x.b3⟩
/-- the last box is written -/
theorem X3.out (x : X3 w0 h v d s z W) (u : Value) : X3 w0 h v d s u (W.setCell ⟨h + 2, 0, none⟩ u) :=
  ⟨x.bel.setCell (p := ⟨h + 2, 0, none⟩) (by show h ≤ h + 2; omega) _, by rw [Below.heap_setCell _ _ _ _ (by show h ≠ h + 2; omega)]; exact x.b1, by rw [Below.heap_setCell _ _ _ _ (by show h + 1 ≠ h + 2; omega)]; exact x.b2, by rw [heap_put x.b3]; rfl⟩
/-- another block is written -/
theorem X3.off (x : X3 w0 h v d s z W) {g i : Nat} {u : Value} (hg : h + 3 ≤ g) : X3 w0 h v d s z (W.setCell ⟨g, i, none⟩ u) :=
  ⟨x.bel.setCell (p := ⟨g, i, none⟩) (by show h ≤ g; omega) _, by rw [Below.heap_setCell _ _ _ _ (by show h ≠ g; omega)]; exact x.b1, by rw [Below.heap_setCell _ _ _ _ (by show h + 1 ≠ g; omega)]; exact x.b2, by rw [Below.heap_setCell _ _ _ _ (by show h + 2 ≠ g; omega)]; exact x.b3⟩
theorem X3.size (x : X3 w0 h v d s z W) : h + 3 ≤ W.heap.size := heap_lt x.b3
/-- a row behind the boxes grows -/
theorem X3.grow {α : Type} {E : El Try.prog α} {B : Nat} {u : Value} {xs : List α} (x : X3 w0 h v d s z W) (ho : E.Own W B u xs) (hB : h + 3 ≤ B) (hg : W.grownBy W' u.ownBlock) : X3 w0 h v d s z W' := by
  have e1 : ∀ k, k < h + 3 → W'.heap[k]? = W.heap[k]? := fun k hk => hg.block k (by have := x.size; omega) (fun e => by have := ho.ge k e.symm; omega)
  exact ⟨x.bel.grown hg (by have := x.size; omega) (fun k hk => by have := ho.ge k hk; omega), (e1 h (by omega)).trans x.b1, (e1 (h + 1) (by omega)).trans x.b2, (e1 (h + 2) (by omega)).trans x.b3⟩
end
/-- numbers' rows stay where blocks of other types are written -/
theorem DR.cell {W : World} {B : Nat} {a : Option Addr} {n c : Nat} {es : List LnV} {R : Rack} {xs : List Int} {v u : Value} {g i : Nat} {C : Array Value} {t : TypeId} (h : intE.Own W B v xs) (hg : W.heap[g]? = some (.cells C t)) (ht : t ≠ 3) : intE.Own (W.setCell ⟨g, i, none⟩ u) B v xs := own_set_other h (zown_ne h hg ht)

theorem ln_nil (w : World) : lnE.Own (w.alloc (.cells #[] 75)) w.heap.size (.slice (some ⟨w.heap.size, 0, none⟩) 0 0) [] := El.Own.new lnE w w.heap.size (Nat.le_refl _) #[] [] rfl (by simp) _ _ _ rfl rfl rfl

set_option maxRecDepth 100000 in
set_option maxHeartbeats 8000000 in
theorem rset_any {B : Nat} {a a2 : Option Addr} {n c m c2 d : Nat} {es : List LnV} {R : Rack} {xs : List Int} (i : Nat) (w : World) (hr : DR w B a n c es R) (hi : i < n) (hB : B ≤ w.heap.size) (ho : intE.Own w B (.slice a2 m c2) xs) (hm : xs.length = m) (hmd : m ≤ d) (hd : d ≤ 8) :
    Calls Try.prog 32 #[.agg #[.slice a n c], .int .i64 i, .agg #[.int .i64 d, .slice a2 m c2]] w fun e w' => ∃ a' c' es', e = .returned (.agg #[.slice a' n c']) ∧ DR w' B a' n c' es' (R.set i (d, xs)) ∧ Below w.heap.size w w' := by
  obtain ⟨w0, rfl⟩ : ∃ w0, w0 = w := ⟨_, rfl⟩
  obtain ⟨h, hh⟩ : ∃ h, w0.heap.size = h := ⟨_, rfl⟩
  have HX0 := hide (X3.new w0 (.slice a n c) (.slice a2 m c2) d h hh)
  have HD : Hid (∀ W, Below h w0 W → DR W B a n c es R ∧ intE.Own W B (.slice a2 m c2) xs) := hide (fun W hb => ⟨hr.keep (by rw [hh]; exact hb), ho.keep (by rw [hh]; exact hb)⟩)
  have Hen := hide hr.en
  have Hrn := hide hr.rn
  have n32 := hr.n32
  have i0 : (n : Int) ≤ 32 := by omega
  have j0 : (0 : Int) ≤ (i : Int) := by omega
  have j1 : (i : Int) < (n : Int) := by omega
  have HBh : Hid (B ≤ h) := hide (by rw [← hh]; exact hB)
  have Hm := hide hm
  have HFin : Hid (∀ (V : World) (a' : Option Addr) (c' : Nat), lnE.Own V B (.slice a' n c') (es.set i ⟨d, a2, m, c2⟩) → (∀ (j : Nat) (e : LnV) (l : Nat × List Int), es[j]? = some e → R[j]? = some l → intE.Own V B (.slice e.a e.n e.c) l.2) → intE.Own V B (.slice a2 m c2) xs → DR V B a' n c' (es.set i ⟨d, a2, m, c2⟩) (R.set i (d, xs))) := hide (fun V a' c' h1 h2 h3 => by
    have hei : i < es.length := by rw [hr.en]; exact hi
    have hri : i < R.length := by rw [hr.rn]; exact hi
    refine ⟨h1, by rw [List.length_set]; exact hr.en, by rw [List.length_set]; exact hr.rn, hr.n32, fun j e l hj hl => ?_, fun j l hl => ?_⟩
    · by_cases e' : i = j
      · subst e'
        rw [List.getElem?_set, if_pos rfl, if_pos hei] at hj
        rw [List.getElem?_set, if_pos rfl, if_pos hri] at hl
        cases hj
        cases hl
        exact ⟨rfl, hm.symm, h3⟩
      · rw [set_off e'] at hj hl
        exact ⟨(hr.at' j e l hj hl).1, (hr.at' j e l hj hl).2.1, h2 j e l hj hl⟩
    · by_cases e' : i = j
      · subst e'
        rw [List.getElem?_set, if_pos rfl, if_pos hri] at hl
        cases hl
        exact ⟨by rw [hm]; exact hmd, hd⟩
      · rw [set_off e'] at hl
        exact hr.bd j l hl)
  rw [hh]
  have Hh := hide hh
  clear hr hh ho hm hmd hd hB
  go_enter Try.func32, Try.ntmps32
  go_upto_region 1 with fail
  rw [Hh.out]
  generalize ((w0.alloc (.cells #[.slice a n c] 31)).alloc (.cells #[.int .i64 (d : Int), .slice a2 m c2] 75)).alloc (.cells #[.slice none 0 0] 31) = W1 at *
  obtain ⟨s1, hs1⟩ : ∃ s1, W1.heap.size = s1 := ⟨_, rfl⟩
  have Hs1 : Hid (h + 3 ≤ s1) := hide (by rw [← hs1]; exact HX0.out.size)
  have Hba : Hid (∀ (V : World) (o : Obj), Below V.heap.size V (V.alloc o)) := hide (fun V o => (Below.refl _ _).alloc (Nat.le_refl _) o)
  have HO2 : Hid (lnE.Own (W1.alloc (.cells #[] 75)) s1 (.slice (some ⟨s1, 0, none⟩) 0 0) []) := hide (by rw [← hs1]; exact ln_nil W1)
  have HX2 := hide (HX0.out.keep (Hba.out W1 (.cells #[] 75)))
  have Hs2 : Hid (s1 ≤ (W1.alloc (.cells #[] 75)).heap.size) := hide (by rw [← hs1]; exact (Hba.out W1 (.cells #[] 75)).size)
  obtain ⟨y0, y1, y2, y3, y4, y5⟩ := HX2.out.cells
  have HR2 : Hid (lnE.Rd (W1.alloc (.cells #[] 75)) (.slice a n c) es) := hide (HD.out _ HX2.out.bel).1.row.rd
  have HN2 : Hid (([] : List LnV).length + es.length ≤ 1000000) := hide (by rw [Hen.out]; simp; omega)
  have HNe : Hid (es ≠ []) := hide (fun e => by have := Hen.out; rw [e] at this; simp at this; omega)
  go_upto_region 2 with (at_builtin; refine lnE.wpB (B := s1) Hs2.out (by rfl) _ _ rfl _ _ rfl rfl [] es HO2.out HR2.out HN2.out ?_; intro v4 W4 ho hg hs; have ho2 : lnE.Own W4 s1 v4 es := ho; obtain ⟨g4, c4, hf4, _⟩ := ho2.some HNe.out; rw [Hen.out] at hf4; subst hf4; have HO4 := hide ho2; have HX4 := hide (HX2.out.grow HO2.out Hs1.out hg); clear ho ho2 hg hs; obtain ⟨z0, z1, z2, z3, z4, z5⟩ := HX4.out.cells)
  clear y0 y1 y2 y3 y4 y5
  have Hg4 : Hid (s1 ≤ g4) := hide (HO4.out.ge g4 rfl)
  have HX5 := hide (HX4.out.put (.slice (some ⟨g4, 0, none⟩) n c4))
  have HO5 : Hid (lnE.Own (W4.setCell ⟨h, 0, none⟩ (.slice (some ⟨g4, 0, none⟩) n c4)) s1 (.slice (some ⟨g4, 0, none⟩) n c4) es) := hide (own_set_other HO4.out (fun e => by have h1 := HO4.out.ge h e; have h2 := Hs1.out; omega))
  clear z0 z1 z2 z3 z4 z5 HX4 HO4 HX2 HO2 HR2
  generalize W4.setCell ⟨h, 0, none⟩ (.slice (some ⟨g4, 0, none⟩) n c4) = W5 at *
  obtain ⟨z0, z1, z2, z3, z4, z5⟩ := HX5.out.cells
  obtain ⟨e0, he0⟩ : ∃ e0, es[i]? = some e0 := ⟨_, List.getElem?_eq_getElem (by rw [Hen.out]; exact hi)⟩
  have k0 := HO5.out.cell (i * 2) (by show i * 2 < es.length * 2; rw [Hen.out]; omega)
  have k1 := HO5.out.cell (i * 2 + 1) (by show i * 2 + 1 < es.length * 2; rw [Hen.out]; omega)
  have f0' : (lnE.fl es)[i * 2]? = some (.int .i64 e0.d) := lnE.fl_at es i 0 e0 he0 (by decide)
  have f1' : (lnE.fl es)[i * 2 + 1]? = some (.slice e0.a e0.n e0.c) := lnE.fl_at es i 1 e0 he0 (by decide)
  have u0 : W5.cell? ⟨g4, i * 2, none⟩ = some (.int .i64 e0.d) := by rw [k0.1, f0']
  have u1 : W5.cell? ⟨g4, i * 2 + 1, none⟩ = some (.slice e0.a e0.n e0.c) := by rw [k1.1, f1']
  have u2 := k0.2.1
  have u3 := k1.2.1
  have HO6 : Hid (lnE.Own ((W5.setCell ⟨g4, i * 2, none⟩ (.int .i64 d)).setCell ⟨g4, i * 2 + 1, none⟩ (.slice a2 m c2)) s1 (.slice (some ⟨g4, 0, none⟩) n c4) (es.set i ⟨d, a2, m, c2⟩)) := hide (by
    have s1' : lnE.Own (W5.setCell ⟨g4, i * 2, none⟩ (.int .i64 d)) s1 (.slice (some ⟨g4, 0, none⟩) n c4) (es.set i ⟨d, e0.a, e0.n, e0.c⟩) := own_setC (j := 0) (z := ⟨d, e0.a, e0.n, e0.c⟩) HO5.out he0 (by decide) rfl
    have s2' : lnE.Own ((W5.setCell ⟨g4, i * 2, none⟩ (.int .i64 d)).setCell ⟨g4, i * 2 + 1, none⟩ (.slice a2 m c2)) s1 (.slice (some ⟨g4, 0, none⟩) n c4) ((es.set i ⟨d, e0.a, e0.n, e0.c⟩).set i ⟨d, a2, m, c2⟩) := own_setC (j := 1) (z := ⟨d, a2, m, c2⟩) s1' (set_at he0) (by decide) rfl
    rwa [List.set_set] at s2')
  have hg3 : h + 3 ≤ g4 := by have := Hg4.out; have := Hs1.out; omega
  have HX6 : Hid (X3 w0 h (.slice (some ⟨g4, 0, none⟩) n c4) d (.slice a2 m c2) (.slice none 0 0) ((W5.setCell ⟨g4, i * 2, none⟩ (.int .i64 d)).setCell ⟨g4, i * 2 + 1, none⟩ (.slice a2 m c2))) := hide ((HX5.out.off hg3).off hg3)
  clear k0 k1 f0' f1' he0
  go_upto_region 3 with fail
  clear z0 z1 z2 z3 z4 z5 u0 u1 u2 u3 HX5 HO5
  generalize (W5.setCell ⟨g4, i * 2, none⟩ (.int .i64 d)).setCell ⟨g4, i * 2 + 1, none⟩ (.slice a2 m c2) = W6 at *
  obtain ⟨z0, z1, z2, z3, z4, z5⟩ := HX6.out.cells
  have HX7 := hide (HX6.out.out (.slice (some ⟨g4, 0, none⟩) n c4))
  have HO7 : Hid (lnE.Own (W6.setCell ⟨h + 2, 0, none⟩ (.slice (some ⟨g4, 0, none⟩) n c4)) s1 (.slice (some ⟨g4, 0, none⟩) n c4) (es.set i ⟨d, a2, m, c2⟩)) := hide (own_set_other HO6.out (fun e => by have h1 := HO6.out.ge _ e; have h2 := Hs1.out; omega))
  go_wp2_with fail
  generalize W6.setCell ⟨h + 2, 0, none⟩ (.slice (some ⟨g4, 0, none⟩) n c4) = W7 at *
  have HF := HFin.out W7 (some ⟨g4, 0, none⟩) c4 (HO7.out.mono (by have := HBh.out; have := Hs1.out; omega)) (fun j e l h1 h2 => ((HD.out W7 HX7.out.bel).1.at' j e l h1 h2).2.2) (HD.out W7 HX7.out.bel).2
  have x3 := HX7.out.cells.2.2.2.1
  refine bodyPost_ret (v := .agg #[.slice (some ⟨g4, 0, none⟩) n c4]) (by simp [results, Try.results32, go_sem, x3]) rfl ⟨_, _, _, rfl, HF, HX7.out.bel⟩
end Go.Proofs.Ytddcjkbdgneklaa
