/- The shortest ways to a target: comesTo, step, path. -/
import Derived.Test.YtmmkfcmbmecleaaWts
namespace Go.Proofs.Ytmmkfcmbmecleaa
open Go.RowKit
set_option linter.unusedVariables false

/-- the ways to a target, as they lie there -/
structure Wy (w : World) (a a' aM : Option Addr) (c c' cM n m k0 t g : Nat) (ns : List Nd) (es : List Ed) (ms l : List Int) : Prop where
  ly : Ly w a a' c c' n m ns es
  msk : Mk w aM cM k0 ms
  far : intE.Rd w (.slice (some ⟨g, 0, none⟩) n n) l
  gr : Gr ns es ms l t n
theorem Wy.keep {w w' : World} {a a' aM : Option Addr} {c c' cM n m k0 t g : Nat} {ns : List Nd} {es : List Ed} {ms l : List Int} (h : Wy w a a' aM c c' cM n m k0 t g ns es ms l) (hb : Below w.heap.size w w') : Wy w' a a' aM c c' cM n m k0 t g ns es ms l :=
  ⟨h.ly.keep hb, h.msk.keep hb, h.far.keep hb, h.gr⟩
theorem Wy.at {w : World} {a a' aM : Option Addr} {c c' cM n m k0 t g : Nat} {ns : List Nd} {es : List Ed} {ms l : List Int} (h : Wy w a a' aM c c' cM n m k0 t g ns es ms l) (y : Nat) (hy : y < n) : w.cell? ⟨g, y, none⟩ = some (.int .i64 (va l y)) := by
  obtain ⟨b, off, h1, h2⟩ := int_at h.far y _ (va_at l y (by rw [h.gr.far.1]; exact hy))
  simp only [Option.some.injEq, Addr.mk.injEq] at h1
  obtain ⟨rfl, rfl, _⟩ := h1
  simpa using h2
theorem Wy.kind {w : World} {a a' aM : Option Addr} {c c' cM n m k0 t g : Nat} {ns : List Nd} {es : List Ed} {ms l : List Int} (h : Wy w a a' aM c c' cM n m k0 t g ns es ms l) (y : Nat) (hy : y < n) : ∃ b off, a = some ⟨b, off, none⟩ ∧ w.cell? ⟨b, off + y * 3 + 1, none⟩ = some (.int .i64 (kindAt ns (y : Int))) := by
  have hl : y < ns.length := by rw [h.ly.hn]; exact hy
  obtain ⟨b, off, h1, _, h2, _⟩ := nd_at h.ly.hv y _ (List.getElem?_eq_getElem hl)
  exact ⟨b, off, h1, by rw [kind_at (List.getElem?_eq_getElem hl)]; exact h2⟩
/-- the cells of a box -/
theorem box5 {g : Nat} {W0 W : World} {v0 v1 v2 v3 v4 : Value} (hbox : W0.heap[g]? = some (.cells #[v0, v1, v2, v3, v4] 80)) (hb : Below W0.heap.size W0 W) :
    W.cell? ⟨g, 0, none⟩ = some v0 ∧ W.cell? ⟨g, 1, none⟩ = some v1 ∧ W.cell? ⟨g, 2, none⟩ = some v2 ∧ W.cell? ⟨g, 3, none⟩ = some v3 ∧ W.cell? ⟨g, 4, none⟩ = some v4 := by
  rw [hb.cell (p := ⟨g, 0, none⟩) (heap_lt hbox), hb.cell (p := ⟨g, 1, none⟩) (heap_lt hbox), hb.cell (p := ⟨g, 2, none⟩) (heap_lt hbox), hb.cell (p := ⟨g, 3, none⟩) (heap_lt hbox), hb.cell (p := ⟨g, 4, none⟩) (heap_lt hbox)]
  exact ⟨(cells_at hbox 0).1, (cells_at hbox 1).1, (cells_at hbox 2).1, (cells_at hbox 3).1, (cells_at hbox 4).1⟩

set_option maxRecDepth 100000 in
set_option maxHeartbeats 4000000 in
theorem comesTo_any (a a' aM : Option Addr) (c c' cM n m k0 t g y : Nat) (ns : List Nd) (es : List Ed) (ms l : List Int) (left : Int) (w : World) (hW : Wy w a a' aM c c' cM n m k0 t g ns es ms l) (hy : y < n) :
    Calls Try.prog 61 #[.agg #[.slice a n c, .slice a' m c', .slice aM k0 cM, .int .i64 (t : Int), .slice (some ⟨g, 0, none⟩) n n], .int .i64 (y : Int), .int .i64 left] w fun e w' => e = .returned (.bool (decide (va l y = left) && (decide (y = t) || decide (kindAt ns (y : Int) = 1)))) ∧ Below w.heap.size w w' := by
  obtain ⟨W0, hW0⟩ : ∃ W0, w.alloc (.cells #[.slice a n c, .slice a' m c', .slice aM k0 cM, .int .i64 (t : Int), .slice (some ⟨g, 0, none⟩) n n] 80) = W0 := ⟨_, rfl⟩
  have bA : Below w.heap.size w W0 := by rw [← hW0]; exact (Below.refl _ _).alloc (Nat.le_refl _) _
  have hbox : W0.heap[w.heap.size]? = some (.cells #[.slice a n c, .slice a' m c', .slice aM k0 cM, .int .i64 (t : Int), .slice (some ⟨g, 0, none⟩) n n] 80) := by rw [← hW0]; exact heap_new _ _
  have HBOX := hide hbox
  have HA := hide bA
  have HW0 := hide hW0
  obtain ⟨d0, d1, d2, d3, d4⟩ := box5 hbox (Below.refl _ _)
  have b1 : Below W0.heap.size W0 (W0.alloc (.cells #[.int .i64 (y : Int)] 3)) := (Below.refl _ _).alloc (Nat.le_refl _) _
  have Hb1 := hide b1
  have K28 : Hid (∀ W, Below W0.heap.size W0 W → intE.Rd W (.slice (some ⟨W0.heap.size, 0, none⟩) 1 1) [(y : Int)] → Calls Try.prog 39 #[.agg #[.slice a n c, .slice a' m c'], .slice (some ⟨W0.heap.size, 0, none⟩) 1 1] W fun e w' => e = .returned (.bool true) ∧ Below W.heap.size W w') := hide (fun W h hr => by
    have := places_any a a' (some ⟨W0.heap.size, 0, none⟩) n c m c' 1 1 [(y : Int)] W rfl hr (by omega)
    rwa [place1, decide_eq_true ⟨by omega, by omega⟩] at this)
  have HWy : Hid (∀ W, Below W0.heap.size W0 W → Wy W a a' aM c c' cM n m k0 t g ns es ms l) := hide (fun W h => hW.keep (bA.trans (h.mono bA.size)))
  have Hy := hide hy
  have j0 : (0 : Int) ≤ (y : Int) := by omega
  have j1 : (y : Int) < (n : Int) := by omega
  have Hyt : Hid (decide (y = t) = ((y : Int) == (t : Int))) := hide (by
    by_cases h : y = t
    · subst h; simp
    · rw [decide_eq_false h, beq_eq_false_iff_ne.2 (by omega)])
  have Hyk : Hid (decide (kindAt ns (y : Int) = 1) = (kindAt ns (y : Int) == 1)) := hide (by
    by_cases h : kindAt ns (y : Int) = 1
    · rw [h]; rfl
    · rw [decide_eq_false h, beq_eq_false_iff_ne.2 h])
  obtain ⟨b, off, rfl, _⟩ := hW.kind y hy
  obtain ⟨res, hres⟩ : ∃ res, (decide (va l y = left) && (decide (y = t) || decide (kindAt ns (y : Int) = 1))) = res := ⟨_, rfl⟩
  rw [hres]
  have HRes := hide hres
  clear hW hy hW0 hbox bA b1 hres
  go_enter Try.func61, Try.ntmps61
  go_upto_region 1 with fail
  rw [HW0.out]
  clear HW0
  by_cases h1 : va l y = left
  · have HRes : Hid ((((y : Int) == (t : Int)) || (kindAt ns (y : Int) == 1)) = res) := hide (by rw [← Hyt.out, ← Hyk.out, ← HRes.out, decide_eq_true h1, Bool.true_and])
    clear Hyt Hyk
    go_upto_region 3 with (go_at_call 39; refine (K28.out _ Hb1.out (int_new _ _ _ rfl)).mono ?_; rintro e W2 ⟨rfl, hb2⟩; have Hb2 : Hid (Below W0.heap.size W0 W2) := hide (Hb1.out.trans (hb2.mono Hb1.out.size)); obtain ⟨x0, x1, x2, x3, x4⟩ := box5 HBOX.out Hb2.out; have x5 := (HWy.out W2 Hb2.out).at y Hy.out; obtain ⟨b', off', hbb, x6⟩ := (HWy.out W2 Hb2.out).kind y Hy.out; simp only [Option.some.injEq, Addr.mk.injEq] at hbb; obtain ⟨rfl, rfl, _⟩ := hbb; rw [h1] at x5; have q1 : (left != left) = false := bne_self_eq_false _; clear hb2 d0 d1 d2 d3 d4)
    clear h1 K28
    generalize kindAt ns (y : Int) = kd at x6 HRes
    cases hq : ((y : Int) == (t : Int))
    · rw [hq, Bool.false_or] at HRes
      have e1 := HRes.out
      subst e1
      go_wp2_with fail
      go_ret
      exact ⟨rfl, HA.out.trans (Hb2.out.mono HA.out.size)⟩
    · rw [hq, Bool.true_or] at HRes
      have e1 := HRes.out
      subst e1
      go_wp2_with fail
      go_ret
      exact ⟨rfl, HA.out.trans (Hb2.out.mono HA.out.size)⟩
  · have e1 : res = false := by rw [← HRes.out, decide_eq_false h1, Bool.false_and]
    subst e1
    have q1 : (va l y != left) = true := bne_iff_ne.2 h1
    clear HRes Hyt Hyk h1
    go_wp2_with (go_at_call 39; refine (K28.out _ Hb1.out (int_new _ _ _ rfl)).mono ?_; rintro e W2 ⟨rfl, hb2⟩; have Hb2 : Hid (Below W0.heap.size W0 W2) := hide (Hb1.out.trans (hb2.mono Hb1.out.size)); obtain ⟨x0, x1, x2, x3, x4⟩ := box5 HBOX.out Hb2.out; have x5 := (HWy.out W2 Hb2.out).at y Hy.out; clear hb2 d0 d1 d2 d3 d4)
    go_ret
    exact ⟨rfl, HA.out.trans (Hb2.out.mono HA.out.size)⟩
end Go.Proofs.Ytmmkfcmbmecleaa
