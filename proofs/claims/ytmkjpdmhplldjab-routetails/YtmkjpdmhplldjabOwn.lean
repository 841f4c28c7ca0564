/- Own: a layout's copy. -/
import Derived.Test.YtmkjpdmhplldjabLyb
import Derived.Test.YtmkjpdmhplldjabExm
namespace Go.Proofs.Ytmkjpdmhplldjab
open Go.RowKit
set_option linter.unusedVariables false

theorem own_chg {α : Type} {E : El Try.prog α} {w w' : World} {B : Nat} {v : Value} {xs : List α} (h : E.Own w B v xs) (hs : ∀ g cur, v.ownBlock = some g → w.heap[g]? = some (.cells cur E.e) → w'.heap[g]? = w.heap[g]?) : E.Own w' B v xs := by
  obtain ⟨h0, h⟩ := h
  refine ⟨h0, ?_⟩
  rcases h with h | ⟨g, cap, cur, h1, h2, h3, h4⟩
  · exact .inl h
  · refine .inr ⟨g, cap, cur, h1, h2, ?_, h4⟩
    rw [hs g cur (by rw [h1]; rfl) h3]; exact h3
theorem stepB {P : Program} {α : Type} (E : El P α) {B : Nat} {w : World} (hB : B ≤ w.heap.size) {ops : Array Oper} {o : Oper} {a : Act} {K : Act → World → Prop} {Q : Exit → Act → World → Prop} {F : Prop} (hgd : o.guard = none) (s x : Operand)
    (ho : o.op = .call { callee := .builtin .append, args := #[s, x], argTypes := #[E.t, E.t] }) (v u : Value) (hs : a.eval s = v) (hx : a.eval x = u)
    (xs ys : List α) (hown : E.Own w B v xs) (hu : E.Rd w u ys) (hn : xs.length + ys.length ≤ 1000000)
    (h : ∀ v' w', E.Own w' B v' (xs ++ ys) → w.grownBy w' v.ownBlock → K (a.put o.dst v') w') :
    if Region.wanted o (yielded ops a.tmps) = true then Oper.wp P o a w K Q else F := by
  have hw : Region.wanted o (yielded ops a.tmps) = true := by simp [Region.wanted, hgd]
  rw [if_pos hw]
  obtain ⟨v', w', hr, h2, h3, h4⟩ := E.run hown hB hu hn o.type
  unfold Oper.wp execOp
  simp only [ho, resolve, invoke, builtin, Sem.run_bind, Sem.run_pure, Result.andThen_ok, List.map_toArray, List.map_cons, List.map_nil, hs, hx, hr]
  exact h v' w' h2 h3
theorem own_other {α β : Type} {E : El Try.prog α} {F : El Try.prog β} {w w' : World} {B : Nat} {v u : Value} {xs : List α} {ys : List β} (hne : E.e ≠ F.e) (hE : E.Own w B v xs) (hF : F.Own w B u ys) (hg : w.grownBy w' v.ownBlock) : F.Own w' B u ys :=
  own_chg hF fun k cur hk hc => hg.block k (heap_lt hc) (fun e => by
    rcases hE.2 with ⟨hx, _⟩ | ⟨q', cap, cur', hx, h2, h3, _⟩
    · rw [hx] at e; cases e
    · rw [hx] at e
      simp [Value.ownBlock] at e
      subst e
      rw [hc] at h3
      simp only [Option.some.injEq, Obj.cells.injEq] at h3
      exact hne h3.2.1.symm)
theorem leaf_ok {w W0 W : World} {vN vE : Value} {ns : List Nd} {es : List Ed} (h0 : w.heap.size ≤ W0.heap.size) (hA : Below w.heap.size w W0) (hb : Below W0.heap.size W0 W) (hz : W.heap[w.heap.size + 1]? = some (.cells #[.slice none 0 0, .slice none 0 0] 25)) (hn : ndE.Own W W0.heap.size vN ns) (he : edE.Own W W0.heap.size vE es) :
    ((W.setCell ⟨w.heap.size + 1, 0, none⟩ vN).setCell ⟨w.heap.size + 1, 1, none⟩ vE).heap[w.heap.size + 1]? = some (.cells #[vN, vE] 25) ∧ ndE.Own ((W.setCell ⟨w.heap.size + 1, 0, none⟩ vN).setCell ⟨w.heap.size + 1, 1, none⟩ vE) w.heap.size vN ns ∧ edE.Own ((W.setCell ⟨w.heap.size + 1, 0, none⟩ vN).setCell ⟨w.heap.size + 1, 1, none⟩ vE) w.heap.size vE es ∧ Below w.heap.size w ((W.setCell ⟨w.heap.size + 1, 0, none⟩ vN).setCell ⟨w.heap.size + 1, 1, none⟩ vE) := by
  refine ⟨heap_put (heap_put hz vN) vE, (own_chg hn fun k cur _ hk => ?_).mono h0, (own_chg he fun k cur _ hk => ?_).mono h0, ((hA.trans (hb.mono h0)).setCell (p := ⟨w.heap.size + 1, 0, none⟩) (by simp) _).setCell (p := ⟨w.heap.size + 1, 1, none⟩) (by simp) _⟩
  · have ne : k ≠ w.heap.size + 1 := fun e => by subst e; rw [hz] at hk; simp only [Option.some.injEq, Obj.cells.injEq] at hk; exact absurd hk.2.1 (by decide)
    rw [Below.heap_setCell _ _ _ _ ne, Below.heap_setCell _ _ _ _ ne]
  · have ne : k ≠ w.heap.size + 1 := fun e => by subst e; rw [hz] at hk; simp only [Option.some.injEq, Obj.cells.injEq] at hk; exact absurd hk.2.1 (by decide)
    rw [Below.heap_setCell _ _ _ _ ne, Below.heap_setCell _ _ _ _ ne]

end Go.Proofs.Ytmkjpdmhplldjab
