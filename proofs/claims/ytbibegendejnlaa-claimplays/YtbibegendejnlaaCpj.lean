/- The document's table while the program plays. -/
import Derived.Test.YtbibegendejnlaaCte
namespace Go.Proofs.Ytbibegendejnlaa
open Go.RowKit
set_option linter.unusedVariables false

/-- rows: not the program's holders; nodes: handed in -/
def ppL (B gh : Nat) : Nat → Nat → Prop := fun i k => if i = 0 then k ≠ gh else k < B
theorem rd_blk {α : Type} {E : El Try.prog α} {w w' : World} {a : Option Addr} {n c : Nat} {xs : List α} (hr : E.Rd w (.slice a n c) xs) (hs : ∀ x, a = some x → x.block < w.heap.size → w'.heap[x.block]? = w.heap[x.block]?) : E.Rd w' (.slice a n c) xs := by
  rcases hr with h | ⟨x, cap, h1, h2⟩
  · exact .inl h
  · refine .inr ⟨x, cap, h1, fun k hk => ?_⟩
    simp only [Value.slice.injEq] at h1
    have h := h2 k hk
    have hl : k < (E.fl xs).length := by rw [E.fl_len]; exact hk
    rw [List.getElem?_eq_getElem hl] at h ⊢
    have hb : (x.add k).block = x.block := by unfold Addr.add; split <;> rfl
    have hlt := cell_lt h
    rw [hb] at hlt
    rw [World.cell?_of_block (w := w) (by rw [hb]; exact hs x h1.1 hlt)]; exact h
/-- what the program's calls change leaves the document's table -/
theorem DT.fr {w w' : World} {B g gh : Nat} {aH aQ : Option Addr} {cH cQ : Nat} {U : Tb} (h : DT (ppL B gh) w aH cH aQ cQ U) (hf : Fr B g gh w w') {C0 : Array Value} (hg : w.heap[g]? = some (.cells C0 63)) (hgB : B ≤ g) (hghB : B ≤ gh) {C1 : Array Value} (hgh : w.heap[gh]? = some (.cells C1 3)) : DT (ppL B gh) w' aH cH aQ cQ U := by
  obtain ⟨h1, ⟨cs, h2, h3, h4⟩, h5, h6, h7, h8⟩ := h
  have ty : ∀ (k : Nat) (C : Array Value) (e : TypeId), w.heap[k]? = some (.cells C e) → (e = 3 ∨ e = 71) → (e = 3 → k ≠ gh) → w'.heap[k]? = w.heap[k]? := fun k C e hk he hne => by
    have d : ∀ (j : Nat) (D : Array Value) (f : TypeId), w.heap[j]? = some (.cells D f) → f ≠ e → k ≠ j := fun j D f hj hfe e' => by
      rw [← e', hk] at hj
      simp only [Option.some.injEq, Obj.cells.injEq] at hj
      exact hfe hj.2.1.symm
    refine hf.block k (heap_lt hk) (d g C0 63 hg (by rcases he with rfl | rfl <;> decide)) ?_ (.inr fun cur hc => ?_)
    · rcases he with rfl | rfl
      · exact hne rfl
      · exact d gh C1 3 hgh (by decide)
    · rw [hk] at hc
      simp only [Option.some.injEq, Obj.cells.injEq] at hc
      rcases he with rfl | rfl
      · exact absurd hc.2.1 (by decide)
      · exact absurd hc.2.1 (by decide)
  have sH : ∀ x, aH = some x → w'.heap[x.block]? = w.heap[x.block]? := fun x hx => by
    obtain ⟨C, hC⟩ := h7 x hx
    exact ty _ C 3 hC (.inl rfl) (fun _ => h5 x hx)
  have sQ : ∀ x, aQ = some x → w'.heap[x.block]? = w.heap[x.block]? := fun x hx => by
    obtain ⟨C, hC⟩ := h8 x hx
    exact ty _ C 71 hC (.inr rfl) (fun e => absurd e (by decide))
  refine ⟨rd_blk h1 (fun x hx _ => sH x hx), ⟨cs, rd_blk h2 (fun x hx _ => sQ x hx), h3, fun i x p hx hp => ?_⟩, h5, h6, fun x hx => ?_, fun x hx => ?_⟩
  · obtain ⟨e1, e2, e3⟩ := h4 i x p hx hp
    refine ⟨e1, rd_blk e2 (fun y hy hlt => ?_), e3⟩
    have hy' : y.block < B := e3 y hy
    exact hf.block _ hlt (by omega) (by omega) (.inl hy')
  · obtain ⟨C, hC⟩ := h7 x hx
    exact ⟨C, by rw [sH x hx]; exact hC⟩
  · obtain ⟨C, hC⟩ := h8 x hx
    exact ⟨C, by rw [sQ x hx]; exact hC⟩
theorem fnd_cn (t : Int) (q : List Cl) : fnd t (q.map cnC) = fnd t q := by
  unfold fnd ixI
  rw [List.findIdx_map, List.length_map]
  rfl
theorem Wf.cn {U : Tb} (h : Wf U) : Wf (cn U) := by
  refine ⟨h.len, h.hold, fun c hc => ?_, fun c hc => ?_, ?_⟩
  · obtain ⟨d, hd, rfl⟩ := List.mem_map.1 hc
    exact h.tote d hd
  · obtain ⟨d, hd, rfl⟩ := List.mem_map.1 hc
    obtain ⟨h1, h2, h3⟩ := h.nodes d hd
    refine ⟨fun n hn => h1 n ((onc_mem _ _).1 hn), fun e => h2 ?_, Nat.le_trans (onc_len _) h3⟩
    cases e' : d.nodes with
    | nil => rfl
    | cons x l =>
      have : x ∈ onc d.nodes := (onc_mem _ _).2 (by rw [e']; simp)
      have e2 : onc d.nodes = [] := e
      rw [e2] at this; cases this
  · have := h.once
    rw [← wait_cn U] at this
    exact this
end Go.Proofs.Ytbibegendejnlaa
