/- Areas: a slice of bytes of the call's own, or the first ones of one, with no room behind; append to it. -/
import Derived.Test.YtgdoagmnhmfjkaaGrp
import Derived.Test.YtgdoagmnhmfjkaaNwr
import Derived.Test.YtgdoagmnhmfjkaaTmt
namespace Go.Proofs.Ytgdoagmnhmfjkaa
open Go.RowKit
set_option linter.unusedVariables false

/-- an area's bytes -/
def Ar (w : World) (B : Nat) (v : Value) (xs : List Int) : Prop := byE.Own w B v xs ∨ ∃ g c ys, v = .slice (some ⟨g, 0, none⟩) xs.length xs.length ∧ byE.Own w B (.slice (some ⟨g, 0, none⟩) ys.length c) ys ∧ xs = ys.take xs.length
theorem Ar.nil (w : World) (B : Nat) : Ar w B (.slice none 0 0) [] := .inl (El.Own.nil _ _ _)
theorem Ar.lt {w : World} {B : Nat} {v : Value} {xs : List Int} (h : Ar w B v xs) (k : Nat) (hk : v.ownBlock = some k) : k < w.heap.size := by
  rcases h with h | ⟨g, c, ys, rfl, h, _⟩
  · exact h.lt k hk
  · exact h.lt k hk
theorem Ar.st {w w' : World} {B : Nat} {v : Value} {xs : List Int} (h : Ar w B v xs) (hs : ∀ k, v.ownBlock = some k → w'.heap[k]? = w.heap[k]?) : Ar w' B v xs := by
  rcases h with h | ⟨g, c, ys, rfl, h, e⟩
  · exact .inl (own_stay h fun g hg _ => hs g hg)
  · exact .inr ⟨g, c, ys, rfl, own_stay h fun g hg _ => hs g hg, e⟩
theorem Ar.rd {w : World} {B : Nat} {v : Value} {xs : List Int} (h : Ar w B v xs) : byE.Rd w v xs := by
  rcases h with h | ⟨g, c, ys, rfl, h, e⟩
  · exact h.rd
  · have hl : xs.length ≤ ys.length := by
      have := congrArg List.length e
      rw [List.length_take] at this
      omega
    have := h.rd.take xs.length hl
    rw [← e] at this
    rcases this with ⟨h1, _⟩ | ⟨x, c', h1, h2⟩
    · cases h1
    · simp only [Value.slice.injEq, Option.some.injEq] at h1
      obtain ⟨rfl, _, _⟩ := h1
      exact .inr ⟨_, _, rfl, h2⟩
theorem Ar.sl {w : World} {B : Nat} {v : Value} {xs : List Int} (h : Ar w B v xs) : ∃ a c, v = .slice a xs.length c ∧ Sl w a xs.length c xs := by
  have hr := h.rd
  rcases h with h | ⟨g, c, ys, rfl, h, e⟩
  · exact Sl.own h
  · exact ⟨_, _, rfl, hr, rfl, Nat.le_refl _⟩
/-- the first ones, with no room behind -/
theorem Ar.cut {w : World} {B g n c : Nat} {xs : List Int} (h : Ar w B (.slice (some ⟨g, 0, none⟩) n c) xs) (m : Nat) (hm : m ≤ xs.length) : Ar w B (.slice (some ⟨g, 0, none⟩) m m) (xs.take m) := by
  have hl : (xs.take m).length = m := by rw [List.length_take]; omega
  obtain ⟨a, c', e, _⟩ := h.sl
  rcases h with h | ⟨g', c, ys, e2, h, e3⟩
  · simp only [Value.slice.injEq] at e
    rw [e.2.1] at h
    exact .inr ⟨g, c, xs, by rw [hl], h, by rw [hl]⟩
  · simp only [Value.slice.injEq, Option.some.injEq, Addr.mk.injEq] at e2
    obtain ⟨⟨rfl, _⟩, _, _⟩ := e2
    refine .inr ⟨g, c, ys, by rw [hl], h, ?_⟩
    rw [hl, e3, List.take_take, Nat.min_eq_left hm]
/-- where it lies -/
theorem Ar.form {w : World} {B : Nat} {v : Value} {xs : List Int} (h : Ar w B v xs) (hne : xs ≠ []) : ∃ g c, v = .slice (some ⟨g, 0, none⟩) xs.length c ∧ xs.length ≤ c := by
  rcases h with h | ⟨g, c, ys, rfl, h, e⟩
  · obtain ⟨g, c, h1, h2, _⟩ := El.Own.some h hne
    exact ⟨g, c, h1, h2⟩
  · exact ⟨g, _, rfl, Nat.le_refl _⟩
theorem Ar.run {w : World} {B : Nat} {v : Value} {xs : List Int} (h : Ar w B v xs) (hB : B ≤ w.heap.size) {g1 : Nat} {x : Int} (hu : byE.Rd w (.slice (some ⟨g1, 0, none⟩) 1 1) [x]) (hn : xs.length ≤ 65536) (ty : TypeId) :
    ∃ v' w', (Builtin.append_ #[57, 57] ty #[v, .slice (some ⟨g1, 0, none⟩) 1 1]).run Try.prog w = .ok v' w' ∧ byE.Own w' B v' (xs ++ [x]) ∧ w.grownBy w' v.ownBlock ∧ (v'.ownBlock = v.ownBlock ∨ v'.ownBlock = some w.heap.size) := by
  have hrd := h.rd
  rcases h with h | ⟨g, c, ys, rfl, h, e⟩
  · exact byE.run h hB hu (by simp; omega) ty
  · obtain ⟨i, hi, he⟩ := Option.map_eq_some_iff.1 byE.info
    have e1 : i.zero = some byE.z := congrArg Prod.fst he
    have e2 : i.size = byE.k := congrArg (fun p => p.2.1) he
    have e3 : i.bytes = byE.by' := congrArg (fun p => p.2.2) he
    have e4 : i.size = 1 := e2
    have e5 : i.bytes = 1 := e3
    have hol : ∀ j u, (byE.fl xs)[j]? = some u → w.cell? ((⟨g, 0, none⟩ : Addr).add j) = some u := by
      intro j u hu
      rcases hrd with ⟨h1, _⟩ | ⟨a, c', h1, h2⟩
      · cases h1
      · simp only [Value.slice.injEq, Option.some.injEq] at h1
        obtain ⟨rfl, _, _⟩ := h1
        rw [h2 j ?_]
        · exact hu
        · have := idx_lt hu
          rw [byE.fl_len] at this
          exact this
    have hnw : ∀ j u, (byE.fl [x])[j]? = some u → w.cell? ((⟨g1, 0, none⟩ : Addr).add j) = some u := by
      intro j u hu'
      rcases hu with ⟨h1, _⟩ | ⟨a, c', h1, h2⟩
      · cases h1
      · simp only [Value.slice.injEq, Option.some.injEq] at h1
        obtain ⟨rfl, _, _⟩ := h1
        rw [h2 j ?_]
        · exact hu'
        · have := idx_lt hu'
          rw [byE.fl_len] at this
          exact this
    have hbytes : (xs.length + 1) * i.bytes ≤ 140737488355328 := by rw [e5]; omega
    have hr := run_append_grow (P := Try.prog) w 57 ty 5 i byE.z byE.ht hi e1 ⟨g, 0, none⟩ xs.length xs.length (byE.fl xs) (by rw [byE.fl_len, e2]) hol ⟨g1, 0, none⟩ 1 1 (byE.fl [x]) (by rw [e4]; rfl) hnw (by omega) (by omega) (growslice_fits (by omega) hbytes)
    have hge := grownCap_ge w (xs.length + 1) xs.length 5
    have hcm : grownCap w (xs.length + 1) xs.length 5 ≤ maxLen := grownCap_le_maxLen w (xs.length + 1) xs.length 5 (by unfold maxLen; omega)
    refine ⟨_, _, hr, ⟨?_, .inr ⟨w.heap.size, _, _, by rw [List.length_append]; rfl, hB, heap_alloc_new w.drew _, by rw [List.length_append]; exact hge, hcm, ?_, ?_⟩⟩, ⟨rfl, rfl, rfl, by simp, fun k hk _ => (below_new w.drew _).block k hk⟩, .inr rfl⟩
    · rw [byE.fl_len]
    · have hz : byE.z.cells.size = 1 := rfl
      have f1 := byE.fl_len xs
      have f2 := byE.fl_len [x]
      simp only [Array.size_append, List.size_toArray, size_zeroCells, hz, f1, f2]
      show xs.length * 1 + 1 * 1 + _ = _ * 1
      omega
    · simp only [Array.toList_append, List.append_assoc]
      rw [← List.append_assoc, byE.fl_app]
      have : (xs ++ [x]).length * byE.k = (byE.fl xs ++ byE.fl [x]).length := by rw [← byE.fl_app, byE.fl_len]
      rw [this]
      exact List.take_left
/-- an area as a thing -/
def It.area (B : Nat) (v : Value) (xs : List Int) : It where
  P w := Ar w B v xs
  f k := v.ownBlock = some k
  lt h k hk := h.lt k hk
  st h hs := h.st hs
end Go.Proofs.Ytgdoagmnhmfjkaa
