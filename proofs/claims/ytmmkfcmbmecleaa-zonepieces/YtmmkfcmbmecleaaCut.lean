/- Cut: the devices without which there is no way. -/
import Derived.Test.YtmmkfcmbmecleaaFro
import Derived.Test.YtmmkfcmbmecleaaOwn
namespace Go.Proofs.Ytmmkfcmbmecleaa
open Go.RowKit
set_option linter.unusedVariables false

/-- the numbers from 1 on of the first k for which p holds -/
def Cts (p : Nat → Prop) : Nat → List Int → Prop
  | 0, l => l = []
  | k + 1, l => ∃ l', Cts p k l' ∧ ((p k ∧ l = l' ++ [((k + 1 : Nat) : Int)]) ∨ (¬ p k ∧ l = l'))
theorem Cts.uniq {p : Nat → Prop} : ∀ {k : Nat} {l l' : List Int}, Cts p k l → Cts p k l' → l = l'
  | 0, _, _, h, h' => by rw [show _ = [] from h, show _ = [] from h']
  | k + 1, _, _, ⟨x, hx, h⟩, ⟨y, hy, h'⟩ => by
    obtain rfl := Cts.uniq hx hy
    rcases h with ⟨h1, rfl⟩ | ⟨h1, rfl⟩ <;> rcases h' with ⟨h2, rfl⟩ | ⟨h2, rfl⟩
    · rfl
    · exact absurd h1 h2
    · exact absurd h2 h1
    · rfl
theorem Cts.len {p : Nat → Prop} : ∀ {k : Nat} {l : List Int}, Cts p k l → l.length ≤ k
  | 0, _, h => by rw [show _ = [] from h]; simp
  | k + 1, _, ⟨x, hx, h⟩ => by
    have := Cts.len hx
    rcases h with ⟨_, rfl⟩ | ⟨_, rfl⟩
    · simp; omega
    · omega
theorem Cts.imp {p q : Nat → Prop} : ∀ {k : Nat} {l : List Int}, (∀ i, i < k → (p i ↔ q i)) → Cts p k l → Cts q k l
  | 0, _, _, h => h
  | k + 1, _, hpq, ⟨x, hx, h⟩ => ⟨x, Cts.imp (fun i hi => hpq i (by omega)) hx, by rw [← hpq k (by omega)]; exact h⟩
theorem Cts.mem {p : Nat → Prop} : ∀ {k : Nat} {l : List Int}, Cts p k l → ∀ d : Int, d ∈ l ↔ ∃ i : Nat, i < k ∧ p i ∧ d = ((i + 1 : Nat) : Int)
  | 0, _, h, d => by rw [show _ = [] from h]; simp
  | k + 1, l, ⟨x, hx, h⟩, d => by
    have ih := Cts.mem hx d
    rcases h with ⟨h1, rfl⟩ | ⟨h1, rfl⟩
    · rw [List.mem_append, ih, List.mem_singleton]
      constructor
      · rintro (⟨i, h2, h3⟩ | h)
        · exact ⟨i, by omega, h3⟩
        · exact ⟨k, by omega, h1, h⟩
      · rintro ⟨i, h2, h3, h4⟩
        rcases Nat.lt_or_ge i k with h5 | h5
        · exact .inl ⟨i, h5, h3, h4⟩
        · obtain rfl : i = k := by omega
          exact .inr h4
    · rw [ih]
      constructor
      · rintro ⟨i, h2, h3⟩; exact ⟨i, by omega, h3⟩
      · rintro ⟨i, h2, h3, h4⟩
        rcases Nat.lt_or_ge i k with h5 | h5
        · exact ⟨i, h5, h3, h4⟩
        · obtain rfl : i = k := by omega
          exact absurd h3 h1
/-- is there a way? -/
def Has (ns : List Nd) (es : List Ed) (cl : List Bool) (s t : Nat) : Prop := ∃ k, Way (Eg es cl 0) (Tk ns) s k t
theorem Dst.has {ns : List Nd} {es : List Ed} {cl : List Bool} {s t : Nat} {d : Int} (h : Dst (Eg es cl 0) (Tk ns) s t d) : ((d != -1) = true ↔ Has ns es cl s t) ∧ (-1 ≤ d) := by
  rcases h with ⟨rfl, h⟩ | ⟨k, rfl, h, _⟩
  · exact ⟨⟨fun h => by simp at h, fun ⟨k, hk⟩ => absurd hk (h k)⟩, by omega⟩
  · exact ⟨⟨fun _ => ⟨k, h⟩, fun _ => bne_iff_ne.2 (by omega)⟩, by omega⟩
/-- an edge without which there is none -/
def Ct (ns : List Nd) (es : List Ed) (cl : List Bool) (s t : Nat) (i : Nat) : Prop := cl[i]? = some false ∧ ¬ Has ns es (cl.set i true) s t
/-- what Cut tells -/
def Cuts (ns : List Nd) (es : List Ed) (cl : List Bool) (s t : Nat) (l : List Int) : Prop := (¬ Has ns es cl s t ∧ l = []) ∨ (Has ns es cl s t ∧ Cts (Ct ns es cl s t) es.length l)
theorem Cuts.uniq {ns : List Nd} {es : List Ed} {cl : List Bool} {s t : Nat} {l l' : List Int} (h : Cuts ns es cl s t l) (h' : Cuts ns es cl s t l') : l = l' := by
  rcases h with ⟨h1, rfl⟩ | ⟨h1, h2⟩ <;> rcases h' with ⟨h3, rfl⟩ | ⟨h3, h4⟩
  · rfl
  · exact absurd h3 h1
  · exact absurd h1 h3
  · exact h2.uniq h4
theorem own_ne {α β : Type} {E : El Try.prog α} {F : El Try.prog β} {w : World} {B g n c : Nat} {v : Value} {xs : List α} {ys : List β} (hne : E.e ≠ F.e) (hE : E.Own w B v xs) (hF : F.Own w B (.slice (some ⟨g, 0, none⟩) n c) ys) : v.ownBlock ≠ some g := fun e => by
  rcases hF.2 with ⟨hx, _⟩ | ⟨q, cap, cur, hx, h2, h3, _⟩
  · cases hx
  · simp only [Value.slice.injEq, Option.some.injEq, Addr.mk.injEq] at hx
    obtain ⟨⟨rfl, _⟩, _⟩ := hx
    rcases hE.2 with ⟨hy, _⟩ | ⟨q', cap', cur', hy, h4, h5, _⟩
    · rw [hy] at e; cases e
    · rw [hy] at e
      simp [Value.ownBlock] at e
      subst e
      rw [h5] at h3
      simp only [Option.some.injEq, Obj.cells.injEq] at h3
      exact hne h3.2.1

end Go.Proofs.Ytmmkfcmbmecleaa
