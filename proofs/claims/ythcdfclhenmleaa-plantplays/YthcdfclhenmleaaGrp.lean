/- Groups of things: the things of one object. -/
import Derived.Test.YthcdfclhenmleaaIts
namespace Go.Proofs.Ythcdfclhenmleaa
open Go.RowKit
set_option linter.unusedVariables false

/-- the things of one object -/
def It.grp (l : List It) : It where
  P w := (∀ x ∈ l, x.P w) ∧ l.Pairwise (fun (x y : It) => ∀ k : Nat, x.f k → ¬ y.f k)
  f k := ∃ x ∈ l, x.f k
  lt h k hk := by
    obtain ⟨x, hx, q⟩ := hk
    exact x.lt (h.1 x hx) k q
  st h hs := ⟨fun x hx => x.st (h.1 x hx) fun k hk => hs k ⟨x, hx, hk⟩, h.2⟩
/-- what is true -/
def It.fact (p : Prop) : It where
  P _ := p
  f _ := False
  lt _ _ h := h.elim
  st h _ := h
theorem Its.opn {w0 w : World} {a l : List It} (h : Its w0 (.grp a :: l) w) : Its w0 (a ++ l) w := by
  have h1 := h.all (.grp a) (by simp)
  refine ⟨h.bel, fun x hx => ?_, fun x hx k hk => ?_, List.pairwise_append.2 ⟨h1.2, (List.pairwise_cons.1 h.sep).2, fun x hx y hy k hk => ?_⟩⟩
  · rcases List.mem_append.1 hx with q | q
    · exact h1.1 x q
    · exact h.all x (by simp [q])
  · rcases List.mem_append.1 hx with q | q
    · exact h.ge (.grp a) (by simp) k ⟨x, q, hk⟩
    · exact h.ge x (by simp [q]) k hk
  · exact (List.pairwise_cons.1 h.sep).1 y hy k ⟨x, hx, hk⟩
theorem Its.shut {w0 w : World} {a l : List It} (h : Its w0 (a ++ l) w) : Its w0 (.grp a :: l) w := by
  have h1 := List.pairwise_append.1 h.sep
  refine ⟨h.bel, fun x hx => ?_, fun x hx k hk => ?_, List.pairwise_cons.2 ⟨fun y hy k hk => ?_, h1.2.1⟩⟩
  · rcases List.mem_cons.1 hx with rfl | q
    · exact ⟨fun y hy => h.all y (by simp [hy]), h1.1⟩
    · exact h.all x (by simp [q])
  · rcases List.mem_cons.1 hx with rfl | q
    · obtain ⟨y, hy, q⟩ := hk
      exact h.ge y (by simp [hy]) k q
    · exact h.ge x (by simp [q]) k hk
  · obtain ⟨x, hx, q⟩ := hk
    exact h1.2.2 x hx y hy k q

end Go.Proofs.Ythcdfclhenmleaa
