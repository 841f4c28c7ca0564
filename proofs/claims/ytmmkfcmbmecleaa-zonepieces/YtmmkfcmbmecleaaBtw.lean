/- The document's Between: lengths told anew till nothing changes. -/
import Derived.Test.YtmmkfcmbmecleaaLng
namespace Go.Proofs.Ytmmkfcmbmecleaa
open Go.RowKit
set_option linter.unusedVariables false

theorem rd_heap {α : Type} {E : El Try.prog α} {w W : World} {v : Value} {xs : List α} (h : E.Rd w v xs) (e : W.heap = w.heap) : E.Rd W v xs := by
  rcases h with h | ⟨x, cap, h1, h2⟩
  · exact .inl h
  · refine .inr ⟨x, cap, h1, fun n hn => ?_⟩
    rw [← h2 n hn]
    unfold World.cell?
    rw [e]
theorem own_heap {α : Type} {E : El Try.prog α} {w W : World} {B : Nat} {v : Value} {xs : List α} (h : E.Own w B v xs) (e : W.heap = w.heap) : E.Own W B v xs := by
  obtain ⟨h0, h⟩ := h
  refine ⟨h0, ?_⟩
  rcases h with h | ⟨g, cap, cur, h1, h2, h3, h4⟩
  · exact .inl h
  · exact .inr ⟨g, cap, cur, h1, h2, by rw [e]; exact h3, h4⟩

/-- what stands in a block -/
def rdl (w : World) (g n : Nat) : List Int := (List.range n).map (fun i => match w.cell? ⟨g, i, none⟩ with | some (.int _ x) => x | _ => 0)
theorem rdl_own {w : World} {B g n : Nat} {l : List Int} (h : intE.Own w B (.slice (some ⟨g, 0, none⟩) n n) l) (hl : l.length = n) : rdl w g n = l := by
  apply List.ext_getElem?
  intro i
  rcases Nat.lt_or_ge i n with hi | hi
  · have hc := (h.at1 (Value.int .i64) (fun _ => rfl) rfl i _ (va_at l i (by omega))).1
    rw [va_at l i (by omega)]
    simp [rdl, hi, hc]
  · rw [List.getElem?_eq_none (by simp [rdl, hi]), List.getElem?_eq_none (by omega)]
def boolN : Value → Nat
  | .bool true => 1
  | _ => 0
/-- an edge is done, or needn't be -/
def Dn (ns : List Nd) (cl : List Bool) (es : List Ed) (s : Nat) (l : List Int) (j : Nat) : Prop := ∀ u v : Nat, cl[j]? = some false → es[j]? = some ((u : Int), (v : Int)) → (u = s ∨ Tk ns u) → 0 ≤ va l u → Don l u v
/-- how a pass stands: nothing changed and all edges so far are done, or something has grown less -/
def Ps (ns : List Nd) (cl : List Bool) (es : List Ed) (s n : Nat) (l0 l : List Int) (fl : Bool) (i : Nat) : Prop := (fl = false ∧ l = l0 ∧ ∀ j, j < i → Dn ns cl es s l j) ∨ (fl = true ∧ sm (wt n) l < sm (wt n) l0)
theorem Ps.same {ns : List Nd} {cl : List Bool} {es : List Ed} {s n : Nat} {l0 l : List Int} {fl : Bool} {i : Nat} (h : Ps ns cl es s n l0 l fl i) (hd : Dn ns cl es s l i) : Ps ns cl es s n l0 l fl (i + 1) := by
  rcases h with ⟨h1, h2, h3⟩ | h
  · refine .inl ⟨h1, h2, fun j hj => ?_⟩
    rcases Nat.lt_or_ge j i with h' | h'
    · exact h3 j h'
    · obtain rfl : j = i := by omega
      exact hd
  · exact .inr h
theorem Ps.less {ns : List Nd} {cl : List Bool} {es : List Ed} {s n : Nat} {l0 l l' : List Int} {fl : Bool} {i : Nat} (h : Ps ns cl es s n l0 l fl i) (hd : sm (wt n) l' < sm (wt n) l) (k : Nat) : Ps ns cl es s n l0 l' true k := by
  rcases h with ⟨h1, h2, h3⟩ | ⟨_, h⟩
  · subst h2; exact .inr ⟨rfl, hd⟩
  · exact .inr ⟨rfl, by omega⟩

theorem below_heap {B : Nat} {w W W' : World} (h : Below B w W) (e : W'.heap = W.heap) (e1 : W'.os = W.os) (e2 : W'.tape = W.tape) (e3 : W'.output = W.output) : Below B w W' :=
  ⟨by rw [e1]; exact h.os, by rw [e2]; exact h.tape, by rw [e3]; exact h.output, by rw [e]; exact h.size, by rw [e]; exact h.block⟩

end Go.Proofs.Ytmmkfcmbmecleaa
