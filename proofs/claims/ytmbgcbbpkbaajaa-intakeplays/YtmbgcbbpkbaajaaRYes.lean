/- What the document's Take makes of a piece that came -/
import Derived.Test.YtmbgcbbpkbaajaaRTake
namespace Go.Proofs.Ytmbgcbbpkbaajaa
open Go.RowKit

/-- a list without one place -/
def rm (ps : List Pc) (k : Nat) : List Pc := ps.take k ++ ps.drop (k + 1)
theorem rm_len (ps : List Pc) (k : Nat) (h : k < ps.length) : (rm ps k).length + 1 = ps.length := by
  simp [rm]; omega
theorem idx_lt {ps : List Pc} {s : Int} (h : 0 ≤ idx ps s) : (idx ps s).toNat < ps.length := by
  have := idx_ge ps s; omega

/-- taken over as long as the next one is there -/
def adv (nx : Int) (came : List Pc) (queue : List ByteArray) : Int × List Pc × List ByteArray :=
  if h : 0 ≤ idx came nx then
    have : (rm came (idx came nx).toNat).length < came.length := by have := rm_len came _ (idx_lt h); omega
    adv ((nx + 1) % 65536) (rm came (idx came nx).toNat) (queue ++ [((came[(idx came nx).toNat]?).getD (0, ByteArray.empty)).2])
  else (nx, came, queue)
termination_by came.length

theorem adv_go (nx : Int) (came : List Pc) (queue : List ByteArray) (k : Nat) (p : Pc) (hk : idx came nx = k) (hp : came[k]? = some p) : adv nx came queue = adv ((nx + 1) % 65536) (rm came k) (queue ++ [p.2]) := by
  rw [adv, dif_pos (by omega)]
  have e : (idx came nx).toNat = k := by omega
  show adv ((nx + 1) % 65536) (rm came (idx came nx).toNat) (queue ++ [((came[(idx came nx).toNat]?).getD (0, ByteArray.empty)).2]) = _
  rw [e, hp]
  rfl
theorem adv_end (nx : Int) (came : List Pc) (queue : List ByteArray) (h : idx came nx < 0) : adv nx came queue = (nx, came, queue) := by
  rw [adv, dif_neg (by omega)]

/-- a slice that lies in the elder world, or is of the call's own, behind its boxes -/
def Hld {α : Type} (E : El Try.prog α) (w : World) (B : Nat) (wr : World) (v : Value) (xs : List α) : Prop := E.Rd w v xs ∨ E.Own wr B v xs
theorem Hld.rd {α : Type} {E : El Try.prog α} {w wr : World} {B : Nat} {v : Value} {xs : List α} (h : Hld E w B wr v xs) (hb : Below w.heap.size w wr) : E.Rd wr v xs := by
  rcases h with h | h
  · exact h.keep hb
  · exact h.rd
theorem Hld.keep {α : Type} {E : El Try.prog α} {w wr wr' : World} {B : Nat} {v : Value} {xs : List α} (h : Hld E w B wr v xs) (hb : Below wr.heap.size wr wr') : Hld E w B wr' v xs := by
  rcases h with h | h
  · exact .inl h
  · exact .inr (h.keep hb)
theorem Hld.set {α : Type} {E : El Try.prog α} {w wr : World} {B g i : Nat} {v u : Value} {xs : List α} (h : Hld E w B wr v xs) (hg : g < B) : Hld E w B (wr.setCell ⟨g, i, none⟩ u) v xs := by
  rcases h with h | h
  · exact .inl h
  · right
    obtain ⟨h0, h⟩ := h
    refine ⟨h0, ?_⟩
    rcases h with h | ⟨g', cap, cur, h1, h2, h3, h4⟩
    · exact .inl h
    · refine .inr ⟨g', cap, cur, h1, h2, ?_, h4⟩
      rw [Below.heap_setCell _ _ _ _ (by show g' ≠ g; omega)]; exact h3
theorem below_set {w wr : World} {g i : Nat} {u : Value} (hb : Below w.heap.size w wr) (hg : w.heap.size ≤ g) : Below w.heap.size w (wr.setCell ⟨g, i, none⟩ u) := hb.setCell hg u
end Go.Proofs.Ytmbgcbbpkbaajaa
