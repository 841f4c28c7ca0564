/- Bytes made of a string: where they lie, one written, the way back. -/
import Derived.Test.YtpjolnaomdmnnaaDoorCut
import Derived.Lib.ConvBytes
import Derived.Laws.IdiomStrings
namespace Go.Proofs.YtpjolnaomdmnnaaDoor
open Go.RowKit
set_option linter.unusedVariables false

/-- a row of bytes that came of a string: its first cells -/
def Bt (w : World) (g : Nat) (l : List UInt8) : Prop := ∃ C : Array Value, w.heap[g]? = some (.cells C 5 (C.size, C.size + 1)) ∧ l.length ≤ C.size ∧ ∀ (j : Nat) (x : UInt8), l[j]? = some x → C[j]? = some (.int .u8 (x.toNat : Int))
theorem Bt.at {w : World} {g : Nat} {l : List UInt8} (h : Bt w g l) (j : Nat) (x : UInt8) (hx : l[j]? = some x) : w.cell? ⟨g, j, none⟩ = some (.int .u8 (x.toNat : Int)) ∧ w.frozen? ⟨g, j, none⟩ = false := by
  obtain ⟨C, h1, h2, h3⟩ := h
  have hj : j < l.length := by
    rcases Nat.lt_or_ge j l.length with g | g
    · exact g
    · rw [List.getElem?_eq_none g] at hx; cases hx
  refine ⟨?_, ?_⟩
  · unfold World.cell?
    simp only [h1]
    exact h3 j x hx
  · unfold World.frozen?
    simp only [h1]
    simp
    omega
theorem Bt.take {w : World} {g : Nat} {l : List UInt8} (h : Bt w g l) (k : Nat) : Bt w g (l.take k) := by
  obtain ⟨C, h1, h2, h3⟩ := h
  refine ⟨C, h1, by rw [List.length_take]; omega, fun j x hx => ?_⟩
  rw [List.getElem?_take] at hx
  split at hx
  · exact h3 j x hx
  · cases hx
theorem Bt.keep {w w' : World} {g : Nat} {l : List UInt8} (h : Bt w g l) (hb : Below w.heap.size w w') : Bt w' g l := by
  obtain ⟨C, h1, h2⟩ := h
  exact ⟨C, (hb.block g (heap_lt h1)).trans h1, h2⟩
theorem Bt.set {w : World} {g : Nat} {l : List UInt8} (h : Bt w g l) (i : Nat) (x : UInt8) : Bt (w.setCell ⟨g, i, none⟩ (.int .u8 (x.toNat : Int))) g (l.set i x) := by
  obtain ⟨C, h1, h2, h3⟩ := h
  refine ⟨C.setIfInBounds i (.int .u8 (x.toNat : Int)), ?_, by rw [List.length_set]; simpa using h2, fun j y hy => ?_⟩
  · have hs : (C.setIfInBounds i (.int .u8 (x.toNat : Int))).size = C.size := by simp
    rw [hs]
    simp [World.setCell, Array.getElem?_modify, h1]
  · rw [List.getElem?_set] at hy
    rw [Array.getElem?_setIfInBounds]
    by_cases e : i = j
    · subst e
      rw [if_pos rfl] at hy
      split at hy
      · rename_i hl
        rw [if_pos rfl, if_pos (by omega)]
        obtain rfl := Option.some.inj hy
        rfl
      · cases hy
    · rw [if_neg e] at hy
      rw [if_neg e]
      exact h3 j y hy
/-- the conversion of a string -/
theorem conv_bytes (w : World) (s : ByteArray) : ∃ w' cap, (convert 9 40 (.string s)).run Tryd.prog w = .ok (.slice (some ⟨w.heap.size, 0, none⟩) s.size cap) w' ∧ Bt w' w.heap.size s.data.toList ∧ Below w.heap.size w w' ∧ s.size ≤ cap := by
  refine ⟨Lib.bytesWorld w 5 s, grownCap w s.size 0 5, Lib.run_convert_string_bytes w 9 40 5 s Tryd.underlying9 Tryd.underlying40 Tryd.underlying5, ⟨_, Lib.bytesWorld_at_new w 5 s, ?_, fun j x hx => ?_⟩, ⟨?_, ?_, ?_, ?_, fun k hk => Lib.bytesWorld_at_old w 5 s k hk⟩, grownCap_ge w _ _ _⟩
  · simp [Lib.bytesCells]
  · have hj : j < s.data.size := by
      rcases Nat.lt_or_ge j s.data.size with g | g
      · exact g
      · rw [List.getElem?_eq_none (by simpa using g)] at hx; cases hx
    unfold Lib.bytesCells
    rw [Array.getElem?_append_left (by simpa using hj), Array.getElem?_map]
    rw [Array.getElem?_toList] at hx
    rw [hx]; rfl
  · simp [Lib.bytesWorld, World.freeze, World.alloc, World.drew, -World.alloc_eq, -World.drew_eq]
  · simp [Lib.bytesWorld, World.freeze, World.alloc, World.drew, -World.alloc_eq, -World.drew_eq]
  · simp [Lib.bytesWorld, World.freeze, World.alloc, World.drew, -World.alloc_eq, -World.drew_eq]
  · rw [Lib.bytesWorld_size]; omega
/-- and the way back -/
theorem conv_back {w : World} {g : Nat} {l : List UInt8} (h : Bt w g l) (cap : Nat) : (convert 40 9 (.slice (some ⟨g, 0, none⟩) l.length cap)).run Tryd.prog w = .ok (.string (str l)) w :=
  run_convert_bytes_back (P := Tryd.prog) w 40 9 5 ⟨g, 0, none⟩ cap l Tryd.underlying40 Tryd.underlying5 Tryd.underlying9 (fun j hj => by
    have := (h.at j l[j] (List.getElem?_eq_getElem hj)).1
    rw [addr_plain, Nat.zero_add]; exact this)
end Go.Proofs.YtpjolnaomdmnnaaDoor
