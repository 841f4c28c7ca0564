/- Strings of bytes; what []byte makes of one. -/
import Derived.Test.YtgdoagmnhmfjkaaTfm
import Derived.Test.YtgdoagmnhmfjkaaNrr
import Derived.Test.YtgdoagmnhmfjkaaNgo
import Derived.Test.YtgdoagmnhmfjkaaNby
import Derived.Laws.IdiomStrings
namespace Go.Proofs.Ytgdoagmnhmfjkaa
open Go.ChangeShapes Go.WideShapes Go.ChangeAt Go.RowKit
set_option linter.unusedVariables false

theorem str_size (l : List Int) : (str l).size = l.length := by
  have := congrArg List.length (str_list l)
  rw [List.length_map, Array.length_toList] at this
  exact this
theorem str_nil : str [] = ⟨#[]⟩ := rfl
theorem str_app (a b : List Int) : str a ++ str b = str (a ++ b) := by
  apply WideShapes.bytes_inj
  rw [ByteArray.data_append, Array.toList_append, str_list, str_list, str_list, List.map_append]
theorem str_ext (l : List Int) (n : Nat) : (str l).extract 0 n = str (l.take n) := by
  apply WideShapes.bytes_inj
  rw [ByteArray.data_extract, Array.toList_extract, str_list, str_list]
  simp [List.map_take]
theorem str_cell (l : List Int) (h : InB l) (j : Nat) (x : Int) (hx : l[j]? = some x) : (str l).data[j]? = some (UInt8.ofNat x.toNat) ∧ ((UInt8.ofNat x.toNat).toNat : Int) = x := by
  have hb := h x (List.mem_of_getElem? hx)
  refine ⟨?_, by simp; omega⟩
  rw [← Array.getElem?_toList, str_list, List.getElem?_map, hx]
  rfl
theorem conv_by (w : World) (l : List Int) (h : InB l) : ∃ w' cap, (convert 9 57 (.string (str l))).run Try.prog w = .ok (.slice (some ⟨w.heap.size, 0, none⟩) l.length cap) w' ∧ Sl w' (some ⟨w.heap.size, 0, none⟩) l.length cap l ∧ Below w.heap.size w w' := by
  have hr := run_bytes_of_string (P := Try.prog) w 9 57 5 (str l) Try.underlying9 Try.underlying57 Try.underlying5
  rw [str_size] at hr
  refine ⟨_, _, hr, ⟨.inr ⟨⟨w.heap.size, 0, none⟩, _, rfl, fun i hi => ?_⟩, rfl, grownCap_ge w _ _ _⟩, ?_⟩
  · have hi' : i < l.length := by show i < l.length; have : i < l.length * 1 := hi; omega
    rw [addr_plain, Nat.zero_add]
    have hc : (w.drew.alloc (.cells (bytesRow (str l) (grownCap w l.length 0 5)) 5 ((bytesRow (str l) (grownCap w l.length 0 5)).size, (bytesRow (str l) (grownCap w l.length 0 5)).size + 1))).cell? ⟨w.heap.size, i, none⟩ = (bytesRow (str l) (grownCap w l.length 0 5))[i]? := World.cell?_alloc_mark w.drew _ _ _ i
    rw [hc, by_fl, List.getElem?_map]
    obtain ⟨x, hx⟩ : ∃ x, l[i]? = some x := ⟨_, List.getElem?_eq_getElem hi'⟩
    obtain ⟨s1, s2⟩ := str_cell l h i x hx
    rw [hx]
    unfold bytesRow
    rw [Array.getElem?_append_left (by rw [Array.size_map]; have := str_size l; show i < (str l).size; omega), Array.getElem?_map, s1]
    simp only [Option.map_some, s2]
  · exact (below_drew w 1).alloc (Nat.le_refl _) _
end Go.Proofs.Ytgdoagmnhmfjkaa
