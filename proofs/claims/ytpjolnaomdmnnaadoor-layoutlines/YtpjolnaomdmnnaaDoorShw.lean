/- Show: what it writes. -/
import Derived.Test.YtpjolnaomdmnnaaDoorWln
import Derived.Test.YtpjolnaomdmnnaaDoorLin
namespace Go.Proofs.YtpjolnaomdmnnaaDoor
open Go.RowKit
set_option linter.unusedVariables false

def kindW (k : Int) : ByteArray := if k = 1 then str [116, 114, 97, 99, 107] else if k = 2 then str [115, 108, 111, 116] else if k = 3 then str [115, 116, 97, 116, 105, 111, 110] else str [103, 97, 116, 101]
def ndLine (n : Nd) : List UInt8 := lineB [nodeWd, n.name, kindW n.kind, str (Lib.decDigits n.zone.toNat)]
def nameAt (ns : List Nd) (i : Int) : ByteArray := (ns[i.toNat]?.map (·.name)).getD ByteArray.empty
def edLine (ns : List Nd) (e : Ed) : List UInt8 := lineB [edgeWd, nameAt ns e.1, nameAt ns e.2]
def showL (ns : List Nd) (es : List Ed) : List UInt8 := ns.flatMap ndLine ++ es.flatMap (edLine ns)
theorem join4 (a b c d : List UInt8) : Lib.join [a, b, c, d] [32] = a ++ 32 :: (b ++ 32 :: (c ++ 32 :: d)) := by simp [Lib.join, List.intercalate]
theorem join3 (a b c : List UInt8) : Lib.join [a, b, c] [32] = a ++ 32 :: (b ++ 32 :: c) := by simp [Lib.join, List.intercalate]
theorem kindW_small (k : Int) : (kindW k).size ≤ 7 := by
  unfold kindW
  split
  · decide
  · split
    · decide
    · split <;> decide
theorem ndLine_small (n : Nd) (h : ndB n = true) : (ndLine n).length ≤ 40 := by
  unfold ndB at h
  simp only [Bool.and_eq_true] at h
  have h1 : n.name.size ≤ 8 := by have := h.1.1; unfold nameB at this; exact (of_decide_eq_true this).2.1
  have hz : n.zone.toNat < 10 := by have := h.2; unfold zoneB at this; have := of_decide_eq_true this; omega
  have hk := kindW_small n.kind
  have hd : (Lib.decDigits n.zone.toNat).length = 1 := by rw [Lib.decDigits, dif_pos hz]; rfl
  unfold ndLine lineB
  have s1 : n.name.data.toList.length = n.name.size := rfl
  have s2 : (kindW n.kind).data.toList.length = (kindW n.kind).size := rfl
  simp only [List.map_cons, List.map_nil, str_list, join4, List.length_append, List.length_cons, List.length_nil, s1, s2, hd, nodeWd]
  omega
end Go.Proofs.YtpjolnaomdmnnaaDoor
