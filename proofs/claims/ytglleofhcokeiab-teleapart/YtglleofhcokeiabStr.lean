/- Bytes that differ are different strings; telegrams that differ have other bytes. -/
import Derived.Test.YtglleofhcokeiabTMath
namespace Go.Proofs.Ytglleofhcokeiab
open Go.ChangeShapes Go.WideShapes Go.ChangeAt Go.RowKit

theorem str_list (l : List Int) : (str l).data.toList = l.map (fun n => UInt8.ofNat n.toNat) := by
  unfold str
  have : ∀ (l : List Int) (r : ByteArray), (l.foldl (fun r n => r.push (UInt8.ofNat n.toNat)) r).data.toList = r.data.toList ++ l.map (fun n => UInt8.ofNat n.toNat) := by
    intro l
    induction l with
    | nil => intro r; simp
    | cons z l ih =>
      intro r
      rw [List.foldl_cons, ih]
      simp [ByteArray.push]
  rw [this]
  rfl
theorem str_inj {l m : List Int} (hl : InB l) (hm : InB m) (h : str l = str m) : l = m := by
  have h' : l.map (fun n => UInt8.ofNat n.toNat) = m.map (fun n => UInt8.ofNat n.toNat) := by rw [← str_list, ← str_list, h]
  clear h
  induction l generalizing m with
  | nil => cases m with
    | nil => rfl
    | cons => simp at h'
  | cons z l ih => cases m with
    | nil => simp at h'
    | cons y m =>
      simp only [List.map_cons, List.cons.injEq] at h'
      have b0 := hl z (by simp)
      have b1 := hm y (by simp)
      have e : z = y := by
        have := congrArg UInt8.toNat h'.1
        simp at this
        omega
      rw [e, ih (fun x hx => hl x (by simp [hx])) (fun x hx => hm x (by simp [hx])) h'.2]
theorem toList_inj {A B : ByteArray} (h : A.toList = B.toList) : A = B := WideShapes.bytes_inj (by rw [← ByteArray.toList_eq, ← ByteArray.toList_eq, h])
theorem enc_inj {t u : Tl} (h : enc t = enc u) : t = u := by rw [← dcd_enc t, h, dcd_enc]

end Go.Proofs.Ytglleofhcokeiab
