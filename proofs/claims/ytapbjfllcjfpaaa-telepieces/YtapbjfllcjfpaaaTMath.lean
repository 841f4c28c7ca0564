/- There and back: a telegram's bytes are read as it, and what is read is written so. -/
import Derived.Test.YtapbjfllcjfpaaaDec
namespace Go.Proofs.Ytapbjfllcjfpaaa
open Go.ChangeShapes Go.WideShapes Go.ChangeAt Go.RowKit

theorem wd_enc (t : Tl) : wd (enc t) 10 = uv (sm 0xFFFF#16 (body t)) := by
  show uv (sm 0xFFFF#16 (body t)) / 256 * 256 + uv (sm 0xFFFF#16 (body t)) % 256 = _
  omega
theorem dcd_enc (t : Tl) : dcd (enc t) = t := by
  obtain ⟨k, d, s, a, b⟩ := t
  have e : ∀ x : Int, x / 256 * 256 + x % 256 = x := fun x => by omega
  show (⟨k, d / 256 * 256 + d % 256, s / 256 * 256 + s % 256, a / 256 * 256 + a % 256, b / 256 * 256 + b % 256⟩ : Tl) = _
  rw [e, e, e, e]
theorem dcode_enc (t : Tl) : dcode (enc t) = chk t := by
  unfold dcode
  rw [if_pos (enc_len t), if_pos (show (enc t)[0]?.getD 0 = 165 from rfl), wd_enc, dcd_enc, if_pos]
  rfl
theorem dtele_enc (t : Tl) (h : chk t = 0) : dtele (enc t) = t := by
  unfold dtele
  rw [dcode_enc, if_pos h, dcd_enc]

theorem list12 (l : List Int) (h : l.length = 12) : ∃ z0 z1 z2 z3 z4 z5 z6 z7 z8 z9 z10 z11, l = [z0, z1, z2, z3, z4, z5, z6, z7, z8, z9, z10, z11] := by
  match l, h with
  | [z0, z1, z2, z3, z4, z5, z6, z7, z8, z9, z10, z11], _ => exact ⟨_, _, _, _, _, _, _, _, _, _, _, _, rfl⟩

theorem dcode_zero {l : List Int} (h : dcode l = 0) : l.length = 12 ∧ l[0]?.getD 0 = 165 ∧ uv (sm 0xFFFF#16 (l.take 10)) = wd l 10 ∧ chk (dcd l) = 0 := by
  unfold dcode at h
  split at h
  · rename_i h1
    split at h
    · rename_i h2
      split at h
      · rename_i h3
        exact ⟨h1, h2, h3, h⟩
      · omega
    · omega
  · omega

theorem enc_dcd {l : List Int} (hr : InB l) (h : dcode l = 0) : enc (dcd l) = l := by
  obtain ⟨h1, h2, h3, _⟩ := dcode_zero h
  obtain ⟨z0, z1, z2, z3, z4, z5, z6, z7, z8, z9, z10, z11, rfl⟩ := list12 l h1
  have b : ∀ z ∈ [z0, z1, z2, z3, z4, z5, z6, z7, z8, z9, z10, z11], 0 ≤ z ∧ z ≤ 255 := hr
  simp only [List.mem_cons, List.not_mem_nil, or_false, forall_eq_or_imp, forall_eq] at b
  obtain ⟨b0, b1, b2, b3, b4, b5, b6, b7, b8, b9, b10, b11⟩ := b
  have h2' : z0 = 165 := h2
  have h3' : uv (sm 0xFFFF#16 [z0, z1, z2, z3, z4, z5, z6, z7, z8, z9]) = z10 * 256 + z11 := h3
  have eb : body (dcd [z0, z1, z2, z3, z4, z5, z6, z7, z8, z9, z10, z11]) = [z0, z1, z2, z3, z4, z5, z6, z7, z8, z9] := by
    show [165, z1, (z2 * 256 + z3) / 256, (z2 * 256 + z3) % 256, (z4 * 256 + z5) / 256, (z4 * 256 + z5) % 256, (z6 * 256 + z7) / 256, (z6 * 256 + z7) % 256, (z8 * 256 + z9) / 256, (z8 * 256 + z9) % 256] = _
    have e : ∀ x y : Int, 0 ≤ y ∧ y ≤ 255 → (x * 256 + y) / 256 = x ∧ (x * 256 + y) % 256 = y := fun x y h => by omega
    rw [(e z2 z3 b3).1, (e z2 z3 b3).2, (e z4 z5 b5).1, (e z4 z5 b5).2, (e z6 z7 b7).1, (e z6 z7 b7).2, (e z8 z9 b9).1, (e z8 z9 b9).2, h2']
  unfold enc
  rw [eb, h3']
  show [z0, z1, z2, z3, z4, z5, z6, z7, z8, z9, (z10 * 256 + z11) / 256, (z10 * 256 + z11) % 256] = _
  rw [show (z10 * 256 + z11) / 256 = z10 by omega, show (z10 * 256 + z11) % 256 = z11 by omega]

theorem dcd_in {l : List Int} (hr : InB l) : (dcd l).In := ⟨getD_in hr 1, wd_in hr 2, wd_in hr 4, wd_in hr 6, wd_in hr 8⟩

theorem Cp.own {w : World} {B : Nat} {v : Value} {l : List Int} (h : Ow w B v l) : Cp v := by
  obtain ⟨_, h⟩ := h
  rcases h with ⟨h1, _⟩ | ⟨g, cap, cur, h1, _, _, hn, _⟩
  · exact ⟨_, _, _, h1, Nat.le_refl _⟩
  · exact ⟨_, _, _, h1, hn⟩

theorem box5 {w w' : World} {k d s a b : Int} (hb : Below (w.alloc (.cells #[.int .u8 k, .int .u16 d, .int .u16 s, .int .u16 a, .int .u16 b] 28)).heap.size (w.alloc (.cells #[.int .u8 k, .int .u16 d, .int .u16 s, .int .u16 a, .int .u16 b] 28)) w') :
    w'.cell? ⟨w.heap.size, 0, none⟩ = some (.int .u8 k) ∧ w'.cell? ⟨w.heap.size, 1, none⟩ = some (.int .u16 d) ∧ w'.cell? ⟨w.heap.size, 2, none⟩ = some (.int .u16 s) ∧ w'.cell? ⟨w.heap.size, 3, none⟩ = some (.int .u16 a) ∧ w'.cell? ⟨w.heap.size, 4, none⟩ = some (.int .u16 b) :=
  ⟨box_at hb 0, box_at hb 1, box_at hb 2, box_at hb 3, box_at hb 4⟩

end Go.Proofs.Ytapbjfllcjfpaaa
