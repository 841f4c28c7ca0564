/- Down. -/
import Derived.Test.YtlnnpdghcilioaaMre
namespace Go.Proofs.Ytlnnpdghcilioaa
open Go.RowKit
set_option linter.unusedVariables false

theorem downF_app (i : Nat) (l : List Dv) (D : Dv) : downF i (l ++ [D]) = downF i l ++ (if D.dn then [((i + l.length : Nat) : Int) + 1] else []) := by
  induction l generalizing i with
  | nil => simp [downF]
  | cons E t ih =>
    rw [List.cons_append]
    unfold downF
    rw [ih]
    have : i + 1 + t.length = i + (E :: t).length := by simp; omega
    rw [this]
    by_cases h : E.dn <;> simp [h]
theorem take_one {α : Type} {l : List α} {k : Nat} {x : α} (h : l[k]? = some x) : l.take (k + 1) = l.take k ++ [x] := by
  rw [List.take_add_one, h]; rfl
theorem downF_len (i : Nat) (l : List Dv) : (downF i l).length ≤ l.length := by
  induction l generalizing i with
  | nil => simp [downF]
  | cons E t ih =>
    have := ih (i + 1)
    unfold downF
    by_cases h : E.dn <;> simp [h] <;> omega
def DownP (w0 : World) (l : List It) (ds : List Int) (e : Ending) (w' : World) : Prop := ∃ a n c, e = .returned (.slice a n c) ∧ ds.length = n ∧ Its w0 (.ints w0.heap.size (.slice a n c) ds :: l) w'
section
variable {w0 w : World} {l : List It} {B g n m : Nat} {H : Nat × Nat} {es : List (Int × Int)} {S : Mr}
set_option maxRecDepth 100000 in
set_option maxHeartbeats 2000000 in
theorem downS (h : Its w0 (.mir B g H n m es S :: l) w) : Calls Try.prog 18 #[.pointer (some ⟨g, 0, none⟩)] w fun e w' => DownP w0 (.mir B g H n m es S :: l) S.down e w' := by
  have h1 := h.one
  obtain ⟨c0, c1⟩ := mr_cells h1
  obtain ⟨l0, l1, l2, l3⟩ := mr_len h1
  have HE := hide (h.empty intE)
  have L1 := hide l1
  have i0 : (m : Int) ≤ 120 := by omega
  have dn : Hid (S.down = downF 0 S.ds) := hide rfl
  obtain ⟨dd, hdd⟩ : ∃ dd, S.down = dd := ⟨_, rfl⟩
  rw [hdd] at dn ⊢
  clear hdd l0 l1 h h1
  go_enter Try.func18, Try.ntmps18
  go_wp2_with fail
  go_loopw [11, 3] (fun v11 v3 wr => ∃ (k : Nat) (a : Option Addr) (q c : Nat), v11 = .int .i64 k ∧ v3 = .slice a q c ∧ k ≤ m ∧ Hid ((downF 0 (S.ds.take k)).length = q) ∧ Hid (Its w0 (.ints w0.heap.size (.slice a q c) (downF 0 (S.ds.take k)) :: .mir B g H n m es S :: l) wr)) (fun v11 _ _ => m - (intOf v11).toNat)
  case atStart => exact ⟨0, none, 0, 0, rfl, rfl, Nat.zero_le _, hide rfl, HE⟩
  case round =>
    obtain ⟨k, a, q, c, rfl, rfl, hk, HL, HR⟩ := hrel
    by_cases hlt : k < m
    · obtain ⟨D, hD⟩ : ∃ D, S.ds[k]? = some D := ⟨_, List.getElem?_eq_getElem (by rw [L1.out]; exact hlt)⟩
      obtain ⟨d0, d1, d2, d3, d4, d5⟩ := mr_d HR.out.two hD
      have j0 : (0 : Int) ≤ (k : Int) := by omega
      have j1 : (k : Int) < (m : Int) := by omega
      have j2 : wrap64 ((k : Int) + 1) = (k : Int) + 1 := by unfold wrap64; omega
      have Htk : Hid (downF 0 (S.ds.take (k + 1)) = downF 0 (S.ds.take k) ++ (if D.dn then [(k : Int) + 1] else [])) := hide (by
        rw [take_one hD, downF_app, List.length_take, Nat.min_eq_left (by rw [L1.out]; omega), Nat.zero_add])
      have Hle : Hid ((downF 0 (S.ds.take k)).length + [(k : Int) + 1].length ≤ 1000000) := hide (by
        have := downF_len 0 (S.ds.take k)
        rw [List.length_take] at this
        simp only [List.length_singleton]; omega)
      have HA : Hid (∀ o, Its w0 (.ints w0.heap.size (.slice a q c) (downF 0 (S.ds.take k)) :: .mir B g H n m es S :: l) (wr.alloc o)) := hide (fun o => HR.out.alloc o)
      clear hD
      obtain ⟨fr, en, tt, sq, ev, dw⟩ := D
      dsimp only at *
      cases dw with
      | false =>
        go_wp2_with fail
        go_roundw
        case rel => exact ⟨k + 1, a, q, c, by go_num, rfl, by omega, hide (by rw [Htk.out]; simpa using HL.out), hide (by rw [Htk.out]; simpa using HA.out _)⟩
        case measure => simp [intOf]; omega
      | true =>
        have HX := hide ((HA.out (.cells #[.int .i64 fr, .int .i64 en, .int .i64 tt, .int .i64 sq, .bool ev, .bool true] 73)).alloc (.cells #[.int .i64 ((k : Int) + 1)] 3))
        have HS : Hid (intE.Rd ((wr.alloc (.cells #[.int .i64 fr, .int .i64 en, .int .i64 tt, .int .i64 sq, .bool ev, .bool true] 73)).alloc (.cells #[.int .i64 ((k : Int) + 1)] 3)) (.slice (some ⟨wr.heap.size + 1, 0, none⟩) 1 1) [(k : Int) + 1]) := hide (int_new _ _ _ (by show _ = (wr.heap.push _).size; simp))
        generalize hdl : downF 0 (S.ds.take k) = dl at *
        go_wp2_with (at_builtin; refine intE.wpB (B := w0.heap.size) HX.out.size (by rfl) _ _ rfl _ _ rfl rfl dl [(k : Int) + 1] HX.out.one HS.out Hle.out ?_; intro v4 W4 ho hg hs; obtain ⟨a4, p4, hf4⟩ := ho.rd.form; obtain ⟨n4, hn4⟩ : ∃ n4, (dl ++ [(k : Int) + 1]).length = n4 := ⟨_, rfl⟩; rw [hn4] at hf4; subst hf4; have HI4 := hide (HX.out.grow ho hg hs); have Hn4 := hide hn4; clear ho hg hs hn4)
        go_roundw
        case rel => exact ⟨k + 1, a4, n4, p4, by go_num, rfl, by omega, hide (by rw [Htk.out]; exact Hn4.out), hide (by rw [Htk.out]; exact HI4.out)⟩
        case measure => simp [intOf]; omega
    · obtain rfl : k = m := by omega
      have j1 : ¬ (k : Int) < (k : Int) := by omega
      have e1 : dd = downF 0 (S.ds.take k) := by rw [dn.out, List.take_of_length_le (by rw [L1.out]; exact Nat.le_refl _)]
      subst e1
      go_wp2_with fail
      go_ret
      exact ⟨a, q, c, rfl, HL.out, HR.out⟩
end
end Go.Proofs.Ytlnnpdghcilioaa
