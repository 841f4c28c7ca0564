/- The contracts of Sum (the program's and the document's), Roll, Join. -/
import Derived.Test.YtgdoagmnhmfjkaaCalls
namespace Go.Proofs.Ytgdoagmnhmfjkaa
open Go.ChangeShapes Go.WideShapes Go.ChangeAt Go.RowKit

theorem sm_snoc (c : BitVec 16) (l : List Int) (k : Nat) (h : k < l.length) : sm c (l.take (k + 1)) = stp (sm c (l.take k)) (l[k]?.getD 0) := by
  rw [List.take_succ_eq_append_getElem h, sm_append]
  simp [sm, h]
theorem mem_bd {l : List Int} (hr : ∀ z ∈ l, 0 ≤ z ∧ z ≤ 255) (k : Nat) (h : k < l.length) : 0 ≤ l[k]?.getD 0 ∧ l[k]?.getD 0 ≤ 255 := by
  have := hr l[k] (List.getElem_mem h); simpa [h] using this

theorem sum_nil (a : Option Addr) (cap : Nat) (w : World) :
    Calls Try.prog 50 #[.slice a 0 cap] w fun e w' => e = .returned (.int .u16 (uv 0xFFFF#16)) ∧ w' = w := by
  go_enter Try.func50, Try.ntmps50
  go_wp2_with fail
  go_loop [3, 8] (fun t i => i = .int .i64 0 ∧ t = .int .u16 65535) (fun _ _ => 0)
  case atStart => exact ⟨rfl, rfl⟩
  case round =>
    obtain ⟨rfl, rfl⟩ := hrel
    go_wp2
    go_ret
    exact ⟨rfl, rfl⟩

theorem sum_at (b off cap len : Nat) (l : List Int) (w : World) (hl : l.length = len) (hc : ∀ i, i < len → w.cell? ⟨b, off + i, none⟩ = some (.int .u8 (l[i]?.getD 0)))
    (hr : ∀ z ∈ l, 0 ≤ z ∧ z ≤ 255) (hm : len ≤ 140737488355328) :
    Calls Try.prog 50 #[.slice (some ⟨b, off, none⟩) len cap] w fun e w' => e = .returned (.int .u16 (uv (sm 0xFFFF#16 l))) ∧ w' = w := by
  have Hl := hide hl
  clear hl
  go_enter Try.func50, Try.ntmps50
  go_wp2_with fail
  go_loop [3, 8] (fun t i => ∃ k : Nat, k ≤ len ∧ i = .int .i64 k ∧ t = .int .u16 (uv (sm 0xFFFF#16 (l.take k)))) (fun _ i => len - (intOf i).toNat)
  case atStart => exact ⟨0, by omega, rfl, rfl⟩
  case round =>
    obtain ⟨k, hk, rfl, rfl⟩ := hrel
    by_cases hlt : k < len
    · have hcell := hc k hlt
      have hsn := hide (sm_snoc 0xFFFF#16 l k (by rw [unhide Hl]; exact hlt))
      have hbd := mem_bd hr k (by rw [unhide Hl]; exact hlt)
      generalize l[k]?.getD 0 = z at hcell hsn hbd
      obtain ⟨hb0, hb1⟩ := hbd
      clear hc hr
      go_wp2_with (go_at_call 54; refine (step_any _ _ hb0 hb1 _).mono ?_; rintro e w' ⟨rfl, rfl⟩)
      go_round
      case rel => exact ⟨k + 1, by omega, by go_num, by rw [unhide hsn]⟩
      case measure => simp [intOf]; omega
    · have e : l.take k = l := List.take_of_length_le (by rw [unhide Hl]; omega)
      rw [e]
      clear e hc hr
      go_wp2
      go_ret
      exact ⟨rfl, rfl⟩

theorem rsum_nil (a : Option Addr) (cap : Nat) (w : World) :
    Calls Try.prog 52 #[.slice a 0 cap] w fun e w' => e = .returned (.int .u16 (uv 0xFFFF#16)) ∧ w' = w := by
  go_enter Try.func52, Try.ntmps52
  go_wp2_with fail
  go_loop [3, 4] (fun t i => i = .int .i64 0 ∧ t = .int .u16 65535) (fun _ _ => 0)
  case atStart => exact ⟨rfl, rfl⟩
  case round =>
    obtain ⟨rfl, rfl⟩ := hrel
    go_wp2
    go_ret
    exact ⟨rfl, rfl⟩

theorem rsum_at (b off cap len : Nat) (l : List Int) (w : World) (hl : l.length = len) (hc : ∀ i, i < len → w.cell? ⟨b, off + i, none⟩ = some (.int .u8 (l[i]?.getD 0)))
    (hr : ∀ z ∈ l, 0 ≤ z ∧ z ≤ 255) (hm : len ≤ 140737488355328) :
    Calls Try.prog 52 #[.slice (some ⟨b, off, none⟩) len cap] w fun e w' => e = .returned (.int .u16 (uv (sm 0xFFFF#16 l))) ∧ w' = w := by
  have Hl := hide hl
  clear hl
  go_enter Try.func52, Try.ntmps52
  go_wp2_with fail
  go_loop [3, 4] (fun t i => ∃ k : Nat, k ≤ len ∧ i = .int .i64 k ∧ t = .int .u16 (uv (sm 0xFFFF#16 (l.take k)))) (fun _ i => len - (intOf i).toNat)
  case atStart => exact ⟨0, by omega, rfl, rfl⟩
  case round =>
    obtain ⟨k, hk, rfl, rfl⟩ := hrel
    by_cases hlt : k < len
    · have hcell := hc k hlt
      have hsn := hide (sm_snoc 0xFFFF#16 l k (by rw [unhide Hl]; exact hlt))
      have hbd := mem_bd hr k (by rw [unhide Hl]; exact hlt)
      generalize l[k]?.getD 0 = z at hcell hsn hbd
      obtain ⟨hb0, hb1⟩ := hbd
      clear hc hr
      go_wp2_with (go_at_call 55; refine (rstep_any _ _ hb0 hb1 _).mono ?_; rintro e w' ⟨rfl, rfl⟩)
      go_round
      case rel => exact ⟨k + 1, by omega, by go_num, by rw [unhide hsn]⟩
      case measure => simp [intOf]; omega
    · have e : l.take k = l := List.take_of_length_le (by rw [unhide Hl]; omega)
      rw [e]
      clear e hc hr
      go_wp2
      go_ret
      exact ⟨rfl, rfl⟩

theorem and_one (k : Nat) : bits .and .i64 (k : Int) 1 = ((k % 2 : Nat) : Int) := by
  show IntKind.i64.wrap ((BitVec.ofInt 64 (k : Int) &&& BitVec.ofInt 64 1).toNat : Int) = _
  rw [show BitVec.ofInt 64 1 = 1#64 from rfl, BitVec.ofInt_natCast, BitVec.toNat_and, BitVec.toNat_ofNat, show (1#64).toNat = 1 from rfl, Nat.and_one_is_mod]
  unfold IntKind.wrap; simp [IntKind.bits, IntKind.signed]; omega

end Go.Proofs.Ytgdoagmnhmfjkaa
