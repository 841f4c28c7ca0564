/- The contracts of Sum (the program's and the document's), Roll, Join. -/
import Derived.Test.YtionibfijnabnaaCalls
namespace Go.Proofs.Ytionibfijnabnaa
open Go.ChangeShapes Go.WideShapes Go.ChangeAt Go.RowKit

theorem sm_snoc (c : BitVec 16) (l : List Int) (k : Nat) (h : k < l.length) : sm c (l.take (k + 1)) = stp (sm c (l.take k)) (l[k]?.getD 0) := by
  rw [List.take_succ_eq_append_getElem h, sm_append]
  simp [sm, h]
theorem mem_bd {l : List Int} (hr : ∀ z ∈ l, 0 ≤ z ∧ z ≤ 255) (k : Nat) (h : k < l.length) : 0 ≤ l[k]?.getD 0 ∧ l[k]?.getD 0 ≤ 255 := by
  have := hr l[k] (List.getElem_mem h); simpa [h] using this

theorem sum_nil (a : Option Addr) (cap : Nat) (w : World) :
    Calls Try.prog 12 #[.slice a 0 cap] w fun e w' => e = .returned (.int .u16 (uv 0xFFFF#16)) ∧ w' = w := by
  go_enter Try.func12, Try.ntmps12
  go_wp2_with fail
  go_loop [3, 8] (fun t i => i = .int .i64 0 ∧ t = .int .u16 65535) (fun _ _ => 0)
  case atStart => exact ⟨rfl, rfl⟩
  case round =>
    obtain ⟨rfl, rfl⟩ := hrel
    go_wp2
    go_ret
    exact ⟨rfl, rfl⟩

theorem sum_at (b off cap len : Nat) (l : List Int) (w : World) (hl : l.length = len) (hc : ∀ i, i < len → w.cell? ⟨b, off + i, none⟩ = some (.int .u8 (l[i]?.getD 0)))
    (hr : ∀ z ∈ l, 0 ≤ z ∧ z ≤ 255) (hm : len ≤ 140737488355328) :
    Calls Try.prog 12 #[.slice (some ⟨b, off, none⟩) len cap] w fun e w' => e = .returned (.int .u16 (uv (sm 0xFFFF#16 l))) ∧ w' = w := by
  have Hl := hide hl
  clear hl
  go_enter Try.func12, Try.ntmps12
  go_wp2_with fail
  go_loop [3, 8] (fun t i => ∃ k : Nat, k ≤ len ∧ i = .int .i64 k ∧ t = .int .u16 (uv (sm 0xFFFF#16 (l.take k)))) (fun _ i => len - (intOf i).toNat)
  case atStart => exact ⟨0, by omega, rfl, rfl⟩
  case round =>
    obtain ⟨k, hk, rfl, rfl⟩ := hrel
    by_cases hlt : k < len
    · have hcell := hc k hlt
      have hsn := hide (sm_snoc 0xFFFF#16 l k (by rw [unhide Hl]; exact hlt))
      have hbd := mem_bd hr k (by rw [unhide Hl]; exact hlt)
      generalize l[k]?.getD 0 = z at hcell hsn hbd
      obtain ⟨hb0, hb1⟩ := hbd
      clear hc hr
      go_wp2_with (go_at_call 10; refine (step_any _ _ hb0 hb1 _).mono ?_; rintro e w' ⟨rfl, rfl⟩)
      go_round
      case rel => exact ⟨k + 1, by omega, by go_num, by rw [unhide hsn]⟩
      case measure => simp [intOf]; omega
    · have e : l.take k = l := List.take_of_length_le (by rw [unhide Hl]; omega)
      rw [e]
      clear e hc hr
      go_wp2
      go_ret
      exact ⟨rfl, rfl⟩

theorem rsum_nil (a : Option Addr) (cap : Nat) (w : World) :
    Calls Try.prog 13 #[.slice a 0 cap] w fun e w' => e = .returned (.int .u16 (uv 0xFFFF#16)) ∧ w' = w := by
  go_enter Try.func13, Try.ntmps13
  go_wp2_with fail
  go_loop [3, 4] (fun t i => i = .int .i64 0 ∧ t = .int .u16 65535) (fun _ _ => 0)
  case atStart => exact ⟨rfl, rfl⟩
  case round =>
    obtain ⟨rfl, rfl⟩ := hrel
    go_wp2
    go_ret
    exact ⟨rfl, rfl⟩

theorem rsum_at (b off cap len : Nat) (l : List Int) (w : World) (hl : l.length = len) (hc : ∀ i, i < len → w.cell? ⟨b, off + i, none⟩ = some (.int .u8 (l[i]?.getD 0)))
    (hr : ∀ z ∈ l, 0 ≤ z ∧ z ≤ 255) (hm : len ≤ 140737488355328) :
    Calls Try.prog 13 #[.slice (some ⟨b, off, none⟩) len cap] w fun e w' => e = .returned (.int .u16 (uv (sm 0xFFFF#16 l))) ∧ w' = w := by
  have Hl := hide hl
  clear hl
  go_enter Try.func13, Try.ntmps13
  go_wp2_with fail
  go_loop [3, 4] (fun t i => ∃ k : Nat, k ≤ len ∧ i = .int .i64 k ∧ t = .int .u16 (uv (sm 0xFFFF#16 (l.take k)))) (fun _ i => len - (intOf i).toNat)
  case atStart => exact ⟨0, by omega, rfl, rfl⟩
  case round =>
    obtain ⟨k, hk, rfl, rfl⟩ := hrel
    by_cases hlt : k < len
    · have hcell := hc k hlt
      have hsn := hide (sm_snoc 0xFFFF#16 l k (by rw [unhide Hl]; exact hlt))
      have hbd := mem_bd hr k (by rw [unhide Hl]; exact hlt)
      generalize l[k]?.getD 0 = z at hcell hsn hbd
      obtain ⟨hb0, hb1⟩ := hbd
      clear hc hr
      go_wp2_with (go_at_call 11; refine (rstep_any _ _ hb0 hb1 _).mono ?_; rintro e w' ⟨rfl, rfl⟩)
      go_round
      case rel => exact ⟨k + 1, by omega, by go_num, by rw [unhide hsn]⟩
      case measure => simp [intOf]; omega
    · have e : l.take k = l := List.take_of_length_le (by rw [unhide Hl]; omega)
      rw [e]
      clear e hc hr
      go_wp2
      go_ret
      exact ⟨rfl, rfl⟩

theorem and_one (k : Nat) : bits .and .i64 (k : Int) 1 = ((k % 2 : Nat) : Int) := by
  show IntKind.i64.wrap ((BitVec.ofInt 64 (k : Int) &&& BitVec.ofInt 64 1).toNat : Int) = _
  rw [show BitVec.ofInt 64 1 = 1#64 from rfl, BitVec.ofInt_natCast, BitVec.toNat_and, BitVec.toNat_ofNat, show (1#64).toNat = 1 from rfl, Nat.and_one_is_mod]
  unfold IntKind.wrap; simp [IntKind.bits, IntKind.signed]; omega

theorem roll_no (x : BitVec 16) (n : Int) (h : n < 0 ∨ 1099511627776 < n) (w : World) :
    Calls Try.prog 14 #[.int .u16 (uv x), .int .i64 n] w fun e w' => e = .returned (.tuple #[.int .u16 0, .int .i64 1]) ∧ w' = w := by
  rcases h with h | h
  · go_enter Try.func14, Try.ntmps14
    go_wp2
    go_ret2
    exact ⟨rfl, rfl⟩
  · have h' : ¬ n < 0 := by omega
    go_enter Try.func14, Try.ntmps14
    go_wp2
    go_ret2
    exact ⟨rfl, rfl⟩

theorem roll_any (x : BitVec 16) (n : Int) (h0 : 0 ≤ n) (h1 : n ≤ 1099511627776) (w : World) :
    Calls Try.prog 14 #[.int .u16 (uv x), .int .i64 n] w fun e w' => e = .returned (.tuple #[.int .u16 (uv (pw (8 * n.toNat) x)), .int .i64 0]) ∧ w' = w := by
  have a0 : ¬ n < 0 := by omega
  have a1 : ¬ 1099511627776 < n := by omega
  go_enter Try.func14, Try.ntmps14
  go_wp2_with fail
  go_loop [0, 1, 6] (fun s t u => ∃ (m k : Nat) (y : BitVec 16), (k : Int) ≤ 1099511627776 ∧ Hid (pw (m * k) y = pw (8 * n.toNat) x) ∧ s = .int .u16 (uv y) ∧ t = .int .i64 k ∧ u = .int .u16 (uv (pw m 1#16))) (fun _ t _ => (intOf t).toNat)
  case atStart => exact ⟨8, n.toNat, x, by omega, hide rfl, rfl, by rw [Int.toNat_of_nonneg h0], rfl⟩
  case round =>
    obtain ⟨m, k, y, hk, He, rfl, rfl, rfl⟩ := hrel
    by_cases hz : k = 0
    · subst hz
      have e : y = pw (8 * n.toNat) x := by rw [← unhide He]; rfl
      subst e
      go_wp2
      go_ret2
      exact ⟨rfl, rfl⟩
    · have hpos : 0 < k := by omega
      have e2 : pr (pw m 1#16) (pw m 1#16) = pw (2 * m) 1#16 := by rw [pr_pw, ← pw_add]; congr 1; omega
      by_cases ho : k % 2 = 1
      · have hg : (bits .and .i64 (k : Int) 1 == 1) = true := by rw [and_one, ho]; rfl
        have Hn : Hid (pw ((2 * m) * (k / 2)) (pr y (pw m 1#16)) = pw (8 * n.toNat) x) := hide (by
          rw [pr_pw, ← pw_add, ← unhide He]; congr 1
          have hk2 : k = 2 * (k / 2) + 1 := by omega
          generalize k / 2 = j at hk2; subst hk2; rw [Nat.mul_add, Nat.mul_one, Nat.mul_comm 2 m, Nat.mul_assoc, Nat.add_comm])
        have He2 := hide e2
        clear e2 hz He
        go_wp2_with (go_at_call 20; refine (product_any _ _ _).mono ?_; rintro e w' ⟨rfl, rfl⟩)
        go_round
        case rel => exact ⟨2 * m, k / 2, _, by omega, Hn, rfl, by go_num, by rw [unhide He2]⟩
        case measure => simp [intOf]; omega
      · have hg : (bits .and .i64 (k : Int) 1 == 1) = false := by rw [and_one, show k % 2 = 0 from by omega]; rfl
        have Hn : Hid (pw ((2 * m) * (k / 2)) y = pw (8 * n.toNat) x) := hide (by
          rw [← unhide He]; congr 1
          have hk2 : k = 2 * (k / 2) := by omega
          generalize k / 2 = j at hk2; subst hk2; rw [Nat.mul_comm 2 m, Nat.mul_assoc])
        have He2 := hide e2
        clear e2 hz He
        go_wp2_with (go_at_call 20; refine (product_any _ _ _).mono ?_; rintro e w' ⟨rfl, rfl⟩)
        go_round
        case rel => exact ⟨2 * m, k / 2, _, by omega, Hn, rfl, by go_num, by rw [unhide He2]⟩
        case measure => simp [intOf]; omega

theorem rroll_any (x : BitVec 16) (n : Int) (h0 : 0 ≤ n) (h1 : n ≤ 400) (w : World) :
    Calls Try.prog 15 #[.int .u16 (uv x), .int .i64 n] w fun e w' => e = .returned (.int .u16 (uv (pw (8 * n.toNat) x))) ∧ w' = w := by
  obtain ⟨m, rfl⟩ := Int.eq_ofNat_of_zero_le h0
  rw [Int.toNat_natCast]
  go_enter Try.func15, Try.ntmps15
  go_wp2_with fail
  go_loop [0, 5] (fun t i => ∃ k : Nat, k ≤ m ∧ i = .int .i64 k ∧ t = .int .u16 (uv (pw (8 * k) x))) (fun _ i => m - (intOf i).toNat)
  case atStart => exact ⟨0, by omega, rfl, rfl⟩
  case round =>
    obtain ⟨k, hk, rfl, rfl⟩ := hrel
    by_cases hlt : k < m
    · have Hs : Hid (stp (pw (8 * k) x) 0 = pw (8 * (k + 1)) x) := hide (by
        unfold stp; rw [show hi 0 = 0#16 from rfl, BitVec.xor_zero, ← pw_add]; congr 1)
      go_wp2_with (go_at_call 11; refine (rstep_any _ 0 (by omega) (by omega) _).mono ?_; rintro e w' ⟨rfl, rfl⟩)
      go_round
      case rel => exact ⟨k + 1, by omega, by go_num, by rw [unhide Hs]⟩
      case measure => simp [intOf]; omega
    · have : k = m := by omega
      subst this
      go_wp2
      go_ret
      exact ⟨rfl, rfl⟩

theorem join_any (x y : BitVec 16) (n : Int) (h0 : 0 ≤ n) (h1 : n ≤ 1099511627776) (w : World) :
    Calls Try.prog 16 #[.int .u16 (uv x), .int .u16 (uv y), .int .i64 n] w fun e w' => e = .returned (.tuple #[.int .u16 (uv (pw (8 * n.toNat) (x ^^^ 0xFFFF#16) ^^^ y)), .int .i64 0]) ∧ w' = w := by
  have hx : bits .xor .u16 (uv x) 65535 = uv (x ^^^ 0xFFFF#16) := xor_uv x 0xFFFF#16
  go_enter Try.func16, Try.ntmps16
  go_wp2_with (go_at_call 14; refine (roll_any _ n h0 h1 _).mono ?_; rintro e w' ⟨rfl, rfl⟩)
  go_ret2
  rw [xor_uv]
  exact ⟨rfl, rfl⟩

theorem join_no (x y : BitVec 16) (n : Int) (h : n < 0 ∨ 1099511627776 < n) (w : World) :
    Calls Try.prog 16 #[.int .u16 (uv x), .int .u16 (uv y), .int .i64 n] w fun e w' => e = .returned (.tuple #[.int .u16 0, .int .i64 1]) ∧ w' = w := by
  have hx : bits .xor .u16 (uv x) 65535 = uv (x ^^^ 0xFFFF#16) := xor_uv x 0xFFFF#16
  go_enter Try.func16, Try.ntmps16
  go_wp2_with (go_at_call 14; refine (roll_no _ n h _).mono ?_; rintro e w' ⟨rfl, rfl⟩)
  go_ret2
  exact ⟨rfl, rfl⟩

end Go.Proofs.Ytionibfijnabnaa
