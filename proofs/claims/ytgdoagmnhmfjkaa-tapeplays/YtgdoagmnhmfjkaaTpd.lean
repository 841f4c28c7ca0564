/- put. -/
import Derived.Test.YtgdoagmnhmfjkaaTpc
namespace Go.Proofs.Ytgdoagmnhmfjkaa
open Go.RowKit
set_option linter.unusedVariables false

section
variable {w0 w : World} {g : Nat} {H : Bool → Value} {T : Tp} {l : List It}

set_option maxRecDepth 100000 in
set_option maxHeartbeats 2000000 in
theorem put_0 {a : Option Addr} {n c : Nat} {bs : List Int} (h : Its w0 (.tape w0.heap.size g H T :: .row byE w0.heap.size (.slice a n c) bs :: l) w) (hbl : bs.length = n) (hin : InB bs) (hl : (T.A false).length + bs.length ≤ 65536) : Calls Try.prog 28 #[.pointer (some ⟨g, 0, none⟩), .int .i64 0, .slice a n c] w fun e w' => e = .returned (.int .i64 (T.put false bs).1) ∧ ∃ H', Its w0 (.tape w0.heap.size g H' (T.put false bs).2 :: .row byE w0.heap.size (.slice a n c) bs :: l) w' := by
  have I2 : Its w0 (.tape w0.heap.size g H T :: .box (w.heap.size + 1) #[.int .i64 0] 3 :: .box w.heap.size #[.pointer (some ⟨g, 0, none⟩)] 23 :: .row byE w0.heap.size (.slice a n c) bs :: l) ((w.alloc (.cells #[.pointer (some ⟨g, 0, none⟩)] 23)).alloc (.cells #[.int .i64 0] 3)) := by
    have := (((h.box1 #[.pointer (some ⟨g, 0, none⟩)] 23).box1 #[.int .i64 0] 3).rot3)
    simp only [size_alloc] at this
    exact this
  have HI2 := hide I2
  have Hbl := hide hbl
  have Hin := hide hin
  have Hl := hide hl
  have hn : n ≤ 65536 := by omega
  obtain ⟨PR, hPR⟩ : ∃ PR, T.put false bs = PR := ⟨_, rfl⟩
  have HP := hide hPR
  rw [hPR]
  clear h I2 hbl hin hl hPR
  go_enter Try.func28, Try.ntmps28
  go_upto_region 1 with fail
  generalize ((w.alloc (.cells #[.pointer (some ⟨g, 0, none⟩)] 23)).alloc (.cells #[.int .i64 0] 3)) = W2 at *
  generalize w.heap.size + 1 = p4 at *
  generalize w.heap.size = p3 at *
  go_upto_region 2 with fail
  go_loopw [12] (fun i wr => Hid (∃ (j : Nat) (H' : Bool → Value), j ≤ n ∧ i = .int .i64 j ∧ T.can j = true ∧ Its w0 (.tape w0.heap.size g H' ((T.use j).setA false (T.A false ++ bs.take j)) :: .box p4 #[.int .i64 0] 3 :: .box p3 #[.pointer (some ⟨g, 0, none⟩)] 23 :: .row byE w0.heap.size (.slice a n c) bs :: l) wr)) (fun i _ => n - (intOf i).toNat)
  case atStart =>
    refine hide ⟨0, H, Nat.zero_le _, rfl, by unfold Tp.can; simp, ?_⟩
    rw [use_zero, List.take_zero, List.append_nil, setA_same]
    exact HI2.out
  case round =>
    obtain ⟨k, H1, hk, rfl, hc, h1⟩ := hrel.out
    have HI := hide h1
    have Hc := hide hc
    clear hrel h1 hc HI2
    by_cases hlt : k < n
    · obtain ⟨x, hx⟩ : ∃ x, bs[k]? = some x := ⟨_, List.getElem?_eq_getElem (by rw [Hbl.out]; exact hlt)⟩
      obtain ⟨b, off, rfl, c0⟩ := by_at (El.Own.rd (HI.out.four)) k x hx
      have Hx := hide hx
      have j0 : (0 : Int) ≤ (k : Int) := by omega
      have j1 : (k : Int) < (n : Int) := by omega
      have Ht : Hid (bs.take (k + 1) = bs.take k ++ [x]) := hide (by rw [List.take_add_one, hx]; rfl)
      clear hx
      go_upto_region 4 with fail
      have I3 : Hid (Its w0 (.tape w0.heap.size g H1 ((T.use k).setA false (T.A false ++ bs.take k)) :: .box wr.heap.size #[.int .u8 x] 5 :: .box p4 #[.int .i64 0] 3 :: .box p3 #[.pointer (some ⟨g, 0, none⟩)] 23 :: .row byE w0.heap.size (.slice (some ⟨b, off, none⟩) n c) bs :: l) (wr.alloc (.cells #[.int .u8 x] 5))) := hide (HI.out.box1 _ _).swap
      generalize wr.alloc (.cells #[.int .u8 x] 5) = W3 at *
      generalize wr.heap.size = p8 at *
      clear c0
      have c3 : W3.cell? ⟨p3, 0, none⟩ = some (.pointer (some ⟨g, 0, none⟩)) := (cells_at I3.out.four 0).1
      have hmf : ∀ (fn : Fn) (first cap : Array Value) (w : World), (Instr.makeFunc fn first cap).run Try.prog w = .ok (.func fn first cap) w := fun _ _ _ _ => rfl
      cases hc1 : T.can (k + 1) with
      | false =>
        have hp := HP.out
        rw [put_no Hc.out hc1 (by rw [Hbl.out]; exact hlt) false] at hp
        have KW := hide (fun u => work_no I3.out (by rw [can_step Hc.out]; exact hc1) u)
        have HP2 := hide hp
        clear hp hc1
        go_wp2_with (go_at_call 34; refine (KW.out _).mono ?_; rintro e w1 ⟨rfl, h1⟩)
        go_ret
        rw [← HP2.out]
        exact ⟨rfl, H1, h1.swap.tail.drop2⟩
      | true =>
        have KW := hide (work_yes40 (T2 := (T.use (k + 1)).setA false (T.A false ++ bs.take (k + 1))) I3.out (by rw [can_step Hc.out]; exact hc1) (fun W hW => (unit_put0 hW (Hin.out x (List.mem_of_getElem? Hx.out)) (by
            have h1 := Hl.out
            have h2 := Hbl.out
            rw [use_A, setA_at, List.length_append, List.length_take]
            omega)).mono (by
          rintro e w1 ⟨rfl, H2, h2⟩
          refine ⟨rfl, H2, ?_⟩
          rw [setA_use, use_use, setA_at, setA_set, List.append_assoc, ← Ht.out] at h2
          exact h2)))
        have Hc1 := hide hc1
        clear hc1
        go_wp2_with (go_at_call 34; refine KW.out.mono ?_; rintro e w1 ⟨rfl, H2, h2⟩)
        go_roundw
        case rel => exact hide ⟨k + 1, H2, by omega, by go_num, Hc1.out, h2.swap.tail⟩
        case measure => simp [intOf]; omega
    · obtain rfl : k = n := by omega
      have j1 : ¬ (k : Int) < (k : Int) := by omega
      have hp := HP.out
      have hta : bs.take k = bs := List.take_of_length_le (by rw [Hbl.out]; exact Nat.le_refl _)
      rw [put_yes (by rw [Hbl.out]; exact Hc.out) false, Hbl.out] at hp
      have HI1 := HI.out
      rw [hta] at HI1
      have HI3 := hide HI1
      have HP2 := hide hp
      clear hp hta HI HI1
      go_wp2_with fail
      go_ret
      rw [← HP2.out]
      exact ⟨rfl, H1, HI3.out.drop2⟩

set_option maxRecDepth 100000 in
set_option maxHeartbeats 2000000 in
theorem put_1 {a : Option Addr} {n c : Nat} {bs : List Int} (h : Its w0 (.tape w0.heap.size g H T :: .row byE w0.heap.size (.slice a n c) bs :: l) w) (hbl : bs.length = n) (hin : InB bs) (hl : (T.A true).length + bs.length ≤ 65536) : Calls Try.prog 28 #[.pointer (some ⟨g, 0, none⟩), .int .i64 1, .slice a n c] w fun e w' => e = .returned (.int .i64 (T.put true bs).1) ∧ ∃ H', Its w0 (.tape w0.heap.size g H' (T.put true bs).2 :: .row byE w0.heap.size (.slice a n c) bs :: l) w' := by
  have I2 : Its w0 (.tape w0.heap.size g H T :: .box (w.heap.size + 1) #[.int .i64 1] 3 :: .box w.heap.size #[.pointer (some ⟨g, 0, none⟩)] 23 :: .row byE w0.heap.size (.slice a n c) bs :: l) ((w.alloc (.cells #[.pointer (some ⟨g, 0, none⟩)] 23)).alloc (.cells #[.int .i64 1] 3)) := by
    have := (((h.box1 #[.pointer (some ⟨g, 0, none⟩)] 23).box1 #[.int .i64 1] 3).rot3)
    simp only [size_alloc] at this
    exact this
  have HI2 := hide I2
  have Hbl := hide hbl
  have Hin := hide hin
  have Hl := hide hl
  have hn : n ≤ 65536 := by omega
  obtain ⟨PR, hPR⟩ : ∃ PR, T.put true bs = PR := ⟨_, rfl⟩
  have HP := hide hPR
  rw [hPR]
  clear h I2 hbl hin hl hPR
  go_enter Try.func28, Try.ntmps28
  go_upto_region 1 with fail
  generalize ((w.alloc (.cells #[.pointer (some ⟨g, 0, none⟩)] 23)).alloc (.cells #[.int .i64 1] 3)) = W2 at *
  generalize w.heap.size + 1 = p4 at *
  generalize w.heap.size = p3 at *
  go_upto_region 2 with fail
  go_loopw [12] (fun i wr => Hid (∃ (j : Nat) (H' : Bool → Value), j ≤ n ∧ i = .int .i64 j ∧ T.can j = true ∧ Its w0 (.tape w0.heap.size g H' ((T.use j).setA true (T.A true ++ bs.take j)) :: .box p4 #[.int .i64 1] 3 :: .box p3 #[.pointer (some ⟨g, 0, none⟩)] 23 :: .row byE w0.heap.size (.slice a n c) bs :: l) wr)) (fun i _ => n - (intOf i).toNat)
  case atStart =>
    refine hide ⟨0, H, Nat.zero_le _, rfl, by unfold Tp.can; simp, ?_⟩
    rw [use_zero, List.take_zero, List.append_nil, setA_same]
    exact HI2.out
  case round =>
    obtain ⟨k, H1, hk, rfl, hc, h1⟩ := hrel.out
    have HI := hide h1
    have Hc := hide hc
    clear hrel h1 hc HI2
    by_cases hlt : k < n
    · obtain ⟨x, hx⟩ : ∃ x, bs[k]? = some x := ⟨_, List.getElem?_eq_getElem (by rw [Hbl.out]; exact hlt)⟩
      obtain ⟨b, off, rfl, c0⟩ := by_at (El.Own.rd (HI.out.four)) k x hx
      have Hx := hide hx
      have j0 : (0 : Int) ≤ (k : Int) := by omega
      have j1 : (k : Int) < (n : Int) := by omega
      have Ht : Hid (bs.take (k + 1) = bs.take k ++ [x]) := hide (by rw [List.take_add_one, hx]; rfl)
      clear hx
      go_upto_region 4 with fail
      have I3 : Hid (Its w0 (.tape w0.heap.size g H1 ((T.use k).setA true (T.A true ++ bs.take k)) :: .box wr.heap.size #[.int .u8 x] 5 :: .box p4 #[.int .i64 1] 3 :: .box p3 #[.pointer (some ⟨g, 0, none⟩)] 23 :: .row byE w0.heap.size (.slice (some ⟨b, off, none⟩) n c) bs :: l) (wr.alloc (.cells #[.int .u8 x] 5))) := hide (HI.out.box1 _ _).swap
      generalize wr.alloc (.cells #[.int .u8 x] 5) = W3 at *
      generalize wr.heap.size = p8 at *
      clear c0
      have c3 : W3.cell? ⟨p3, 0, none⟩ = some (.pointer (some ⟨g, 0, none⟩)) := (cells_at I3.out.four 0).1
      have hmf : ∀ (fn : Fn) (first cap : Array Value) (w : World), (Instr.makeFunc fn first cap).run Try.prog w = .ok (.func fn first cap) w := fun _ _ _ _ => rfl
      cases hc1 : T.can (k + 1) with
      | false =>
        have hp := HP.out
        rw [put_no Hc.out hc1 (by rw [Hbl.out]; exact hlt) true] at hp
        have KW := hide (fun u => work_no I3.out (by rw [can_step Hc.out]; exact hc1) u)
        have HP2 := hide hp
        clear hp hc1
        go_wp2_with (go_at_call 34; refine (KW.out _).mono ?_; rintro e w1 ⟨rfl, h1⟩)
        go_ret
        rw [← HP2.out]
        exact ⟨rfl, H1, h1.swap.tail.drop2⟩
      | true =>
        have KW := hide (work_yes40 (T2 := (T.use (k + 1)).setA true (T.A true ++ bs.take (k + 1))) I3.out (by rw [can_step Hc.out]; exact hc1) (fun W hW => (unit_put1 hW (Hin.out x (List.mem_of_getElem? Hx.out)) (by
            have h1 := Hl.out
            have h2 := Hbl.out
            rw [use_A, setA_at, List.length_append, List.length_take]
            omega)).mono (by
          rintro e w1 ⟨rfl, H2, h2⟩
          refine ⟨rfl, H2, ?_⟩
          rw [setA_use, use_use, setA_at, setA_set, List.append_assoc, ← Ht.out] at h2
          exact h2)))
        have Hc1 := hide hc1
        clear hc1
        go_wp2_with (go_at_call 34; refine KW.out.mono ?_; rintro e w1 ⟨rfl, H2, h2⟩)
        go_roundw
        case rel => exact hide ⟨k + 1, H2, by omega, by go_num, Hc1.out, h2.swap.tail⟩
        case measure => simp [intOf]; omega
    · obtain rfl : k = n := by omega
      have j1 : ¬ (k : Int) < (k : Int) := by omega
      have hp := HP.out
      have hta : bs.take k = bs := List.take_of_length_le (by rw [Hbl.out]; exact Nat.le_refl _)
      rw [put_yes (by rw [Hbl.out]; exact Hc.out) true, Hbl.out] at hp
      have HI1 := HI.out
      rw [hta] at HI1
      have HI3 := hide HI1
      have HP2 := hide hp
      clear hp hta HI HI1
      go_wp2_with fail
      go_ret
      rw [← HP2.out]
      exact ⟨rfl, H1, HI3.out.drop2⟩

theorem putS {a : Option Addr} {n c : Nat} {bs : List Int} (h : Its w0 (.tape w0.heap.size g H T :: .row byE w0.heap.size (.slice a n c) bs :: l) w) (hbl : bs.length = n) (hin : InB bs) (s : Bool) (hl : (T.A s).length + bs.length ≤ 65536) : Calls Try.prog 28 #[.pointer (some ⟨g, 0, none⟩), .int .i64 (bi s), .slice a n c] w fun e w' => e = .returned (.int .i64 (T.put s bs).1) ∧ ∃ H', Its w0 (.tape w0.heap.size g H' (T.put s bs).2 :: .row byE w0.heap.size (.slice a n c) bs :: l) w' := by
  cases s
  · exact put_0 h hbl hin hl
  · exact put_1 h hbl hin hl
end
end Go.Proofs.Ytgdoagmnhmfjkaa
