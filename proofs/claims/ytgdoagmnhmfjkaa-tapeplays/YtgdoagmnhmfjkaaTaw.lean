/- The document's examples: awake. -/
import Derived.Test.YtgdoagmnhmfjkaaTph
namespace Go.Proofs.Ytgdoagmnhmfjkaa
open Go.RowKit
set_option linter.unusedVariables false

def n0 : Nt := ⟨3, 1, 0, 0⟩
theorem n0_ok : n0.ok = true := by decide
theorem n0_len : n0.bts.length = 5 := by
  rw [bts_len]
  have : n0.body = [3, 1] := by
    show (3 : Int) :: [1].flatMap num = [3, 1]
    simp [num_low]
  rw [this]
  rfl
theorem n0_tot : tot [n0] = 5 := by unfold tot; rw [List.flatMap_singleton]; exact n0_len
theorem rds_zero : Rds [] [] [] := rds_nil fst_nil
/-- too short for a note -/
theorem rds_short {l : List Int} (h : l.length < 5) : Rds l [] l := rds_nil (fun m hm => by
  have := bts_len5 hm.1
  have := hm.len
  omega)
theorem rds_one {n : Nt} (h : n.ok = true) : Rds n.bts [n] [] := by
  have := rds_all (ns := [n]) (by simpa using h)
  rwa [List.flatMap_singleton] at this
def aT1 : Tp := ⟨fun _ => [], false, true, 4, false⟩
def aT2 : Tp := ((aT1.use 4).setA false (n0.bts.take 4)).die
def aT4 : Tp := (aT2.crash.use 1).setA false []
def aT5 : Tp := (aT4.use 5).setA false n0.bts
theorem aw1 : Tp.nw.arm 4 = (0, aT1) := rfl
theorem aw2 : aT1.app [] [n0] = (190, aT2) := by
  rw [app_put rfl (by simp [n0_ok]) (by rw [n0_tot]; decide)]
  unfold Tp.put
  rw [if_neg (by rw [List.flatMap_singleton, n0_len]; decide), List.flatMap_singleton]
  rfl
theorem aw3 : aT2.crash.now = n0.bts.take 4 := rfl
theorem aw3' : aT2.crash.now.length = 4 := by rw [aw3, List.length_take, n0_len]; rfl
theorem aw4 : aT2.crash.rep (n0.bts.take 4) = (4, 0, aT4) := by
  have e1 : (n0.bts.take 4).length = 4 := by rw [List.length_take, n0_len]; rfl
  have e : aT2.crash.cut aT2.crash.cn (aT2.crash.now.length - (n0.bts.take 4).length) = (0, aT4) := by
    rw [aw3', e1]
    unfold Tp.cut
    rw [if_neg (by show ¬ (aT2.crash.now).length = 4 - 4; rw [aw3']; decide), if_pos (by rfl)]
    rfl
  unfold Tp.rep
  rw [if_neg (by decide), e, e1, if_pos rfl]
  rfl
theorem aw5 : aT4.app [] [n0] = (0, aT5) := by
  rw [app_put rfl (by simp [n0_ok]) (by rw [n0_tot]; decide)]
  unfold Tp.put
  rw [if_pos (by rfl), List.flatMap_singleton, n0_len]
  rfl
theorem aw6 : aT5.now = n0.bts := rfl

/-- a slice that Read answers -/
theorem ReaV.form {w0 : World} {e : Ending} {got : List Nt} {l : List It} {w : World} (h : ReaV w0 e got l w) : ∃ a c, e = .returned (.slice a got.length c) ∧ Its w0 (.row ntE w0.heap.size (.slice a got.length c) got :: l) w := by
  obtain ⟨v, rfl, h⟩ := h
  obtain ⟨a, c, e⟩ := El.Rd.form (El.Own.rd h.one)
  subst e
  exact ⟨a, c, rfl, h⟩

set_option maxRecDepth 100000 in
set_option maxHeartbeats 2000000 in
theorem awakeS {w0 w : World} {l : List It} (h : Its w0 l w) : Calls Try.prog 11 #[] w fun e w' => e = .returned (.bool true) ∧ Its w0 l w' := by
  have K9 := hide (newS h)
  have K12 : Hid (∀ W g H, Its w0 (.tape w0.heap.size g H Tp.nw :: l) W → Calls Try.prog 12 #[.pointer (some ⟨g, 0, none⟩), .int .i64 4] W fun e w' => e = .returned (.int .i64 0) ∧ Its w0 (.tape w0.heap.size g H aT1 :: l) w') := hide (fun W g H hW => by
    have := armS hW 4
    rw [aw1] at this
    exact this)
  have K14a : Hid (∀ W g H, Its w0 (.tape w0.heap.size g H aT1 :: l) W → Calls Try.prog 14 #[.pointer (some ⟨g, 0, none⟩), .slice (some ⟨W.heap.size, 0, none⟩) 1 1] (W.alloc (.cells #[.int .i64 3, .int .i64 1, .int .i64 0, .int .i64 0] 43)) fun e w' => e = .returned (.int .i64 190) ∧ ∃ H', Its w0 (.tape w0.heap.size g H' aT2 :: l) w') := hide (fun W g H hW => by
    have := appendS (hW.alloc (.cells #[.int .i64 3, .int .i64 1, .int .i64 0, .int .i64 0] 43)) (nt_new W n0 _ rfl) rfl (by decide) (show Rds aT1.now [] [] from rds_zero)
    rw [aw2] at this
    exact this)
  have K20 : Hid (∀ W g H, Its w0 (.tape w0.heap.size g H aT2 :: l) W → Calls Try.prog 20 #[.pointer (some ⟨g, 0, none⟩)] W fun e w' => CraV w0 e aT2 l w') := hide (fun W g H hW => (crashS hW).mono (by
    rintro e w' ⟨g', H', rfl, h1⟩
    exact ⟨g', H', rfl, h1.swap.tail⟩))
  have K25 : Hid (∀ W g H, Its w0 (.tape w0.heap.size g H aT2.crash :: l) W → Calls Try.prog 25 #[.pointer (some ⟨g, 0, none⟩)] W fun e w' => e = .returned (.int .i64 4) ∧ Its w0 (.tape w0.heap.size g H aT2.crash :: l) w') := hide (fun W g H hW => by
    have := sizeS hW
    rw [aw3'] at this
    exact this)
  have K24a : Hid (∀ W g H, Its w0 (.tape w0.heap.size g H aT2.crash :: l) W → Calls Try.prog 24 #[.pointer (some ⟨g, 0, none⟩)] W fun e w' => ∃ a c, e = .returned (.slice a 0 c) ∧ Its w0 (.tape w0.heap.size g H aT2.crash :: l) w') := hide (fun W g H hW => (readS hW (show Rds aT2.crash.now [] (n0.bts.take 4) from rds_short (by rw [aw3']; decide))).mono (by
    intro e w' h1
    obtain ⟨a, c, rfl, h2⟩ := h1.form
    exact ⟨a, c, rfl, h2.tail⟩))
  have K18 : Hid (∀ W g H, Its w0 (.tape w0.heap.size g H aT2.crash :: l) W → Calls Try.prog 18 #[.pointer (some ⟨g, 0, none⟩)] W fun e w' => e = .returned (.tuple #[.int .i64 4, .int .i64 0]) ∧ ∃ H', Its w0 (.tape w0.heap.size g H' aT4 :: l) w') := hide (fun W g H hW => by
    have := repairS hW (show Rds aT2.crash.now [] (n0.bts.take 4) from rds_short (by rw [aw3']; decide))
    rw [aw4] at this
    exact this)
  have K14b : Hid (∀ W g H, Its w0 (.tape w0.heap.size g H aT4 :: l) W → Calls Try.prog 14 #[.pointer (some ⟨g, 0, none⟩), .slice (some ⟨W.heap.size, 0, none⟩) 1 1] (W.alloc (.cells #[.int .i64 3, .int .i64 1, .int .i64 0, .int .i64 0] 43)) fun e w' => e = .returned (.int .i64 0) ∧ ∃ H', Its w0 (.tape w0.heap.size g H' aT5 :: l) w') := hide (fun W g H hW => by
    have := appendS (hW.alloc (.cells #[.int .i64 3, .int .i64 1, .int .i64 0, .int .i64 0] 43)) (nt_new W n0 _ rfl) rfl (by decide) (show Rds aT4.now [] [] from rds_zero)
    rw [aw5] at this
    exact this)
  have K24b : Hid (∀ W g H, Its w0 (.tape w0.heap.size g H aT5 :: l) W → Calls Try.prog 24 #[.pointer (some ⟨g, 0, none⟩)] W fun e w' => ∃ a c, e = .returned (.slice a 1 c) ∧ Its w0 (.tape w0.heap.size g H aT5 :: l) w') := hide (fun W g H hW => (readS hW (show Rds aT5.now [n0] [] from rds_one n0_ok)).mono (by
    intro e w' h1
    obtain ⟨a, c, rfl, h2⟩ := h1.form
    exact ⟨a, c, rfl, h2.tail⟩))
  clear h
  go_enter Try.func11, Try.ntmps11
  go_wp2_with (first
    | (go_at_call 24; refine (K24b.out _ _ _ h9).mono ?_; rintro e wt ⟨az, cz, rfl, h10⟩)
    | (go_at_call 14; refine (K14b.out _ _ _ h8).mono ?_; rintro e w9 ⟨rfl, H9, h9⟩)
    | (go_at_call 18; refine (K18.out _ _ _ h7).mono ?_; rintro e w8 ⟨rfl, H8, h8⟩)
    | (go_at_call 24; refine (K24a.out _ _ _ h6).mono ?_; rintro e w7 ⟨ay, cy, rfl, h7⟩)
    | (go_at_call 25; refine (K25.out _ _ _ h5).mono ?_; rintro e w6 ⟨rfl, h6⟩)
    | (go_at_call 20; refine (K20.out _ _ _ h4).mono ?_; rintro e w5 ⟨g2, H5, rfl, h5⟩)
    | (go_at_call 14; refine (K14a.out _ _ _ h3).mono ?_; rintro e w4 ⟨rfl, H4, h4⟩)
    | (go_at_call 12; refine (K12.out _ _ _ h2).mono ?_; rintro e w3 ⟨rfl, h3⟩)
    | (go_at_call 9; refine K9.out.mono ?_; rintro e w2 ⟨g1, H2, rfl, h2⟩))
  go_ret
  exact ⟨rfl, h10.tail⟩
end Go.Proofs.Ytgdoagmnhmfjkaa
