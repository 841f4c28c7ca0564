/- For every two telegrams the law TeleApart answers true: where both can be written, their bytes are the same just where they are the same telegram; no conditions. -/
import Derived.Test.YtglleofhcokeiabTAwake
import Derived.Test.YtglleofhcokeiabArgs
import Derived.Test.YtglleofhcokeiabStr
namespace Go.Proofs.Ytglleofhcokeiab.teleApart
open Go.ChangeShapes Go.WideShapes Go.ChangeAt Go.RowKit
set_option linter.unusedVariables false

theorem own : ownKnob Try.prog.godebug = none := by kernel_rfl
theorem laidOut : laidOutB Try.prog = true := by kernel_rfl

set_option maxHeartbeats 2000000 in
theorem nn (k d s a b k2 d2 s2 a2 b2 : Int) (w : World) (h1 : chk ⟨k, d, s, a, b⟩ ≠ 0) (h2 : chk ⟨k2, d2, s2, a2, b2⟩ ≠ 0) :
    Calls Try.prog 4 #[.agg #[.int .u8 k, .int .u16 d, .int .u16 s, .int .u16 a, .int .u16 b], .agg #[.int .u8 k2, .int .u16 d2, .int .u16 s2, .int .u16 a2, .int .u16 b2]] w fun e w' => e = .returned (.bool true) ∧ Below w.heap.size w w' := by
  have ha : Below w.heap.size w ((w.alloc (.cells #[.int .u8 k, .int .u16 d, .int .u16 s, .int .u16 a, .int .u16 b] 25)).alloc (.cells #[.int .u8 k2, .int .u16 d2, .int .u16 s2, .int .u16 a2, .int .u16 b2] 25)) := ((Below.refl _ _).alloc (Nat.le_refl _) _).alloc (by simp) _
  have hx : Below (w.alloc (.cells #[.int .u8 k, .int .u16 d, .int .u16 s, .int .u16 a, .int .u16 b] 25)).heap.size (w.alloc (.cells #[.int .u8 k, .int .u16 d, .int .u16 s, .int .u16 a, .int .u16 b] 25)) ((w.alloc (.cells #[.int .u8 k, .int .u16 d, .int .u16 s, .int .u16 a, .int .u16 b] 25)).alloc (.cells #[.int .u8 k2, .int .u16 d2, .int .u16 s2, .int .u16 a2, .int .u16 b2] 25)) := (Below.refl _ _).alloc (Nat.le_refl _) _
  have hB1 : Hid (∀ W, Below ((w.alloc (.cells #[.int .u8 k, .int .u16 d, .int .u16 s, .int .u16 a, .int .u16 b] 25)).alloc (.cells #[.int .u8 k2, .int .u16 d2, .int .u16 s2, .int .u16 a2, .int .u16 b2] 25)).heap.size ((w.alloc (.cells #[.int .u8 k, .int .u16 d, .int .u16 s, .int .u16 a, .int .u16 b] 25)).alloc (.cells #[.int .u8 k2, .int .u16 d2, .int .u16 s2, .int .u16 a2, .int .u16 b2] 25)) W → W.cell? ⟨w.heap.size, 0, none⟩ = some (.int .u8 k) ∧ W.cell? ⟨w.heap.size, 1, none⟩ = some (.int .u16 d) ∧ W.cell? ⟨w.heap.size, 2, none⟩ = some (.int .u16 s) ∧ W.cell? ⟨w.heap.size, 3, none⟩ = some (.int .u16 a) ∧ W.cell? ⟨w.heap.size, 4, none⟩ = some (.int .u16 b)) := hide (fun W hW => box5 (hx.trans (hW.mono hx.size)))
  have hB2 : Hid (∀ W, Below ((w.alloc (.cells #[.int .u8 k, .int .u16 d, .int .u16 s, .int .u16 a, .int .u16 b] 25)).alloc (.cells #[.int .u8 k2, .int .u16 d2, .int .u16 s2, .int .u16 a2, .int .u16 b2] 25)).heap.size ((w.alloc (.cells #[.int .u8 k, .int .u16 d, .int .u16 s, .int .u16 a, .int .u16 b] 25)).alloc (.cells #[.int .u8 k2, .int .u16 d2, .int .u16 s2, .int .u16 a2, .int .u16 b2] 25)) W → W.cell? ⟨w.heap.size + 1, 0, none⟩ = some (.int .u8 k2) ∧ W.cell? ⟨w.heap.size + 1, 1, none⟩ = some (.int .u16 d2) ∧ W.cell? ⟨w.heap.size + 1, 2, none⟩ = some (.int .u16 s2) ∧ W.cell? ⟨w.heap.size + 1, 3, none⟩ = some (.int .u16 a2) ∧ W.cell? ⟨w.heap.size + 1, 4, none⟩ = some (.int .u16 b2)) := hide (fun W hW => by
    have e : w.heap.size + 1 = (w.alloc (.cells #[.int .u8 k, .int .u16 d, .int .u16 s, .int .u16 a, .int .u16 b] 25)).heap.size := by simp
    rw [e]; exact box5 hW)
  have Ha := hide ha
  clear ha hx
  have kA := fun W => encode_no k d s a b W h1
  have kB := fun W => encode_no k2 d2 s2 a2 b2 W h2
  generalize chk ⟨k, d, s, a, b⟩ = z1 at *
  generalize chk ⟨k2, d2, s2, a2, b2⟩ = z2 at *
  have K1 := hide kA
  have K2 := hide kB
  clear kA kB
  have hz1 : (z1 != 0) = true := by simpa using h1
  have hz2 : (z2 != 0) = true := by simpa using h2
  go_enter Try.func4, Try.ntmps4
  go_upto_region 5 with (first
    | (go_at_call 5; refine (tawake_any _).mono ?_; rintro e w1 ⟨rfl, hb1⟩; obtain ⟨p0, p1, p2, p3, p4⟩ := hB1.out _ hb1)
    | (go_at_call_of 7 (Value.agg #[.int .u8 k, .int .u16 d, .int .u16 s, .int .u16 a, .int .u16 b]); refine (K1.out _).mono ?_; rintro e w2 ⟨rfl, hb2⟩; have hb12 := hb1.trans (hb2.mono hb1.size); obtain ⟨q0, q1, q2, q3, q4⟩ := hB2.out _ hb12; clear K1)
    | (go_at_call 7; refine (K2.out _).mono ?_; rintro e w3 ⟨rfl, hb3⟩; have hb13 := hb12.trans (hb3.mono hb12.size)))
  have Hf := hide (Ha.out.trans (hb13.mono Ha.out.size))
  go_quiet (fail)
  go_wp2_with fail
  go_ret
  exact ⟨rfl, Hf.out.drewN _⟩

set_option maxHeartbeats 2000000 in
theorem ny (k d s a b k2 d2 s2 a2 b2 : Int) (w : World) (h1 : chk ⟨k, d, s, a, b⟩ ≠ 0) (h2 : chk ⟨k2, d2, s2, a2, b2⟩ = 0) (i2 : Tl.In ⟨k2, d2, s2, a2, b2⟩) :
    Calls Try.prog 4 #[.agg #[.int .u8 k, .int .u16 d, .int .u16 s, .int .u16 a, .int .u16 b], .agg #[.int .u8 k2, .int .u16 d2, .int .u16 s2, .int .u16 a2, .int .u16 b2]] w fun e w' => e = .returned (.bool true) ∧ Below w.heap.size w w' := by
  have ha : Below w.heap.size w ((w.alloc (.cells #[.int .u8 k, .int .u16 d, .int .u16 s, .int .u16 a, .int .u16 b] 25)).alloc (.cells #[.int .u8 k2, .int .u16 d2, .int .u16 s2, .int .u16 a2, .int .u16 b2] 25)) := ((Below.refl _ _).alloc (Nat.le_refl _) _).alloc (by simp) _
  have hx : Below (w.alloc (.cells #[.int .u8 k, .int .u16 d, .int .u16 s, .int .u16 a, .int .u16 b] 25)).heap.size (w.alloc (.cells #[.int .u8 k, .int .u16 d, .int .u16 s, .int .u16 a, .int .u16 b] 25)) ((w.alloc (.cells #[.int .u8 k, .int .u16 d, .int .u16 s, .int .u16 a, .int .u16 b] 25)).alloc (.cells #[.int .u8 k2, .int .u16 d2, .int .u16 s2, .int .u16 a2, .int .u16 b2] 25)) := (Below.refl _ _).alloc (Nat.le_refl _) _
  have hB1 : Hid (∀ W, Below ((w.alloc (.cells #[.int .u8 k, .int .u16 d, .int .u16 s, .int .u16 a, .int .u16 b] 25)).alloc (.cells #[.int .u8 k2, .int .u16 d2, .int .u16 s2, .int .u16 a2, .int .u16 b2] 25)).heap.size ((w.alloc (.cells #[.int .u8 k, .int .u16 d, .int .u16 s, .int .u16 a, .int .u16 b] 25)).alloc (.cells #[.int .u8 k2, .int .u16 d2, .int .u16 s2, .int .u16 a2, .int .u16 b2] 25)) W → W.cell? ⟨w.heap.size, 0, none⟩ = some (.int .u8 k) ∧ W.cell? ⟨w.heap.size, 1, none⟩ = some (.int .u16 d) ∧ W.cell? ⟨w.heap.size, 2, none⟩ = some (.int .u16 s) ∧ W.cell? ⟨w.heap.size, 3, none⟩ = some (.int .u16 a) ∧ W.cell? ⟨w.heap.size, 4, none⟩ = some (.int .u16 b)) := hide (fun W hW => box5 (hx.trans (hW.mono hx.size)))
  have hB2 : Hid (∀ W, Below ((w.alloc (.cells #[.int .u8 k, .int .u16 d, .int .u16 s, .int .u16 a, .int .u16 b] 25)).alloc (.cells #[.int .u8 k2, .int .u16 d2, .int .u16 s2, .int .u16 a2, .int .u16 b2] 25)).heap.size ((w.alloc (.cells #[.int .u8 k, .int .u16 d, .int .u16 s, .int .u16 a, .int .u16 b] 25)).alloc (.cells #[.int .u8 k2, .int .u16 d2, .int .u16 s2, .int .u16 a2, .int .u16 b2] 25)) W → W.cell? ⟨w.heap.size + 1, 0, none⟩ = some (.int .u8 k2) ∧ W.cell? ⟨w.heap.size + 1, 1, none⟩ = some (.int .u16 d2) ∧ W.cell? ⟨w.heap.size + 1, 2, none⟩ = some (.int .u16 s2) ∧ W.cell? ⟨w.heap.size + 1, 3, none⟩ = some (.int .u16 a2) ∧ W.cell? ⟨w.heap.size + 1, 4, none⟩ = some (.int .u16 b2)) := hide (fun W hW => by
    have e : w.heap.size + 1 = (w.alloc (.cells #[.int .u8 k, .int .u16 d, .int .u16 s, .int .u16 a, .int .u16 b] 25)).heap.size := by simp
    rw [e]; exact box5 hW)
  have Ha := hide ha
  clear ha hx
  have kA := fun W => encode_no k d s a b W h1
  have kB := fun W => encode_yes k2 d2 s2 a2 b2 W h2 i2
  generalize chk ⟨k, d, s, a, b⟩ = z1 at *
  have K1 := hide kA
  have K2 := hide kB
  clear kA kB
  have hz1 : (z1 != 0) = true := by simpa using h1
  go_enter Try.func4, Try.ntmps4
  go_upto_region 5 with (first
    | (go_at_call 5; refine (tawake_any _).mono ?_; rintro e w1 ⟨rfl, hb1⟩; obtain ⟨p0, p1, p2, p3, p4⟩ := hB1.out _ hb1)
    | (go_at_call_of 7 (Value.agg #[.int .u8 k, .int .u16 d, .int .u16 s, .int .u16 a, .int .u16 b]); refine (K1.out _).mono ?_; rintro e w2 ⟨rfl, hb2⟩; have hb12 := hb1.trans (hb2.mono hb1.size); obtain ⟨q0, q1, q2, q3, q4⟩ := hB2.out _ hb12; clear K1)
    | (go_at_call 7; refine (K2.out _).mono ?_; rintro e w3 ⟨v2, rfl, hown2, hb3⟩; have hb13 := hb12.trans (hb3.mono hb12.size)))
  have Hf := hide (Ha.out.trans (hb13.mono Ha.out.size))
  go_quiet (fail)
  go_wp2_with fail
  go_ret
  exact ⟨rfl, Hf.out.drewN _⟩

set_option maxHeartbeats 2000000 in
theorem yn (k d s a b k2 d2 s2 a2 b2 : Int) (w : World) (h1 : chk ⟨k, d, s, a, b⟩ = 0) (i1 : Tl.In ⟨k, d, s, a, b⟩) (h2 : chk ⟨k2, d2, s2, a2, b2⟩ ≠ 0) :
    Calls Try.prog 4 #[.agg #[.int .u8 k, .int .u16 d, .int .u16 s, .int .u16 a, .int .u16 b], .agg #[.int .u8 k2, .int .u16 d2, .int .u16 s2, .int .u16 a2, .int .u16 b2]] w fun e w' => e = .returned (.bool true) ∧ Below w.heap.size w w' := by
  have ha : Below w.heap.size w ((w.alloc (.cells #[.int .u8 k, .int .u16 d, .int .u16 s, .int .u16 a, .int .u16 b] 25)).alloc (.cells #[.int .u8 k2, .int .u16 d2, .int .u16 s2, .int .u16 a2, .int .u16 b2] 25)) := ((Below.refl _ _).alloc (Nat.le_refl _) _).alloc (by simp) _
  have hx : Below (w.alloc (.cells #[.int .u8 k, .int .u16 d, .int .u16 s, .int .u16 a, .int .u16 b] 25)).heap.size (w.alloc (.cells #[.int .u8 k, .int .u16 d, .int .u16 s, .int .u16 a, .int .u16 b] 25)) ((w.alloc (.cells #[.int .u8 k, .int .u16 d, .int .u16 s, .int .u16 a, .int .u16 b] 25)).alloc (.cells #[.int .u8 k2, .int .u16 d2, .int .u16 s2, .int .u16 a2, .int .u16 b2] 25)) := (Below.refl _ _).alloc (Nat.le_refl _) _
  have hB1 : Hid (∀ W, Below ((w.alloc (.cells #[.int .u8 k, .int .u16 d, .int .u16 s, .int .u16 a, .int .u16 b] 25)).alloc (.cells #[.int .u8 k2, .int .u16 d2, .int .u16 s2, .int .u16 a2, .int .u16 b2] 25)).heap.size ((w.alloc (.cells #[.int .u8 k, .int .u16 d, .int .u16 s, .int .u16 a, .int .u16 b] 25)).alloc (.cells #[.int .u8 k2, .int .u16 d2, .int .u16 s2, .int .u16 a2, .int .u16 b2] 25)) W → W.cell? ⟨w.heap.size, 0, none⟩ = some (.int .u8 k) ∧ W.cell? ⟨w.heap.size, 1, none⟩ = some (.int .u16 d) ∧ W.cell? ⟨w.heap.size, 2, none⟩ = some (.int .u16 s) ∧ W.cell? ⟨w.heap.size, 3, none⟩ = some (.int .u16 a) ∧ W.cell? ⟨w.heap.size, 4, none⟩ = some (.int .u16 b)) := hide (fun W hW => box5 (hx.trans (hW.mono hx.size)))
  have hB2 : Hid (∀ W, Below ((w.alloc (.cells #[.int .u8 k, .int .u16 d, .int .u16 s, .int .u16 a, .int .u16 b] 25)).alloc (.cells #[.int .u8 k2, .int .u16 d2, .int .u16 s2, .int .u16 a2, .int .u16 b2] 25)).heap.size ((w.alloc (.cells #[.int .u8 k, .int .u16 d, .int .u16 s, .int .u16 a, .int .u16 b] 25)).alloc (.cells #[.int .u8 k2, .int .u16 d2, .int .u16 s2, .int .u16 a2, .int .u16 b2] 25)) W → W.cell? ⟨w.heap.size + 1, 0, none⟩ = some (.int .u8 k2) ∧ W.cell? ⟨w.heap.size + 1, 1, none⟩ = some (.int .u16 d2) ∧ W.cell? ⟨w.heap.size + 1, 2, none⟩ = some (.int .u16 s2) ∧ W.cell? ⟨w.heap.size + 1, 3, none⟩ = some (.int .u16 a2) ∧ W.cell? ⟨w.heap.size + 1, 4, none⟩ = some (.int .u16 b2)) := hide (fun W hW => by
    have e : w.heap.size + 1 = (w.alloc (.cells #[.int .u8 k, .int .u16 d, .int .u16 s, .int .u16 a, .int .u16 b] 25)).heap.size := by simp
    rw [e]; exact box5 hW)
  have Ha := hide ha
  clear ha hx
  have kA := fun W => encode_yes k d s a b W h1 i1
  have kB := fun W => encode_no k2 d2 s2 a2 b2 W h2
  generalize chk ⟨k2, d2, s2, a2, b2⟩ = z2 at *
  have K1 := hide kA
  have K2 := hide kB
  clear kA kB
  have hz2 : (z2 != 0) = true := by simpa using h2
  go_enter Try.func4, Try.ntmps4
  go_upto_region 5 with (first
    | (go_at_call 5; refine (tawake_any _).mono ?_; rintro e w1 ⟨rfl, hb1⟩; obtain ⟨p0, p1, p2, p3, p4⟩ := hB1.out _ hb1)
    | (go_at_call_of 7 (Value.agg #[.int .u8 k, .int .u16 d, .int .u16 s, .int .u16 a, .int .u16 b]); refine (K1.out _).mono ?_; rintro e w2 ⟨v1, rfl, hown1, hb2⟩; have hb12 := hb1.trans (hb2.mono hb1.size); obtain ⟨q0, q1, q2, q3, q4⟩ := hB2.out _ hb12; clear K1)
    | (go_at_call 7; refine (K2.out _).mono ?_; rintro e w3 ⟨rfl, hb3⟩; have hb13 := hb12.trans (hb3.mono hb12.size)))
  have Hf := hide (Ha.out.trans (hb13.mono Ha.out.size))
  go_quiet (fail)
  go_wp2_with fail
  go_ret
  exact ⟨rfl, Hf.out.drewN _⟩

set_option maxHeartbeats 2000000 in
theorem yy (k d s a b k2 d2 s2 a2 b2 : Int) (w : World) (h1 : chk ⟨k, d, s, a, b⟩ = 0) (i1 : Tl.In ⟨k, d, s, a, b⟩) (h2 : chk ⟨k2, d2, s2, a2, b2⟩ = 0) (i2 : Tl.In ⟨k2, d2, s2, a2, b2⟩) :
    Calls Try.prog 4 #[.agg #[.int .u8 k, .int .u16 d, .int .u16 s, .int .u16 a, .int .u16 b], .agg #[.int .u8 k2, .int .u16 d2, .int .u16 s2, .int .u16 a2, .int .u16 b2]] w fun e w' => e = .returned (.bool true) ∧ Below w.heap.size w w' := by
  have ha : Below w.heap.size w ((w.alloc (.cells #[.int .u8 k, .int .u16 d, .int .u16 s, .int .u16 a, .int .u16 b] 25)).alloc (.cells #[.int .u8 k2, .int .u16 d2, .int .u16 s2, .int .u16 a2, .int .u16 b2] 25)) := ((Below.refl _ _).alloc (Nat.le_refl _) _).alloc (by simp) _
  have hx : Below (w.alloc (.cells #[.int .u8 k, .int .u16 d, .int .u16 s, .int .u16 a, .int .u16 b] 25)).heap.size (w.alloc (.cells #[.int .u8 k, .int .u16 d, .int .u16 s, .int .u16 a, .int .u16 b] 25)) ((w.alloc (.cells #[.int .u8 k, .int .u16 d, .int .u16 s, .int .u16 a, .int .u16 b] 25)).alloc (.cells #[.int .u8 k2, .int .u16 d2, .int .u16 s2, .int .u16 a2, .int .u16 b2] 25)) := (Below.refl _ _).alloc (Nat.le_refl _) _
  have hB1 : Hid (∀ W, Below ((w.alloc (.cells #[.int .u8 k, .int .u16 d, .int .u16 s, .int .u16 a, .int .u16 b] 25)).alloc (.cells #[.int .u8 k2, .int .u16 d2, .int .u16 s2, .int .u16 a2, .int .u16 b2] 25)).heap.size ((w.alloc (.cells #[.int .u8 k, .int .u16 d, .int .u16 s, .int .u16 a, .int .u16 b] 25)).alloc (.cells #[.int .u8 k2, .int .u16 d2, .int .u16 s2, .int .u16 a2, .int .u16 b2] 25)) W → W.cell? ⟨w.heap.size, 0, none⟩ = some (.int .u8 k) ∧ W.cell? ⟨w.heap.size, 1, none⟩ = some (.int .u16 d) ∧ W.cell? ⟨w.heap.size, 2, none⟩ = some (.int .u16 s) ∧ W.cell? ⟨w.heap.size, 3, none⟩ = some (.int .u16 a) ∧ W.cell? ⟨w.heap.size, 4, none⟩ = some (.int .u16 b)) := hide (fun W hW => box5 (hx.trans (hW.mono hx.size)))
  have hB2 : Hid (∀ W, Below ((w.alloc (.cells #[.int .u8 k, .int .u16 d, .int .u16 s, .int .u16 a, .int .u16 b] 25)).alloc (.cells #[.int .u8 k2, .int .u16 d2, .int .u16 s2, .int .u16 a2, .int .u16 b2] 25)).heap.size ((w.alloc (.cells #[.int .u8 k, .int .u16 d, .int .u16 s, .int .u16 a, .int .u16 b] 25)).alloc (.cells #[.int .u8 k2, .int .u16 d2, .int .u16 s2, .int .u16 a2, .int .u16 b2] 25)) W → W.cell? ⟨w.heap.size + 1, 0, none⟩ = some (.int .u8 k2) ∧ W.cell? ⟨w.heap.size + 1, 1, none⟩ = some (.int .u16 d2) ∧ W.cell? ⟨w.heap.size + 1, 2, none⟩ = some (.int .u16 s2) ∧ W.cell? ⟨w.heap.size + 1, 3, none⟩ = some (.int .u16 a2) ∧ W.cell? ⟨w.heap.size + 1, 4, none⟩ = some (.int .u16 b2)) := hide (fun W hW => by
    have e : w.heap.size + 1 = (w.alloc (.cells #[.int .u8 k, .int .u16 d, .int .u16 s, .int .u16 a, .int .u16 b] 25)).heap.size := by simp
    rw [e]; exact box5 hW)
  have Ha := hide ha
  clear ha hx
  have kA := fun W => encode_yes k d s a b W h1 i1
  have kB := fun W => encode_yes k2 d2 s2 a2 b2 W h2 i2
  have K1 := hide kA
  have K2 := hide kB
  clear kA kB
  have J1 := hide (enc_in _ i1)
  have J2 := hide (enc_in _ i2)
  go_enter Try.func4, Try.ntmps4
  go_upto_region 5 with (first
    | (go_at_call 5; refine (tawake_any _).mono ?_; rintro e w1 ⟨rfl, hb1⟩; obtain ⟨p0, p1, p2, p3, p4⟩ := hB1.out _ hb1)
    | (go_at_call_of 7 (Value.agg #[.int .u8 k, .int .u16 d, .int .u16 s, .int .u16 a, .int .u16 b]); refine (K1.out _).mono ?_; rintro e w2 ⟨v1, rfl, hown1, hb2⟩; have hb12 := hb1.trans (hb2.mono hb1.size); obtain ⟨q0, q1, q2, q3, q4⟩ := hB2.out _ hb12; clear K1)
    | (go_at_call 7; refine (K2.out _).mono ?_; rintro e w3 ⟨v2, rfl, hown2, hb3⟩; have hb13 := hb12.trans (hb3.mono hb12.size)))
  have Hf := hide (Ha.out.trans (hb13.mono Ha.out.size))
  have Hs : Hid ((str (enc ⟨k, d, s, a, b⟩) = str (enc ⟨k2, d2, s2, a2, b2⟩)) → (⟨k, d, s, a, b⟩ : Tl) = ⟨k2, d2, s2, a2, b2⟩) := hide (fun h => enc_inj (str_inj J1.out J2.out h))
  have cv1 : ∀ q, (convert 22 9 v1).run Try.prog (w3.drewN q) = .ok (.string (str (enc ⟨k, d, s, a, b⟩))) (w3.drewN q) := fun q => conv_str (w := w3.drewN q) (Bs.own (hown1.keep (hb3.drewN q)))
  have cv2 : ∀ q, (convert 22 9 v2).run Try.prog (w3.drewN q) = .ok (.string (str (enc ⟨k2, d2, s2, a2, b2⟩))) (w3.drewN q) := fun q => conv_str (w := w3.drewN q) (Bs.own (hown2.keep ((Below.refl _ _).drewN q)))
  obtain ⟨r0, r1, r2, r3, r4⟩ := hB1.out _ hb13
  obtain ⟨u0, u1, u2, u3, u4⟩ := hB2.out _ hb13
  clear p0 p1 p2 p3 p4 q0 q1 q2 q3 q4 hb1 hb2 hb3 hb12 hb13 hown1 hown2 hB1 hB2 h1 h2 i1 i2 J1 J2
  by_cases e0 : k = k2 ∧ d = d2 ∧ s = s2 ∧ a = a2 ∧ b = b2
  · obtain ⟨rfl, rfl, rfl, rfl, rfl⟩ := e0
    clear Hs
    go_quiet (fail)
    go_wp2_with fail
    go_ret
    exact ⟨rfl, Hf.out.drewN _⟩
  · have hs : ((str (enc ⟨k, d, s, a, b⟩)).toList == (str (enc ⟨k2, d2, s2, a2, b2⟩)).toList) = false := by
      rw [beq_eq_false_iff_ne]
      intro h
      have := Hs.out (toList_inj h)
      simp at this
      exact e0 this
    clear Hs
    generalize str (enc ⟨k, d, s, a, b⟩) = A at *
    generalize str (enc ⟨k2, d2, s2, a2, b2⟩) = B at *
    by_cases f0 : k = k2
    · subst f0
      by_cases f1 : d = d2
      · subst f1
        by_cases f2 : s = s2
        · subst f2
          by_cases f3 : a = a2
          · subst f3
            have f4 : ¬ b = b2 := fun h => e0 ⟨rfl, rfl, rfl, rfl, h⟩
            clear e0
            go_quiet (fail)
            go_wp2_with fail
            go_ret
            exact ⟨rfl, Hf.out.drewN _⟩
          · clear e0
            go_quiet (fail)
            go_wp2_with fail
            go_ret
            exact ⟨rfl, Hf.out.drewN _⟩
        · clear e0
          go_quiet (fail)
          go_wp2_with fail
          go_ret
          exact ⟨rfl, Hf.out.drewN _⟩
      · clear e0
        go_quiet (fail)
        go_wp2_with fail
        go_ret
        exact ⟨rfl, Hf.out.drewN _⟩
    · clear e0
      go_quiet (fail)
      go_wp2_with fail
      go_ret
      exact ⟨rfl, Hf.out.drewN _⟩

theorem walk (t0 t1 : Tl) (w : World) (i1 : t0.In) (i2 : t1.In) :
    Calls Try.prog 4 #[.agg #[.int .u8 t0.k, .int .u16 t0.d, .int .u16 t0.s, .int .u16 t0.a, .int .u16 t0.b], .agg #[.int .u8 t1.k, .int .u16 t1.d, .int .u16 t1.s, .int .u16 t1.a, .int .u16 t1.b]] w fun e w' => e = .returned (.bool true) ∧ Below w.heap.size w w' := by
  obtain ⟨k, d, s, a, b⟩ := t0
  obtain ⟨k2, d2, s2, a2, b2⟩ := t1
  by_cases h1 : chk ⟨k, d, s, a, b⟩ = 0
  · by_cases h2 : chk ⟨k2, d2, s2, a2, b2⟩ = 0
    · exact yy _ _ _ _ _ _ _ _ _ _ w h1 i1 h2 i2
    · exact yn _ _ _ _ _ _ _ _ _ _ w h1 i1 h2
  · by_cases h2 : chk ⟨k2, d2, s2, a2, b2⟩ = 0
    · exact ny _ _ _ _ _ _ _ _ _ _ w h1 h2 i2
    · exact nn _ _ _ _ _ _ _ _ _ _ w h1 h2

set_option maxRecDepth 100000 in
theorem lifted (os : Os) (started : os.Started) (H : Type) (enc : TypeId × Value → H) :
    ReturnsInHanded {} Try.checked os 4 .any (Rows.teleApartSpec.pre6 enc Try.prog Try.f4 Rows.teleApartRow.domain false) (Rows.teleApartSpec.post enc Try.prog Try.f4 false true false false) := by
  refine returnsInHanded_of_change_sized (C := Try.checked) own started (by kernel_rfl) Try.func4
    (ChangeSpec.witness6 (enc := enc) (C := Try.checked) false ⟨#[], #[.agg #[.int .u8 0, .int .u16 0, .int .u16 0, .int .u16 0, .int .u16 0], .agg #[.int .u8 0, .int .u16 0, .int .u16 0, .int .u16 0, .int .u16 0]], []⟩ 8 (by kernel_rfl) (by kernel_rfl) (by kernel_rfl) (by kernel_rfl)) ?_
  intro W base args ds gs before hval0 hW hcnd hsz0 _
  have hval : ∀ (j : Nat) t v, Try.f4.params[j]? = some t → args[j]? = some v → Value.okWide Try.prog W .any base t v := hval0
  have hsz : (DataW.weightsEach Try.prog (Try.f4.params.toList ++ Rows.teleApartSpec.plain.varTypes Try.prog) (ds ++ gs)).all (· ≤ reachBytes) = true := hsz0
  have hW' := hW
  obtain ⟨p, q, hA0, hV, rfl, hfz, hnd⟩ := hW
  have hA : DataW.TrodAll enc Try.prog W 0 (fun _ => true) true Try.f4.params.toList args.toList ds p := hA0
  rw [Try.params4] at hA hval hsz
  obtain ⟨v0, vs0, d0, ds0, p0, q0, hargs, rfl, rfl, h0, r0⟩ := trodAll_cons hA
  obtain ⟨v1, vs1, d1, ds1, p1, q1, rfl, rfl, rfl, h1, r1⟩ := trodAll_cons r0
  obtain ⟨rfl, rfl, rfl⟩ := trodAll_nil r1
  obtain rfl : args = #[v0, v1] := by cases args; simp_all
  obtain ⟨rfl, rfl⟩ := trodVars_none hV
  have k0 := h0
  have lt0 : ∀ x ∈ p0, x.block < W.heap.size := by obtain ⟨m, hm⟩ := k0; exact DataW.trod_lt m _ _ _ hm
  obtain ⟨cs0, rfl, _⟩ := okWide_struct Try.underlying25 (hval 0 25 v0 rfl rfl)
  obtain ⟨t0, w0, e0⟩ : ∃ t : Tl, t.In ∧ cs0 = #[.int .u8 t.k, .int .u16 t.d, .int .u16 t.s, .int .u16 t.a, .int .u16 t.b] := by
    obtain ⟨fuel, hf⟩ := h0
    obtain ⟨t, ht, he⟩ := tele_of_trod hf
    exact ⟨t, ht, by apply Array.toList_inj.1; exact he⟩
  subst e0
  have k1 := h1
  have lt1 : ∀ x ∈ p1, x.block < W.heap.size := by obtain ⟨m, hm⟩ := k1; exact DataW.trod_lt m _ _ _ hm
  obtain ⟨cs1, rfl, _⟩ := okWide_struct Try.underlying25 (hval 1 25 v1 rfl rfl)
  obtain ⟨t1, w1, e1⟩ : ∃ t : Tl, t.In ∧ cs1 = #[.int .u8 t.k, .int .u16 t.d, .int .u16 t.s, .int .u16 t.a, .int .u16 t.b] := by
    obtain ⟨fuel, hf⟩ := h1
    obtain ⟨t, ht, he⟩ := tele_of_trod hf
    exact ⟨t, ht, by apply Array.toList_inj.1; exact he⟩
  subst e1
  clear hA0 hval0
  refine (walk t0 t1 W w0 w1).mono fun e W' ⟨he, bel⟩ => ?_
  subst he
  exact ⟨_, rfl, _, _, _, [], _, [], hW', trodAll_mk1 (shut_bool Try.underlying4 _), (trodAll_cons_mk (Below.trod laidOut (by kernel_rfl) (of_decide_eq_true (by kernel_rfl)) k0 bel lt0) (trodAll_cons_mk (Below.trod laidOut (by kernel_rfl) (of_decide_eq_true (by kernel_rfl)) k1 bel lt1) trodAll_mk0)), rfl, bel.frame _, fun h => by cases h⟩

theorem over : Rows.teleApartRow.holds Try.pinned (OpenSpec.ofChange Rows.teleApartSpec) :=
  OpenClaim.holds_of_wide 4 Try.f4 rfl rfl rfl rfl rfl rfl rfl ⟨rfl, rfl, rfl, rfl, rfl⟩ rfl rfl rfl rfl rfl (by kernel_rfl) Try.func4 (by kernel_rfl)
    (of_decide_eq_true (by kernel_rfl)) (by unfold Func.isWrapper; first | (rw [if_pos (by decide +kernel)]; kernel_rfl) | (rw [if_neg (by decide +kernel)]; exact ⟨rfl, rfl⟩))
    (fun os started H enc _ => lifted os started H enc)

theorem proved : Rows.TeleApartSaid := over
end Go.Proofs.Ytglleofhcokeiab.teleApart
