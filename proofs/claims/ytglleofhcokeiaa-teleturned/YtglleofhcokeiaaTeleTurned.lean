/- For every telegram and every three places the law TeleTurned answers true: with one, two or three bits turned its bytes are not read, and the mark or the sum is told (a bit turned twice gives the telegram again); no conditions. -/
import Derived.Test.YtglleofhcokeiaaTTurn
import Derived.Test.YtglleofhcokeiaaTAwake
import Derived.Test.YtglleofhcokeiaaArgs
namespace Go.Proofs.Ytglleofhcokeiaa.teleTurned
open Go.ChangeShapes Go.WideShapes Go.ChangeAt Go.RowKit
set_option linter.unusedVariables false

theorem own : ownKnob Try.prog.godebug = none := by kernel_rfl
theorem laidOut : laidOutB Try.prog = true := by kernel_rfl

theorem at_is (a : Int) : ∃ k : Nat, wrap64 ((IntKind.u64.wrap a).tmod 96) = (k : Int) ∧ (IntKind.u64.wrap a).tmod 96 = (k : Int) ∧ k < 96 := by
  have hw : 0 ≤ IntKind.u64.wrap a := by simp [IntKind.wrap, IntKind.bits, IntKind.signed]; omega
  have h2 := Int.emod_nonneg (IntKind.u64.wrap a) (b := 96) (by omega)
  have h3 := Int.emod_lt_of_pos (IntKind.u64.wrap a) (b := 96) (by omega)
  rw [Int.tmod_eq_emod_of_nonneg hw]
  refine ⟨(IntKind.u64.wrap a % 96).toNat, ?_, by omega, by omega⟩
  unfold wrap64
  omega

theorem ow_first {W : World} {B g cap n : Nat} {l : List Int} (h : Ow W B (.slice (some ⟨g, 0, none⟩) n cap) l) (hl : 0 < l.length) {W' : World} (hb : Below W.heap.size W W') (o : Obj) :
    (W'.alloc o).cell? ⟨g, 0, none⟩ = some (.int .u8 (l[0]?.getD 0)) := by
  have := ((h.keep hb).keep ((Below.refl _ _).alloc (Nat.le_refl _) o)).cell (i := 0) hl
  exact this.1

set_option maxHeartbeats 4000000 in
theorem walk_no (k d s a b x0 x1 x2 : Int) (w : World) (hc : chk ⟨k, d, s, a, b⟩ ≠ 0) :
    Calls Try.prog 7 #[.agg #[.int .u8 k, .int .u16 d, .int .u16 s, .int .u16 a, .int .u16 b], .agg #[.int .i64 x0, .int .i64 x1, .int .i64 x2]] w fun e w' => e = .returned (.bool true) ∧ Below w.heap.size w w' := by
  have k11 := fun W => encode_no k d s a b W hc
  generalize chk ⟨k, d, s, a, b⟩ = z at *
  have K11 := hide k11
  clear k11
  have ha : ∀ o o', Below w.heap.size w ((w.alloc o).alloc o') := fun o o' => ((Below.refl _ _).alloc (Nat.le_refl _) o).alloc (by simp) o'
  have hs : ∀ o o', w.heap.size ≤ ((w.alloc o).alloc o').heap.size := fun o o' => (ha o o').size
  have hx : ∀ o o', Below (w.alloc o).heap.size (w.alloc o) ((w.alloc o).alloc o') := fun o o' => (Below.refl _ _).alloc (Nat.le_refl _) o'
  go_enter Try.func7, Try.ntmps7
  go_wp2_with (first
    | (go_at_call 9; refine (tawake_any _).mono ?_; rintro e w1 ⟨rfl, hb1⟩; obtain ⟨p0, p1, p2, p3, p4⟩ := box5 ((hx _ _).trans (hb1.mono (hx _ _).size)))
    | (go_at_call 11; refine (K11.out _).mono ?_; rintro e w3 ⟨rfl, hb3⟩))
  go_ret
  exact ⟨rfl, (ha _ _).trans ((hb1.trans (hb3.mono hb1.size)).mono (hs _ _))⟩

set_option maxHeartbeats 4000000 in
set_option maxRecDepth 100000 in
theorem walk_yes (k d s a b x0 x1 x2 : Int) (w : World) (hin : Tl.In ⟨k, d, s, a, b⟩) (hc : chk ⟨k, d, s, a, b⟩ = 0) :
    Calls Try.prog 7 #[.agg #[.int .u8 k, .int .u16 d, .int .u16 s, .int .u16 a, .int .u16 b], .agg #[.int .i64 x0, .int .i64 x1, .int .i64 x2]] w fun e w' => e = .returned (.bool true) ∧ Below w.heap.size w w' := by
  have k11 := fun W => encode_yes k d s a b W hc hin
  have K11 := hide k11
  clear k11
  have ha : ∀ o o', Below w.heap.size w ((w.alloc o).alloc o') := fun o o' => ((Below.refl _ _).alloc (Nat.le_refl _) o).alloc (by simp) o'
  have hs : ∀ o o', w.heap.size ≤ ((w.alloc o).alloc o').heap.size := fun o o' => (ha o o').size
  have hx : ∀ o o', Below (w.alloc o).heap.size (w.alloc o) ((w.alloc o).alloc o') := fun o o' => (Below.refl _ _).alloc (Nat.le_refl _) o'
  go_enter Try.func7, Try.ntmps7
  go_upto_region 4 with (first
    | (go_at_call 9; refine (tawake_any _).mono ?_; rintro e w1 ⟨rfl, hb1⟩; obtain ⟨p0, p1, p2, p3, p4⟩ := box5 ((hx _ _).trans (hb1.mono (hx _ _).size)))
    | (go_at_call 11; refine (K11.out _).mono ?_; rintro e w3 ⟨v, rfl, hown, hb3⟩))
  have hb13 := hb1.trans (hb3.mono hb1.size)
  have hown3 := Ow.mono hown hb1.size
  have HA0 : Hid (∀ W, Below ((w.alloc (.cells #[.int .u8 k, .int .u16 d, .int .u16 s, .int .u16 a, .int .u16 b] 24)).alloc (.cells #[.int .i64 x0, .int .i64 x1, .int .i64 x2] 48)).heap.size ((w.alloc (.cells #[.int .u8 k, .int .u16 d, .int .u16 s, .int .u16 a, .int .u16 b] 24)).alloc (.cells #[.int .i64 x0, .int .i64 x1, .int .i64 x2] 48)) W → W.cell? ⟨w.heap.size + 1, 0, none⟩ = some (.int .i64 x0) ∧ W.cell? ⟨w.heap.size + 1, 1, none⟩ = some (.int .i64 x1) ∧ W.cell? ⟨w.heap.size + 1, 2, none⟩ = some (.int .i64 x2)) := hide (fun W hW => by
    have e : w.heap.size + 1 = (w.alloc (.cells #[.int .u8 k, .int .u16 d, .int .u16 s, .int .u16 a, .int .u16 b] 24)).heap.size := by simp
    rw [e]
    exact ⟨box_at hW 0, box_at hW 1, box_at hW 2⟩)
  have Hw := hide (ha (.cells #[.int .u8 k, .int .u16 d, .int .u16 s, .int .u16 a, .int .u16 b] 24) (.cells #[.int .i64 x0, .int .i64 x1, .int .i64 x2] 48))
  have Hws := hide (hs (.cells #[.int .u8 k, .int .u16 d, .int .u16 s, .int .u16 a, .int .u16 b] 24) (.cells #[.int .i64 x0, .int .i64 x1, .int .i64 x2] 48))
  generalize (w.alloc (.cells #[.int .u8 k, .int .u16 d, .int .u16 s, .int .u16 a, .int .u16 b] 24)).alloc (.cells #[.int .i64 x0, .int .i64 x1, .int .i64 x2] 48) = W0 at *
  have Hin := hide (enc_in _ hin)
  have Hz := hide (enc_zero _ hin)
  have Hdc := hide (dcode_enc ⟨k, d, s, a, b⟩)
  rw [hc] at Hdc
  have Hl := hide (enc_len ⟨k, d, s, a, b⟩)
  generalize enc ⟨k, d, s, a, b⟩ = l at *
  clear hb1 hb3 hown p0 p1 p2 p3 p4 hin hc ha hs hx K11
  obtain ⟨X0, hX0, hT0, l0⟩ := at_is x0
  obtain ⟨X1, hX1, hT1, l1⟩ := at_is x1
  obtain ⟨X2, hX2, hT2, l2⟩ := at_is x2
  have T0 := hide hT0
  have T1 := hide hT1
  clear hT0 hT1 hT2
  obtain ⟨g, cap, rfl, hg1, hg2⟩ := World.ownsRow.form hown3 (by rw [Hl.out]; omega)
  rw [Hl.out] at hown3 ⊢
  go_wp2_with fail
  go_loopw [5, 23] (fun v i wr => Hid ((i = .int .i64 0 ∧ Ow wr W0.heap.size v l ∧ Below W0.heap.size W0 wr) ∨ (i = .int .i64 1 ∧ Ow wr W0.heap.size v (turn l X0) ∧ Below W0.heap.size W0 wr) ∨ (i = .int .i64 2 ∧ Ow wr W0.heap.size v (turn (turn l X0) X1) ∧ Below W0.heap.size W0 wr) ∨ (i = .int .i64 3 ∧ Below W0.heap.size W0 wr))) (fun _ i _ => 3 - (intOf i).toNat)
  case atStart => exact hide (.inl ⟨rfl, hown3, hb13⟩)
  case round =>
    clear hown3 hb13
    rcases hrel.out with ⟨rfl, hown, hb⟩ | ⟨rfl, hown, hb⟩ | ⟨rfl, hown, hb⟩ | ⟨rfl, hb⟩
    · clear hrel
      obtain ⟨a0, a1, a2⟩ := HA0.out _ hb
      have hbad := dcode_bad (l := turn l X0) (by rw [turn_length]; exact Hl.out) (turn_in Hin.out X0) (by rw [← Hz.out]; exact turn1_ne l X0 (by rw [Hl.out]; omega))
      have Hm : Hid ((turn l X0).length = 12) := hide (by rw [turn_length]; exact Hl.out)
      have Hp : Hid ((l).length = 12) := hide (Hl.out)
      by_cases hf : (turn l X0)[0]?.getD 0 = 165
      · have k13 : ∀ W B v, Ow W B v (turn l X0) → (turn l X0).length = 12 → Calls Try.prog 13 #[v] W fun e w' => e = .returned (.tuple #[.agg #[.int .u8 0, .int .u16 0, .int .u16 0, .int .u16 0, .int .u16 0], .int .i64 22]) ∧ Below W.heap.size W w' := by
          intro W B v hown _
          have := decode_any (Bs.own hown) (Cp.own hown) (turn_in Hin.out X0)
          rw [hbad.1, hbad.2, if_pos hf] at this
          exact this
        have K13 := hide k13
        have Hf : Hid ((turn l X0)[0]?.getD 0 = 165) := hide hf
        clear hbad k13 hf
        go_wp2_with (first
          | (go_at_call 19; refine (turned_any _ l X0 (by rw [Hp.out]; omega) _ _ hb (Bs.own hown) (by rw [Hp.out]; omega)).mono ?_; rintro e w5 ⟨v5, rfl, hown5, hb5⟩; obtain ⟨g5, cap5, rfl, hg5, hh5⟩ := World.ownsRow.form hown5 (by rw [Hm.out]; omega); rw [Hm.out] at hown5 ⊢)
          | (go_at_call 13; refine (K13.out _ _ _ hown5 Hm.out).mono ?_; rintro e w6 ⟨rfl, hb6⟩; have hb56 := hb5.trans (hb6.mono hb5.size); have ca0 := fun o => (HA0.out _ (hb56.alloc hb56.size o)).1; have ca1 := fun o => (HA0.out _ (hb56.alloc hb56.size o)).2.1; have cb := ow_first hown5 (by rw [Hm.out]; omega) hb6; rw [Hf.out] at cb))
        go_roundw
        case rel => exact hide (.inr (.inl ⟨rfl, (hown5.keep hb6).keep ((Below.refl _ _).alloc (Nat.le_refl _) _), hb56.alloc hb56.size _⟩))
        case measure => simp [intOf]
      · have k13 : ∀ W B v, Ow W B v (turn l X0) → (turn l X0).length = 12 → Calls Try.prog 13 #[v] W fun e w' => e = .returned (.tuple #[.agg #[.int .u8 0, .int .u16 0, .int .u16 0, .int .u16 0, .int .u16 0], .int .i64 21]) ∧ Below W.heap.size W w' := by
          intro W B v hown _
          have := decode_any (Bs.own hown) (Cp.own hown) (turn_in Hin.out X0)
          rw [hbad.1, hbad.2, if_neg hf] at this
          exact this
        have K13 := hide k13
        obtain ⟨y, hy⟩ : ∃ y, (turn l X0)[0]?.getD 0 = y := ⟨_, rfl⟩
        rw [hy] at hf
        have hfb : (y != 165) = true := by simpa using hf
        have Hf : Hid ((turn l X0)[0]?.getD 0 = y) := hide hy
        clear hbad k13 hy
        go_wp2_with (first
          | (go_at_call 19; refine (turned_any _ l X0 (by rw [Hp.out]; omega) _ _ hb (Bs.own hown) (by rw [Hp.out]; omega)).mono ?_; rintro e w5 ⟨v5, rfl, hown5, hb5⟩; obtain ⟨g5, cap5, rfl, hg5, hh5⟩ := World.ownsRow.form hown5 (by rw [Hm.out]; omega); rw [Hm.out] at hown5 ⊢)
          | (go_at_call 13; refine (K13.out _ _ _ hown5 Hm.out).mono ?_; rintro e w6 ⟨rfl, hb6⟩; have hb56 := hb5.trans (hb6.mono hb5.size); have ca0 := fun o => (HA0.out _ (hb56.alloc hb56.size o)).1; have ca1 := fun o => (HA0.out _ (hb56.alloc hb56.size o)).2.1; have cb := ow_first hown5 (by rw [Hm.out]; omega) hb6; rw [Hf.out] at cb))
        go_roundw
        case rel => exact hide (.inr (.inl ⟨rfl, (hown5.keep hb6).keep ((Below.refl _ _).alloc (Nat.le_refl _) _), hb56.alloc hb56.size _⟩))
        case measure => simp [intOf]
    · clear hrel
      obtain ⟨a0, a1, a2⟩ := HA0.out _ hb
      by_cases hq : X0 = X1
      · have hqb : ((IntKind.u64.wrap x0).tmod 96 == (IntKind.u64.wrap x1).tmod 96) = true := by rw [T0.out, T1.out, hq]; simp
        have Hback : Hid (turn (turn l X0) X1 = l) := hide (by rw [← hq]; exact turn_turn Hin.out X0 (by rw [Hl.out]; omega))
        obtain ⟨kk, dd, ss, aa, bb, hte⟩ : ∃ kk dd ss aa bb, dtele l = ⟨kk, dd, ss, aa, bb⟩ := ⟨_, _, _, _, _, rfl⟩
        have Hm : Hid ((turn (turn l X0) X1).length = 12) := hide (by rw [turn_length, turn_length]; exact Hl.out)
        have Hp : Hid ((turn l X0).length = 12) := hide (by rw [turn_length]; exact Hl.out)
        have k13 : ∀ W B v, Ow W B v (turn (turn l X0) X1) → (turn (turn l X0) X1).length = 12 → Calls Try.prog 13 #[v] W fun e w' => e = .returned (.tuple #[.agg #[.int .u8 kk, .int .u16 dd, .int .u16 ss, .int .u16 aa, .int .u16 bb], .int .i64 0]) ∧ Below W.heap.size W w' := by
          intro W B v hown _
          rw [Hback.out] at hown
          have := decode_any (Bs.own hown) (Cp.own hown) Hin.out
          rw [hte, Hdc.out] at this
          exact this
        have K13 := hide k13
        obtain ⟨y, hy⟩ : ∃ y, (turn (turn l X0) X1)[0]?.getD 0 = y := ⟨_, rfl⟩
        have Hf : Hid ((turn (turn l X0) X1)[0]?.getD 0 = y) := hide hy
        clear k13 hy hq hte
        go_wp2_with (first
          | (go_at_call 19; refine (turned_any _ (turn l X0) X1 (by rw [Hp.out]; omega) _ _ hb (Bs.own hown) (by rw [Hp.out]; omega)).mono ?_; rintro e w5 ⟨v5, rfl, hown5, hb5⟩; obtain ⟨g5, cap5, rfl, hg5, hh5⟩ := World.ownsRow.form hown5 (by rw [Hm.out]; omega); rw [Hm.out] at hown5 ⊢)
          | (go_at_call 13; refine (K13.out _ _ _ hown5 Hm.out).mono ?_; rintro e w6 ⟨rfl, hb6⟩; have hb56 := hb5.trans (hb6.mono hb5.size); have ca0 := fun o => (HA0.out _ (hb56.alloc hb56.size o)).1; have ca1 := fun o => (HA0.out _ (hb56.alloc hb56.size o)).2.1; have cb := ow_first hown5 (by rw [Hm.out]; omega) hb6; rw [Hf.out] at cb))
        go_roundw
        case rel => exact hide (.inr (.inr (.inl ⟨rfl, (hown5.keep hb6).keep ((Below.refl _ _).alloc (Nat.le_refl _) _), hb56.alloc hb56.size _⟩)))
        case measure => simp [intOf]
      · have hqb : ((IntKind.u64.wrap x0).tmod 96 == (IntKind.u64.wrap x1).tmod 96) = false := by rw [T0.out, T1.out, beq_eq_false_iff_ne]; omega
        have hbad := dcode_bad (l := turn (turn l X0) X1) (by rw [turn_length, turn_length]; exact Hl.out) (turn_in (turn_in Hin.out X0) X1) (by rw [← Hz.out]; exact (fun q => hq ((turn2_iff l (by rw [Hl.out]; omega) X0 X1 (by rw [Hl.out]; omega) (by rw [Hl.out]; omega)).1 q)))
        have Hm : Hid ((turn (turn l X0) X1).length = 12) := hide (by rw [turn_length, turn_length]; exact Hl.out)
        have Hp : Hid ((turn l X0).length = 12) := hide (by rw [turn_length]; exact Hl.out)
        by_cases hf : (turn (turn l X0) X1)[0]?.getD 0 = 165
        · have k13 : ∀ W B v, Ow W B v (turn (turn l X0) X1) → (turn (turn l X0) X1).length = 12 → Calls Try.prog 13 #[v] W fun e w' => e = .returned (.tuple #[.agg #[.int .u8 0, .int .u16 0, .int .u16 0, .int .u16 0, .int .u16 0], .int .i64 22]) ∧ Below W.heap.size W w' := by
            intro W B v hown _
            have := decode_any (Bs.own hown) (Cp.own hown) (turn_in (turn_in Hin.out X0) X1)
            rw [hbad.1, hbad.2, if_pos hf] at this
            exact this
          have K13 := hide k13
          have Hf : Hid ((turn (turn l X0) X1)[0]?.getD 0 = 165) := hide hf
          clear hbad k13 hf
          go_wp2_with (first
            | (go_at_call 19; refine (turned_any _ (turn l X0) X1 (by rw [Hp.out]; omega) _ _ hb (Bs.own hown) (by rw [Hp.out]; omega)).mono ?_; rintro e w5 ⟨v5, rfl, hown5, hb5⟩; obtain ⟨g5, cap5, rfl, hg5, hh5⟩ := World.ownsRow.form hown5 (by rw [Hm.out]; omega); rw [Hm.out] at hown5 ⊢)
            | (go_at_call 13; refine (K13.out _ _ _ hown5 Hm.out).mono ?_; rintro e w6 ⟨rfl, hb6⟩; have hb56 := hb5.trans (hb6.mono hb5.size); have ca0 := fun o => (HA0.out _ (hb56.alloc hb56.size o)).1; have ca1 := fun o => (HA0.out _ (hb56.alloc hb56.size o)).2.1; have cb := ow_first hown5 (by rw [Hm.out]; omega) hb6; rw [Hf.out] at cb))
          go_roundw
          case rel => exact hide (.inr (.inr (.inl ⟨rfl, (hown5.keep hb6).keep ((Below.refl _ _).alloc (Nat.le_refl _) _), hb56.alloc hb56.size _⟩)))
          case measure => simp [intOf]
        · have k13 : ∀ W B v, Ow W B v (turn (turn l X0) X1) → (turn (turn l X0) X1).length = 12 → Calls Try.prog 13 #[v] W fun e w' => e = .returned (.tuple #[.agg #[.int .u8 0, .int .u16 0, .int .u16 0, .int .u16 0, .int .u16 0], .int .i64 21]) ∧ Below W.heap.size W w' := by
            intro W B v hown _
            have := decode_any (Bs.own hown) (Cp.own hown) (turn_in (turn_in Hin.out X0) X1)
            rw [hbad.1, hbad.2, if_neg hf] at this
            exact this
          have K13 := hide k13
          obtain ⟨y, hy⟩ : ∃ y, (turn (turn l X0) X1)[0]?.getD 0 = y := ⟨_, rfl⟩
          rw [hy] at hf
          have hfb : (y != 165) = true := by simpa using hf
          have Hf : Hid ((turn (turn l X0) X1)[0]?.getD 0 = y) := hide hy
          clear hbad k13 hy
          go_wp2_with (first
            | (go_at_call 19; refine (turned_any _ (turn l X0) X1 (by rw [Hp.out]; omega) _ _ hb (Bs.own hown) (by rw [Hp.out]; omega)).mono ?_; rintro e w5 ⟨v5, rfl, hown5, hb5⟩; obtain ⟨g5, cap5, rfl, hg5, hh5⟩ := World.ownsRow.form hown5 (by rw [Hm.out]; omega); rw [Hm.out] at hown5 ⊢)
            | (go_at_call 13; refine (K13.out _ _ _ hown5 Hm.out).mono ?_; rintro e w6 ⟨rfl, hb6⟩; have hb56 := hb5.trans (hb6.mono hb5.size); have ca0 := fun o => (HA0.out _ (hb56.alloc hb56.size o)).1; have ca1 := fun o => (HA0.out _ (hb56.alloc hb56.size o)).2.1; have cb := ow_first hown5 (by rw [Hm.out]; omega) hb6; rw [Hf.out] at cb))
          go_roundw
          case rel => exact hide (.inr (.inr (.inl ⟨rfl, (hown5.keep hb6).keep ((Below.refl _ _).alloc (Nat.le_refl _) _), hb56.alloc hb56.size _⟩)))
          case measure => simp [intOf]
    · clear hrel
      obtain ⟨a0, a1, a2⟩ := HA0.out _ hb
      have hbad := dcode_bad (l := turn (turn (turn l X0) X1) X2) (by rw [turn_length, turn_length, turn_length]; exact Hl.out) (turn_in (turn_in (turn_in Hin.out X0) X1) X2) (by rw [← Hz.out]; exact turn3_ne l X0 X1 X2 (by rw [Hl.out]; omega) (by rw [Hl.out]; omega) (by rw [Hl.out]; omega))
      have Hm : Hid ((turn (turn (turn l X0) X1) X2).length = 12) := hide (by rw [turn_length, turn_length, turn_length]; exact Hl.out)
      have Hp : Hid ((turn (turn l X0) X1).length = 12) := hide (by rw [turn_length, turn_length]; exact Hl.out)
      by_cases hf : (turn (turn (turn l X0) X1) X2)[0]?.getD 0 = 165
      · have k13 : ∀ W B v, Ow W B v (turn (turn (turn l X0) X1) X2) → (turn (turn (turn l X0) X1) X2).length = 12 → Calls Try.prog 13 #[v] W fun e w' => e = .returned (.tuple #[.agg #[.int .u8 0, .int .u16 0, .int .u16 0, .int .u16 0, .int .u16 0], .int .i64 22]) ∧ Below W.heap.size W w' := by
          intro W B v hown _
          have := decode_any (Bs.own hown) (Cp.own hown) (turn_in (turn_in (turn_in Hin.out X0) X1) X2)
          rw [hbad.1, hbad.2, if_pos hf] at this
          exact this
        have K13 := hide k13
        have Hf : Hid ((turn (turn (turn l X0) X1) X2)[0]?.getD 0 = 165) := hide hf
        clear hbad k13 hf
        go_wp2_with (first
          | (go_at_call 19; refine (turned_any _ (turn (turn l X0) X1) X2 (by rw [Hp.out]; omega) _ _ hb (Bs.own hown) (by rw [Hp.out]; omega)).mono ?_; rintro e w5 ⟨v5, rfl, hown5, hb5⟩; obtain ⟨g5, cap5, rfl, hg5, hh5⟩ := World.ownsRow.form hown5 (by rw [Hm.out]; omega); rw [Hm.out] at hown5 ⊢)
          | (go_at_call 13; refine (K13.out _ _ _ hown5 Hm.out).mono ?_; rintro e w6 ⟨rfl, hb6⟩; have hb56 := hb5.trans (hb6.mono hb5.size); have ca0 := fun o => (HA0.out _ (hb56.alloc hb56.size o)).1; have ca1 := fun o => (HA0.out _ (hb56.alloc hb56.size o)).2.1; have cb := ow_first hown5 (by rw [Hm.out]; omega) hb6; rw [Hf.out] at cb))
        go_roundw
        case rel => exact hide (.inr (.inr (.inr ⟨rfl, hb56.alloc hb56.size _⟩)))
        case measure => simp [intOf]
      · have k13 : ∀ W B v, Ow W B v (turn (turn (turn l X0) X1) X2) → (turn (turn (turn l X0) X1) X2).length = 12 → Calls Try.prog 13 #[v] W fun e w' => e = .returned (.tuple #[.agg #[.int .u8 0, .int .u16 0, .int .u16 0, .int .u16 0, .int .u16 0], .int .i64 21]) ∧ Below W.heap.size W w' := by
          intro W B v hown _
          have := decode_any (Bs.own hown) (Cp.own hown) (turn_in (turn_in (turn_in Hin.out X0) X1) X2)
          rw [hbad.1, hbad.2, if_neg hf] at this
          exact this
        have K13 := hide k13
        obtain ⟨y, hy⟩ : ∃ y, (turn (turn (turn l X0) X1) X2)[0]?.getD 0 = y := ⟨_, rfl⟩
        rw [hy] at hf
        have hfb : (y != 165) = true := by simpa using hf
        have Hf : Hid ((turn (turn (turn l X0) X1) X2)[0]?.getD 0 = y) := hide hy
        clear hbad k13 hy
        go_wp2_with (first
          | (go_at_call 19; refine (turned_any _ (turn (turn l X0) X1) X2 (by rw [Hp.out]; omega) _ _ hb (Bs.own hown) (by rw [Hp.out]; omega)).mono ?_; rintro e w5 ⟨v5, rfl, hown5, hb5⟩; obtain ⟨g5, cap5, rfl, hg5, hh5⟩ := World.ownsRow.form hown5 (by rw [Hm.out]; omega); rw [Hm.out] at hown5 ⊢)
          | (go_at_call 13; refine (K13.out _ _ _ hown5 Hm.out).mono ?_; rintro e w6 ⟨rfl, hb6⟩; have hb56 := hb5.trans (hb6.mono hb5.size); have ca0 := fun o => (HA0.out _ (hb56.alloc hb56.size o)).1; have ca1 := fun o => (HA0.out _ (hb56.alloc hb56.size o)).2.1; have cb := ow_first hown5 (by rw [Hm.out]; omega) hb6; rw [Hf.out] at cb))
        go_roundw
        case rel => exact hide (.inr (.inr (.inr ⟨rfl, hb56.alloc hb56.size _⟩)))
        case measure => simp [intOf]
    · clear hrel
      go_wp2_with fail
      go_ret
      exact ⟨rfl, Hw.out.trans (hb.mono Hws.out)⟩

theorem walk (t0 : Tl) (x10 x11 x12 : Int) (w : World) (hin : t0.In) :
    Calls Try.prog 7 #[.agg #[.int .u8 t0.k, .int .u16 t0.d, .int .u16 t0.s, .int .u16 t0.a, .int .u16 t0.b], .agg #[.int .i64 x10, .int .i64 x11, .int .i64 x12]] w fun e w' => e = .returned (.bool true) ∧ Below w.heap.size w w' := by
  obtain ⟨k, d, s, a, b⟩ := t0
  by_cases hc : chk ⟨k, d, s, a, b⟩ = 0
  · exact walk_yes k d s a b _ _ _ w hin hc
  · exact walk_no k d s a b _ _ _ w hc

set_option maxRecDepth 100000 in
theorem lifted (os : Os) (started : os.Started) (H : Type) (enc : TypeId × Value → H) :
    ReturnsInHanded {} Try.checked os 7 .any (Rows.teleTurnedSpec.pre6 enc Try.prog Try.f7 Rows.teleTurnedRow.domain false) (Rows.teleTurnedSpec.post enc Try.prog Try.f7 false true false false) := by
  refine returnsInHanded_of_change_sized (C := Try.checked) own started (by kernel_rfl) Try.func7
    (ChangeSpec.witness6 (enc := enc) (C := Try.checked) false ⟨#[], #[.agg #[.int .u8 0, .int .u16 0, .int .u16 0, .int .u16 0, .int .u16 0], .agg #[.int .i64 0, .int .i64 0, .int .i64 0]], []⟩ 8 (by kernel_rfl) (by kernel_rfl) (by kernel_rfl) (by kernel_rfl)) ?_
  intro W base args ds gs before hval0 hW hcnd hsz0 _
  have hval : ∀ (j : Nat) t v, Try.f7.params[j]? = some t → args[j]? = some v → Value.okWide Try.prog W .any base t v := hval0
  have hsz : (DataW.weightsEach Try.prog (Try.f7.params.toList ++ Rows.teleTurnedSpec.plain.varTypes Try.prog) (ds ++ gs)).all (· ≤ reachBytes) = true := hsz0
  have hW' := hW
  obtain ⟨p, q, hA0, hV, rfl, hfz, hnd⟩ := hW
  have hA : DataW.TrodAll enc Try.prog W 0 (fun _ => true) true Try.f7.params.toList args.toList ds p := hA0
  rw [Try.params7] at hA hval hsz
  obtain ⟨v0, vs0, d0, ds0, p0, q0, hargs, rfl, rfl, h0, r0⟩ := trodAll_cons hA
  obtain ⟨v1, vs1, d1, ds1, p1, q1, rfl, rfl, rfl, h1, r1⟩ := trodAll_cons r0
  obtain ⟨rfl, rfl, rfl⟩ := trodAll_nil r1
  obtain rfl : args = #[v0, v1] := by cases args; simp_all
  obtain ⟨rfl, rfl⟩ := trodVars_none hV
  have k0 := h0
  have lt0 : ∀ x ∈ p0, x.block < W.heap.size := by obtain ⟨m, hm⟩ := k0; exact DataW.trod_lt m _ _ _ hm
  obtain ⟨cs0, rfl, _⟩ := okWide_struct Try.underlying24 (hval 0 24 v0 rfl rfl)
  obtain ⟨t0, w0, e0⟩ : ∃ t : Tl, t.In ∧ cs0 = #[.int .u8 t.k, .int .u16 t.d, .int .u16 t.s, .int .u16 t.a, .int .u16 t.b] := by
    obtain ⟨fuel, hf⟩ := h0
    obtain ⟨t, ht, he⟩ := tele_of_trod hf
    exact ⟨t, ht, by apply Array.toList_inj.1; exact he⟩
  subst e0
  have k1 := h1
  have lt1 : ∀ x ∈ p1, x.block < W.heap.size := by obtain ⟨m, hm⟩ := k1; exact DataW.trod_lt m _ _ _ hm
  obtain ⟨cs1, rfl, _⟩ : ∃ cs, v1 = .agg cs ∧ True := by
    have := hval 1 48 v1 rfl rfl
    unfold Value.okWide at this
    rw [Try.underlying48] at this
    obtain ⟨cs, h, _⟩ := this
    exact ⟨cs, h, trivial⟩
  obtain ⟨x10, x11, x12, e1⟩ : ∃ x0 x1 x2 : Int, cs1 = #[.int .i64 x0, .int .i64 x1, .int .i64 x2] := by
    obtain ⟨fuel, hf⟩ := h1
    obtain ⟨x0, x1, x2, he, _⟩ := arr3_of_trod hf
    exact ⟨x0, x1, x2, by apply Array.toList_inj.1; exact he⟩
  subst e1
  clear hA0 hval0
  refine (walk t0 x10 x11 x12 W w0).mono fun e W' ⟨he, bel⟩ => ?_
  subst he
  exact ⟨_, rfl, _, _, _, [], _, [], hW', trodAll_mk1 (shut_bool Try.underlying4 _), (trodAll_cons_mk (Below.trod laidOut (by kernel_rfl) (of_decide_eq_true (by kernel_rfl)) k0 bel lt0) (trodAll_cons_mk (Below.trod laidOut (by kernel_rfl) (of_decide_eq_true (by kernel_rfl)) k1 bel lt1) trodAll_mk0)), rfl, bel.frame _, fun h => by cases h⟩

theorem over : Rows.teleTurnedRow.holds Try.pinned (OpenSpec.ofChange Rows.teleTurnedSpec) :=
  OpenClaim.holds_of_wide 7 Try.f7 rfl rfl rfl rfl rfl rfl rfl ⟨rfl, rfl, rfl, rfl, rfl⟩ rfl rfl rfl rfl rfl (by kernel_rfl) Try.func7 (by kernel_rfl)
    (of_decide_eq_true (by kernel_rfl)) (by unfold Func.isWrapper; first | (rw [if_pos (by decide +kernel)]; kernel_rfl) | (rw [if_neg (by decide +kernel)]; exact ⟨rfl, rfl⟩))
    (fun os started H enc _ => lifted os started H enc)

theorem proved : Rows.TeleTurnedSaid := over
end Go.Proofs.Ytglleofhcokeiaa.teleTurned
