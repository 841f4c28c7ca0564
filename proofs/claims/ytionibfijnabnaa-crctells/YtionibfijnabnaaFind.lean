/- The contracts of Find: the program's and the document's. -/
import Derived.Test.YtionibfijnabnaaTurn
namespace Go.Proofs.Ytionibfijnabnaa
open Go.ChangeShapes Go.WideShapes Go.ChangeAt Go.RowKit

/-- what Find answers: the place and the error -/
def Fnd (l : List Int) (s : BitVec 16) (i e : Int) : Prop :=
  (sm 0xFFFF#16 l = s ∧ i = -1 ∧ e = 0) ∨ (sm 0xFFFF#16 l ≠ s ∧ ∃ k : Nat, k < 8 * l.length ∧ i = k ∧ e = 0 ∧ sm 0xFFFF#16 (turn l k) = s) ∨
  (sm 0xFFFF#16 l ≠ s ∧ (∀ k : Nat, k < 8 * l.length → sm 0xFFFF#16 (turn l k) ≠ s) ∧ i = -1 ∧ e = 4)

theorem xor_cancel {a b c : BitVec 16} (h : a ^^^ b = a ^^^ c) : b = c := by
  have := congrArg (fun x => a ^^^ x) h
  simpa [← BitVec.xor_assoc] using this

theorem turn_unique {l : List Int} (hm : l.length ≤ 4000) {c : BitVec 16} {i j : Nat} (hi : i < 8 * l.length) (hj : j < 8 * l.length) (h : sm c (turn l i) = sm c (turn l j)) : i = j := by
  rw [sm_turn c l i hi, sm_turn c l j hj] at h
  have := chg_inj (by omega) (by omega) (xor_cancel h)
  omega

theorem Fnd.unique {l : List Int} (hm : l.length ≤ 4000) {s : BitVec 16} {i e i' e' : Int} (h : Fnd l s i e) (h' : Fnd l s i' e') : i = i' ∧ e = e' := by
  rcases h with ⟨h1, rfl, rfl⟩ | ⟨h1, k, hk, rfl, rfl, h2⟩ | ⟨h1, h2, rfl, rfl⟩
  · rcases h' with ⟨_, rfl, rfl⟩ | ⟨h3, _⟩ | ⟨h3, _⟩
    · exact ⟨rfl, rfl⟩
    · exact absurd h1 h3
    · exact absurd h1 h3
  · rcases h' with ⟨h3, _⟩ | ⟨h3, k', hk', rfl, rfl, h4⟩ | ⟨h3, h4, _⟩
    · exact absurd h3 h1
    · rw [turn_unique hm hk hk' (h2.trans h4.symm)]; exact ⟨rfl, rfl⟩
    · exact absurd h2 (h4 k hk)
  · rcases h' with ⟨h3, _⟩ | ⟨h3, k', hk', rfl, rfl, h4⟩ | ⟨h3, h4, rfl, rfl⟩
    · exact absurd h3 h1
    · exact absurd h4 (h2 k' hk')
    · exact ⟨rfl, rfl⟩

theorem turn_iff (l : List Int) (s : BitVec 16) (k : Nat) (hk : k < 8 * l.length) : sm 0xFFFF#16 (turn l k) = s ↔ chg (8 * l.length - 1 - k) = sm 0xFFFF#16 l ^^^ s := by
  rw [sm_turn _ _ _ hk]
  constructor
  · rintro rfl
    rw [← BitVec.xor_assoc]; simp
  · intro h
    rw [h, ← BitVec.xor_assoc]; simp

theorem find_far (a : Option Addr) (len cap : Nat) (s : BitVec 16) (w : World) (h : (4000 : Int) < (len : Int)) :
    Calls Try.prog 17 #[.slice a len cap, .int .u16 (uv s)] w fun e w' => e = .returned (.tuple #[.int .i64 0, .int .i64 1]) ∧ w' = w := by
  go_enter Try.func17, Try.ntmps17
  go_wp2
  go_ret2
  exact ⟨rfl, rfl⟩

set_option maxHeartbeats 1000000 in
theorem find_any (a : Option Addr) (len cap : Nat) (l : List Int) (s : BitVec 16) (w : World) (hs : Bs w (.slice a len cap) l) (hl : l.length = len) (hin : InB l) (hm : (len : Int) ≤ 4000) :
    Calls Try.prog 17 #[.slice a len cap, .int .u16 (uv s)] w fun e w' => (∃ i er : Int, e = .returned (.tuple #[.int .i64 i, .int .i64 er]) ∧ Fnd l s i er) ∧ w' = w := by
  have hm2 : ¬ (4000 : Int) < (len : Int) := by omega
  have hstart : stp 0#16 1 = chg 0 := by decide +kernel
  have Hl := hide hl
  clear hl
  go_enter Try.func17, Try.ntmps17
  go_wp2_with fail
  refine (sum_bs hs hin (by rw [unhide Hl]; omega)).mono ?_; rintro e w1 ⟨rfl, rfl⟩
  have hx := xor_uv (sm 0xFFFF#16 l) s
  by_cases hz : sm 0xFFFF#16 l ^^^ s = 0#16
  · have hb : (uv (sm 0xFFFF#16 l ^^^ s) == 0) = true := by rw [hz]; decide
    have Hz := hide hz
    clear hz
    go_wp2
    go_ret2
    exact ⟨⟨_, _, rfl, .inl ⟨xor_eq_zero (unhide Hz), rfl, rfl⟩⟩, rfl⟩
  · have hb : (uv (sm 0xFFFF#16 l ^^^ s) == 0) = false := by
      rw [beq_eq_false_iff_ne]; intro h; exact hz (uv_inj h)
    have Hz : Hid (sm 0xFFFF#16 l ≠ s) := hide (fun h => hz (by rw [h]; simp))
    clear hz
    go_wp2_with fail
    refine (step_any 0#16 1 (by omega) (by omega) _).mono ?_; rintro e w1 ⟨rfl, rfl⟩
    rw [hstart]
    clear hstart
    have hti := fun k hk => turn_iff l s k hk
    generalize sm 0xFFFF#16 l ^^^ s = d at *
    have Hti := hide hti
    clear hti
    go_wp2_with fail
    go_loop [7, 8] (fun t i => ∃ k : Nat, k ≤ 8 * len ∧ i = .int .i64 (8 * len - 1 - k) ∧ t = .int .u16 (uv (chg k)) ∧ Hid (∀ j, j < k → chg j ≠ d)) (fun _ i => (intOf i + 1).toNat)
    case atStart => exact ⟨0, by omega, by go_num, rfl, hide (fun j hj => by omega)⟩
    case round =>
      obtain ⟨k, hk, rfl, rfl, Hk⟩ := hrel
      by_cases hlt : k < 8 * len
      · by_cases he : chg k = d
        · have hb2 : (uv (chg k) == uv d) = true := by rw [he]; simp
          have He := hide he
          clear he
          go_wp2
          go_ret2
          refine ⟨⟨_, _, rfl, .inr (.inl ⟨unhide Hz, 8 * len - 1 - k, by rw [unhide Hl]; omega, by omega, rfl, ?_⟩)⟩, rfl⟩
          rw [unhide Hti _ (by rw [unhide Hl]; omega), unhide Hl, ← unhide He]
          congr 1
          omega
        · have hb2 : (uv (chg k) == uv d) = false := by rw [beq_eq_false_iff_ne]; intro h; exact he (uv_inj h)
          have He := hide he
          clear he
          have Hs : Hid (sh (chg k) = chg (k + 1)) := hide (by unfold chg; rw [pw_succ])
          go_wp2_with (go_at_call 19; refine (shift_any _ _).mono ?_; rintro e w' ⟨rfl, rfl⟩)
          go_round
          case rel => exact ⟨k + 1, by omega, by go_num, by rw [unhide Hs], hide (fun j hj => by
            rcases Nat.lt_or_ge j k with h | h
            · exact unhide Hk j h
            · rw [show j = k by omega]; exact unhide He)⟩
          case measure => simp [intOf]; omega
      · have : k = 8 * len := by omega
        subst this
        go_wp2
        go_ret2
        refine ⟨⟨_, _, rfl, .inr (.inr ⟨unhide Hz, fun j hj => ?_, rfl, rfl⟩)⟩, rfl⟩
        rw [ne_eq, unhide Hti j hj]
        exact unhide Hk _ (by rw [unhide Hl] at hj ⊢; omega)

set_option maxHeartbeats 1000000 in
theorem rfind_any (a : Option Addr) (len cap : Nat) (l : List Int) (s : BitVec 16) (w w0 : World) (hb : Below w0.heap.size w0 w) (hs : Bs w0 (.slice a len cap) l) (hl : l.length = len) (hin : InB l) (hm : (len : Int) ≤ 4000) :
    Calls Try.prog 18 #[.slice a len cap, .int .u16 (uv s)] w fun e w' => (∃ i er : Int, e = .returned (.tuple #[.int .i64 i, .int .i64 er]) ∧ Fnd l s i er) ∧ Below w0.heap.size w0 w' := by
  have Hl := hide hl
  clear hl
  go_enter Try.func18, Try.ntmps18
  go_wp2_with fail
  refine (rsum_bs (hs.keep hb) hin (by rw [unhide Hl]; omega)).mono ?_; rintro e w1 ⟨rfl, rfl⟩
  by_cases hz : sm 0xFFFF#16 l = s
  · have hb1 : (uv (sm 0xFFFF#16 l) == uv s) = true := by rw [hz]; simp
    have Hz := hide hz
    clear hz
    go_wp2
    go_ret2
    exact ⟨⟨_, _, rfl, .inl ⟨unhide Hz, rfl, rfl⟩⟩, hb⟩
  · have hb1 : (uv (sm 0xFFFF#16 l) == uv s) = false := by rw [beq_eq_false_iff_ne]; intro h; exact hz (uv_inj h)
    have Hz := hide hz
    clear hz
    go_wp2_with fail
    go_loopw [6] (fun i W => ∃ k : Nat, k ≤ 8 * len ∧ i = .int .i64 k ∧ Hid (∀ j, j < k → sm 0xFFFF#16 (turn l j) ≠ s) ∧ Below w0.heap.size w0 W) (fun i _ => 8 * len - (intOf i).toNat)
    case atStart => exact ⟨0, by omega, rfl, hide (fun j hj => by omega), hb⟩
    case round =>
      obtain ⟨k, hk, rfl, Hk, hbk⟩ := hrel
      by_cases hlt : k < 8 * len
      · go_wp2_with fail
        refine (turned_any _ l k (by rw [unhide Hl]; exact hlt) _ w0 hbk (hs.keep hbk) (by rw [unhide Hl]; omega)).mono ?_
        rintro e w2 ⟨v2, rfl, hown, hb2⟩
        go_wp2_with fail
        refine (rsum_bs (Bs.own hown) (turn_in hin k) (by rw [turn_length, unhide Hl]; omega)).mono ?_; rintro e w3 ⟨rfl, rfl⟩
        by_cases he : sm 0xFFFF#16 (turn l k) = s
        · have hc : (uv (sm 0xFFFF#16 (turn l k)) == uv s) = true := by rw [he]; simp
          have He := hide he
          clear he
          go_wp2
          go_ret2
          exact ⟨⟨_, _, rfl, .inr (.inl ⟨unhide Hz, k, by rw [unhide Hl]; exact hlt, rfl, rfl, unhide He⟩)⟩, hb2⟩
        · have hc : (uv (sm 0xFFFF#16 (turn l k)) == uv s) = false := by rw [beq_eq_false_iff_ne]; intro h; exact he (uv_inj h)
          have He := hide he
          clear he
          go_wp2
          go_roundw
          case rel => exact ⟨k + 1, by omega, by go_num, hide (fun j hj => by
            rcases Nat.lt_or_ge j k with h | h
            · exact unhide Hk j h
            · rw [show j = k by omega]; exact unhide He), hb2⟩
          case measure => simp [intOf]; omega
      · have : k = 8 * len := by omega
        subst this
        go_wp2
        go_ret2
        exact ⟨⟨_, _, rfl, .inr (.inr ⟨unhide Hz, fun j hj => unhide Hk j (by rw [unhide Hl] at hj; exact hj), rfl, rfl⟩)⟩, hbk⟩

end Go.Proofs.Ytionibfijnabnaa
