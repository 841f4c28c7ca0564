/- The document's Likely: the number that is nearest. -/
import Derived.Test.YtacbhdaiaihmeaaNums
namespace Go.Proofs.Ytacbhdaiaihmeaa
open Go.ChangeShapes Go.WideShapes Go.ChangeAt Go.RowKit

theorem stp_in (last best k : Int) (hb : -1 ≤ best ∧ best ≤ 4611686018427387904 + 131072) (hk : k ≤ 4611686018427387904 + 131072) : -1 ≤ stp last best k ∧ stp last best k ≤ 4611686018427387904 + 131072 := by
  unfold stp; split <;> omega

/-- the best of the first ones -/
def bst (last c i : Int) : Int := if i = -1 then -1 else if i = 0 then stp last (-1) (c - 65536) else if i = 1 then stp last (stp last (-1) (c - 65536)) c else stp last (stp last (stp last (-1) (c - 65536)) c) (c + 65536)

theorem bst_in (last c i : Int) (c1 : c ≤ 4611686018427387904 + 65535) : -1 ≤ bst last c i ∧ bst last c i ≤ 4611686018427387904 + 131072 := by
  have g0 := stp_in last (-1) (c - 65536) (by omega) (by omega)
  have g1 := stp_in last _ c g0 (by omega)
  have g2 := stp_in last _ (c + 65536) g1 (by omega)
  unfold bst
  split
  · omega
  · split
    · exact g0
    · split
      · exact g1
      · exact g2
theorem bst_next (last c i : Int) (i0 : -1 ≤ i) (i1 : i ≤ 1) : stp last (bst last c i) (c + i * 65536) = bst last c (i + 1) := by
  have : i = -1 ∨ i = 0 ∨ i = 1 := by omega
  rcases this with rfl | rfl | rfl
  · simp [bst]; rfl
  · simp [bst]
  · simp [bst]

set_option maxHeartbeats 2000000 in
theorem rlikely_any (last s : Int) (w : World) (h : 0 ≤ last ∧ last ≤ 4611686018427387904) (h1 : 0 ≤ s ∧ s ≤ 65535) :
    Calls Try.prog 16 #[.int .i64 last, .int .u16 s] w fun e w' => e = .returned (.tuple #[.int .i64 (lik last s), .int .i64 0]) ∧ w' = w := by
  rw [← lik_best last s h.1 h1]
  obtain ⟨l0, l1⟩ := h
  obtain ⟨s0, s1⟩ := h1
  have e : last.tdiv 65536 = last / 65536 := Int.tdiv_eq_ediv_of_nonneg l0
  obtain ⟨c, hc⟩ : ∃ c, last / 65536 * 65536 + s = c := ⟨_, rfl⟩
  have c0 : 0 ≤ c ∧ c ≤ 4611686018427387904 + 65535 := by omega
  obtain ⟨c0, c1⟩ := c0
  have hc' : last.tdiv 65536 * 65536 + s = c := by rw [e]; exact hc
  have q0 : 0 ≤ last.tdiv 65536 := by omega
  have q1 : last.tdiv 65536 * 65536 ≤ last := by omega
  rw [hc]
  clear hc e
  have nx : ∀ i b : Int, -1 ≤ i → i ≤ 1 → b = bst last c i → stp last b (c + i * 65536) = bst last c (i + 1) := fun i b i0 i1 hb => by rw [hb]; exact bst_next last c i i0 i1
  have bd : ∀ i b : Int, -1 ≤ i → i ≤ 2 → b = bst last c i → -1 ≤ b ∧ b ≤ 4611686018427387904 + 131072 := fun i b i0 i1 hb => by rw [hb]; exact bst_in last c i c1
  have en : ∀ b : Int, b = bst last c 2 → b = stp last (stp last (stp last (-1) (c - 65536)) c) (c + 65536) := by
    intro b hb; rw [hb]; simp [bst]
  have st : (-1 : Int) = bst last c (-1) := by simp [bst]
  generalize bst last c = X at *
  generalize stp last (stp last (stp last (-1) (c - 65536)) c) (c + 65536) = r at *
  have NX := hide nx
  have BD := hide bd
  have EN := hide en
  have ST := hide st
  clear nx bd en st
  go_enter Try.func16, Try.ntmps16
  go_wp2_with fail
  go_loopw [6, 8] (fun v6 v8 wr => ∃ k b : Int, -1 ≤ k ∧ k ≤ 2 ∧ b = X k ∧ v6 = .int .i64 b ∧ v8 = .int .i64 k ∧ wr = w) (fun _ i _ => (2 - intOf i).toNat)
  case atStart => exact ⟨-1, -1, by omega, by omega, ST.out, rfl, rfl, rfl⟩
  case round =>
    obtain ⟨k, b, k0, k1, hb, rfl, rfl, rfl⟩ := hrel
    obtain ⟨b0, b1⟩ := BD.out k b k0 k1 hb
    by_cases he : k = 2
    · subst he
      have := EN.out b hb
      subst this
      go_wp2_with fail
      go_ret2
      exact ⟨rfl, rfl⟩
    · have hn := NX.out k b k0 (by omega) hb
      have m0 : -65536 ≤ k * 65536 := by omega
      have m1 : k * 65536 ≤ 65536 := by omega
      have HB := hide hb
      clear hb
      unfold stp at hn
      have k21 : ∀ (x : Int) (W : World), -131072 ≤ x → x ≤ 4611686018427387904 + 131072 → Calls Try.prog 21 #[.int .i64 x, .int .i64 last] W fun e w' => e = .returned (.int .i64 (fr x last)) ∧ w' = W := fun x W x0 x1 => far_any x last W ⟨x0, x1⟩ ⟨l0, l1⟩
      generalize fr = F at *
      have K21 := hide k21
      clear k21
      by_cases h0 : 0 ≤ c + k * 65536
      · by_cases h1 : b < 0
        · rw [if_pos ⟨h0, .inl h1⟩] at hn
          have HN := hide hn
          clear hn
          go_wp2_with fail
          go_roundw
          case rel => exact ⟨k + 1, c + k * 65536, by omega, by omega, HN.out, by go_num, by go_num, by first | rfl | trivial⟩
          case measure => simp [intOf]; omega
        · by_cases h2 : F (c + k * 65536) last < F b last
          · rw [if_pos ⟨h0, .inr h2⟩] at hn
            have HN := hide hn
            clear hn
            go_wp2_with (go_at_call 21; refine (K21.out _ _ (by omega) (by omega)).mono ?_; rintro e w' ⟨rfl, rfl⟩)
            go_roundw
            case rel => exact ⟨k + 1, c + k * 65536, by omega, by omega, HN.out, by go_num, by go_num, by first | rfl | trivial⟩
            case measure => simp [intOf]; omega
          · rw [if_neg (by intro h; rcases h.2 with h | h; exact h1 h; exact h2 h)] at hn
            have HN := hide hn
            clear hn
            go_wp2_with (go_at_call 21; refine (K21.out _ _ (by omega) (by omega)).mono ?_; rintro e w' ⟨rfl, rfl⟩)
            go_roundw
            case rel => exact ⟨k + 1, b, by omega, by omega, HN.out, by go_num, by go_num, by first | rfl | trivial⟩
            case measure => simp [intOf]; omega
      · rw [if_neg (by intro h; exact h0 h.1)] at hn
        have HN := hide hn
        clear hn
        go_wp2_with fail
        go_roundw
        case rel => exact ⟨k + 1, b, by omega, by omega, HN.out, by go_num, by go_num, by first | rfl | trivial⟩
        case measure => simp [intOf]; omega
end Go.Proofs.Ytacbhdaiaihmeaa
