/- A note's bytes: the program's Encode. -/
import Derived.Test.YtgdoagmnhmfjkaaNap
namespace Go.Proofs.Ytgdoagmnhmfjkaa
open Go.ChangeShapes Go.WideShapes Go.ChangeAt Go.RowKit
set_option linter.unusedVariables false

theorem encode_no (k a b c : Int) (w : World) (h : (Nt.mk k a b c).ok = false) : Calls Try.prog 39 #[.agg #[.int .i64 k, .int .i64 a, .int .i64 b, .int .i64 c]] w fun e w' => e = .returned (.tuple #[.slice none 0 0, .int .i64 180]) ∧ Below w.heap.size w w' := by
  have k12 : ∀ W, Calls Try.prog 46 #[.agg #[.int .i64 k, .int .i64 a, .int .i64 b, .int .i64 c]] W fun e w' => e = .returned (.int .i64 180) ∧ Below W.heap.size W w' := fun W => by
    have := check_any k a b c W
    rw [code_no h] at this
    exact this
  have K12 := hide k12
  clear k12 h
  have Hw := hide (below_new w (.cells #[.int .i64 k, .int .i64 a, .int .i64 b, .int .i64 c] 43))
  go_enter Try.func39, Try.ntmps39
  go_wp2_with (go_at_call 46; refine (K12.out _).mono ?_; rintro e w1 ⟨rfl, hb1⟩)
  go_ret2
  exact ⟨rfl, Hw.out.trans (hb1.mono Hw.out.size)⟩

/-- the first bytes of a note, with so many of its numbers -/
def Nt.pre (n : Nt) (i : Nat) : List Int := 0 :: n.kind :: (n.vs.take i).flatMap num
theorem pre_succ (n : Nt) (i : Nat) (x : Int) (h : i < us n.kind) (hx : n.fs[i]? = some x) : n.pre (i + 1) = n.pre i ++ num x.toNat := by
  unfold Nt.pre
  rw [List.take_add_one, vs_at i h, hx]
  simp
theorem pre_len {n : Nt} (h : n.ok = true) (i : Nat) : (n.pre i).length ≤ 17 := by
  have h1 := flat_len (xs := n.vs.take i) (fun v hv => by have := vs_lt h v (List.mem_of_mem_take hv); omega)
  have h2 := vs_len n
  have h3 := us_le n.kind
  have h4 : (n.vs.take i).length ≤ 3 := by rw [List.length_take]; omega
  unfold Nt.pre
  rw [List.length_cons, List.length_cons]
  omega
theorem pre_head (n : Nt) (i : Nat) (h : us n.kind ≤ i) : (n.pre i).length = n.body.length + 1 ∧ (n.pre i).set 0 (n.body.length : Int) = n.head := by
  have e : n.pre i = 0 :: n.body := by
    unfold Nt.pre Nt.body
    rw [List.take_of_length_le (by rw [vs_len]; exact h)]
  rw [e]
  exact ⟨rfl, rfl⟩

set_option maxHeartbeats 4000000 in
theorem encode_yes (k a b c : Int) (w : World) (h : (Nt.mk k a b c).ok = true) : Calls Try.prog 39 #[.agg #[.int .i64 k, .int .i64 a, .int .i64 b, .int .i64 c]] w fun e w' => ∃ v, e = .returned (.tuple #[v, .int .i64 0]) ∧ byE.Own w' w.heap.size v (Nt.mk k a b c).bts ∧ Below w.heap.size w w' := by
  have k12 : ∀ W, Calls Try.prog 46 #[.agg #[.int .i64 k, .int .i64 a, .int .i64 b, .int .i64 c]] W fun e w' => e = .returned (.int .i64 0) ∧ Below W.heap.size W w' := fun W => by
    have := check_any k a b c W
    rw [code_yes h] at this
    exact this
  have K12 := hide k12
  have K21 := hide (numbers_any k a b c)
  have k22 : ∀ W, Calls Try.prog 48 #[.int .i64 k] W fun e w' => e = .returned (.int .i64 (us k)) ∧ w' = W := uses_any k
  have hk8 := us_pos ((ok_iff _).1 h).1
  obtain ⟨k1, k8⟩ : 1 ≤ k ∧ k ≤ 8 := hk8
  have hu3 := us_le k
  have Hok := hide h
  have Hf : Hid (∀ (i : Nat) (x : Int), (Nt.mk k a b c).fs[i]? = some x → 0 ≤ x ∧ x ≤ 2147483647) := hide (fun i x hx => by have := ((ok_iff _).1 h).2.1 i x hx; exact ⟨this.1, this.2.1⟩)
  have Hpl := hide (fun i => pre_len h i)
  have Hps : Hid (∀ (i : Nat) (x : Int), i < us k → (Nt.mk k a b c).fs[i]? = some x → (Nt.mk k a b c).pre (i + 1) = (Nt.mk k a b c).pre i ++ num x.toNat) := hide (fun i x => pre_succ (Nt.mk k a b c) i x)
  have Hph : Hid ((Nt.mk k a b c).pre (us k) = (Nt.mk k a b c).pre (us k) ∧ ((Nt.mk k a b c).pre (us k)).length = (Nt.mk k a b c).body.length + 1 ∧ ((Nt.mk k a b c).pre (us k)).set 0 ((Nt.mk k a b c).body.length : Int) = (Nt.mk k a b c).head) := hide ⟨rfl, pre_head (Nt.mk k a b c) (us k) (Nat.le_refl _)⟩
  have Hbl := hide (body_len h)
  have Hhi := hide (head_in h)
  obtain ⟨u, hu⟩ : ∃ u, us k = u := ⟨_, rfl⟩
  rw [hu] at k22 hu3 Hps Hph
  have K22 := hide k22
  clear k22 k12 h hu
  have Hw := hide (below_new w (.cells #[.int .i64 k, .int .i64 a, .int .i64 b, .int .i64 c] 43))
  go_enter Try.func39, Try.ntmps39
  go_upto_region 5 with (first | (go_at_call 46; refine (K12.out _).mono ?_; rintro e w1 ⟨rfl, hb1⟩; have q0 : w1.cell? ⟨w.heap.size, 0, none⟩ = some (.int .i64 k) := box_at hb1 0; have q1 : w1.cell? ⟨w.heap.size, 1, none⟩ = some (.int .i64 a) := box_at hb1 1; have q2 : w1.cell? ⟨w.heap.size, 2, none⟩ = some (.int .i64 b) := box_at hb1 2; have q3 : w1.cell? ⟨w.heap.size, 3, none⟩ = some (.int .i64 c) := box_at hb1 3) | (go_at_call 47; refine (K21.out _).mono ?_; rintro e w2 ⟨rfl, hb2⟩; have hb12 := hb1.trans (hb2.mono hb1.size)))
  clear q0 q1 q2 q3
  have HB := hide ((Hw.out.trans (hb12.mono Hw.out.size)).alloc (Nat.le_trans Hw.out.size hb12.size) (.cells #[.int .i64 a, .int .i64 b, .int .i64 c] 80))
  have p0 : (w2.alloc (.cells #[.int .i64 a, .int .i64 b, .int .i64 c] 80)).cell? ⟨w.heap.size, 0, none⟩ = some (.int .i64 k) := box_at (hb12.alloc hb12.size _) 0
  have HC : Hid (∀ W, Below (w2.alloc (.cells #[.int .i64 a, .int .i64 b, .int .i64 c] 80)).heap.size (w2.alloc (.cells #[.int .i64 a, .int .i64 b, .int .i64 c] 80)) W → (W.cell? ⟨w2.heap.size, 0, none⟩ = some (.int .i64 a) ∧ W.cell? ⟨w2.heap.size, 1, none⟩ = some (.int .i64 b) ∧ W.cell? ⟨w2.heap.size, 2, none⟩ = some (.int .i64 c))) := hide (fun W hW => ⟨box_at hW 0, box_at hW 1, box_at hW 2⟩)
  have HB0 := hide (HB.out.size)
  generalize w2.heap.size = g at *
  generalize w2.alloc (.cells #[.int .i64 a, .int .i64 b, .int .i64 c] 80) = W0 at *
  clear hb1 hb2 hb12 Hw
  have p1 : ∀ o, (W0.alloc o).cell? ⟨w.heap.size, 0, none⟩ = some (.int .i64 k) := fun o => by rw [(below_new W0 o).cell (cell_lt p0)]; exact p0
  have Ho : Hid (byE.Own (W0.alloc (.cells #[.int .u8 0, .int .u8 k] 5)) W0.heap.size (.slice (some ⟨W0.heap.size, 0, none⟩) 2 2) ((Nt.mk k a b c).pre 0)) := hide (El.Own.new byE W0 W0.heap.size (Nat.le_refl _) _ [0, k] rfl (by simp) _ _ _ rfl rfl rfl)
  go_wp2_with (go_at_call 48; refine (K22.out _).mono ?_; rintro e w3 ⟨rfl, rfl⟩)
  clear p0 p1
  go_loopw [6, 23] (fun v i wr => Hid (∃ n : Nat, n ≤ u ∧ i = .int .i64 n ∧ byE.Own wr W0.heap.size v ((Nt.mk k a b c).pre n) ∧ Below W0.heap.size W0 wr)) (fun _ i _ => 3 - (intOf i).toNat)
  case atStart => exact hide ⟨0, Nat.zero_le _, rfl, Ho.out, below_new _ _⟩
  case round =>
    obtain ⟨n, hn, rfl, hown, hb⟩ := hrel.out
    clear hrel Ho
    by_cases hlt : n < u
    · obtain ⟨c0, c1, c2⟩ := HC.out _ hb
      have h4 : n = 0 ∨ n = 1 ∨ n = 2 := by omega
      rcases h4 with rfl | rfl | rfl
      · have hlt' : (0 : Int) < u := by omega
        have Hf2 := hide (Hf.out 0 a rfl)
        have HP := hide (Hps.out 0 a hlt rfl)
        go_wp2_with (go_at_call 49; refine (appn_any _ _ a ⟨Hf2.out.1, by have := Hf2.out.2; omega⟩ _ W0 hb hown (Nat.le_trans (Hpl.out _) (by omega))).mono ?_; rintro e w' ⟨v', rfl, hown', hb'⟩)
        go_roundw
        case rel => exact hide ⟨1, by omega, by go_num, by rw [HP.out]; exact hown', hb'⟩
        case measure => simp [intOf]
      · have hlt' : (1 : Int) < u := by omega
        have Hf2 := hide (Hf.out 1 b rfl)
        have HP := hide (Hps.out 1 b hlt rfl)
        go_wp2_with (go_at_call 49; refine (appn_any _ _ b ⟨Hf2.out.1, by have := Hf2.out.2; omega⟩ _ W0 hb hown (Nat.le_trans (Hpl.out _) (by omega))).mono ?_; rintro e w' ⟨v', rfl, hown', hb'⟩)
        go_roundw
        case rel => exact hide ⟨2, by omega, by go_num, by rw [HP.out]; exact hown', hb'⟩
        case measure => simp [intOf]
      · have hlt' : (2 : Int) < u := by omega
        have Hf2 := hide (Hf.out 2 c rfl)
        have HP := hide (Hps.out 2 c hlt rfl)
        go_wp2_with (go_at_call 49; refine (appn_any _ _ c ⟨Hf2.out.1, by have := Hf2.out.2; omega⟩ _ W0 hb hown (Nat.le_trans (Hpl.out _) (by omega))).mono ?_; rintro e w' ⟨v', rfl, hown', hb'⟩)
        go_roundw
        case rel => exact hide ⟨3, by omega, by go_num, by rw [HP.out]; exact hown', hb'⟩
        case measure => simp [intOf]
    · obtain rfl : n = u := by omega
      obtain ⟨_, hl1, hset⟩ := Hph.out
      obtain ⟨g1, cap1, rfl, hc1, hc2⟩ := El.Own.some hown (by intro e; rw [e] at hl1; simp at hl1)
      obtain ⟨m, hm⟩ : ∃ m, (Nt.mk k a b c).body.length = m := ⟨_, rfl⟩
      rw [hm] at hl1 hset
      have Hm := hide hm
      rw [hl1] at hown ⊢
      have hbl := Hbl.out
      rw [hm] at hbl
      obtain ⟨m1, m2⟩ := hbl
      clear hm
      have hcell := (hown.cell 0 (by rw [hl1]; show 0 < (m + 1) * 1; omega)).1
      have hfz := (hown.cell 0 (by rw [hl1]; show 0 < (m + 1) * 1; omega)).2.1
      have hge := (hown.cell 0 (by rw [hl1]; show 0 < (m + 1) * 1; omega)).2.2
      rw [by_fl] at hcell
      have hcell' : wr.cell? ⟨g1, 0, none⟩ = some (.int .u8 0) := hcell
      have Hset : Hid (byE.Own (wr.setCell ⟨g1, 0, none⟩ (.int .u8 (m : Int))) W0.heap.size (.slice (some ⟨g1, 0, none⟩) (m + 1) cap1) (Nt.mk k a b c).head) := hide (by
        have := El.Own.set (Value.int .u8) (fun _ => rfl) rfl hown 0 (m : Int)
        rw [hset] at this
        exact this)
      have Hb2 : Hid (Below W0.heap.size W0 (wr.setCell ⟨g1, 0, none⟩ (.int .u8 (m : Int)))) := hide (hb.setCell hge _)
      have Hl2 : Hid ((Nt.mk k a b c).head.length = m + 1) := hide (by rw [← hset, List.length_set]; exact hl1)
      clear hcell hown hset hl1 hc1 hc2 hlt hn
      go_upto_region 12 with fail
      generalize wr.setCell ⟨g1, 0, none⟩ (.int .u8 (m : Int)) = W4 at *
      have k24 : Calls Try.prog 50 #[.slice (some ⟨g1, 0, none⟩) (m + 1) cap1] W4 fun e w' => e = .returned (.int .u16 (uv (sm 0xFFFF#16 (Nt.mk k a b c).head))) ∧ w' = W4 := sum_rd Hset.out.rd Hhi.out (by rw [Hl2.out]; omega)
      have hs0 := uv_lo (sm 0xFFFF#16 (Nt.mk k a b c).head)
      have hs1 := uv_hi (sm 0xFFFF#16 (Nt.mk k a b c).head)
      have Hbt : Hid ((Nt.mk k a b c).bts = (Nt.mk k a b c).head ++ [uv (sm 0xFFFF#16 (Nt.mk k a b c).head) / 256, uv (sm 0xFFFF#16 (Nt.mk k a b c).head) % 256]) := hide rfl
      generalize uv (sm 0xFFFF#16 (Nt.mk k a b c).head) = s at *
      have K24 := hide k24
      clear k24 hcell' hfz hge
      go_wp2_with (first | (go_at_call 50; refine K24.out.mono ?_; rintro e w5 ⟨rfl, rfl⟩) | (at_builtin; refine byE.wp (Hb2.out.alloc Hb2.out.size _) (by rfl) _ _ rfl _ _ rfl rfl (Nt.mk k a b c).head [_, _] (Hset.out.keep (below_new _ _)) (by_new2 _ _ _ _ rfl) (by rw [Hl2.out]; simp; omega) ?_; intro v1 w6 hown1 hg1 hs1 hb6; refine Hid.out ?_))
      refine hide ?_
      clear hg1 hs1
      go_wp2_with fail
      go_ret2
      refine ⟨_, rfl, ?_, HB.out.trans (hb6.mono HB0.out)⟩
      rw [Hbt.out]
      exact El.Own.mono hown1 HB0.out
end Go.Proofs.Ytgdoagmnhmfjkaa
