/- The telegram whose bytes these are: the document's Decode. -/
import Derived.Test.YtglleofhcokeiaaDec
import Derived.Test.YtglleofhcokeiaaRcheck
namespace Go.Proofs.Ytglleofhcokeiaa
open Go.ChangeShapes Go.WideShapes Go.ChangeAt Go.RowKit

theorem two_at {w : World} {v : Value} {l : List Int} (hs : Bs w v l) (hr : InB l) (i : Nat) (I : Int) (hI : I = (i : Int)) (hi : i + 1 < l.length) (hi2 : i ≤ 100) :
    Calls Try.prog 26 #[v, .int .i64 I] w fun e w' => e = .returned (.int .u16 (wd l i)) ∧ ∃ n, w' = w.drewN n := by
  rw [hI]; exact two_any hs hr i hi hi2

theorem rdecode_len {w : World} {v : Value} {l : List Int} (hs : Bs w v l) (h : l.length ≠ 12) :
    Calls Try.prog 15 #[v] w fun e w' => e = .returned (.tuple #[tv (dtele l), .int .i64 (dcode l)]) ∧ Below w.heap.size w w' := by
  have h20 : dcode l = 20 := by simp [dcode, h]
  have hz : dtele l = tz := by simp [dtele, h20]
  rw [h20, hz]
  clear h20 hz
  obtain ⟨a, cap, rfl⟩ := hs.form
  have hne : ((l.length : Int) == 12) = false := by simp; omega
  have hne2 : ¬ ((l.length : Int) = 12) := by omega
  generalize l.length = n at *
  go_enter Try.func15, Try.ntmps15
  go_wp2_with fail
  exact bodyPost_ret (v := .tuple #[tv tz, .int .i64 20]) (by simp [results, Try.results15, go_sem, tv, tz]) rfl ⟨rfl, (Below.refl _ _).alloc (Nat.le_refl _) _⟩

theorem rdecode_mark {w : World} {v : Value} {l : List Int} (hs : Bs w v l) (h : l.length = 12) (h0 : l[0]?.getD 0 ≠ 165) :
    Calls Try.prog 15 #[v] w fun e w' => e = .returned (.tuple #[tv (dtele l), .int .i64 (dcode l)]) ∧ Below w.heap.size w w' := by
  have h21 : dcode l = 21 := by simp only [dcode, if_pos h, if_neg h0]
  have hz : dtele l = tz := by simp [dtele, h21]
  rw [h21, hz]
  clear h21 hz
  rcases hs with ⟨rfl, rfl⟩ | ⟨x, cap, rfl, hc⟩
  · simp at h
  obtain ⟨b, off, spot⟩ := x
  have hspot : spot = none := by simpa [Addr.add] using World.cell?_spot (hc 0 (by omega))
  subst hspot
  have c0 := hc 0 (by omega)
  rw [add_plain, Nat.add_zero] at c0
  have cA := alloc_cell c0
  clear c0
  clear hc
  rw [h]
  generalize l[0]?.getD 0 = x at *
  go_enter Try.func15, Try.ntmps15
  go_wp2_with fail
  exact bodyPost_ret (v := .tuple #[tv tz, .int .i64 21]) (by simp [results, Try.results15, go_sem, tv, tz]) rfl ⟨rfl, (Below.refl _ _).alloc (Nat.le_refl _) _⟩

set_option maxHeartbeats 2000000 in
theorem rdecode_sum {w : World} {v : Value} {l : List Int} (hs : Bs w v l) (hcp : Cp v) (hr : InB l) (h : l.length = 12) (h0 : l[0]?.getD 0 = 165) (hne : uv (sm 0xFFFF#16 (l.take 10)) ≠ wd l 10) :
    Calls Try.prog 15 #[v] w fun e w' => e = .returned (.tuple #[tv (dtele l), .int .i64 (dcode l)]) ∧ Below w.heap.size w w' := by
  have h22 : dcode l = 22 := by simp only [dcode, if_pos h, if_pos h0, if_neg hne]
  have hz : dtele l = tz := by simp [dtele, h22]
  rw [h22, hz]
  clear h22 hz
  have hsw : ∀ o, Bs (w.alloc o) v l := fun o => hs.keep ((Below.refl _ _).alloc (Nat.le_refl _) o)
  rcases hs with ⟨rfl, rfl⟩ | ⟨x, cap, rfl, hc⟩
  · simp at h
  obtain ⟨b, off, spot⟩ := x
  have hspot : spot = none := by simpa [Addr.add] using World.cell?_spot (hc 0 (by omega))
  subst hspot
  have c0 := hc 0 (by omega)
  rw [add_plain, Nat.add_zero, h0] at c0
  have cA := alloc_cell c0
  clear c0
  clear hc
  obtain ⟨a, n, c, hv, hn⟩ := hcp
  simp only [Value.slice.injEq] at hv
  obtain ⟨rfl, rfl, rfl⟩ := hv
  rw [h] at hn hsw ⊢
  have h10 : (10 : Int) ≤ (cap : Int) := by omega
  have k1 : ∀ o, Calls Try.prog 25 #[.slice (some ⟨b, off, none⟩) 10 cap] (w.alloc o) fun e w' => e = .returned (.int .u16 (uv (sm 0xFFFF#16 (l.take 10)))) ∧ w' = w.alloc o := fun o =>
    rsum_bs (bs_take (hsw o) 10 (by rw [h]; omega)) (in_take hr 10) (by simp; omega)
  have k2 : ∀ o, Calls Try.prog 26 #[.slice (some ⟨b, off, none⟩) 12 cap, .int .i64 10] (w.alloc o) fun e w' => e = .returned (.int .u16 (wd l 10)) ∧ ∃ n, w' = (w.alloc o).drewN n := fun o =>
    two_at (hsw o) hr 10 10 rfl (by rw [h]; omega) (by omega)
  generalize uv (sm 0xFFFF#16 (l.take 10)) = x at hne k1
  generalize wd l 10 = y at hne k2
  have K1 := hide k1
  have K2 := hide k2
  clear h hr hsw h0 k1 k2 hn
  go_enter Try.func15, Try.ntmps15
  go_wp2_with (first | (go_at_call 25; refine (K1.out _).mono ?_; rintro e w' ⟨rfl, rfl⟩) | (go_at_call 26; refine (K2.out _).mono ?_; rintro e w' ⟨rfl, nd, rfl⟩))
  exact bodyPost_ret (v := .tuple #[tv tz, .int .i64 22]) (by simp [results, Try.results15, go_sem, tv, tz]) rfl ⟨rfl, below_put5 (((Below.refl _ _).alloc (Nat.le_refl _) _).drewN _) _ (Nat.le_refl _) _ _ _ _ _⟩

set_option maxHeartbeats 4000000 in
theorem rdecode_all {w : World} {v : Value} {l : List Int} (hs : Bs w v l) (hcp : Cp v) (hr : InB l) (h : l.length = 12) (h0 : l[0]?.getD 0 = 165) (heq : uv (sm 0xFFFF#16 (l.take 10)) = wd l 10) :
    Calls Try.prog 15 #[v] w fun e w' => e = .returned (.tuple #[tv (dtele l), .int .i64 (dcode l)]) ∧ Below w.heap.size w w' := by
  have Hco : Hid (dcode l = chk (dcd l)) := hide (by simp only [dcode, if_pos h, if_pos h0, if_pos heq])
  have Hte : Hid (dtele l = if chk (dcd l) = 0 then dcd l else tz) := hide (by unfold dtele; rw [Hco.out])
  have hsw : ∀ W, Below w.heap.size w W → Bs W v l := fun W hW => hs.keep hW
  rcases hs with ⟨rfl, rfl⟩ | ⟨x, cap, rfl, hc⟩
  · simp at h
  obtain ⟨b, off, spot⟩ := x
  have hspot : spot = none := by simpa [Addr.add] using World.cell?_spot (hc 0 (by omega))
  subst hspot
  have c0 := hc 0 (by omega)
  have c1 := hc 1 (by omega)
  rw [add_plain, Nat.add_zero, h0] at c0
  rw [add_plain] at c1
  have cA := alloc_cell c0
  have n0 := World.new_ne w _ c1
  have b0 : b < w.heap.size := Bs.lt c1
  have b1 : w.heap.size + 1 ≠ b := by omega
  have b2 : b ≠ w.heap.size + 1 := by omega
  have b3 : b ≠ w.heap.size := by omega
  clear c0
  obtain ⟨a, n, c, hv, hn⟩ := hcp
  simp only [Value.slice.injEq] at hv
  obtain ⟨rfl, rfl, rfl⟩ := hv
  rw [h] at hn hsw ⊢
  have h10 : (10 : Int) ≤ (cap : Int) := by omega
  have k1 : ∀ W, Below w.heap.size w W → Calls Try.prog 25 #[.slice (some ⟨b, off, none⟩) 10 cap] W fun e w' => e = .returned (.int .u16 (uv (sm 0xFFFF#16 (l.take 10)))) ∧ w' = W := fun W hW =>
    rsum_bs (bs_take (hsw W hW) 10 (by rw [h]; omega)) (in_take hr 10) (by simp; omega)
  have k2 : ∀ (i : Nat) (I : Int), I = i → i ≤ 10 → ∀ W, Below w.heap.size w W → Calls Try.prog 26 #[.slice (some ⟨b, off, none⟩) 12 cap, .int .i64 I] W fun e w' => e = .returned (.int .u16 (wd l i)) ∧ ∃ n, w' = W.drewN n := fun i I hI hi W hW =>
    two_at (hsw W hW) hr i I hI (by rw [h]; omega) (by omega)
  have p1 := getD_in hr 1
  have p6 := wd_in hr 6
  have p8 := wd_in hr 8
  have w10 := k2 10 10 rfl (by omega)
  have w2 := k2 2 2 rfl (by omega)
  have w4 := k2 4 4 rfl (by omega)
  have w6 := k2 6 6 rfl (by omega)
  have w8 := k2 8 8 rfl (by omega)
  rw [heq] at k1
  unfold dcd at Hco Hte
  generalize wd l 10 = y at k1 w10
  generalize wd l 2 = f2 at *
  generalize wd l 4 = f4 at *
  generalize wd l 6 = f6 at *
  generalize wd l 8 = f8 at *
  generalize l[1]?.getD 0 = f1 at *
  have K1 := hide k1
  have W10 := hide w10
  have W2 := hide w2
  have W4 := hide w4
  have W6 := hide w6
  have W8 := hide w8
  clear h hr hsw h0 k1 k2 hn heq w10 w2 w4 w6 w8 hc
  have hb0 : ∀ o, Below w.heap.size w (w.alloc o) := fun o => (Below.refl _ _).alloc (Nat.le_refl _) o
  have q1 : ∀ o n, Below w.heap.size w ((w.alloc o).drewN n) := fun o n => (hb0 o).drewN n
  have q2 : ∀ o n o', Below w.heap.size w (((w.alloc o).drewN n).alloc o') := fun o n o' => (q1 o n).alloc (q1 o n).size o'
  have q3 : ∀ o n o' m, Below w.heap.size w ((((w.alloc o).drewN n).alloc o').drewN m) := fun o n o' m => (q2 o n o').drewN m
  go_enter Try.func15, Try.ntmps15
  go_upto_region 7 with (first | (go_at_call 25; refine (K1.out _ (hb0 _)).mono ?_; rintro e w' ⟨rfl, rfl⟩) | (go_at_call 26; refine (W10.out _ (hb0 _)).mono ?_; rintro e w' ⟨rfl, nd, rfl⟩))
  go_cut [4] (fun v wx => v = .pointer (some ⟨w.heap.size + 1, 0, none⟩) ∧ Below w.heap.size w wx ∧ Blk wx w.heap.size ⟨0, 0, 0, 0, 0⟩ ∧ Blk wx (w.heap.size + 1) ⟨f1, f2, f4, f6, f8⟩)
  case first =>
    go_region_held3 (fun w' => w'.cell? ⟨b, off + 1, none⟩ = some (.int .u8 f1)) (go_keep)
      (first | (go_at_call_of 26 (Value.int .i64 2); refine (W2.out _ ?_).mono ?_; (solve | exact q1 _ _ | exact q2 _ _ _ | exact q3 _ _ _ _); rintro e w' ⟨rfl, nd, rfl⟩) | (go_at_call_of 26 (Value.int .i64 4); refine (W4.out _ ?_).mono ?_; (solve | exact q1 _ _ | exact q2 _ _ _ | exact q3 _ _ _ _); rintro e w' ⟨rfl, nd, rfl⟩) | (go_at_call_of 26 (Value.int .i64 6); refine (W6.out _ ?_).mono ?_; (solve | exact q1 _ _ | exact q2 _ _ _ | exact q3 _ _ _ _); rintro e w' ⟨rfl, nd, rfl⟩) | (go_at_call_of 26 (Value.int .i64 8); refine (W8.out _ ?_).mono ?_; (solve | exact q1 _ _ | exact q2 _ _ _ | exact q3 _ _ _ _); rintro e w' ⟨rfl, nd, rfl⟩))
    all_goals (go_wp2_with fail; go_meet)
    all_goals refine ⟨rfl, ?_⟩
    all_goals first
      | with_reducible exact met_a _ _ _ _ _ _ _
      | with_reducible exact met_b _ _ _ _ _ _ _ _ _ rfl
  case rest =>
    obtain ⟨rfl, hb, hz, ht⟩ := hcut
    have t0 := ht.cell 0
    have t1 := ht.cell 1
    have t2 := ht.cell 2
    have t3 := ht.cell 3
    have t4 := ht.cell 4
    simp at t0 t1 t2 t3 t4
    have kc : ∀ W, Calls Try.prog 10 #[.agg #[.int .u8 f1, .int .u16 f2, .int .u16 f4, .int .u16 f6, .int .u16 f8]] W fun e w' => e = .returned (.int .i64 (chk ⟨f1, f2, f4, f6, f8⟩)) ∧ Below W.heap.size W w' := fun W => rcheck_any _ _ _ _ _ W p1 p6 p8
    have Hz := hide hz
    have Ht := hide ht
    clear hz ht cA n0 c1 q1 q2 q3 hb0
    generalize chk ⟨f1, f2, f4, f6, f8⟩ = z at *
    have Kc := hide kc
    clear kc
    go_upto_region 9 with (go_at_call 10; refine (Kc.out _).mono ?_; rintro e w2 ⟨rfl, hb2⟩)
    have r0 := (Hz.out.keep hb2).cell 0
    have r1 := (Hz.out.keep hb2).cell 1
    have r2 := (Hz.out.keep hb2).cell 2
    have r3 := (Hz.out.keep hb2).cell 3
    have r4 := (Hz.out.keep hb2).cell 4
    have rf := (Hz.out.keep hb2).frozen
    have s0 := (Ht.out.keep hb2).cell 0
    have s1 := (Ht.out.keep hb2).cell 1
    have s2 := (Ht.out.keep hb2).cell 2
    have s3 := (Ht.out.keep hb2).cell 3
    have s4 := (Ht.out.keep hb2).cell 4
    simp at r0 r1 r2 r3 r4 s0 s1 s2 s3 s4
    clear t0 t1 t2 t3 t4
    have Hb := hide (hb.trans (hb2.mono hb.size))
    clear hb hb2
    by_cases hz0 : z = 0
    · subst hz0
      go_wp2_with fail
      exact bodyPost_ret (v := .tuple #[tv ⟨f1, f2, f4, f6, f8⟩, .int .i64 0]) (by simp [results, Try.results15, go_sem, tv, r0, r1, r2, r3, r4]) rfl ⟨by rw [Hco.out, Hte.out]; simp, below_put5 Hb.out _ (Nat.le_refl _) _ _ _ _ _⟩
    · go_wp2_with fail
      exact bodyPost_ret (v := .tuple #[tv tz, .int .i64 z]) (by simp [results, Try.results15, go_sem, tv, tz, r0, r1, r2, r3, r4]) rfl ⟨by rw [Hco.out, Hte.out, if_neg hz0], below_put5 Hb.out _ (Nat.le_refl _) _ _ _ _ _⟩

theorem rdecode_any {w : World} {v : Value} {l : List Int} (hs : Bs w v l) (hcp : Cp v) (hr : InB l) :
    Calls Try.prog 15 #[v] w fun e w' => e = .returned (.tuple #[tv (dtele l), .int .i64 (dcode l)]) ∧ Below w.heap.size w w' := by
  by_cases h : l.length = 12
  · by_cases h0 : l[0]?.getD 0 = 165
    · by_cases h1 : uv (sm 0xFFFF#16 (l.take 10)) = wd l 10
      · exact rdecode_all hs hcp hr h h0 h1
      · exact rdecode_sum hs hcp hr h h0 h1
    · exact rdecode_mark hs h h0
  · exact rdecode_len hs h

end Go.Proofs.Ytglleofhcokeiaa
