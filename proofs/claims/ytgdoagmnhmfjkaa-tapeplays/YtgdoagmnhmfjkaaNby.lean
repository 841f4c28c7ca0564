/- A note's bytes: the document's Bytes. -/
import Derived.Test.YtgdoagmnhmfjkaaNgo
import Derived.Test.YtgdoagmnhmfjkaaNap
namespace Go.Proofs.Ytgdoagmnhmfjkaa
open Go.ChangeShapes Go.WideShapes Go.ChangeAt Go.RowKit
set_option linter.unusedVariables false

/-- the Kind and so many of the numbers -/
def Nt.bod (n : Nt) (i : Nat) : List Int := n.kind :: (n.vs.take i).flatMap num
theorem bod_succ (n : Nt) (i : Nat) (x : Int) (h : i < us n.kind) (hx : n.fs[i]? = some x) : n.bod (i + 1) = n.bod i ++ num x.toNat := by
  unfold Nt.bod
  rw [List.take_add_one, vs_at i h, hx]
  simp
theorem bod_all (n : Nt) (i : Nat) (h : us n.kind ≤ i) : n.bod i = n.body := by
  unfold Nt.bod Nt.body
  rw [List.take_of_length_le (by rw [vs_len]; exact h)]
theorem bod_len {n : Nt} (h : n.ok = true) (i : Nat) : (n.bod i).length ≤ 16 := by
  have h1 := flat_len (xs := n.vs.take i) (fun v hv => by have := vs_lt h v (List.mem_of_mem_take hv); omega)
  have h2 := vs_len n
  have h3 := us_le n.kind
  have h4 : (n.vs.take i).length ≤ 3 := by rw [List.length_take]; omega
  unfold Nt.bod
  rw [List.length_cons]
  omega

set_option maxHeartbeats 4000000 in
set_option maxRecDepth 100000 in
theorem bytes_any (k a b c : Int) (w : World) (h : (Nt.mk k a b c).ok = true) : Calls Try.prog 42 #[.agg #[.int .i64 k, .int .i64 a, .int .i64 b, .int .i64 c]] w fun e w' => ∃ v, e = .returned v ∧ byE.Own w' w.heap.size v (Nt.mk k a b c).bts ∧ Below w.heap.size w w' := by
  have hup := ((ok_iff _).1 h).1
  obtain ⟨k1, k8⟩ : 1 ≤ k ∧ k ≤ 8 := us_pos hup
  have k20 := ruses_any k
  rw [rus_some (show us k ≠ 0 from Nat.pos_iff_ne_zero.1 hup)] at k20
  have hu3 := us_le k
  have Hf : Hid (∀ (i : Nat) (x : Int), (Nt.mk k a b c).fs[i]? = some x → 0 ≤ x ∧ x ≤ 2147483647) := hide (fun i x hx => by have := ((ok_iff _).1 h).2.1 i x hx; exact ⟨this.1, this.2.1⟩)
  have Hps : Hid (∀ (i : Nat) (x : Int), i < us k → (Nt.mk k a b c).fs[i]? = some x → (Nt.mk k a b c).bod (i + 1) = (Nt.mk k a b c).bod i ++ num x.toNat) := hide (fun i x => bod_succ (Nt.mk k a b c) i x)
  have Hba : Hid ((Nt.mk k a b c).bod (us k) = (Nt.mk k a b c).body) := hide (bod_all (Nt.mk k a b c) (us k) (Nat.le_refl _))
  have Hbl := hide (fun i => bod_len h i)
  have Hb16 := hide (body_len h)
  have Hhi := hide (head_in h)
  obtain ⟨u, hu⟩ : ∃ u, us k = u := ⟨_, rfl⟩
  rw [hu] at k20 hu3 Hps Hba
  have K20 := hide k20
  clear k20 hup hu h
  have I0 := hide ((Its.nil w).box1 #[.int .i64 k, .int .i64 a, .int .i64 b, .int .i64 c] 43)
  go_enter Try.func42, Try.ntmps42
  go_upto_region 1 with fail
  generalize w.alloc (.cells #[.int .i64 k, .int .i64 a, .int .i64 b, .int .i64 c] 43) = W1 at *
  obtain ⟨p0, p1, p2, p3⟩ : W1.cell? ⟨w.heap.size, 0, none⟩ = some (.int .i64 k) ∧ W1.cell? ⟨w.heap.size, 1, none⟩ = some (.int .i64 a) ∧ W1.cell? ⟨w.heap.size, 2, none⟩ = some (.int .i64 b) ∧ W1.cell? ⟨w.heap.size, 3, none⟩ = some (.int .i64 c) := ⟨(cells_at I0.out.one 0).1, (cells_at I0.out.one 1).1, (cells_at I0.out.one 2).1, (cells_at I0.out.one 3).1⟩
  have I1 : Hid (Its w (.row byE w.heap.size (.slice (some ⟨W1.heap.size, 0, none⟩) 1 1) ((Nt.mk k a b c).bod 0) :: [.box w.heap.size #[.int .i64 k, .int .i64 a, .int .i64 b, .int .i64 c] 43]) (W1.alloc (.cells #[.int .u8 k] 5))) := hide (I0.out.row1 (E := byE) (El.Own.new byE W1 W1.heap.size (Nat.le_refl _) #[.int .u8 k] [k] rfl (by simp) _ _ _ rfl rfl rfl) (below_new _ _))
  obtain ⟨s0, s1, s2, s3⟩ : (W1.alloc (.cells #[.int .u8 k] 5)).cell? ⟨w.heap.size, 0, none⟩ = some (.int .i64 k) ∧ (W1.alloc (.cells #[.int .u8 k] 5)).cell? ⟨w.heap.size, 1, none⟩ = some (.int .i64 a) ∧ (W1.alloc (.cells #[.int .u8 k] 5)).cell? ⟨w.heap.size, 2, none⟩ = some (.int .i64 b) ∧ (W1.alloc (.cells #[.int .u8 k] 5)).cell? ⟨w.heap.size, 3, none⟩ = some (.int .i64 c) := ⟨(cells_at I1.out.two 0).1, (cells_at I1.out.two 1).1, (cells_at I1.out.two 2).1, (cells_at I1.out.two 3).1⟩
  have I2 := hide (I1.out.box1 #[.int .i64 a, .int .i64 b, .int .i64 c] 80)
  go_upto_region 4 with fail
  clear p0 p1 p2 p3 s0 s1 s2 s3 I0 I1
  rw [show (W1.alloc (.cells #[.int .u8 k] 5)).heap.size = W1.heap.size + 1 by simp] at I2
  generalize (W1.alloc (.cells #[.int .u8 k] 5)).alloc (.cells #[.int .i64 a, .int .i64 b, .int .i64 c] 80) = W2 at *
  generalize W1.heap.size + 1 = gL at *
  obtain ⟨gN, hgN⟩ : ∃ gN, w.heap.size = gN := ⟨_, rfl⟩
  have I3 : Hid (Its w (.row byE w.heap.size (.slice (some ⟨W1.heap.size, 0, none⟩) 1 1) ((Nt.mk k a b c).bod 0) :: .box gL #[.int .i64 a, .int .i64 b, .int .i64 c] 80 :: [.box gN #[.int .i64 k, .int .i64 a, .int .i64 b, .int .i64 c] 43]) W2) := hide (by rw [← hgN]; exact I2.out.swap)
  rw [hgN]
  clear hgN I2
  go_loopw [3, 5] (fun v i wr => Hid (∃ j : Nat, j ≤ u ∧ i = .int .i64 j ∧ Its w (.row byE w.heap.size v ((Nt.mk k a b c).bod j) :: .box gL #[.int .i64 a, .int .i64 b, .int .i64 c] 80 :: [.box gN #[.int .i64 k, .int .i64 a, .int .i64 b, .int .i64 c] 43]) wr)) (fun _ i _ => 3 - (intOf i).toNat)
  case atStart => exact hide ⟨0, Nat.zero_le _, rfl, I3.out⟩
  case round =>
    obtain ⟨j, hj, rfl, hI⟩ := hrel.out
    have I := hide hI
    clear hrel hI I3
    have e0 : wr.cell? ⟨gN, 0, none⟩ = some (.int .i64 k) := (cells_at I.out.three 0).1
    by_cases hlt : j < u
    · have hlt' : (j : Int) < (u : Int) := by omega
      go_upto_region 6 with (go_at_call 51; refine (K20.out _).mono ?_; rintro e W3 ⟨rfl, hb3⟩; have I := hide (I.out.keep hb3))
      clear e0 hb3
      obtain ⟨q0, q1, q2⟩ : W3.cell? ⟨gL, 0, none⟩ = some (.int .i64 a) ∧ W3.cell? ⟨gL, 1, none⟩ = some (.int .i64 b) ∧ W3.cell? ⟨gL, 2, none⟩ = some (.int .i64 c) := ⟨(cells_at I.out.two 0).1, (cells_at I.out.two 1).1, (cells_at I.out.two 2).1⟩
      have h3 : j = 0 ∨ j = 1 ∨ j = 2 := by omega
      rcases h3 with rfl | rfl | rfl
      · obtain ⟨x0, x1⟩ := Hf.out 0 a rfl
        have HP : Hid ((Nt.mk k a b c).bod 1 = (Nt.mk k a b c).bod 0 ++ num a.toNat) := hide (Hps.out 0 a hlt rfl)
        have HBL := hide (Hbl.out 1)
        generalize hbn : (Nt.mk k a b c).bod 1 = bn at *
        have Hbn := hide hbn
        clear hbn
        rw [show (((0 : Nat)) : Int) = 0 from rfl]
        go_wp2_with fail
        clear q0 q1 q2
        obtain ⟨wA, hwA⟩ : ∃ W, W3 = W := ⟨_, rfl⟩
        rw [hwA] at I ⊢
        clear hwA
        go_loopw [3, 6] (fun v y wi => Hid (∃ (z : Int) (l' : List Int), y = .int .i64 z ∧ 0 ≤ z ∧ z ≤ 2147483647 ∧ Its w (.row byE w.heap.size v l' :: .box gL #[.int .i64 a, .int .i64 b, .int .i64 c] 80 :: [.box gN #[.int .i64 k, .int .i64 a, .int .i64 b, .int .i64 c] 43]) wi ∧ l' ++ num z.toNat = bn)) (fun _ y _ => (intOf y).toNat)
        case atStart => exact hide ⟨a, _, rfl, x0, x1, I.out, HP.out.symm⟩
        case round =>
          obtain ⟨z, l', rfl, z0, z1, hI, hL⟩ := hrel.out
          have I := hide hI
          clear hrel hI
          have Hll : Hid (l'.length + 1 ≤ 1000000) := hide (by have := HBL.out; rw [← hL, List.length_append] at this; omega)
          have HL := hide hL
          clear hL
          by_cases hz : 128 ≤ z
          · have hz' : 127 < z := by omega
            have HN := hide (numI_high hz)
            go_wp2_with (at_builtin; refine byE.wp (I.out.alloc _).bel (by rfl) _ _ rfl _ _ rfl rfl l' [_] (I.out.alloc _).one (by_new1 _ _ _ rfl) Hll.out ?_; intro v1 w1 ho1 hg1 hs1 hb1; have I2 := hide ((I.out.alloc _).grow ho1 hg1 hs1); clear ho1 hg1 hs1 hb1; refine Hid.out ?_)
            refine hide ?_
            go_wp2_with fail
            go_roundw
            case rel => exact hide ⟨z / 128, _, rfl, by omega, by omega, I2.out, by rw [← HL.out, HN.out, List.append_assoc]; congr 2; first | rfl | (simp; omega)⟩
            case measure => simp [intOf]; omega
          · have hz' : ¬ 127 < z := by omega
            have HN := hide (numI_low (show z < 128 by omega) z0)
            go_wp2_with (at_builtin; refine byE.wp (I.out.alloc _).bel (by rfl) _ _ rfl _ _ rfl rfl l' [_] (I.out.alloc _).one (by_new1 _ _ _ rfl) Hll.out ?_; intro v1 w1 ho1 hg1 hs1 hb1; have I2 := hide ((I.out.alloc _).grow ho1 hg1 hs1); clear ho1 hg1 hs1 hb1; refine Hid.out ?_)
            refine hide ?_
            go_wp2_with fail
            go_roundw
            case rel => exact hide ⟨1, by omega, by go_num, by rw [Hbn.out]; have := I2.out; rw [← HN.out, HL.out] at this; exact this⟩
            case measure => simp [intOf]
      · obtain ⟨x0, x1⟩ := Hf.out 1 b rfl
        have HP : Hid ((Nt.mk k a b c).bod 2 = (Nt.mk k a b c).bod 1 ++ num b.toNat) := hide (Hps.out 1 b hlt rfl)
        have HBL := hide (Hbl.out 2)
        generalize hbn : (Nt.mk k a b c).bod 2 = bn at *
        have Hbn := hide hbn
        clear hbn
        rw [show (((1 : Nat)) : Int) = 1 from rfl]
        go_wp2_with fail
        clear q0 q1 q2
        obtain ⟨wA, hwA⟩ : ∃ W, W3 = W := ⟨_, rfl⟩
        rw [hwA] at I ⊢
        clear hwA
        go_loopw [3, 6] (fun v y wi => Hid (∃ (z : Int) (l' : List Int), y = .int .i64 z ∧ 0 ≤ z ∧ z ≤ 2147483647 ∧ Its w (.row byE w.heap.size v l' :: .box gL #[.int .i64 a, .int .i64 b, .int .i64 c] 80 :: [.box gN #[.int .i64 k, .int .i64 a, .int .i64 b, .int .i64 c] 43]) wi ∧ l' ++ num z.toNat = bn)) (fun _ y _ => (intOf y).toNat)
        case atStart => exact hide ⟨b, _, rfl, x0, x1, I.out, HP.out.symm⟩
        case round =>
          obtain ⟨z, l', rfl, z0, z1, hI, hL⟩ := hrel.out
          have I := hide hI
          clear hrel hI
          have Hll : Hid (l'.length + 1 ≤ 1000000) := hide (by have := HBL.out; rw [← hL, List.length_append] at this; omega)
          have HL := hide hL
          clear hL
          by_cases hz : 128 ≤ z
          · have hz' : 127 < z := by omega
            have HN := hide (numI_high hz)
            go_wp2_with (at_builtin; refine byE.wp (I.out.alloc _).bel (by rfl) _ _ rfl _ _ rfl rfl l' [_] (I.out.alloc _).one (by_new1 _ _ _ rfl) Hll.out ?_; intro v1 w1 ho1 hg1 hs1 hb1; have I2 := hide ((I.out.alloc _).grow ho1 hg1 hs1); clear ho1 hg1 hs1 hb1; refine Hid.out ?_)
            refine hide ?_
            go_wp2_with fail
            go_roundw
            case rel => exact hide ⟨z / 128, _, rfl, by omega, by omega, I2.out, by rw [← HL.out, HN.out, List.append_assoc]; congr 2; first | rfl | (simp; omega)⟩
            case measure => simp [intOf]; omega
          · have hz' : ¬ 127 < z := by omega
            have HN := hide (numI_low (show z < 128 by omega) z0)
            go_wp2_with (at_builtin; refine byE.wp (I.out.alloc _).bel (by rfl) _ _ rfl _ _ rfl rfl l' [_] (I.out.alloc _).one (by_new1 _ _ _ rfl) Hll.out ?_; intro v1 w1 ho1 hg1 hs1 hb1; have I2 := hide ((I.out.alloc _).grow ho1 hg1 hs1); clear ho1 hg1 hs1 hb1; refine Hid.out ?_)
            refine hide ?_
            go_wp2_with fail
            go_roundw
            case rel => exact hide ⟨2, by omega, by go_num, by rw [Hbn.out]; have := I2.out; rw [← HN.out, HL.out] at this; exact this⟩
            case measure => simp [intOf]
      · obtain ⟨x0, x1⟩ := Hf.out 2 c rfl
        have HP : Hid ((Nt.mk k a b c).bod 3 = (Nt.mk k a b c).bod 2 ++ num c.toNat) := hide (Hps.out 2 c hlt rfl)
        have HBL := hide (Hbl.out 3)
        generalize hbn : (Nt.mk k a b c).bod 3 = bn at *
        have Hbn := hide hbn
        clear hbn
        rw [show (((2 : Nat)) : Int) = 2 from rfl]
        go_wp2_with fail
        clear q0 q1 q2
        obtain ⟨wA, hwA⟩ : ∃ W, W3 = W := ⟨_, rfl⟩
        rw [hwA] at I ⊢
        clear hwA
        go_loopw [3, 6] (fun v y wi => Hid (∃ (z : Int) (l' : List Int), y = .int .i64 z ∧ 0 ≤ z ∧ z ≤ 2147483647 ∧ Its w (.row byE w.heap.size v l' :: .box gL #[.int .i64 a, .int .i64 b, .int .i64 c] 80 :: [.box gN #[.int .i64 k, .int .i64 a, .int .i64 b, .int .i64 c] 43]) wi ∧ l' ++ num z.toNat = bn)) (fun _ y _ => (intOf y).toNat)
        case atStart => exact hide ⟨c, _, rfl, x0, x1, I.out, HP.out.symm⟩
        case round =>
          obtain ⟨z, l', rfl, z0, z1, hI, hL⟩ := hrel.out
          have I := hide hI
          clear hrel hI
          have Hll : Hid (l'.length + 1 ≤ 1000000) := hide (by have := HBL.out; rw [← hL, List.length_append] at this; omega)
          have HL := hide hL
          clear hL
          by_cases hz : 128 ≤ z
          · have hz' : 127 < z := by omega
            have HN := hide (numI_high hz)
            go_wp2_with (at_builtin; refine byE.wp (I.out.alloc _).bel (by rfl) _ _ rfl _ _ rfl rfl l' [_] (I.out.alloc _).one (by_new1 _ _ _ rfl) Hll.out ?_; intro v1 w1 ho1 hg1 hs1 hb1; have I2 := hide ((I.out.alloc _).grow ho1 hg1 hs1); clear ho1 hg1 hs1 hb1; refine Hid.out ?_)
            refine hide ?_
            go_wp2_with fail
            go_roundw
            case rel => exact hide ⟨z / 128, _, rfl, by omega, by omega, I2.out, by rw [← HL.out, HN.out, List.append_assoc]; congr 2; first | rfl | (simp; omega)⟩
            case measure => simp [intOf]; omega
          · have hz' : ¬ 127 < z := by omega
            have HN := hide (numI_low (show z < 128 by omega) z0)
            go_wp2_with (at_builtin; refine byE.wp (I.out.alloc _).bel (by rfl) _ _ rfl _ _ rfl rfl l' [_] (I.out.alloc _).one (by_new1 _ _ _ rfl) Hll.out ?_; intro v1 w1 ho1 hg1 hs1 hb1; have I2 := hide ((I.out.alloc _).grow ho1 hg1 hs1); clear ho1 hg1 hs1 hb1; refine Hid.out ?_)
            refine hide ?_
            go_wp2_with fail
            go_roundw
            case rel => exact hide ⟨3, by omega, by go_num, by rw [Hbn.out]; have := I2.out; rw [← HN.out, HL.out] at this; exact this⟩
            case measure => simp [intOf]
    · obtain rfl : j = u := by omega
      have hlt' : ¬ ((j : Int) < (j : Int)) := by omega
      rw [Hba.out] at I
      go_upto_region 11 with (go_at_call 51; refine (K20.out _).mono ?_; rintro e W3 ⟨rfl, hb3⟩; have I := hide (I.out.keep hb3))
      clear e0 hb3
      obtain ⟨gB, capB, rfl, _, _⟩ := El.Own.some I.out.one (by simp [Nt.body])
      obtain ⟨m, hm⟩ : ∃ m, (Nt.mk k a b c).body.length = m := ⟨_, rfl⟩
      obtain ⟨m1, m2⟩ := Hb16.out
      rw [hm] at I m1 m2 ⊢
      have Hm := hide hm
      have Hhd : Hid ([(m : Int)] ++ (Nt.mk k a b c).body = (Nt.mk k a b c).head) := hide (by unfold Nt.head; rw [hm]; rfl)
      have HhL : Hid ((Nt.mk k a b c).head.length = m + 1) := hide (by rw [← hm]; rfl)
      have Hbt : Hid ((Nt.mk k a b c).bts = (Nt.mk k a b c).head ++ [uv (sm 0xFFFF#16 (Nt.mk k a b c).head) / 256, uv (sm 0xFFFF#16 (Nt.mk k a b c).head) % 256]) := hide rfl
      have I4 : Hid (Its w (.row byE w.heap.size (.slice (some ⟨W3.heap.size, 0, none⟩) 1 1) [(m : Int)] :: .row byE w.heap.size (.slice (some ⟨gB, 0, none⟩) m capB) (Nt.mk k a b c).body :: .box gL #[.int .i64 a, .int .i64 b, .int .i64 c] 80 :: [.box gN #[.int .i64 k, .int .i64 a, .int .i64 b, .int .i64 c] 43]) (W3.alloc (.cells #[.int .u8 (m : Int)] 5))) := hide (I.out.row1 (E := byE) (El.Own.new byE W3 W3.heap.size (Nat.le_refl _) #[.int .u8 (m : Int)] [(m : Int)] rfl (by simp) _ _ _ rfl rfl rfl) (below_new _ _))
      clear hm I
      go_upto_region 12 with (at_builtin; refine byE.wp I4.out.bel (by rfl) _ _ rfl _ _ rfl rfl [(m : Int)] (Nt.mk k a b c).body I4.out.one I4.out.two.rd (by rw [Hm.out]; simp; omega) ?_; intro v1 w1 ho1 hg1 hs1 hb1; have I5 := hide (I4.out.grow ho1 hg1 hs1); clear ho1 hg1 hs1 hb1; refine Hid.out ?_)
      refine hide ?_
      go_upto_region 12 with fail
      rw [Hhd.out] at I5
      have K26 := hide (rsum_rd I5.out.one.rd Hhi.out (by rw [HhL.out]; omega))
      have hs0 := uv_lo (sm 0xFFFF#16 (Nt.mk k a b c).head)
      have hs1 := uv_hi (sm 0xFFFF#16 (Nt.mk k a b c).head)
      generalize uv (sm 0xFFFF#16 (Nt.mk k a b c).head) = s at *
      clear I4
      go_wp2_with (first | (go_at_call 52; refine K26.out.mono ?_; rintro e w5 ⟨rfl, rfl⟩) | (at_builtin; refine byE.wp (I5.out.alloc _).bel (by rfl) _ _ rfl _ _ rfl rfl (Nt.mk k a b c).head [_, _] (I5.out.alloc _).one (by_new2 _ _ _ _ rfl) (by rw [HhL.out]; simp; omega) ?_; intro v2 w6 ho1 hg1 hs1 hb6; have I6 := hide ((I5.out.alloc _).grow ho1 hg1 hs1); clear ho1 hg1 hs1 hb6; refine Hid.out ?_))
      refine hide ?_
      go_wp2_with fail
      go_ret
      have e7 : IntKind.u16.wrap (s.tdiv 256) % 256 = s / 256 := by
        rw [Int.tdiv_eq_ediv_of_nonneg hs0]
        simp [IntKind.wrap, IntKind.bits, IntKind.signed]; omega
      have ho6 : byE.Own w6 w.heap.size v2 ((Nt.mk k a b c).head ++ [s / 256, s % 256]) := by rw [← e7]; exact I6.out.one
      rw [← Hbt.out] at ho6
      exact ⟨_, rfl, ho6, I6.out.bel⟩
end Go.Proofs.Ytgdoagmnhmfjkaa
