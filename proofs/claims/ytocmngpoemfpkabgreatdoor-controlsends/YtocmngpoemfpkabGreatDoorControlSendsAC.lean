import Derived.BigRegion
import Derived.Test.YtocmngpoemfpkabGreatDoorControlSendsAA
import Derived.Test.YtocmngpoemfpkabGreatDoorControlSendsAB
set_option linter.unusedVariables false
namespace Go.Proofs.YtocmngpoemfpkabGreatDoor
open Go.ChangeShapes Go.WideShapes Go.ChangeAt Go.RowKit
theorem us_cases (k : Int) : k = 1 ∨ k = 2 ∨ k = 3 ∨ k = 4 ∨ k = 5 ∨ k = 6 ∨ k = 7 ∨ k = 8 ∨ (us k = 0 ∧ ¬ k = 1 ∧ ¬ k = 2 ∧ ¬ k = 3 ∧ ¬ k = 4 ∧ ¬ k = 5 ∧ ¬ k = 6 ∧ ¬ k = 7 ∧ ¬ k = 8) := by
  by_cases h : 1 ≤ k ∧ k ≤ 8
  · omega
  · have h1 : ¬ k = 1 := by omega
    have h2 : ¬ k = 2 := by omega
    have h3 : ¬ k = 3 := by omega
    have h4 : ¬ k = 4 := by omega
    have h5 : ¬ k = 5 := by omega
    have h6 : ¬ k = 6 := by omega
    have h7 : ¬ k = 7 := by omega
    have h8 : ¬ k = 8 := by omega
    simp [us, h1, h2, h3, h4, h5, h6, h7, h8]
theorem uses_any (k : Int) (w : World) : Calls Tryz.prog 235 #[.int .i64 k] w fun e w' => e = .returned (.int .i64 (us k)) ∧ w' = w := by
  rcases us_cases k with rfl | rfl | rfl | rfl | rfl | rfl | rfl | rfl | ⟨hu, h1, h2, h3, h4, h5, h6, h7, h8⟩
  · go_enter Tryz.func235, Tryz.ntmps235
    go_wp2
    go_ret
    exact ⟨rfl, rfl⟩
  · go_enter Tryz.func235, Tryz.ntmps235
    go_wp2
    go_ret
    exact ⟨rfl, rfl⟩
  · go_enter Tryz.func235, Tryz.ntmps235
    go_wp2
    go_ret
    exact ⟨rfl, rfl⟩
  · go_enter Tryz.func235, Tryz.ntmps235
    go_wp2
    go_ret
    exact ⟨rfl, rfl⟩
  · go_enter Tryz.func235, Tryz.ntmps235
    go_wp2
    go_ret
    exact ⟨rfl, rfl⟩
  · go_enter Tryz.func235, Tryz.ntmps235
    go_wp2
    go_ret
    exact ⟨rfl, rfl⟩
  · go_enter Tryz.func235, Tryz.ntmps235
    go_wp2
    go_ret
    exact ⟨rfl, rfl⟩
  · go_enter Tryz.func235, Tryz.ntmps235
    go_wp2
    go_ret
    exact ⟨rfl, rfl⟩
  · rw [hu]
    clear hu
    go_enter Tryz.func235, Tryz.ntmps235
    go_wp2
    go_ret
    exact ⟨rfl, rfl⟩
theorem below_put4 {B : Nat} {a w : World} (h : Below B a w) (g : Nat) (hg : B ≤ g) (u0 u1 u2 u3 : Value) : Below B a ((((w.setCell ⟨g, 0, none⟩ u0).setCell ⟨g, 1, none⟩ u1).setCell ⟨g, 2, none⟩ u2).setCell ⟨g, 3, none⟩ u3) :=
 (((h.setCell hg _).setCell hg _).setCell hg _).setCell hg _
theorem numbers_any (k a b c : Int) (w : World) : Calls Tryz.prog 234 #[.agg #[.int .i64 k, .int .i64 a, .int .i64 b, .int .i64 c]] w fun e w' => e = .returned (.agg #[.int .i64 a, .int .i64 b, .int .i64 c]) ∧ Below w.heap.size w w' := by
 go_enter Tryz.func234, Tryz.ntmps234
 go_wp2_with fail
 refine bodyPost_ret (v := .agg #[.int .i64 a, .int .i64 b, .int .i64 c]) (by simp [results, Tryz.results234, go_sem]) rfl ⟨rfl, ?_⟩
 exact (below_new w _).alloc (by simp) _
theorem okF_no {u i : Nat} {x : Int} (h : okF u i x = false) : x < 0 ∨ (0 ≤ x ∧ 2147483647 < x) ∨ (0 ≤ x ∧ x ≤ 2147483647 ∧ u ≤ i ∧ x ≠ 0) := by
  unfold okF at h
  rw [decide_eq_false_iff_not] at h
  by_cases h0 : 0 ≤ x
  · by_cases h1 : x ≤ 2147483647
    · refine .inr (.inr ⟨h0, h1, ?_⟩)
      by_cases h2 : u ≤ i
      · exact ⟨h2, fun e => h ⟨h0, h1, fun _ => e⟩⟩
      · exact absurd ⟨h0, h1, fun q => absurd q h2⟩ h
    · exact .inr (.inl ⟨h0, by omega⟩)
  · exact .inl (by omega)
theorem okF_yes {u i : Nat} {x : Int} (h : okF u i x = true) : 0 ≤ x ∧ x ≤ 2147483647 ∧ (i < u ∨ (u ≤ i ∧ x = 0)) := by
  unfold okF at h
  rw [decide_eq_true_eq] at h
  refine ⟨h.1, h.2.1, ?_⟩
  rcases Nat.lt_or_ge i u with q | q
  · exact .inl q
  · exact .inr ⟨q, h.2.2 q⟩
def Nt.code (n : Nt) : Int := if n.ok then 0 else 180
theorem code_no {n : Nt} (h : n.ok = false) : n.code = 180 := by simp [Nt.code, h]
theorem code_yes {n : Nt} (h : n.ok = true) : n.code = 0 := by simp [Nt.code, h]
theorem ok_parts (k a b c : Int) : (Nt.mk k a b c).ok = (decide (0 < us k) && okF (us k) 0 a && okF (us k) 1 b && okF (us k) 2 c && decide (k = 8 → b ≤ 1)) := rfl
set_option maxHeartbeats 4000000 in
theorem ncheck_any (k a b c : Int) (w : World) : Calls Tryz.prog 227 #[.agg #[.int .i64 k, .int .i64 a, .int .i64 b, .int .i64 c]] w fun e w' => e = .returned (.int .i64 (Nt.mk k a b c).code) ∧ Below w.heap.size w w' := by
  have hok := ok_parts k a b c
  obtain ⟨r, hr⟩ : ∃ r, (Nt.mk k a b c).code = r := ⟨_, rfl⟩
  rw [hr]
  have Hn : Hid ((Nt.mk k a b c).ok = false → r = 180) := hide (fun h => by rw [← hr]; exact code_no h)
  have Hy : Hid ((Nt.mk k a b c).ok = true → r = 0) := hide (fun h => by rw [← hr]; exact code_yes h)
  clear hr
  have Hok := hide hok
  clear hok
  have k22 : ∀ W, Calls Tryz.prog 235 #[.int .i64 k] W fun e w' => e = .returned (.int .i64 (us k)) ∧ w' = W := uses_any k
  have hu3 := us_le k
  obtain ⟨u, hu⟩ : ∃ u, us k = u := ⟨_, rfl⟩
  rw [hu] at k22 hu3 Hok
  clear hu
  have K22 := hide k22
  have K21 := hide (numbers_any k a b c)
  clear k22
  have Hw := hide (below_new w (.cells #[.int .i64 k, .int .i64 a, .int .i64 b, .int .i64 c] 101))
  by_cases h0 : u = 0
  · have Hr : Hid (r = 180) := hide (Hn.out (by rw [Hok.out, h0]; rfl))
    have e0 : ((u : Int) == 0) = true := by rw [h0]; rfl
    clear hu3 Hn Hy Hok h0
    go_enter Tryz.func227, Tryz.ntmps227
    go_wp2_with (go_at_call 235; refine (K22.out _).mono ?_; rintro e w1 ⟨rfl, rfl⟩)
    go_ret
    exact ⟨by have h := Hr.out; subst h; rfl, Hw.out⟩
  · have e0 : ((u : Int) == 0) = false := by rw [beq_eq_false_iff_ne]; omega
    have Hp : Hid (decide (0 < u) = true) := hide (by rw [decide_eq_true_eq]; omega)
    have Hu0 := hide h0
    clear h0
    go_enter Tryz.func227, Tryz.ntmps227
    go_wp2_with (first | (go_at_call 235; refine (K22.out _).mono ?_; rintro e w1 ⟨rfl, rfl⟩) | (go_at_call 234; refine (K21.out _).mono ?_; rintro e w2 ⟨rfl, hb2⟩))
    have Hb := hide (Hw.out.trans (hb2.mono Hw.out.size))
    have p0 : w2.cell? ⟨w.heap.size, 0, none⟩ = some (.int .i64 k) := box_at hb2 0
    have p2 : w2.cell? ⟨w.heap.size, 2, none⟩ = some (.int .i64 b) := box_at hb2 2
    clear hb2 Hw
    go_loop [13] (fun i => Hid ((i = .int .i64 0) ∨ (i = .int .i64 1 ∧ okF u 0 a = true) ∨ (i = .int .i64 2 ∧ okF u 0 a = true ∧ okF u 1 b = true) ∨ (i = .int .i64 3 ∧ okF u 0 a = true ∧ okF u 1 b = true ∧ okF u 2 c = true))) (fun i => 3 - (intOf i).toNat)
    case atStart => exact hide (.inl rfl)
    case round =>
      rcases hrel.out with rfl | ⟨rfl, a0⟩ | ⟨rfl, a0, a1⟩ | ⟨rfl, a0, a1, a2⟩
      · have q : ∀ w : World, (Instr.index 225 (.agg #[.int .i64 a, .int .i64 b, .int .i64 c]) (.int .i64 0)).run Tryz.prog w = .ok (.int .i64 a) w := fun _ => by kernel_rfl
        clear hrel
        cases a0 : okF u 0 a
        · have Hr : Hid (r = 180) := hide (Hn.out (by rw [Hok.out, Hp.out, a0]; simp))
          rcases okF_no a0 with h | ⟨h, h'⟩ | ⟨h, h', h2, h3⟩
          · clear a0
            go_wp2_with fail
            go_ret
            exact ⟨by have h := Hr.out; subst h; rfl, Hb.out⟩
          · clear a0
            go_wp2_with fail
            go_ret
            exact ⟨by have h := Hr.out; subst h; rfl, Hb.out⟩
          · exact absurd (Nat.le_zero.1 h2) Hu0.out
        · have Ha0 := hide a0
          obtain ⟨h, h', h2⟩ := okF_yes a0
          clear a0
          rcases h2 with h2 | ⟨h2, rfl⟩
          · have h4 : ¬ (u : Int) ≤ 0 := by omega
            go_wp2_with fail
            go_round
            case rel => exact hide (.inr (.inl ⟨rfl, (by first | exact Ha0.out | trivial)⟩))
            case measure => simp [intOf]
          · exact absurd (Nat.le_zero.1 h2) Hu0.out
      · have q : ∀ w : World, (Instr.index 225 (.agg #[.int .i64 a, .int .i64 b, .int .i64 c]) (.int .i64 1)).run Tryz.prog w = .ok (.int .i64 b) w := fun _ => by kernel_rfl
        clear hrel
        have a0 := hide a0
        cases a1 : okF u 1 b
        · have Hr : Hid (r = 180) := hide (Hn.out (by rw [Hok.out, Hp.out, a0.out, a1]; simp))
          rcases okF_no a1 with h | ⟨h, h'⟩ | ⟨h, h', h2, h3⟩
          · clear a1
            go_wp2_with fail
            go_ret
            exact ⟨by have h := Hr.out; subst h; rfl, Hb.out⟩
          · clear a1
            go_wp2_with fail
            go_ret
            exact ⟨by have h := Hr.out; subst h; rfl, Hb.out⟩
          · have h4 : (u : Int) ≤ 1 := by omega
            have h5 : (b != 0) = true := by simpa using h3
            clear a1
            go_wp2_with fail
            go_ret
            exact ⟨by have h := Hr.out; subst h; rfl, Hb.out⟩
        · have Ha1 := hide a1
          obtain ⟨h, h', h2⟩ := okF_yes a1
          clear a1
          rcases h2 with h2 | ⟨h2, rfl⟩
          · have h4 : ¬ (u : Int) ≤ 1 := by omega
            go_wp2_with fail
            go_round
            case rel => exact hide (.inr (.inr (.inl ⟨rfl, a0.out, (by first | exact Ha1.out | trivial)⟩)))
            case measure => simp [intOf]
          · have h4 : (u : Int) ≤ 1 := by omega
            go_wp2_with fail
            go_round
            case rel => exact hide (.inr (.inr (.inl ⟨rfl, a0.out, (by first | exact Ha1.out | trivial)⟩)))
            case measure => simp [intOf]
      · have q : ∀ w : World, (Instr.index 225 (.agg #[.int .i64 a, .int .i64 b, .int .i64 c]) (.int .i64 2)).run Tryz.prog w = .ok (.int .i64 c) w := fun _ => by kernel_rfl
        clear hrel
        have a0 := hide a0
        have a1 := hide a1
        cases a2 : okF u 2 c
        · have Hr : Hid (r = 180) := hide (Hn.out (by rw [Hok.out, Hp.out, a0.out, a1.out, a2]; simp))
          rcases okF_no a2 with h | ⟨h, h'⟩ | ⟨h, h', h2, h3⟩
          · clear a2
            go_wp2_with fail
            go_ret
            exact ⟨by have h := Hr.out; subst h; rfl, Hb.out⟩
          · clear a2
            go_wp2_with fail
            go_ret
            exact ⟨by have h := Hr.out; subst h; rfl, Hb.out⟩
          · have h4 : (u : Int) ≤ 2 := by omega
            have h5 : (c != 0) = true := by simpa using h3
            clear a2
            go_wp2_with fail
            go_ret
            exact ⟨by have h := Hr.out; subst h; rfl, Hb.out⟩
        · have Ha2 := hide a2
          obtain ⟨h, h', h2⟩ := okF_yes a2
          clear a2
          rcases h2 with h2 | ⟨h2, rfl⟩
          · have h4 : ¬ (u : Int) ≤ 2 := by omega
            go_wp2_with fail
            go_round
            case rel => exact hide (.inr (.inr (.inr (⟨rfl, a0.out, a1.out, (by first | exact Ha2.out | trivial)⟩))))
            case measure => simp [intOf]
          · have h4 : (u : Int) ≤ 2 := by omega
            go_wp2_with fail
            go_round
            case rel => exact hide (.inr (.inr (.inr (⟨rfl, a0.out, a1.out, (by first | exact Ha2.out | trivial)⟩))))
            case measure => simp [intOf]
      · clear hrel
        have a0 := hide a0
        have a1 := hide a1
        have a2 := hide a2
        by_cases h8 : k = 8
        · subst h8
          by_cases h1 : b ≤ 1
          · have Hr : Hid (r = 0) := hide (Hy.out (by rw [Hok.out, Hp.out, a0.out, a1.out, a2.out]; simp [h1]))
            go_wp2_with fail
            go_ret
            exact ⟨by have h := Hr.out; subst h; rfl, Hb.out⟩
          · have Hr : Hid (r = 180) := hide (Hn.out (by rw [Hok.out, Hp.out, a0.out, a1.out, a2.out]; simp; omega))
            go_wp2_with fail
            go_ret
            exact ⟨by have h := Hr.out; subst h; rfl, Hb.out⟩
        · have Hr : Hid (r = 0) := hide (Hy.out (by rw [Hok.out, Hp.out, a0.out, a1.out, a2.out]; simp [h8]))
          have h9 : (k == 8) = false := by simpa using h8
          go_wp2_with fail
          go_ret
          exact ⟨by have h := Hr.out; subst h; rfl, Hb.out⟩
open Go.ChangeShapes Go.WideShapes Go.ChangeAt Go.RowKit
theorem numI_low {x : Int} (h : x < 128) (h0 : 0 ≤ x) : num x.toNat = [x] := by rw [num_low (by omega)]; congr 1; omega
theorem numI_high {x : Int} (h : 128 ≤ x) : num x.toNat = (x % 128 + 128) :: num (x / 128).toNat := by
 rw [num_high (by omega)]
 have e : (x / 128).toNat = x.toNat / 128 := by omega
 rw [e]
 congr 1
 omega
set_option maxHeartbeats 1000000 in
theorem appn_any (v : Value) (l : List Int) (x : Int) (hx : 0 ≤ x ∧ x < 34359738368) (w w0 : World) (hb : Below w0.heap.size w0 w) (hown : byE.Own w w0.heap.size v l) (hm : l.length ≤ 1000) :
    Calls Tryz.prog 236 #[v, .int .i64 x] w fun e w' => ∃ v', e = .returned v' ∧ byE.Own w' w0.heap.size v' (l ++ num x.toNat) ∧ Below w0.heap.size w0 w' := by
  obtain ⟨L, hL⟩ : ∃ L, l ++ num x.toNat = L := ⟨_, rfl⟩
  have HL : Hid (L.length ≤ 1005) := hide (by rw [← hL, List.length_append]; have := num_five (v := x.toNat) (by omega); omega)
  rw [hL]
  have H0 := hide (show ∃ l', byE.Own w w0.heap.size v l' ∧ l' ++ num x.toNat = L from ⟨l, hown, hL⟩)
  have Hb := hide hb
  have Hx := hide hx
  clear hL hown hm hb hx
  go_enter Tryz.func236, Tryz.ntmps236
  go_wp2_with fail
  go_loopw [0, 1] (fun u y wr => Hid (∃ (z : Int) (l' : List Int), y = .int .i64 z ∧ 0 ≤ z ∧ z < 34359738368 ∧ byE.Own wr w0.heap.size u l' ∧ l' ++ num z.toNat = L ∧ Below w0.heap.size w0 wr)) (fun _ y _ => (intOf y).toNat)
  case atStart =>
    obtain ⟨l', h1, h2⟩ := H0.out
    exact hide ⟨x, l', rfl, Hx.out.1, Hx.out.2, h1, h2, Hb.out⟩
  case round =>
    obtain ⟨z, l', rfl, z0, z1, ho, hL, hb⟩ := hrel.out
    clear hrel H0 Hb Hx
    have hll : l'.length + 1 ≤ 1000000 := by
      have := HL.out
      rw [← hL, List.length_append] at this
      omega
    have Hll := hide hll
    clear hll
    by_cases h : 128 ≤ z
    · have hn := hide (numI_high h)
      have HL2 := hide hL
      clear hL
      go_wp2_with (at_builtin; refine byE.wp (hb.alloc hb.size _) (by rfl) _ _ rfl _ _ rfl rfl l' [_] (ho.keep (below_new _ _)) (by_new1 _ _ _ rfl) Hll.out ?_; intro v1 w1 hown1 hg1 hs1 hb1; refine Hid.out ?_)
      refine hide ?_
      clear hg1 hs1
      go_wp2_with fail
      go_roundw
      case rel => exact hide ⟨z / 128, _, rfl, by omega, by omega, hown1, by rw [← HL2.out, hn.out, List.append_assoc]; rfl, hb1⟩
      case measure => simp [intOf]; omega
    · have hn := hide (numI_low (show z < 128 by omega) z0)
      have HL2 := hide hL
      clear hL
      go_wp2_with (at_builtin; refine byE.wp (hb.alloc hb.size _) (by rfl) _ _ rfl _ _ rfl rfl l' [_] (ho.keep (below_new _ _)) (by_new1 _ _ _ rfl) Hll.out ?_; intro v1 w1 hown1 hg1 hs1 hb1; refine Hid.out ?_)
      refine hide ?_
      clear hg1 hs1
      go_wp2_with fail
      go_ret
      exact ⟨_, rfl, by rw [← HL2.out, hn.out]; exact hown1, hb1⟩
open Go.ChangeShapes Go.WideShapes Go.ChangeAt Go.RowKit
set_option maxHeartbeats 4000000 in
theorem number_any {w : World} {v : Value} {l : List Int} (h : byE.Rd w v l) (hr : InB l) (hm : l.length ≤ 1000000) :
    Calls Tryz.prog 247 #[v] w fun e w' => ∃ x s, e = .returned (.tuple #[.int .i64 x, .int .i64 s]) ∧ NumP l x s ∧ w' = w := by
  obtain ⟨a, cap, rfl⟩ := h.form
  obtain ⟨N, hN⟩ : ∃ N, l.length = N := ⟨_, rfl⟩
  rw [hN] at hm h ⊢
  have HN := hide hN
  have H := hide h
  have Hr := hide hr
  clear hN h hr
  go_enter Tryz.func247, Tryz.ntmps247
  go_upto_region 2 with fail
  go_cut [8, 9] (fun m i wx => wx = w ∧ i = .int .i64 0 ∧ ∃ M : Nat, m = .int .i64 M ∧ M ≤ 5 ∧ M ≤ N ∧ Hid (M = N ∨ M = 5))
  case first =>
    by_cases q : 5 < N
    · have q' : (5 : Int) < N := by omega
      go_wp2_with fail
      go_meet
      exact ⟨by first | rfl | trivial, by first | rfl | trivial, 5, rfl, by omega, by omega, hide (.inr rfl)⟩
    · have q' : ¬ (5 : Int) < N := by omega
      go_wp2_with fail
      go_meet
      exact ⟨by first | rfl | trivial, by first | rfl | trivial, N, rfl, by omega, by omega, hide (.inl rfl)⟩
  case rest =>
  obtain ⟨rfl, rfl, M, rfl, hM5, hMN, HMe⟩ := hcut
  go_wp2_with fail
  go_loop [4, 9] (fun x i => Hid (∃ n : Nat, n ≤ M ∧ i = .int .i64 n ∧ x = .int .i64 (val (l.take n) : Int) ∧ ∀ y ∈ l.take n, 128 ≤ y)) (fun _ i => 5 - (intOf i).toNat)
  case atStart => exact hide ⟨0, Nat.zero_le _, rfl, rfl, by simp⟩
  case round =>
    obtain ⟨n, hn, rfl, rfl, hp⟩ := hrel.out
    have Hp := hide hp
    clear hrel hp
    by_cases hlt : n < M
    · obtain ⟨z, hz⟩ : ∃ z, l[n]? = some z := ⟨_, List.getElem?_eq_getElem (by rw [HN.out]; omega)⟩
      have hz2 := Hr.out.at hz
      obtain ⟨z0, z1⟩ := hz2
      obtain ⟨b, off, rfl, hcell⟩ := by_at H.out n z hz
      have hv := val_more hz (by rw [HN.out]; omega)
      have hX := val_lt (l.take n)
      have hlen : (l.take n).length = n := by rw [List.length_take, HN.out]; omega
      rw [hlen] at hX
      obtain ⟨X, hXe⟩ : ∃ X, val (l.take n) = X := ⟨_, rfl⟩
      rw [hXe] at hv hX ⊢
      have Hv := hide hv
      have Hz := hide hz
      have HX := hide hX
      have HXe := hide hXe
      clear hv hz hX hXe hlen HMe
      have h5 : n = 0 ∨ n = 1 ∨ n = 2 ∨ n = 3 ∨ n = 4 := by omega
      rcases h5 with rfl | rfl | rfl | rfl | rfl
      · have hlt' : (0 : Int) < M := by omega
        have hltN : (0 : Int) < N := by omega
        have eo : bits .or .i64 (X : Int) (z % 128 * 1) = (X : Int) + z % 128 * 1 := by
          obtain ⟨d, hd⟩ := Int.eq_ofNat_of_zero_le (Int.emod_nonneg z (show (128 : Int) ≠ 0 by omega))
          have hd2 := Int.emod_lt_of_pos z (show (0 : Int) < 128 by omega)
          rw [hd] at hd2 ⊢
          have hx := HX.out
          have := or_add X d 0 (by simpa using hx) (by simp; omega) (by omega)
          simpa using this
        rw [Nat.add_zero] at hcell
        rw [Int.mul_one] at eo
        have Hpn := hide (fun h => take_more Hp.out Hz.out h)
        have HV : Hid ((X : Int) + z % 128 = (val (l.take (0 + 1)) : Int)) := hide (by rw [Hv.out]; simp)
        by_cases h128 : 128 ≤ z
        · go_wp2_with fail
          go_round
          case rel => exact hide ⟨1, by omega, by go_num, by rw [← HV.out], Hpn.out h128⟩
          case measure => simp [intOf]
        · have HP := hide (numP_yes Hr.out (by omega) Hp.out Hz.out (by omega) (by simp) (by rw [HN.out]; omega))
          by_cases hz0 : z = 0
          · subst hz0
            have e2 : bits .or .i64 (X : Int) 0 = (X : Int) := by simpa using eo
            go_wp2_with fail
            go_ret2
            exact ⟨_, _, rfl, by have := HP.out; rw [← HV.out] at this; simpa [e2] using this, rfl⟩
          · have hzb : (z == 0) = false := by simpa using hz0
            go_wp2_with fail
            go_ret2
            exact ⟨_, _, rfl, by have := HP.out; rw [← HV.out] at this; simpa using this, rfl⟩
      · have hlt' : (1 : Int) < M := by omega
        have hltN : (1 : Int) < N := by omega
        have eo : bits .or .i64 (X : Int) (z % 128 * 128) = (X : Int) + z % 128 * 128 := by
          obtain ⟨d, hd⟩ := Int.eq_ofNat_of_zero_le (Int.emod_nonneg z (show (128 : Int) ≠ 0 by omega))
          have hd2 := Int.emod_lt_of_pos z (show (0 : Int) < 128 by omega)
          rw [hd] at hd2 ⊢
          have hx := HX.out
          have := or_add X d 7 (by simpa using hx) (by simp; omega) (by omega)
          simpa using this
        have Hpn := hide (fun h => take_more Hp.out Hz.out h)
        have HV : Hid ((X : Int) + z % 128 * 128 = (val (l.take (1 + 1)) : Int)) := hide (by rw [Hv.out]; simp)
        by_cases h128 : 128 ≤ z
        · go_wp2_with fail
          go_round
          case rel => exact hide ⟨2, by omega, by go_num, by rw [← HV.out], Hpn.out h128⟩
          case measure => simp [intOf]
        · by_cases hz0 : z = 0
          · have HP : Hid (NumP l 0 0) := hide (numP_zero (i := 1) (by omega) Hp.out (by rw [← hz0]; exact Hz.out))
            subst hz0
            go_wp2_with fail
            go_ret2
            exact ⟨_, _, rfl, HP.out, rfl⟩
          · have HP := hide (numP_yes Hr.out (by omega) Hp.out Hz.out (by omega) (fun _ => hz0) (by rw [HN.out]; omega))
            have hzb : (z == 0) = false := by simpa using hz0
            go_wp2_with fail
            go_ret2
            exact ⟨_, _, rfl, by have := HP.out; rw [← HV.out] at this; simpa using this, rfl⟩
      · have hlt' : (2 : Int) < M := by omega
        have hltN : (2 : Int) < N := by omega
        have eo : bits .or .i64 (X : Int) (z % 128 * 16384) = (X : Int) + z % 128 * 16384 := by
          obtain ⟨d, hd⟩ := Int.eq_ofNat_of_zero_le (Int.emod_nonneg z (show (128 : Int) ≠ 0 by omega))
          have hd2 := Int.emod_lt_of_pos z (show (0 : Int) < 128 by omega)
          rw [hd] at hd2 ⊢
          have hx := HX.out
          have := or_add X d 14 (by simpa using hx) (by simp; omega) (by omega)
          simpa using this
        have Hpn := hide (fun h => take_more Hp.out Hz.out h)
        have HV : Hid ((X : Int) + z % 128 * 16384 = (val (l.take (2 + 1)) : Int)) := hide (by rw [Hv.out]; simp)
        by_cases h128 : 128 ≤ z
        · go_wp2_with fail
          go_round
          case rel => exact hide ⟨3, by omega, by go_num, by rw [← HV.out], Hpn.out h128⟩
          case measure => simp [intOf]
        · by_cases hz0 : z = 0
          · have HP : Hid (NumP l 0 0) := hide (numP_zero (i := 2) (by omega) Hp.out (by rw [← hz0]; exact Hz.out))
            subst hz0
            go_wp2_with fail
            go_ret2
            exact ⟨_, _, rfl, HP.out, rfl⟩
          · have HP := hide (numP_yes Hr.out (by omega) Hp.out Hz.out (by omega) (fun _ => hz0) (by rw [HN.out]; omega))
            have hzb : (z == 0) = false := by simpa using hz0
            go_wp2_with fail
            go_ret2
            exact ⟨_, _, rfl, by have := HP.out; rw [← HV.out] at this; simpa using this, rfl⟩
      · have hlt' : (3 : Int) < M := by omega
        have hltN : (3 : Int) < N := by omega
        have eo : bits .or .i64 (X : Int) (z % 128 * 2097152) = (X : Int) + z % 128 * 2097152 := by
          obtain ⟨d, hd⟩ := Int.eq_ofNat_of_zero_le (Int.emod_nonneg z (show (128 : Int) ≠ 0 by omega))
          have hd2 := Int.emod_lt_of_pos z (show (0 : Int) < 128 by omega)
          rw [hd] at hd2 ⊢
          have hx := HX.out
          have := or_add X d 21 (by simpa using hx) (by simp; omega) (by omega)
          simpa using this
        have Hpn := hide (fun h => take_more Hp.out Hz.out h)
        have HV : Hid ((X : Int) + z % 128 * 2097152 = (val (l.take (3 + 1)) : Int)) := hide (by rw [Hv.out]; simp)
        by_cases h128 : 128 ≤ z
        · go_wp2_with fail
          go_round
          case rel => exact hide ⟨4, by omega, by go_num, by rw [← HV.out], Hpn.out h128⟩
          case measure => simp [intOf]
        · by_cases hz0 : z = 0
          · have HP : Hid (NumP l 0 0) := hide (numP_zero (i := 3) (by omega) Hp.out (by rw [← hz0]; exact Hz.out))
            subst hz0
            go_wp2_with fail
            go_ret2
            exact ⟨_, _, rfl, HP.out, rfl⟩
          · have HP := hide (numP_yes Hr.out (by omega) Hp.out Hz.out (by omega) (fun _ => hz0) (by rw [HN.out]; omega))
            have hzb : (z == 0) = false := by simpa using hz0
            go_wp2_with fail
            go_ret2
            exact ⟨_, _, rfl, by have := HP.out; rw [← HV.out] at this; simpa using this, rfl⟩
      · have hlt' : (4 : Int) < M := by omega
        have hltN : (4 : Int) < N := by omega
        have eo : bits .or .i64 (X : Int) (z % 128 * 268435456) = (X : Int) + z % 128 * 268435456 := by
          obtain ⟨d, hd⟩ := Int.eq_ofNat_of_zero_le (Int.emod_nonneg z (show (128 : Int) ≠ 0 by omega))
          have hd2 := Int.emod_lt_of_pos z (show (0 : Int) < 128 by omega)
          rw [hd] at hd2 ⊢
          have hx := HX.out
          have := or_add X d 28 (by simpa using hx) (by simp; omega) (by omega)
          simpa using this
        have Hpn := hide (fun h => take_more Hp.out Hz.out h)
        have HV : Hid ((X : Int) + z % 128 * 268435456 = (val (l.take (4 + 1)) : Int)) := hide (by rw [Hv.out]; simp)
        by_cases h128 : 128 ≤ z
        · go_wp2_with fail
          go_round
          case rel => exact hide ⟨5, by omega, by go_num, by rw [← HV.out], Hpn.out h128⟩
          case measure => simp [intOf]
        · by_cases hz0 : z = 0
          · have HP : Hid (NumP l 0 0) := hide (numP_zero (i := 4) (by omega) Hp.out (by rw [← hz0]; exact Hz.out))
            subst hz0
            go_wp2_with fail
            go_ret2
            exact ⟨_, _, rfl, HP.out, rfl⟩
          · have HP := hide (numP_yes Hr.out (by omega) Hp.out Hz.out (by omega) (fun _ => hz0) (by rw [HN.out]; omega))
            have hzb : (z == 0) = false := by simpa using hz0
            go_wp2_with fail
            go_ret2
            exact ⟨_, _, rfl, by have := HP.out; rw [← HV.out] at this; simpa using this, rfl⟩
    · have HP : Hid (NumP l 0 0) := hide (numP_none (i := n) (by rw [HN.out]; have := HMe.out; omega) Hp.out)
      have hlt' : ¬ (n : Int) < M := by omega
      go_wp2_with fail
      go_ret2
      exact ⟨_, _, rfl, HP.out, rfl⟩
open Go.ChangeShapes Go.WideShapes Go.ChangeAt Go.RowKit
def Sl (w : World) (a : Option Addr) (n c : Nat) (l : List Int) : Prop := byE.Rd w (.slice a n c) l ∧ l.length = n ∧ n ≤ c
theorem Sl.rd {w : World} {a : Option Addr} {n c : Nat} {l : List Int} (h : Sl w a n c l) : byE.Rd w (.slice a n c) l := h.1
theorem Sl.len {w : World} {a : Option Addr} {n c : Nat} {l : List Int} (h : Sl w a n c l) : l.length = n := h.2.1
theorem Sl.cap {w : World} {a : Option Addr} {n c : Nat} {l : List Int} (h : Sl w a n c l) : n ≤ c := h.2.2
theorem Sl.keep {w w' : World} {a : Option Addr} {n c : Nat} {l : List Int} (h : Sl w a n c l) (hb : Below w.heap.size w w') : Sl w' a n c l := ⟨h.1.keep hb, h.2⟩
theorem Sl.own {w : World} {B : Nat} {v : Value} {l : List Int} (h : byE.Own w B v l) : ∃ a c, v = .slice a l.length c ∧ Sl w a l.length c l := by
 obtain ⟨a, c, e⟩ := h.rd.form
 refine ⟨a, c, e, by rw [← e]; exact h.rd, rfl, ?_⟩
 cases l with
 | nil => simp
 | cons z t =>
  obtain ⟨g, c', e', h1, _⟩ := El.Own.some h (by simp)
  rw [e] at e'
  simp only [Value.slice.injEq] at e'
  omega
theorem Sl.take {w : World} {a : Option Addr} {n c : Nat} {l : List Int} (h : Sl w a n c l) (m : Nat) (hm : m ≤ n) : Sl w a m c (l.take m) :=
 ⟨h.1.take m (by rw [h.len]; exact hm), by rw [List.length_take, h.len]; omega, Nat.le_trans hm h.cap⟩
theorem Sl.drop {w : World} {b off n c : Nat} {l : List Int} (h : Sl w (some ⟨b, off, none⟩) n c l) (m : Nat) (hm : m ≤ n) : Sl w (if c = m then some ⟨b, off, none⟩ else some ⟨b, off + m, none⟩) (n - m) (c - m) (l.drop m) := by
  have hc := h.cap
  refine ⟨?_, by rw [List.length_drop, h.len], by omega⟩
  by_cases e : c = m
  · rw [if_pos e]
    have : l.drop m = [] := List.drop_eq_nil_of_le (by rw [h.len]; omega)
    rw [this]
    exact .inr ⟨⟨b, off, none⟩, c - m, by rw [show n - m = 0 by omega]; rfl, by simp⟩
  · rw [if_neg e]
    have := El.Rd.drop (E := byE) (cap' := c - m) h.1 m (n - m) (by rw [h.len]) (by rw [h.len]; exact hm)
    have e2 : off + m * byE.k = off + m := by show off + m * 1 = off + m; omega
    rw [e2] at this
    exact this
theorem Sl.some {w : World} {a : Option Addr} {n c : Nat} {l : List Int} (h : Sl w a n c l) (hn : 0 < n) : ∃ b off, a = some ⟨b, off, none⟩ ∧ ∀ i p, l[i]? = some p → w.cell? ⟨b, off + i, none⟩ = some (.int .u8 p) :=
 by_some h.1 (by intro e; have := h.len; rw [e] at this; simp at this; omega)
theorem Its.put {w0 w : World} {l : List It} {g : Nat} {C : Array Value} {t : TypeId} (h : Its w0 (.box g C t :: l) w) (i : Nat) (u : Value) : Its w0 (.box g (C.setIfInBounds i u) t :: l) (w.setCell ⟨g, i, none⟩ u) :=
 h.chg (x' := .box g (C.setIfInBounds i u) t) (heap_put h.one u) (fun k hk => .inl hk) (Frm.set w g i u)
open Go.ChangeShapes Go.WideShapes Go.ChangeAt Go.RowKit
def ParP (l : List Int) (n : Nt) (ok : Bool) : Prop := ∀ m : Nt, m.ok = true → (m.body = l ↔ ok = true ∧ n = m)
theorem parP_no {l : List Int} (h : ∀ m : Nt, m.ok = true → m.body ≠ l) (n : Nt) : ParP l n false := fun m hm => ⟨fun e => absurd e (h m hm), fun e => by simp at e⟩
theorem parP_nil (n : Nt) : ParP [] n false := parP_no (fun m _ e => by simp [Nt.body] at e) n
structure Par (k : Int) (t : List Int) (xs : List Nat) (r : List Int) : Prop where
 eq : t = xs.flatMap num ++ r
 le : xs.length ≤ us k
theorem Par.no {k : Int} {t : List Int} {xs : List Nat} {r : List Int} (h : Par k t xs r) (hl : xs.length < us k) (hn : ∀ n, n < 34359738368 → ∀ s, r ≠ num n ++ s) (n : Nt) : ParP (k :: t) n false := by
 refine parP_no (fun m hm e => ?_) n
 unfold Nt.body at e
 simp only [List.cons.injEq] at e
 obtain ⟨ek, et⟩ := e
 rw [h.eq] at et
 obtain ⟨zs, e1, e2⟩ := num_pf.flat xs m.vs r [] (fun _ _ => trivial) (fun _ _ => trivial) (by rw [vs_len, ek]; omega) (by simpa using et.symm)
 cases zs with
 | nil =>
  have := congrArg List.length e1
  rw [vs_len, ek, List.append_nil] at this
  omega
 | cons z zs =>
  refine hn z ?_ (zs.flatMap num) (by rw [e2]; simp)
  have := vs_lt hm z (by rw [e1]; simp)
  omega
def pad (xs : List Nat) (i : Nat) : Int := ((xs[i]?.getD 0 : Nat) : Int)
theorem Par.yes {k : Int} {t : List Int} {xs : List Nat} {r : List Int} (h : Par k t xs r) (hl : xs.length = us k) : ParP (k :: t) ⟨k, pad xs 0, pad xs 1, pad xs 2⟩ (decide (r = [])) := by
  intro m hm
  have hk3 := us_le k
  have hvs : ∀ q : Nt, q.kind = k → q.a = pad xs 0 → q.b = pad xs 1 → q.c = pad xs 2 → q.vs = xs := by
    intro q hk h0 h1 h2
    apply List.ext_getElem?
    intro i
    rcases Nat.lt_or_ge i (us k) with hi | hi
    · rw [vs_at i (by rw [hk]; exact hi)]
      obtain ⟨y, hy⟩ : ∃ y, xs[i]? = some y := ⟨_, List.getElem?_eq_getElem (by omega)⟩
      rw [hy]
      match i with
      | 0 => simp [Nt.fs, h0, pad, hy]
      | 1 => simp [Nt.fs, h1, pad, hy]
      | 2 => simp [Nt.fs, h2, pad, hy]
      | i + 3 => omega
    · rw [List.getElem?_eq_none (by rw [vs_len, hk]; exact hi), List.getElem?_eq_none (by omega)]
  constructor
  · intro e
    unfold Nt.body at e
    simp only [List.cons.injEq] at e
    obtain ⟨ek, et⟩ := e
    rw [h.eq] at et
    obtain ⟨zs, e1, e2⟩ := num_pf.flat xs m.vs r [] (fun _ _ => trivial) (fun _ _ => trivial) (by rw [vs_len, ek]; omega) (by simpa using et.symm)
    have : zs = [] := by
      have := congrArg List.length e1
      rw [vs_len, ek, List.length_append] at this
      exact List.eq_nil_of_length_eq_zero (by omega)
    subst this
    simp at e1 e2
    refine ⟨by simp [e2], ?_⟩
    have hf := (ok_iff m).1 hm
    have key : ∀ (i : Nat) (x : Int), m.fs[i]? = some x → pad xs i = x := by
      intro i x hx
      have hb := hf.2.1 i x hx
      rcases Nat.lt_or_ge i (us k) with hi | hi
      · have := vs_at (n := m) i (by rw [ek]; exact hi)
        rw [e1, hx] at this
        simp [pad, this]
        omega
      · rw [hb.2.2 (by rw [ek]; exact hi)]
        simp [pad, List.getElem?_eq_none (show xs.length ≤ i by omega)]
    obtain ⟨mk, ma, mb, mc⟩ := m
    simp only at ek
    rw [ek, key 0 ma rfl, key 1 mb rfl, key 2 mc rfl]
  · rintro ⟨e, rfl⟩
    simp at e
    unfold Nt.body
    rw [hvs _ rfl rfl rfl rfl, h.eq, e]
    simp
def ParR (l : List Int) (w : World) (e : Ending) (w' : World) : Prop := ∃ (k x y z : Int) (ok : Bool), e = .returned (.tuple #[.agg #[.int .i64 k, .int .i64 x, .int .i64 y, .int .i64 z], .bool ok]) ∧ ParP l ⟨k, x, y, z⟩ ok ∧ Below w.heap.size w w'
theorem pad_snoc (xs : List Nat) (v : Nat) (h : xs.length < 3) : (#[Value.int .i64 (pad xs 0), .int .i64 (pad xs 1), .int .i64 (pad xs 2)]).setIfInBounds xs.length (.int .i64 (v : Int)) = #[.int .i64 (pad (xs ++ [v]) 0), .int .i64 (pad (xs ++ [v]) 1), .int .i64 (pad (xs ++ [v]) 2)] := by
 match xs, h with
 | [], _ => rfl
 | [x], _ => rfl
 | [x, y], _ => rfl
 | x :: y :: z :: t, h => simp at h; omega
set_option maxHeartbeats 4000000 in
theorem parse_nil (a : Option Addr) (c : Nat) (w : World) : Calls Tryz.prog 226 #[.slice a 0 c] w fun e w' => ParR [] w e w' := by
 go_enter Tryz.func226, Tryz.ntmps226
 go_wp2_with fail
 exact bodyPost_ret (v := .tuple #[.agg #[.int .i64 0, .int .i64 0, .int .i64 0, .int .i64 0], .bool false]) (by simp [results, Tryz.results226, go_sem]) rfl ⟨0, 0, 0, 0, false, rfl, parP_nil _, below_new _ _⟩
set_option maxHeartbeats 4000000 in
theorem parse_any {w : World} {a : Option Addr} {n c : Nat} {l : List Int} (h : Sl w a n c l) (hr : InB l) (hm : n ≤ 1000000) (hpos : 0 < n) :
    Calls Tryz.prog 226 #[.slice a n c] w fun e w' => ParR l w e w' := by
  have hl := h.len
  cases l with
  | nil => simp at hl; omega
  | cons k t =>
  obtain ⟨b, off, rfl, hc⟩ := h.some hpos
  have c0 := hc 0 k rfl
  rw [Nat.add_zero] at c0
  have cA : ∀ o, (w.alloc o).cell? ⟨b, off, none⟩ = some (.int .u8 k) := fun o => by rw [(below_new w o).cell (cell_lt c0)]; exact c0
  obtain ⟨k0, k1⟩ := hr k (by simp)
  have Hr : Hid (InB t) := hide (fun z hz => hr z (by simp [hz]))
  have HT := hide (h.drop 1 (by omega))
  have hcap := h.cap
  obtain ⟨N, rfl⟩ : ∃ N, n = N + 1 := ⟨n - 1, by omega⟩
  obtain ⟨C, rfl⟩ : ∃ C, c = C + 1 := ⟨c - 1, by omega⟩
  have hNC : N ≤ C := by omega
  have k22 : ∀ W, Calls Tryz.prog 235 #[.int .i64 k] W fun e w' => e = .returned (.int .i64 (us k)) ∧ w' = W := uses_any k
  have hu3 := us_le k
  have hPn := fun (xs : List Nat) (r : List Int) (p : Par k t xs r) (q : xs.length < us k) => p.no q
  have hPy := fun (xs : List Nat) (r : List Int) (p : Par k t xs r) (q : xs.length = us k) => p.yes q
  have HP0 : Hid (Par k t [] t) := hide ⟨by simp, by simp⟩
  have HPs : Hid (∀ xs r v s, Par k t xs r → xs.length < us k → r = num v ++ s → Par k t (xs ++ [v]) s) := hide (fun xs r v s p q e => ⟨by rw [p.eq, e]; simp, by simp; omega⟩)
  obtain ⟨u, hu⟩ : ∃ u, us k = u := ⟨_, rfl⟩
  rw [hu] at k22 hu3 hPn hPy HPs
  have HPn := hide hPn
  have HPy := hide hPy
  clear hPn hPy
  have K22 := hide k22
  have hN : ¬ ((N : Int) + 1 = 0) := by omega
  have hNb : (((N : Int) + 1) == 0) = false := by simpa using hN
  have Hm := hide hm
  simp only [List.drop_one, List.tail_cons, Nat.add_sub_cancel] at HT
  clear k22 hc c0 hl h hr hpos hm hu hcap
  have cl1 : (1 : Int) ≤ (C : Int) + 1 := by omega
  have cl2 : (N : Int) + 1 ≤ (C : Int) + 1 := by omega
  have cl3 : (1 : Int) ≤ (N : Int) + 1 := by omega
  go_enter Tryz.func226, Tryz.ntmps226
  go_upto_region 6 with fail
  have e1 : (C + 1 = 1) = (C = 0) := by apply propext; omega
  simp only [e1] at HT
  clear e1
  generalize (if C = 0 then some (Addr.mk b off none) else some (Addr.mk b (off + 1) none)) = aT at *
  have HI := hide (((Its.nil w).box1 #[.int .i64 0, .int .i64 0, .int .i64 0, .int .i64 0] 101).box1 #[.int .i64 0, .int .i64 0, .int .i64 0] 225)
  rw [show (w.alloc (.cells #[.int .i64 0, .int .i64 0, .int .i64 0, .int .i64 0] 101)).heap.size = w.heap.size + 1 by simp] at HI
  generalize (w.alloc (.cells #[.int .i64 0, .int .i64 0, .int .i64 0, .int .i64 0] 101)).alloc (.cells #[.int .i64 0, .int .i64 0, .int .i64 0] 225) = W1 at *
  go_wp2_with (go_at_call 235; refine (K22.out _).mono ?_; rintro e w3 ⟨rfl, rfl⟩)
  clear cA hN hNb cl1 cl2 cl3
  obtain ⟨gA, hgA⟩ : ∃ gA, w.heap.size + 1 = gA := ⟨_, rfl⟩
  rw [hgA] at HI ⊢
  clear hgA
  obtain ⟨gR, hgR⟩ : ∃ gR, w.heap.size = gR := ⟨_, rfl⟩
  rw [hgR] at HI ⊢
  have HgR := hide hgR
  clear hgR
  go_loopw [0, 21] (fun v i wr => Hid (∃ (j : Nat) (xs : List Nat) (r : List Int) (a' : Option Addr) (n' c' : Nat), j ≤ u ∧ i = .int .i64 j ∧ xs.length = j ∧ v = .slice a' n' c' ∧ Par k t xs r ∧ InB r ∧ n' ≤ 1000000 ∧ Sl w a' n' c' r ∧ Its w [.box gA #[.int .i64 (pad xs 0), .int .i64 (pad xs 1), .int .i64 (pad xs 2)] 225, .box gR #[.int .i64 0, .int .i64 0, .int .i64 0, .int .i64 0] 101] wr)) (fun _ i _ => 3 - (intOf i).toNat)
  case atStart => exact hide ⟨0, [], t, aT, N, C, by omega, rfl, rfl, rfl, HP0.out, Hr.out, by have := Hm.out; omega, HT.out, HI.out⟩
  case round =>
    obtain ⟨j, xs, r, a', n', c', hj, rfl, hxs, rfl, hpar, hin, hn1, hsl, hI⟩ := hrel.out
    clear hrel HI HT HP0 Hr Hm
    have Hxs := hide hxs
    have Hpar := hide hpar
    have Hin := hide hin
    have Hsl := hide hsl
    have HI := hide hI
    have hcap := hsl.cap
    have hlen := hide hsl.len
    have hsw := hsl.keep hI.bel
    clear hxs hpar hin hsl hI
    obtain ⟨r0, r1, r2, r3, rf⟩ : wr.cell? ⟨gR, 0, none⟩ = some (.int .i64 0) ∧ wr.cell? ⟨gR, 1, none⟩ = some (.int .i64 0) ∧ wr.cell? ⟨gR, 2, none⟩ = some (.int .i64 0) ∧ wr.cell? ⟨gR, 3, none⟩ = some (.int .i64 0) ∧ ∀ i, wr.frozen? ⟨gR, i, none⟩ = false := ⟨(cells_at HI.out.two 0).1, (cells_at HI.out.two 1).1, (cells_at HI.out.two 2).1, (cells_at HI.out.two 3).1, fun i => (cells_at HI.out.two i).2⟩
    obtain ⟨c0, c1, c2, cf⟩ : wr.cell? ⟨gA, 0, none⟩ = some (.int .i64 (pad xs 0)) ∧ wr.cell? ⟨gA, 1, none⟩ = some (.int .i64 (pad xs 1)) ∧ wr.cell? ⟨gA, 2, none⟩ = some (.int .i64 (pad xs 2)) ∧ ∀ i, wr.frozen? ⟨gA, i, none⟩ = false := ⟨(cells_at HI.out.one 0).1, (cells_at HI.out.one 1).1, (cells_at HI.out.one 2).1, fun i => (cells_at HI.out.one i).2⟩
    have rf0 := rf 0
    have rf1 := rf 1
    have rf2 := rf 2
    have rf3 := rf 3
    have cf0 := cf 0
    have cf1 := cf 1
    have cf2 := cf 2
    clear rf cf
    by_cases hlt : j < u
    · have hlt' : (j : Int) < u := by omega
      have K29 := hide (number_any hsw.rd Hin.out (by rw [hsw.len]; exact hn1))
      have Hnone := hide (HPn.out xs r Hpar.out (by rw [Hxs.out]; exact hlt))
      have Hsome := hide (fun v s => HPs.out xs r v s Hpar.out (by rw [Hxs.out]; exact hlt))
      clear hsw
      go_upto_region 10 with (go_at_call 247; refine K29.out.mono ?_; rintro e w5 ⟨x, s, rfl, hnum, rfl⟩)
      rcases hnum with ⟨v, hv, rfl, rfl, r', hr'⟩ | ⟨rfl, rfl, hno⟩
      · obtain ⟨q, hq⟩ : ∃ q, (num v).length = q := ⟨_, rfl⟩
        have hq1 : 1 ≤ q := by rw [← hq]; exact num_one v
        have hqn : q ≤ n' := by rw [← hlen.out, hr', List.length_append]; omega
        have HinR : Hid (InB r') := hide (by have := Hin.out; rw [hr'] at this; exact this.right)
        obtain ⟨b', off', rfl, _⟩ := Hsl.out.some (by omega)
        have HD := hide (Hsl.out.drop q hqn)
        have hdrop : r.drop q = r' := by rw [hr', ← hq, List.drop_left]
        rw [hdrop] at HD
        have Hpar2 := hide (Hsome.out v r' hr')
        rw [hq]
        clear hdrop hq hr' K29 Hsome Hnone Hin
        have qz : ¬ ((q : Int) = 0) := by omega
        have qb : ((q : Int) == 0) = false := by simpa using qz
        have q1 : (q : Int) ≤ n' := by omega
        have q2 : (n' : Int) ≤ c' := by omega
        have q3 : (q : Int) ≤ c' := by omega
        have h3 : j = 0 ∨ j = 1 ∨ j = 2 := by omega
        rcases h3 with rfl | rfl | rfl
        · go_upto_region 14 with fail
          generalize (if c' = q then some (Addr.mk b' off' none) else some (Addr.mk b' (off' + q) none)) = aD at *
          have HI2 := hide (HI.out.put 0 (.int .i64 (v : Int)))
          have hps := pad_snoc xs v (by rw [Hxs.out]; omega)
          rw [Hxs.out] at hps
          rw [hps] at HI2
          clear hps HI
          go_wp2_with fail
          go_roundw
          case rel => exact hide ⟨1, xs ++ [v], r', aD, n' - q, c' - q, by omega, by go_num, by simp [Hxs.out], rfl, Hpar2.out, HinR.out, by omega, HD.out, HI2.out⟩
          case measure => simp [intOf]
        · go_upto_region 14 with fail
          generalize (if c' = q then some (Addr.mk b' off' none) else some (Addr.mk b' (off' + q) none)) = aD at *
          have HI2 := hide (HI.out.put 1 (.int .i64 (v : Int)))
          have hps := pad_snoc xs v (by rw [Hxs.out]; omega)
          rw [Hxs.out] at hps
          rw [hps] at HI2
          clear hps HI
          go_wp2_with fail
          go_roundw
          case rel => exact hide ⟨2, xs ++ [v], r', aD, n' - q, c' - q, by omega, by go_num, by simp [Hxs.out], rfl, Hpar2.out, HinR.out, by omega, HD.out, HI2.out⟩
          case measure => simp [intOf]
        · go_upto_region 14 with fail
          generalize (if c' = q then some (Addr.mk b' off' none) else some (Addr.mk b' (off' + q) none)) = aD at *
          have HI2 := hide (HI.out.put 2 (.int .i64 (v : Int)))
          have hps := pad_snoc xs v (by rw [Hxs.out]; omega)
          rw [Hxs.out] at hps
          rw [hps] at HI2
          clear hps HI
          go_wp2_with fail
          go_roundw
          case rel => exact hide ⟨3, xs ++ [v], r', aD, n' - q, c' - q, by omega, by go_num, by simp [Hxs.out], rfl, Hpar2.out, HinR.out, by omega, HD.out, HI2.out⟩
          case measure => simp [intOf]
      · have HP := hide (Hnone.out hno nz)
        clear hno K29
        go_wp2_with fail
        refine bodyPost_ret (v := .tuple #[.agg #[.int .i64 0, .int .i64 0, .int .i64 0, .int .i64 0], .bool false]) (by simp [results, Tryz.results226, go_sem, r0, r1, r2, r3]) rfl ⟨0, 0, 0, 0, false, rfl, HP.out, ?_⟩
        exact below_put4 HI.out.bel _ (Nat.le_of_eq HgR.out) _ _ _ _
    · obtain rfl : j = u := by omega
      have hlt' : ¬ ((j : Int) < (j : Int)) := by omega
      have HP := hide (HPy.out xs r Hpar.out Hxs.out)
      by_cases hr0 : n' = 0
      · have q0 : ((n' : Int) == 0) = true := by rw [hr0]; rfl
        have Hr0 : Hid (r = []) := hide (List.eq_nil_of_length_eq_zero (by rw [hlen.out]; exact hr0))
        clear hr0
        go_wp2_with fail
        have HP2 := HP.out
        rw [Hr0.out] at HP2
        refine bodyPost_ret (v := .tuple #[.agg #[.int .i64 k, .int .i64 (pad xs 0), .int .i64 (pad xs 1), .int .i64 (pad xs 2)], .bool true]) (by simp [results, Tryz.results226, go_sem, r0, r1, r2, r3]) rfl ⟨k, _, _, _, true, rfl, HP2, ?_⟩
        exact below_put4 HI.out.bel _ (Nat.le_of_eq HgR.out) _ _ _ _
      · have q0 : ((n' : Int) == 0) = false := by rw [beq_eq_false_iff_ne]; omega
        have Hr0 : Hid (r ≠ []) := hide (fun e => hr0 (by rw [← hlen.out, e]; rfl))
        go_wp2_with fail
        have HP2 := HP.out
        rw [show decide (r = []) = false from decide_eq_false Hr0.out] at HP2
        refine bodyPost_ret (v := .tuple #[.agg #[.int .i64 k, .int .i64 (pad xs 0), .int .i64 (pad xs 1), .int .i64 (pad xs 2)], .bool false]) (by simp [results, Tryz.results226, go_sem, r0, r1, r2, r3]) rfl ⟨k, _, _, _, false, rfl, HP2, ?_⟩
        exact below_put4 HI.out.bel _ (Nat.le_of_eq HgR.out) _ _ _ _
open Go.ChangeShapes Go.WideShapes Go.ChangeAt Go.RowKit
theorem or_bytes (x y : Int) (hx : 0 ≤ x ∧ x ≤ 255) (hy : 0 ≤ y ∧ y ≤ 255) : bits .or .u16 (x * 256) y = x * 256 + y := by
 obtain ⟨n, rfl⟩ := Int.eq_ofNat_of_zero_le hx.1
 obtain ⟨m, rfl⟩ := Int.eq_ofNat_of_zero_le hy.1
 have hn : n < 256 := by omega
 have hm : m < 2 ^ 8 := by omega
 unfold bits
 have e1 : BitVec.ofInt IntKind.u16.bits ((n : Int) * 256) = BitVec.ofNat 16 (n * 256) := by
  rw [show ((n : Int) * 256) = ((n * 256 : Nat) : Int) by omega]; rfl
 have e2 : BitVec.ofInt IntKind.u16.bits (m : Int) = BitVec.ofNat 16 m := rfl
 simp only [e1, e2]
 have e3 : (BitVec.ofNat 16 (n * 256) ||| BitVec.ofNat 16 m).toNat = n * 256 + m := by
  rw [BitVec.toNat_or, BitVec.toNat_ofNat, BitVec.toNat_ofNat, Nat.mod_eq_of_lt (by omega), Nat.mod_eq_of_lt (by omega)]
  rw [show n * 256 = n <<< 8 by rw [Nat.shiftLeft_eq]]
  exact (Nat.shiftLeft_add_eq_or_of_lt hm n).symm
 show IntKind.u16.wrap (((BitVec.ofNat 16 (n * 256) ||| BitVec.ofNat 16 m).toNat : Nat) : Int) = _
 rw [e3]
 unfold IntKind.wrap; simp [IntKind.bits, IntKind.signed]; omega
theorem Fst.parts {l : List Int} {m : Nt} (h : Fst l m) {z : Int} (hz : l[0]? = some z) : z = (m.body.length : Int) ∧ m.body.length + 3 ≤ l.length ∧ l.take (m.body.length + 1) = m.head ∧ (l.take (m.body.length + 1)).drop 1 = m.body ∧ l[m.body.length + 1]? = some (uv (sm 0xFFFF#16 m.head) / 256) ∧ l[m.body.length + 2]? = some (uv (sm 0xFFFF#16 m.head) % 256) := by
  obtain ⟨hm, r, rfl⟩ := h
  have hl : m.head.length = m.body.length + 1 := rfl
  have e : m.bts ++ r = m.head ++ (w2 (uv (sm 0xFFFF#16 m.head)) ++ r) := by unfold Nt.bts; rw [List.append_assoc]
  rw [e] at hz ⊢
  have h1 : (m.head ++ (w2 (uv (sm 0xFFFF#16 m.head)) ++ r)).take (m.body.length + 1) = m.head := by rw [← hl, List.take_left]
  refine ⟨?_, by simp [hl, w2]; omega, h1, by rw [h1]; rfl, ?_, ?_⟩
  · unfold Nt.head at hz; simp at hz; exact hz.symm
  · rw [List.getElem?_append_right (by omega), hl, Nat.sub_self]; rfl
  · rw [List.getElem?_append_right (by omega), hl, show m.body.length + 2 - (m.body.length + 1) = 1 by omega]; rfl
theorem fst_iff {l : List Int} (hr : InB l) {z : Nat} {x y : Int} (hz : l[0]? = some (z : Int)) (hl : z + 3 ≤ l.length) (hx : l[z + 1]? = some x) (hy : l[z + 2]? = some y) (m : Nt) (hm : m.ok = true) :
    Fst l m ↔ uv (sm 0xFFFF#16 (l.take (z + 1))) = x * 256 + y ∧ m.body = (l.take (z + 1)).drop 1 := by
  have bx := hr.at hx
  have bzy := hr.at hy
  constructor
  · intro h
    obtain ⟨e1, e2, e3, e4, e5, e6⟩ := h.parts hz
    have ez : z = m.body.length := by omega
    subst ez
    rw [hx] at e5
    rw [hy] at e6
    simp only [Option.some.injEq] at e5 e6
    refine ⟨?_, e4.symm⟩
    rw [e3]
    omega
  · rintro ⟨h1, h2⟩
    refine ⟨hm, l.drop (z + 3), ?_⟩
    have hlen : m.body.length = z := by rw [h2, List.length_drop, List.length_take]; omega
    have hh : m.head = l.take (z + 1) := by
      unfold Nt.head
      rw [hlen, h2]
      cases l with
      | nil => simp at hz
      | cons q t => simp at hz; subst hz; rfl
    have hs := uv_lo (sm 0xFFFF#16 m.head)
    have e : m.bts = l.take (z + 3) := by
      unfold Nt.bts
      rw [hh, h1]
      have t1 : l.take (z + 2) = l.take (z + 1) ++ [x] := take_snoc hx
      have t2 : l.take (z + 3) = l.take (z + 2) ++ [y] := take_snoc hy
      rw [t2, t1, List.append_assoc]
      unfold w2
      rw [show (x * 256 + y) / 256 = x by omega, show (x * 256 + y) % 256 = y by omega]
      rfl
    rw [e, List.take_append_drop]
theorem fst_short {l : List Int} {z : Nat} (hz : l[0]? = some (z : Int)) (hl : l.length < z + 3) (m : Nt) : ¬ Fst l m := by
 intro h
 obtain ⟨e1, e2, _⟩ := h.parts hz
 omega
def DecP (l : List Int) (n : Nt) (s c : Int) : Prop := (Fst l n ∧ s = (n.bts.length : Int) ∧ c = 0) ∨ ((∀ m, ¬ Fst l m) ∧ n = nz ∧ s = 0 ∧ c = 180)
def DecR (l : List Int) (w : World) (e : Ending) (w' : World) : Prop := ∃ (k x y z s c : Int), e = .returned (.tuple #[.agg #[.int .i64 k, .int .i64 x, .int .i64 y, .int .i64 z], .int .i64 s, .int .i64 c]) ∧ DecP l ⟨k, x, y, z⟩ s c ∧ Below w.heap.size w w'
theorem DecR.no {l : List Int} {w w' : World} (h : ∀ m, ¬ Fst l m) (hb : Below w.heap.size w w') : DecR l w (.returned (.tuple #[.agg #[.int .i64 0, .int .i64 0, .int .i64 0, .int .i64 0], .int .i64 0, .int .i64 180])) w' := ⟨0, 0, 0, 0, 0, 180, rfl, .inr ⟨h, rfl, rfl, rfl⟩, hb⟩
theorem decode_nil (a : Option Addr) (c : Nat) (w : World) : Calls Tryz.prog 195 #[.slice a 0 c] w fun e w' => DecR [] w e w' := by
 go_enter Tryz.func195, Tryz.ntmps195
 go_wp2_with fail
 exact bodyPost_ret (v := .tuple #[.agg #[.int .i64 0, .int .i64 0, .int .i64 0, .int .i64 0], .int .i64 0, .int .i64 180]) (by simp [results, Tryz.results195, go_sem]) rfl (DecR.no fst_nil (below_new _ _))
set_option maxHeartbeats 4000000 in
theorem decode_short {w : World} {a : Option Addr} {n c : Nat} {l : List Int} (h : Sl w a n c l) {z : Nat} (hz : l[0]? = some (z : Int)) (hz2 : z ≤ 255) (hn : n ≤ 1000000) (hl : n < z + 3) (hpos : 0 < n) : Calls Tryz.prog 195 #[.slice a n c] w fun e w' => DecR l w e w' := by
 have Hno : Hid (∀ m, ¬ Fst l m) := hide (fun m => fst_short hz (by rw [h.len]; exact hl) m)
 have hcap := h.cap
 obtain ⟨b, off, rfl, hc⟩ := h.some hpos
 have HB := hide (below_new w (.cells #[.int .i64 0, .int .i64 0, .int .i64 0, .int .i64 0] 101))
 have c0 := hc 0 _ hz
 rw [Nat.add_zero] at c0
 have cA : ∀ o, (w.alloc o).cell? ⟨b, off, none⟩ = some (.int .u8 (z : Int)) := fun o => by rw [(below_new w o).cell (cell_lt c0)]; exact c0
 have Hsl := hide (h.keep HB.out)
 have n1 : (0 : Int) < (n : Int) := by omega
 have n2 : ¬ ((n : Int) = 0) := by omega
 have n3 : ((n : Int) == 0) = false := by simpa using n2
 obtain ⟨r0, r1, r2, r3, rf⟩ : ∃ (_ : (w.alloc (.cells #[.int .i64 0, .int .i64 0, .int .i64 0, .int .i64 0] 101)).cell? ⟨w.heap.size, 0, none⟩ = some (.int .i64 0)) (_ : (w.alloc (.cells #[.int .i64 0, .int .i64 0, .int .i64 0, .int .i64 0] 101)).cell? ⟨w.heap.size, 1, none⟩ = some (.int .i64 0)) (_ : (w.alloc (.cells #[.int .i64 0, .int .i64 0, .int .i64 0, .int .i64 0] 101)).cell? ⟨w.heap.size, 2, none⟩ = some (.int .i64 0)) (_ : (w.alloc (.cells #[.int .i64 0, .int .i64 0, .int .i64 0, .int .i64 0] 101)).cell? ⟨w.heap.size, 3, none⟩ = some (.int .i64 0)), ∀ i, (w.alloc (.cells #[.int .i64 0, .int .i64 0, .int .i64 0, .int .i64 0] 101)).frozen? ⟨w.heap.size, i, none⟩ = false := ⟨(cells_at (heap_new _ _) 0).1, (cells_at (heap_new _ _) 1).1, (cells_at (heap_new _ _) 2).1, (cells_at (heap_new _ _) 3).1, fun i => (cells_at (heap_new _ _) i).2⟩
 have rf0 := rf 0
 have rf1 := rf 1
 have rf2 := rf 2
 have rf3 := rf 3
 clear hc c0 h hz rf
 go_enter Tryz.func195, Tryz.ntmps195
 go_upto_region 5 with fail
 clear cA
 generalize w.alloc (.cells #[.int .i64 0, .int .i64 0, .int .i64 0, .int .i64 0] 101) = W1 at *
 obtain ⟨gR, hgR⟩ : ∃ gR, w.heap.size = gR := ⟨_, rfl⟩
 rw [hgR] at r0 r1 r2 r3 rf0 rf1 rf2 rf3 ⊢
 have HgR := hide hgR
 clear hgR
 obtain ⟨Q, hQ⟩ : ∃ Q : Nat, z + 1 = Q := ⟨_, rfl⟩
 have e5 : (1 : Int) + (z : Int) = (Q : Int) := by omega
 rw [e5]
 clear e5
 have q1 : (n : Int) < (Q : Int) + 2 := by omega
 have q2 : decide ((n : Int) < (Q : Int) + 2) = true := decide_eq_true q1
 go_quiet (fail)
 go_wp2_with fail
 exact bodyPost_ret (v := .tuple #[.agg #[.int .i64 0, .int .i64 0, .int .i64 0, .int .i64 0], .int .i64 0, .int .i64 180]) (by simp [results, Tryz.results195, go_sem, r0, r1, r2, r3]) rfl (DecR.no Hno.out (below_put4 (HB.out.trans ((below_drew W1 _).mono HB.out.size)) _ (Nat.le_of_eq HgR.out) _ _ _ _))
set_option maxHeartbeats 4000000 in
theorem decode_sum {w : World} {a : Option Addr} {n c : Nat} {l : List Int} (h : Sl w a n c l) (hr : InB l) {z : Nat} {x y : Int} (hz : l[0]? = some (z : Int)) (hz2 : z ≤ 255) (hn : n ≤ 1000000) (hl : z + 3 ≤ n) (hx : l[z + 1]? = some x) (hy : l[z + 2]? = some y) (hne : uv (sm 0xFFFF#16 (l.take (z + 1))) ≠ x * 256 + y) : Calls Tryz.prog 195 #[.slice a n c] w fun e w' => DecR l w e w' := by
 have Hno : Hid (∀ m, ¬ Fst l m) := hide (fun m hm => hne ((fst_iff hr hz (by rw [h.len]; exact hl) hx hy m hm.1).1 hm).1)
 have hpos : 0 < n := by omega
 have hcap := h.cap
 obtain ⟨b, off, rfl, hc⟩ := h.some hpos
 have bx := hr.at hx
 have bzy := hr.at hy
 obtain ⟨x0, x1⟩ := bx
 obtain ⟨y0, y1⟩ := bzy
 have HB := hide (below_new w (.cells #[.int .i64 0, .int .i64 0, .int .i64 0, .int .i64 0] 101))
 have c0 := hc 0 _ hz
 rw [Nat.add_zero] at c0
 have cA : ∀ o, (w.alloc o).cell? ⟨b, off, none⟩ = some (.int .u8 (z : Int)) := fun o => by rw [(below_new w o).cell (cell_lt c0)]; exact c0
 have Hsl := hide (h.keep HB.out)
 have cx := hc _ _ hx
 have cy := hc _ _ hy
 rw [← HB.out.cell (cell_lt cx)] at cx
 rw [← HB.out.cell (cell_lt cy)] at cy
 have n1 : (0 : Int) < (n : Int) := by omega
 have n2 : ¬ ((n : Int) = 0) := by omega
 have n3 : ((n : Int) == 0) = false := by simpa using n2
 obtain ⟨r0, r1, r2, r3, rf⟩ : ∃ (_ : (w.alloc (.cells #[.int .i64 0, .int .i64 0, .int .i64 0, .int .i64 0] 101)).cell? ⟨w.heap.size, 0, none⟩ = some (.int .i64 0)) (_ : (w.alloc (.cells #[.int .i64 0, .int .i64 0, .int .i64 0, .int .i64 0] 101)).cell? ⟨w.heap.size, 1, none⟩ = some (.int .i64 0)) (_ : (w.alloc (.cells #[.int .i64 0, .int .i64 0, .int .i64 0, .int .i64 0] 101)).cell? ⟨w.heap.size, 2, none⟩ = some (.int .i64 0)) (_ : (w.alloc (.cells #[.int .i64 0, .int .i64 0, .int .i64 0, .int .i64 0] 101)).cell? ⟨w.heap.size, 3, none⟩ = some (.int .i64 0)), ∀ i, (w.alloc (.cells #[.int .i64 0, .int .i64 0, .int .i64 0, .int .i64 0] 101)).frozen? ⟨w.heap.size, i, none⟩ = false := ⟨(cells_at (heap_new _ _) 0).1, (cells_at (heap_new _ _) 1).1, (cells_at (heap_new _ _) 2).1, (cells_at (heap_new _ _) 3).1, fun i => (cells_at (heap_new _ _) i).2⟩
 have rf0 := rf 0
 have rf1 := rf 1
 have rf2 := rf 2
 have rf3 := rf 3
 clear hc c0 h hz rf
 go_enter Tryz.func195, Tryz.ntmps195
 go_upto_region 5 with fail
 clear cA
 generalize w.alloc (.cells #[.int .i64 0, .int .i64 0, .int .i64 0, .int .i64 0] 101) = W1 at *
 obtain ⟨gR, hgR⟩ : ∃ gR, w.heap.size = gR := ⟨_, rfl⟩
 rw [hgR] at r0 r1 r2 r3 rf0 rf1 rf2 rf3 ⊢
 have HgR := hide hgR
 clear hgR
 obtain ⟨Q, hQ⟩ : ∃ Q : Nat, z + 1 = Q := ⟨_, rfl⟩
 have e5 : (1 : Int) + (z : Int) = (Q : Int) := by omega
 rw [e5]
 clear e5
 rw [hQ] at hne cx
 rw [show z + 2 = Q + 1 by omega] at cy
 have K24 : Hid (∀ q : Nat, Calls Tryz.prog 161 #[.slice (some ⟨b, off, none⟩) Q c] (W1.drewN q) fun e w' => e = .returned (.int .u16 (uv (sm 0xFFFF#16 (l.take Q)))) ∧ w' = W1.drewN q) := hide (fun q => sum_rd ((Hsl.out.keep (below_drew W1 q)).take Q (by omega)).rd (hr.take Q) (by rw [List.length_take]; omega))
 generalize uv (sm 0xFFFF#16 (l.take Q)) = sx at *
 have q1 : ¬ (n : Int) < (Q : Int) + 2 := by omega
 have q2 : decide ((n : Int) < (Q : Int) + 2) = false := decide_eq_false q1
 have q3 : (Q : Int) < (n : Int) := by omega
 have q4 : (Q : Int) + 1 < (n : Int) := by omega
 have q5 : (Q : Int) ≤ (c : Int) := by omega
 have q6 : (0 : Int) ≤ (Q : Int) := by omega
 have q7 : (Q : Int) ≤ 256 := by omega
 have ho := or_bytes x y ⟨x0, x1⟩ ⟨y0, y1⟩
 have hneb : (sx != x * 256 + y) = true := by simpa using hne
 go_quiet ((go_at_call 161; exact Calls.quiet_of_same (K24.out _)))
 go_wp2_with fail
 exact bodyPost_ret (v := .tuple #[.agg #[.int .i64 0, .int .i64 0, .int .i64 0, .int .i64 0], .int .i64 0, .int .i64 180]) (by simp [results, Tryz.results195, go_sem, r0, r1, r2, r3]) rfl (DecR.no Hno.out (below_put4 (HB.out.trans ((below_drew W1 _).mono HB.out.size)) _ (Nat.le_of_eq HgR.out) _ _ _ _))
set_option maxHeartbeats 4000000 in
theorem decode_yes {w : World} {a : Option Addr} {n c : Nat} {l : List Int} (h : Sl w a n c l) (hr : InB l) {z : Nat} {x y : Int} (hz : l[0]? = some (z : Int)) (hz2 : z ≤ 255) (hn : n ≤ 1000000) (hl : z + 3 ≤ n) (hx : l[z + 1]? = some x) (hy : l[z + 2]? = some y) (hne : uv (sm 0xFFFF#16 (l.take (z + 1))) = x * 256 + y) : Calls Tryz.prog 195 #[.slice a n c] w fun e w' => DecR l w e w' := by
  have Hiff : Hid (∀ m : Nt, m.ok = true → (Fst l m ↔ m.body = (l.take (z + 1)).drop 1)) := hide (fun m hm => by rw [fst_iff hr hz (by rw [h.len]; exact hl) hx hy m hm]; exact ⟨fun q => q.2, fun q => ⟨hne, q⟩⟩)
  have hpos : 0 < n := by omega
  have hcap := h.cap
  obtain ⟨b, off, rfl, hc⟩ := h.some hpos
  have bx := hr.at hx
  have bzy := hr.at hy
  obtain ⟨x0, x1⟩ := bx
  obtain ⟨y0, y1⟩ := bzy
  have HB := hide (below_new w (.cells #[.int .i64 0, .int .i64 0, .int .i64 0, .int .i64 0] 101))
  have c0 := hc 0 _ hz
  rw [Nat.add_zero] at c0
  have cA : ∀ o, (w.alloc o).cell? ⟨b, off, none⟩ = some (.int .u8 (z : Int)) := fun o => by rw [(below_new w o).cell (cell_lt c0)]; exact c0
  have Hsl := hide (h.keep HB.out)
  have cx := hc _ _ hx
  have cy := hc _ _ hy
  rw [← HB.out.cell (cell_lt cx)] at cx
  rw [← HB.out.cell (cell_lt cy)] at cy
  have n1 : (0 : Int) < (n : Int) := by omega
  have n2 : ¬ ((n : Int) = 0) := by omega
  have n3 : ((n : Int) == 0) = false := by simpa using n2
  obtain ⟨r0, r1, r2, r3, rf⟩ : ∃ (_ : (w.alloc (.cells #[.int .i64 0, .int .i64 0, .int .i64 0, .int .i64 0] 101)).cell? ⟨w.heap.size, 0, none⟩ = some (.int .i64 0)) (_ : (w.alloc (.cells #[.int .i64 0, .int .i64 0, .int .i64 0, .int .i64 0] 101)).cell? ⟨w.heap.size, 1, none⟩ = some (.int .i64 0)) (_ : (w.alloc (.cells #[.int .i64 0, .int .i64 0, .int .i64 0, .int .i64 0] 101)).cell? ⟨w.heap.size, 2, none⟩ = some (.int .i64 0)) (_ : (w.alloc (.cells #[.int .i64 0, .int .i64 0, .int .i64 0, .int .i64 0] 101)).cell? ⟨w.heap.size, 3, none⟩ = some (.int .i64 0)), ∀ i, (w.alloc (.cells #[.int .i64 0, .int .i64 0, .int .i64 0, .int .i64 0] 101)).frozen? ⟨w.heap.size, i, none⟩ = false := ⟨(cells_at (heap_new _ _) 0).1, (cells_at (heap_new _ _) 1).1, (cells_at (heap_new _ _) 2).1, (cells_at (heap_new _ _) 3).1, fun i => (cells_at (heap_new _ _) i).2⟩
  have rf0 := rf 0
  have rf1 := rf 1
  have rf2 := rf 2
  have rf3 := rf 3
  clear hc c0 h hz rf
  go_enter Tryz.func195, Tryz.ntmps195
  go_upto_region 5 with fail
  clear cA
  generalize w.alloc (.cells #[.int .i64 0, .int .i64 0, .int .i64 0, .int .i64 0] 101) = W1 at *
  obtain ⟨gR, hgR⟩ : ∃ gR, w.heap.size = gR := ⟨_, rfl⟩
  rw [hgR] at r0 r1 r2 r3 rf0 rf1 rf2 rf3 ⊢
  have HgR := hide hgR
  clear hgR
  obtain ⟨Q, hQ⟩ : ∃ Q : Nat, z + 1 = Q := ⟨_, rfl⟩
  have e5 : (1 : Int) + (z : Int) = (Q : Int) := by omega
  rw [e5]
  clear e5
  rw [hQ] at hne Hiff cx
  rw [show z + 2 = Q + 1 by omega] at cy
  have K24 : Hid (∀ q : Nat, Calls Tryz.prog 161 #[.slice (some ⟨b, off, none⟩) Q c] (W1.drewN q) fun e w' => e = .returned (.int .u16 (uv (sm 0xFFFF#16 (l.take Q)))) ∧ w' = W1.drewN q) := hide (fun q => sum_rd ((Hsl.out.keep (below_drew W1 q)).take Q (by omega)).rd (hr.take Q) (by rw [List.length_take]; omega))
  generalize uv (sm 0xFFFF#16 (l.take Q)) = sx at *
  have q1 : ¬ (n : Int) < (Q : Int) + 2 := by omega
  have q2 : decide ((n : Int) < (Q : Int) + 2) = false := decide_eq_false q1
  have q3 : (Q : Int) < (n : Int) := by omega
  have q4 : (Q : Int) + 1 < (n : Int) := by omega
  have q5 : (Q : Int) ≤ (c : Int) := by omega
  have q6 : (0 : Int) ≤ (Q : Int) := by omega
  have q7 : (Q : Int) ≤ 256 := by omega
  have ho := or_bytes x y ⟨x0, x1⟩ ⟨y0, y1⟩
  have hneb : (sx != x * 256 + y) = false := by simpa using hne
  go_quiet ((go_at_call 161; exact Calls.quiet_of_same (K24.out _)))
  have HB2 := hide (HB.out.trans ((below_drew W1 nq).mono HB.out.size))
  have Hsl2 := hide (Hsl.out.keep (below_drew W1 nq))
  have hcell : ∀ p, (W1.drewN nq).cell? p = W1.cell? p := fun _ => rfl
  have hfro : ∀ p, (W1.drewN nq).frozen? p = W1.frozen? p := fun _ => rfl
  rw [← hcell] at r0 r1 r2 r3
  rw [← hfro] at rf0 rf1 rf2 rf3
  have hgl : gR < (W1.drewN nq).heap.size := cell_lt r0
  generalize W1.drewN nq = W2 at *
  clear hcell hfro cx cy K24 ho HB Hsl
  have K25 : Hid (∀ W, Below W2.heap.size W2 W → Calls Tryz.prog 226 #[.slice (some ⟨b, off + 1, none⟩) (Q - 1) (c - 1)] W fun e w' => ParR ((l.take Q).drop 1) W e w') := hide (fun W hW => by
    have hs := ((Hsl2.out.keep hW).take Q (by omega)).drop 1 (by omega)
    rw [if_neg (show ¬ c = 1 by omega)] at hs
    rcases Nat.eq_zero_or_pos (Q - 1) with q0 | q0
    · have e0 : (l.take Q).drop 1 = [] := List.eq_nil_of_length_eq_zero (by rw [hs.len]; exact q0)
      rw [e0, q0]
      exact parse_nil _ _ _
    · exact parse_any hs (((hr.take Q)).drop 1) (by omega) q0)
  have Hlen : Hid (((l.take Q).drop 1).length = Q - 1) := hide (by rw [List.length_drop, List.length_take, Hsl2.out.len]; omega)
  generalize (l.take Q).drop 1 = pp at *
  have s1 : (1 : Int) ≤ (Q : Int) := by omega
  have s2 : ¬ (c = 1) := by omega
  go_upto_region 8 with (go_at_call 226; refine (K25.out _ (Below.refl _ _)).mono ?_; rintro e W3 ⟨pk, pa, pb, pc, ok, rfl, hpar, hb3⟩)
  have hb4 : Below W2.heap.size W2 (W3.alloc (.cells #[.int .i64 pk, .int .i64 pa, .int .i64 pb, .int .i64 pc] 101)) := hb3.alloc hb3.size _
  have HC : Hid (∀ W, Below W2.heap.size W2 W → (W.cell? ⟨gR, 0, none⟩ = some (.int .i64 0) ∧ W.cell? ⟨gR, 1, none⟩ = some (.int .i64 0) ∧ W.cell? ⟨gR, 2, none⟩ = some (.int .i64 0) ∧ W.cell? ⟨gR, 3, none⟩ = some (.int .i64 0) ∧ ∀ i, W.frozen? ⟨gR, i, none⟩ = W2.frozen? ⟨gR, i, none⟩)) := hide (fun W hW => ⟨by rw [hW.cell hgl]; exact r0, by rw [hW.cell hgl]; exact r1, by rw [hW.cell hgl]; exact r2, by rw [hW.cell hgl]; exact r3, fun i => by unfold World.frozen?; rw [hW.block gR hgl]⟩)
  have Hpar := hide hpar
  have HF : Hid (W2.frozen? ⟨gR, 0, none⟩ = false ∧ W2.frozen? ⟨gR, 1, none⟩ = false ∧ W2.frozen? ⟨gR, 2, none⟩ = false ∧ W2.frozen? ⟨gR, 3, none⟩ = false) := hide ⟨rf0, rf1, rf2, rf3⟩
  clear hpar r0 r1 r2 r3 rf0 rf1 rf2 rf3 hgl K25
  cases ok with
  | false =>
    have Hno : Hid (∀ m, ¬ Fst l m) := hide (fun m hm => by
      have h1 := (Hiff.out m hm.1).1 hm
      have h2 := (Hpar.out m hm.1).1 h1
      simp at h2)
    have HB5 := hide (HB2.out.trans (hb4.mono HB2.out.size))
    obtain ⟨t0, t1, t2, t3, tf⟩ := HC.out _ hb4
    have tf0 := tf 0
    have tf1 := tf 1
    have tf2 := tf 2
    have tf3 := tf 3
    obtain ⟨f0, f1, f2, f3⟩ := HF.out
    rw [f0] at tf0
    rw [f1] at tf1
    rw [f2] at tf2
    rw [f3] at tf3
    clear tf f0 f1 f2 f3
    go_wp2_with fail
    exact bodyPost_ret (v := .tuple #[.agg #[.int .i64 0, .int .i64 0, .int .i64 0, .int .i64 0], .int .i64 0, .int .i64 180]) (by simp [results, Tryz.results195, go_sem, t0, t1, t2, t3]) rfl (DecR.no Hno.out (below_put4 HB5.out _ (Nat.le_of_eq HgR.out) _ _ _ _))
  | true =>
    have k12 := ncheck_any pk pa pb pc
    have hcode : (Nt.mk pk pa pb pc).code = if (Nt.mk pk pa pb pc).ok then 0 else 180 := rfl
    cases hok : (Nt.mk pk pa pb pc).ok with
    | false =>
      have Hno : Hid (∀ m, ¬ Fst l m) := hide (fun m hm => by
        have h1 := (Hiff.out m hm.1).1 hm
        have h2 := (Hpar.out m hm.1).1 h1
        have h3 := hm.1
        rw [← h2.2, hok] at h3
        simp at h3)
      rw [hok] at hcode
      have hcode2 : (Nt.mk pk pa pb pc).code = 180 := hcode
      rw [hcode2] at k12
      have K12 := hide k12
      clear k12 hcode hcode2 hok
      go_upto_region 9 with (go_at_call 227; refine (K12.out _).mono ?_; rintro e W5 ⟨rfl, hb5⟩)
      have hb45 := hb4.trans (hb5.mono hb4.size)
      have HB5 := hide (HB2.out.trans (hb45.mono HB2.out.size))
      obtain ⟨t0, t1, t2, t3, tf⟩ := HC.out _ hb45
      have tf0 := tf 0
      have tf1 := tf 1
      have tf2 := tf 2
      have tf3 := tf 3
      obtain ⟨f0, f1, f2, f3⟩ := HF.out
      rw [f0] at tf0
      rw [f1] at tf1
      rw [f2] at tf2
      rw [f3] at tf3
      clear tf f0 f1 f2 f3
      go_wp2_with fail
      exact bodyPost_ret (v := .tuple #[.agg #[.int .i64 0, .int .i64 0, .int .i64 0, .int .i64 0], .int .i64 0, .int .i64 180]) (by simp [results, Tryz.results195, go_sem, t0, t1, t2, t3]) rfl (DecR.no Hno.out (below_put4 HB5.out _ (Nat.le_of_eq HgR.out) _ _ _ _))
    | true =>
      have Hyes : Hid (DecP l ⟨pk, pa, pb, pc⟩ ((Q : Int) + 2) 0) := hide (by
        have h1 := (Hpar.out ⟨pk, pa, pb, pc⟩ hok).2 ⟨rfl, rfl⟩
        have h2 := (Hiff.out ⟨pk, pa, pb, pc⟩ hok).2 h1
        refine .inl ⟨h2, ?_, rfl⟩
        rw [bts_len, h1, Hlen.out]
        omega)
      rw [hok] at hcode
      have hcode2 : (Nt.mk pk pa pb pc).code = 0 := hcode
      rw [hcode2] at k12
      have K12 := hide k12
      clear k12 hcode hcode2 hok
      go_upto_region 10 with (go_at_call 227; refine (K12.out _).mono ?_; rintro e W5 ⟨rfl, hb5⟩)
      have hb45 := hb4.trans (hb5.mono hb4.size)
      have HB5 := hide (HB2.out.trans (hb45.mono HB2.out.size))
      obtain ⟨t0, t1, t2, t3, tf⟩ := HC.out _ hb45
      have tf0 := tf 0
      have tf1 := tf 1
      have tf2 := tf 2
      have tf3 := tf 3
      obtain ⟨f0, f1, f2, f3⟩ := HF.out
      rw [f0] at tf0
      rw [f1] at tf1
      rw [f2] at tf2
      rw [f3] at tf3
      clear tf f0 f1 f2 f3
      have p0 : W5.cell? ⟨W3.heap.size, 0, none⟩ = some (.int .i64 pk) := box_at hb5 0
      have p1 : W5.cell? ⟨W3.heap.size, 1, none⟩ = some (.int .i64 pa) := box_at hb5 1
      have p2 : W5.cell? ⟨W3.heap.size, 2, none⟩ = some (.int .i64 pb) := box_at hb5 2
      have p3 : W5.cell? ⟨W3.heap.size, 3, none⟩ = some (.int .i64 pc) := box_at hb5 3
      go_wp2_with fail
      refine bodyPost_ret (v := .tuple #[.agg #[.int .i64 pk, .int .i64 pa, .int .i64 pb, .int .i64 pc], .int .i64 ((Q : Int) + 2), .int .i64 0]) (by simp [results, Tryz.results195, go_sem, t0, t1, t2, t3]) rfl ⟨pk, pa, pb, pc, _, _, rfl, Hyes.out, ?_⟩
      exact below_put4 HB5.out _ (Nat.le_of_eq HgR.out) _ _ _ _
theorem decode_any {w : World} {a : Option Addr} {n c : Nat} {l : List Int} (h : Sl w a n c l) (hr : InB l) (hn : n ≤ 1000000) : Calls Tryz.prog 195 #[.slice a n c] w fun e w' => DecR l w e w' := by
  rcases Nat.eq_zero_or_pos n with h0 | h0
  · have e : l = [] := List.eq_nil_of_length_eq_zero (by rw [h.len]; exact h0)
    subst e h0
    exact decode_nil _ _ _
  · obtain ⟨zi, hzi⟩ : ∃ z, l[0]? = some z := ⟨_, List.getElem?_eq_getElem (by rw [h.len]; exact h0)⟩
    have hz2 := hr.at hzi
    obtain ⟨z, rfl⟩ := Int.eq_ofNat_of_zero_le hz2.1
    rcases Nat.lt_or_ge n (z + 3) with q | q
    · exact decode_short h hzi (by omega) hn q h0
    · obtain ⟨x, hx⟩ : ∃ x, l[z + 1]? = some x := ⟨_, List.getElem?_eq_getElem (by rw [h.len]; omega)⟩
      obtain ⟨y, hy⟩ : ∃ y, l[z + 2]? = some y := ⟨_, List.getElem?_eq_getElem (by rw [h.len]; omega)⟩
      by_cases hs : uv (sm 0xFFFF#16 (l.take (z + 1))) = x * 256 + y
      · exact decode_yes h hr hzi (by omega) hn q hx hy hs
      · exact decode_sum h hr hzi (by omega) hn q hx hy hs
open Go.ChangeShapes Go.WideShapes Go.ChangeAt Go.RowKit
def tot (ns : List Nt) : Nat := (ns.flatMap Nt.bts).length
def ReaR (l : List Int) (w : World) (e : Ending) (w' : World) : Prop := ∃ (v : Value) (ns : List Nt) (r : List Int), e = .returned (.tuple #[v, .int .i64 (tot ns : Int)]) ∧ NRds l ns r ∧ ntE.Own w' w.heap.size v ns ∧ Below w.heap.size w w'
theorem row_more {l r : List Int} {ns : List Nt} {m : Nt} {j q : Nat} (h : l = ns.flatMap Nt.bts ++ l.drop j) (hr : l.drop j = m.bts ++ r) (hq : m.bts.length = q) : l = (ns ++ [m]).flatMap Nt.bts ++ l.drop (j + q) := by
 have e : l.drop (j + q) = r := by rw [← List.drop_drop, hr, ← hq, List.drop_left]
 rw [e, List.flatMap_append, List.flatMap_singleton, List.append_assoc, ← hr]
 exact h
theorem ok_more {ns : List Nt} {m : Nt} (h : ∀ n ∈ ns, n.ok = true) (hm : m.ok = true) : ∀ n ∈ ns ++ [m], n.ok = true := by
  intro n hn
  rcases List.mem_append.1 hn with q | q
  · exact h n q
  · simp at q; rw [q]; exact hm
theorem rds_nil {l : List Int} (h : ∀ m, ¬ Fst l m) : NRds l [] l := ⟨by simp, by simp, h⟩
set_option maxHeartbeats 2000000 in
theorem read_none (w : World) : Calls Tryz.prog 141 #[.slice none 0 0] w fun e w' => ReaR [] w e w' := by
  have K13 := hide (fun W => decode_nil none 0 W)
  go_enter Tryz.func141, Tryz.ntmps141
  go_wp2_with fail
  go_loopw [4, 5] (fun v i wr => Hid (v = .slice none 0 0 ∧ i = .int .i64 0 ∧ Below w.heap.size w wr)) (fun _ i _ => 0)
  case atStart => exact hide ⟨rfl, rfl, Below.refl _ _⟩
  case round =>
    obtain ⟨rfl, rfl, hb⟩ := hrel.out
    clear hrel
    go_upto_region 4 with (go_at_call 195; refine (K13.out _).mono ?_; rintro e W1 ⟨k, x, y, z, s, c, rfl, hdec, hb1⟩)
    rcases hdec with ⟨hf, _⟩ | ⟨hno, hn, rfl, rfl⟩
    · exact absurd hf (fst_nil _)
    · clear hno hn
      go_wp2_with fail
      go_ret2
      exact ⟨_, [], [], rfl, rds_nil fst_nil, El.Own.nil _ _ _, (hb.trans (hb1.mono hb.size)).alloc (Nat.le_trans hb.size hb1.size) _⟩
set_option maxHeartbeats 2000000 in
theorem read_zero (x : Addr) (c : Nat) (w : World) : Calls Tryz.prog 141 #[.slice (some x) 0 c] w fun e w' => ReaR [] w e w' := by
  have K13 := hide (fun W => decode_nil (some x) c W)
  have c0 : (0 : Int) ≤ (c : Int) := by omega
  go_enter Tryz.func141, Tryz.ntmps141
  go_wp2_with fail
  go_loopw [4, 5] (fun v i wr => Hid (v = .slice none 0 0 ∧ i = .int .i64 0 ∧ Below w.heap.size w wr)) (fun _ i _ => 0)
  case atStart => exact hide ⟨rfl, rfl, Below.refl _ _⟩
  case round =>
    obtain ⟨rfl, rfl, hb⟩ := hrel.out
    clear hrel
    go_upto_region 4 with (go_at_call 195; refine (K13.out _).mono ?_; rintro e W1 ⟨k, x, y, z, s, c, rfl, hdec, hb1⟩)
    rcases hdec with ⟨hf, _⟩ | ⟨hno, hn, rfl, rfl⟩
    · exact absurd hf (fst_nil _)
    · clear hno hn
      go_wp2_with fail
      go_ret2
      exact ⟨_, [], [], rfl, rds_nil fst_nil, El.Own.nil _ _ _, (hb.trans (hb1.mono hb.size)).alloc (Nat.le_trans hb.size hb1.size) _⟩
set_option maxHeartbeats 800000 in
theorem read_some {w : World} {b off n c : Nat} {l : List Int} (h : Sl w (some ⟨b, off, none⟩) n c l) (hr : InB l) (hn : n ≤ 100000) : Calls Tryz.prog 141 #[.slice (some ⟨b, off, none⟩) n c] w fun e w' => ReaR l w e w' := by
  have hcap := h.cap
  have H := hide h
  have Hr := hide hr
  have Hl := hide h.len
  clear h hr
  go_enter Tryz.func141, Tryz.ntmps141
  go_wp2_with fail
  go_loopw [4, 5] (fun v i wr => Hid (∃ (j : Nat) (ns : List Nt), j ≤ n ∧ i = .int .i64 j ∧ (ns.flatMap Nt.bts).length = j ∧ l = ns.flatMap Nt.bts ++ l.drop j ∧ (∀ m ∈ ns, m.ok = true) ∧ ns.length ≤ j ∧ ntE.Own wr w.heap.size v ns ∧ Below w.heap.size w wr)) (fun _ i _ => n - (intOf i).toNat)
  case atStart => exact hide ⟨0, [], Nat.zero_le _, rfl, rfl, by simp, by simp, by simp, El.Own.nil _ _ _, Below.refl _ _⟩
  case round =>
    obtain ⟨j, ns, hj, rfl, hfl, hle, hok, hnl, ho, hb⟩ := hrel.out
    clear hrel
    have K13 := hide (decode_any ((H.out.keep hb).drop j hj) (Hr.out.drop j) (by omega))
    have Hfl := hide hfl
    have Hle := hide hle
    have Hok := hide hok
    clear hfl hle hok
    have j1 : (j : Int) ≤ (n : Int) := by omega
    have j2 : (n : Int) ≤ (c : Int) := by omega
    have j3 : (j : Int) ≤ (c : Int) := by omega
    by_cases hcj : c = j
    · obtain rfl : n = c := by omega
      obtain rfl : n = j := by omega
      have K13 := hide (fun W => decode_nil (some ⟨b, off, none⟩) 0 W)
      have hdn : l.drop n = [] := List.drop_eq_nil_of_le (by rw [Hl.out]; exact Nat.le_refl _)
      have Hdn := hide hdn
      clear hdn hcj
      go_upto_region 4 with (go_at_call 195; refine (K13.out _).mono ?_; rintro e W1 ⟨k, x, y, z, s, cc, rfl, hdec, hb1⟩)
      rcases hdec with ⟨hf, rfl, rfl⟩ | ⟨hno, hn0, rfl, rfl⟩
      · exact absurd hf (fst_nil _)
      · clear hno hn0 K13
        go_wp2_with fail
        go_ret2
        exact ⟨u4, ns, [], by rw [show tot ns = _ from Hfl.out]; rfl, ⟨by have := Hle.out; rw [Hdn.out] at this; exact this, Hok.out, fst_nil⟩, ((ho.keep hb1).keep (below_new _ _)), (hb.trans (hb1.mono hb.size)).alloc (Nat.le_trans hb.size hb1.size) _⟩
    · rw [if_neg hcj] at K13
      have K13 := hide K13.out
      go_upto_region 4 with (go_at_call 195; refine K13.out.mono ?_; rintro e W1 ⟨k, x, y, z, s, cc, rfl, hdec, hb1⟩)
      rcases hdec with ⟨hf, rfl, rfl⟩ | ⟨hno, hn0, rfl, rfl⟩
      · obtain ⟨fk, r, hr2⟩ := hf
        obtain ⟨q, hq⟩ : ∃ q, (Nt.mk k x y z).bts.length = q := ⟨_, rfl⟩
        have h5 := bts_len5 fk
        rw [hq] at h5 ⊢
        have hlr : q ≤ n - j := by
          have := congrArg List.length hr2
          rw [List.length_drop, Hl.out, List.length_append, hq] at this
          omega
        obtain ⟨h5a, h5b⟩ := h5
        have hb2 := hb.trans (hb1.mono hb.size)
        have ho2 := (ho.keep hb1).keep (below_new W1 (.cells #[.int .i64 k, .int .i64 x, .int .i64 y, .int .i64 z] 101))
        have hb3 := hb2.alloc hb2.size (.cells #[.int .i64 k, .int .i64 x, .int .i64 y, .int .i64 z] 101)
        obtain ⟨p0, p1, p2, p3⟩ : (W1.alloc (.cells #[.int .i64 k, .int .i64 x, .int .i64 y, .int .i64 z] 101)).cell? ⟨W1.heap.size, 0, none⟩ = some (.int .i64 k) ∧ (W1.alloc (.cells #[.int .i64 k, .int .i64 x, .int .i64 y, .int .i64 z] 101)).cell? ⟨W1.heap.size, 1, none⟩ = some (.int .i64 x) ∧ (W1.alloc (.cells #[.int .i64 k, .int .i64 x, .int .i64 y, .int .i64 z] 101)).cell? ⟨W1.heap.size, 2, none⟩ = some (.int .i64 y) ∧ (W1.alloc (.cells #[.int .i64 k, .int .i64 x, .int .i64 y, .int .i64 z] 101)).cell? ⟨W1.heap.size, 3, none⟩ = some (.int .i64 z) := ⟨(cells_at (heap_new _ _) 0).1, (cells_at (heap_new _ _) 1).1, (cells_at (heap_new _ _) 2).1, (cells_at (heap_new _ _) 3).1⟩
        generalize W1.alloc (.cells #[.int .i64 k, .int .i64 x, .int .i64 y, .int .i64 z] 101) = W2 at *
        generalize W1.heap.size = g1 at *
        have Hq := hide hq
        have Hr2 := hide hr2
        have Hfk := hide fk
        clear hq hr2 fk hb hb2 ho K13
        go_wp2_with (at_builtin; refine ntE.wp (hb3.alloc hb3.size _) (by rfl) _ _ rfl _ _ rfl rfl ns [⟨k, x, y, z⟩] (ho2.keep (below_new _ _)) (nt_new _ ⟨k, x, y, z⟩ _ rfl) (by simp; omega) ?_; intro v1 w6 hown1 hg1 hs1 hb6; refine Hid.out ?_)
        refine hide ?_
        clear hg1 hs1
        go_wp2_with fail
        go_roundw
        case rel => exact hide ⟨j + q, ns ++ [⟨k, x, y, z⟩], by omega, by go_num, by rw [List.flatMap_append, List.length_append, Hfl.out, List.flatMap_singleton, Hq.out], row_more Hle.out Hr2.out Hq.out, ok_more Hok.out Hfk.out, by simp; omega, hown1, hb6⟩
        case measure => simp [intOf]; omega
      · have Hno := hide hno
        clear hno hn0 K13
        go_wp2_with fail
        go_ret2
        exact ⟨u4, ns, l.drop j, by rw [show tot ns = _ from Hfl.out]; rfl, ⟨Hle.out, Hok.out, Hno.out⟩, ((ho.keep hb1).keep (below_new _ _)), (hb.trans (hb1.mono hb.size)).alloc (Nat.le_trans hb.size hb1.size) _⟩
open Go.ChangeShapes Go.WideShapes Go.ChangeAt Go.RowKit
theorem encode_no (k a b c : Int) (w : World) (h : (Nt.mk k a b c).ok = false) : Calls Tryz.prog 211 #[.agg #[.int .i64 k, .int .i64 a, .int .i64 b, .int .i64 c]] w fun e w' => e = .returned (.tuple #[.slice none 0 0, .int .i64 180]) ∧ Below w.heap.size w w' := by
 have k12 : ∀ W, Calls Tryz.prog 227 #[.agg #[.int .i64 k, .int .i64 a, .int .i64 b, .int .i64 c]] W fun e w' => e = .returned (.int .i64 180) ∧ Below W.heap.size W w' := fun W => by
  have := ncheck_any k a b c W
  rw [code_no h] at this
  exact this
 have K12 := hide k12
 clear k12 h
 have Hw := hide (below_new w (.cells #[.int .i64 k, .int .i64 a, .int .i64 b, .int .i64 c] 101))
 go_enter Tryz.func211, Tryz.ntmps211
 go_wp2_with (go_at_call 227; refine (K12.out _).mono ?_; rintro e w1 ⟨rfl, hb1⟩)
 go_ret2
 exact ⟨rfl, Hw.out.trans (hb1.mono Hw.out.size)⟩
def Nt.pre (n : Nt) (i : Nat) : List Int := 0 :: n.kind :: (n.vs.take i).flatMap num
theorem pre_succ (n : Nt) (i : Nat) (x : Int) (h : i < us n.kind) (hx : n.fs[i]? = some x) : n.pre (i + 1) = n.pre i ++ num x.toNat := by
 unfold Nt.pre
 rw [List.take_add_one, vs_at i h, hx]
 simp
theorem pre_len {n : Nt} (h : n.ok = true) (i : Nat) : (n.pre i).length ≤ 17 := by
 have h1 := flat_len (xs := n.vs.take i) (fun v hv => by have := vs_lt h v (List.mem_of_mem_take hv); omega)
 have h2 := vs_len n
 have h3 := us_le n.kind
 have h4 : (n.vs.take i).length ≤ 3 := by rw [List.length_take]; omega
 unfold Nt.pre
 rw [List.length_cons, List.length_cons]
 omega
theorem pre_head (n : Nt) (i : Nat) (h : us n.kind ≤ i) : (n.pre i).length = n.body.length + 1 ∧ (n.pre i).set 0 (n.body.length : Int) = n.head := by
 have e : n.pre i = 0 :: n.body := by
  unfold Nt.pre Nt.body
  rw [List.take_of_length_le (by rw [vs_len]; exact h)]
 rw [e]
 exact ⟨rfl, rfl⟩
set_option maxHeartbeats 4000000 in
theorem encode_yes (k a b c : Int) (w : World) (h : (Nt.mk k a b c).ok = true) : Calls Tryz.prog 211 #[.agg #[.int .i64 k, .int .i64 a, .int .i64 b, .int .i64 c]] w fun e w' => ∃ v, e = .returned (.tuple #[v, .int .i64 0]) ∧ byE.Own w' w.heap.size v (Nt.mk k a b c).bts ∧ Below w.heap.size w w' := by
  have k12 : ∀ W, Calls Tryz.prog 227 #[.agg #[.int .i64 k, .int .i64 a, .int .i64 b, .int .i64 c]] W fun e w' => e = .returned (.int .i64 0) ∧ Below W.heap.size W w' := fun W => by
    have := ncheck_any k a b c W
    rw [code_yes h] at this
    exact this
  have K12 := hide k12
  have K21 := hide (numbers_any k a b c)
  have k22 : ∀ W, Calls Tryz.prog 235 #[.int .i64 k] W fun e w' => e = .returned (.int .i64 (us k)) ∧ w' = W := uses_any k
  have hk8 := us_pos ((ok_iff _).1 h).1
  obtain ⟨k1, k8⟩ : 1 ≤ k ∧ k ≤ 8 := hk8
  have hu3 := us_le k
  have Hok := hide h
  have Hf : Hid (∀ (i : Nat) (x : Int), (Nt.mk k a b c).fs[i]? = some x → 0 ≤ x ∧ x ≤ 2147483647) := hide (fun i x hx => by have := ((ok_iff _).1 h).2.1 i x hx; exact ⟨this.1, this.2.1⟩)
  have Hpl := hide (fun i => pre_len h i)
  have Hps : Hid (∀ (i : Nat) (x : Int), i < us k → (Nt.mk k a b c).fs[i]? = some x → (Nt.mk k a b c).pre (i + 1) = (Nt.mk k a b c).pre i ++ num x.toNat) := hide (fun i x => pre_succ (Nt.mk k a b c) i x)
  have Hph : Hid ((Nt.mk k a b c).pre (us k) = (Nt.mk k a b c).pre (us k) ∧ ((Nt.mk k a b c).pre (us k)).length = (Nt.mk k a b c).body.length + 1 ∧ ((Nt.mk k a b c).pre (us k)).set 0 ((Nt.mk k a b c).body.length : Int) = (Nt.mk k a b c).head) := hide ⟨rfl, pre_head (Nt.mk k a b c) (us k) (Nat.le_refl _)⟩
  have Hbl := hide (body_len h)
  have Hhi := hide (head_in h)
  obtain ⟨u, hu⟩ : ∃ u, us k = u := ⟨_, rfl⟩
  rw [hu] at k22 hu3 Hps Hph
  have K22 := hide k22
  clear k22 k12 h hu
  have Hw := hide (below_new w (.cells #[.int .i64 k, .int .i64 a, .int .i64 b, .int .i64 c] 101))
  go_enter Tryz.func211, Tryz.ntmps211
  go_upto_region 5 with (first | (go_at_call 227; refine (K12.out _).mono ?_; rintro e w1 ⟨rfl, hb1⟩; have q0 : w1.cell? ⟨w.heap.size, 0, none⟩ = some (.int .i64 k) := box_at hb1 0; have q1 : w1.cell? ⟨w.heap.size, 1, none⟩ = some (.int .i64 a) := box_at hb1 1; have q2 : w1.cell? ⟨w.heap.size, 2, none⟩ = some (.int .i64 b) := box_at hb1 2; have q3 : w1.cell? ⟨w.heap.size, 3, none⟩ = some (.int .i64 c) := box_at hb1 3) | (go_at_call 234; refine (K21.out _).mono ?_; rintro e w2 ⟨rfl, hb2⟩; have hb12 := hb1.trans (hb2.mono hb1.size)))
  clear q0 q1 q2 q3
  have HB := hide ((Hw.out.trans (hb12.mono Hw.out.size)).alloc (Nat.le_trans Hw.out.size hb12.size) (.cells #[.int .i64 a, .int .i64 b, .int .i64 c] 225))
  have p0 : (w2.alloc (.cells #[.int .i64 a, .int .i64 b, .int .i64 c] 225)).cell? ⟨w.heap.size, 0, none⟩ = some (.int .i64 k) := box_at (hb12.alloc hb12.size _) 0
  have HC : Hid (∀ W, Below (w2.alloc (.cells #[.int .i64 a, .int .i64 b, .int .i64 c] 225)).heap.size (w2.alloc (.cells #[.int .i64 a, .int .i64 b, .int .i64 c] 225)) W → (W.cell? ⟨w2.heap.size, 0, none⟩ = some (.int .i64 a) ∧ W.cell? ⟨w2.heap.size, 1, none⟩ = some (.int .i64 b) ∧ W.cell? ⟨w2.heap.size, 2, none⟩ = some (.int .i64 c))) := hide (fun W hW => ⟨box_at hW 0, box_at hW 1, box_at hW 2⟩)
  have HB0 := hide (HB.out.size)
  generalize w2.heap.size = g at *
  generalize w2.alloc (.cells #[.int .i64 a, .int .i64 b, .int .i64 c] 225) = W0 at *
  clear hb1 hb2 hb12 Hw
  have p1 : ∀ o, (W0.alloc o).cell? ⟨w.heap.size, 0, none⟩ = some (.int .i64 k) := fun o => by rw [(below_new W0 o).cell (cell_lt p0)]; exact p0
  have Ho : Hid (byE.Own (W0.alloc (.cells #[.int .u8 0, .int .u8 k] 5)) W0.heap.size (.slice (some ⟨W0.heap.size, 0, none⟩) 2 2) ((Nt.mk k a b c).pre 0)) := hide (El.Own.new byE W0 W0.heap.size (Nat.le_refl _) _ [0, k] rfl (by simp) _ _ _ rfl rfl rfl)
  go_wp2_with (go_at_call 235; refine (K22.out _).mono ?_; rintro e w3 ⟨rfl, rfl⟩)
  clear p0 p1
  go_loopw [6, 23] (fun v i wr => Hid (∃ n : Nat, n ≤ u ∧ i = .int .i64 n ∧ byE.Own wr W0.heap.size v ((Nt.mk k a b c).pre n) ∧ Below W0.heap.size W0 wr)) (fun _ i _ => 3 - (intOf i).toNat)
  case atStart => exact hide ⟨0, Nat.zero_le _, rfl, Ho.out, below_new _ _⟩
  case round =>
    obtain ⟨n, hn, rfl, hown, hb⟩ := hrel.out
    clear hrel Ho
    by_cases hlt : n < u
    · obtain ⟨c0, c1, c2⟩ := HC.out _ hb
      have h4 : n = 0 ∨ n = 1 ∨ n = 2 := by omega
      rcases h4 with rfl | rfl | rfl
      · have hlt' : (0 : Int) < u := by omega
        have Hf2 := hide (Hf.out 0 a rfl)
        have HP := hide (Hps.out 0 a hlt rfl)
        go_wp2_with (go_at_call 236; refine (appn_any _ _ a ⟨Hf2.out.1, by have := Hf2.out.2; omega⟩ _ W0 hb hown (Nat.le_trans (Hpl.out _) (by omega))).mono ?_; rintro e w' ⟨v', rfl, hown', hb'⟩)
        go_roundw
        case rel => exact hide ⟨1, by omega, by go_num, by rw [HP.out]; exact hown', hb'⟩
        case measure => simp [intOf]
      · have hlt' : (1 : Int) < u := by omega
        have Hf2 := hide (Hf.out 1 b rfl)
        have HP := hide (Hps.out 1 b hlt rfl)
        go_wp2_with (go_at_call 236; refine (appn_any _ _ b ⟨Hf2.out.1, by have := Hf2.out.2; omega⟩ _ W0 hb hown (Nat.le_trans (Hpl.out _) (by omega))).mono ?_; rintro e w' ⟨v', rfl, hown', hb'⟩)
        go_roundw
        case rel => exact hide ⟨2, by omega, by go_num, by rw [HP.out]; exact hown', hb'⟩
        case measure => simp [intOf]
      · have hlt' : (2 : Int) < u := by omega
        have Hf2 := hide (Hf.out 2 c rfl)
        have HP := hide (Hps.out 2 c hlt rfl)
        go_wp2_with (go_at_call 236; refine (appn_any _ _ c ⟨Hf2.out.1, by have := Hf2.out.2; omega⟩ _ W0 hb hown (Nat.le_trans (Hpl.out _) (by omega))).mono ?_; rintro e w' ⟨v', rfl, hown', hb'⟩)
        go_roundw
        case rel => exact hide ⟨3, by omega, by go_num, by rw [HP.out]; exact hown', hb'⟩
        case measure => simp [intOf]
    · obtain rfl : n = u := by omega
      obtain ⟨_, hl1, hset⟩ := Hph.out
      obtain ⟨g1, cap1, rfl, hc1, hc2⟩ := El.Own.some hown (by intro e; rw [e] at hl1; simp at hl1)
      obtain ⟨m, hm⟩ : ∃ m, (Nt.mk k a b c).body.length = m := ⟨_, rfl⟩
      rw [hm] at hl1 hset
      have Hm := hide hm
      rw [hl1] at hown ⊢
      have hbl := Hbl.out
      rw [hm] at hbl
      obtain ⟨m1, m2⟩ := hbl
      clear hm
      have hcell := (hown.cell 0 (by rw [hl1]; show 0 < (m + 1) * 1; omega)).1
      have hfz := (hown.cell 0 (by rw [hl1]; show 0 < (m + 1) * 1; omega)).2.1
      have hge := (hown.cell 0 (by rw [hl1]; show 0 < (m + 1) * 1; omega)).2.2
      rw [by_fl] at hcell
      have hcell' : wr.cell? ⟨g1, 0, none⟩ = some (.int .u8 0) := hcell
      have Hset : Hid (byE.Own (wr.setCell ⟨g1, 0, none⟩ (.int .u8 (m : Int))) W0.heap.size (.slice (some ⟨g1, 0, none⟩) (m + 1) cap1) (Nt.mk k a b c).head) := hide (by
        have := El.Own.set (Value.int .u8) (fun _ => rfl) rfl hown 0 (m : Int)
        rw [hset] at this
        exact this)
      have Hb2 : Hid (Below W0.heap.size W0 (wr.setCell ⟨g1, 0, none⟩ (.int .u8 (m : Int)))) := hide (hb.setCell hge _)
      have Hl2 : Hid ((Nt.mk k a b c).head.length = m + 1) := hide (by rw [← hset, List.length_set]; exact hl1)
      clear hcell hown hset hl1 hc1 hc2 hlt hn
      go_upto_region 12 with fail
      generalize wr.setCell ⟨g1, 0, none⟩ (.int .u8 (m : Int)) = W4 at *
      have k24 : Calls Tryz.prog 161 #[.slice (some ⟨g1, 0, none⟩) (m + 1) cap1] W4 fun e w' => e = .returned (.int .u16 (uv (sm 0xFFFF#16 (Nt.mk k a b c).head))) ∧ w' = W4 := sum_rd Hset.out.rd Hhi.out (by rw [Hl2.out]; omega)
      have hs0 := uv_lo (sm 0xFFFF#16 (Nt.mk k a b c).head)
      have hs1 := uv_hi (sm 0xFFFF#16 (Nt.mk k a b c).head)
      have Hbt : Hid ((Nt.mk k a b c).bts = (Nt.mk k a b c).head ++ [uv (sm 0xFFFF#16 (Nt.mk k a b c).head) / 256, uv (sm 0xFFFF#16 (Nt.mk k a b c).head) % 256]) := hide rfl
      generalize uv (sm 0xFFFF#16 (Nt.mk k a b c).head) = s at *
      have K24 := hide k24
      clear k24 hcell' hfz hge
      go_wp2_with (first | (go_at_call 161; refine K24.out.mono ?_; rintro e w5 ⟨rfl, rfl⟩) | (at_builtin; refine byE.wp (Hb2.out.alloc Hb2.out.size _) (by rfl) _ _ rfl _ _ rfl rfl (Nt.mk k a b c).head [_, _] (Hset.out.keep (below_new _ _)) (by_new2 _ _ _ _ rfl) (by rw [Hl2.out]; simp; omega) ?_; intro v1 w6 hown1 hg1 hs1 hb6; refine Hid.out ?_))
      refine hide ?_
      clear hg1 hs1
      go_wp2_with fail
      go_ret2
      refine ⟨_, rfl, ?_, HB.out.trans (hb6.mono HB0.out)⟩
      rw [Hbt.out]
      exact El.Own.mono hown1 HB0.out
open Go.ChangeShapes Go.WideShapes Go.ChangeAt Go.RowKit
theorem read_any {w : World} {a : Option Addr} {n c : Nat} {l : List Int} (h : Sl w a n c l) (hr : InB l) (hn : n ≤ 100000) : Calls Tryz.prog 141 #[.slice a n c] w fun e w' => ReaR l w e w' := by
  rcases Nat.eq_zero_or_pos n with h0 | h0
  · have e : l = [] := List.eq_nil_of_length_eq_zero (by rw [h.len]; exact h0)
    subst e h0
    rcases h.rd with ⟨h1, _⟩ | ⟨x, cap, h1, _⟩
    · rw [h1]; exact read_none w
    · rw [h1]; exact read_zero x cap w
  · obtain ⟨b, off, rfl, _⟩ := h.some h0
    exact read_some h hr hn
def EncP (n : Nt) (w' : World) (B : Nat) (v : Value) (c : Int) : Prop := (n.ok = true ∧ c = 0 ∧ byE.Own w' B v n.bts) ∨ (n.ok = false ∧ c = 180 ∧ v = .slice none 0 0)
def EncR (n : Nt) (w : World) (e : Ending) (w' : World) : Prop := ∃ (v : Value) (c : Int), e = .returned (.tuple #[v, .int .i64 c]) ∧ EncP n w' w.heap.size v c ∧ Below w.heap.size w w'
theorem encode_any (k a b c : Int) (w : World) : Calls Tryz.prog 211 #[.agg #[.int .i64 k, .int .i64 a, .int .i64 b, .int .i64 c]] w fun e w' => EncR ⟨k, a, b, c⟩ w e w' := by
 cases h : (Nt.mk k a b c).ok with
 | true => exact (encode_yes k a b c w h).mono (by rintro e w' ⟨v, he, ho, hb⟩; exact ⟨v, 0, he, .inl ⟨h, rfl, ho⟩, hb⟩)
 | false => exact (encode_no k a b c w h).mono (by rintro e w' ⟨he, hb⟩; exact ⟨_, 180, he, .inr ⟨h, rfl, rfl⟩, hb⟩)
def WriP (ns : List Nt) (w' : World) (B : Nat) (v : Value) (c : Int) : Prop := ((∀ n ∈ ns, n.ok = true) ∧ c = 0 ∧ byE.Own w' B v (ns.flatMap Nt.bts)) ∨ ((∃ n ∈ ns, n.ok = false) ∧ c = 180 ∧ v = .slice none 0 0)
def WriR (ns : List Nt) (w : World) (e : Ending) (w' : World) : Prop := ∃ (v : Value) (c : Int), e = .returned (.tuple #[v, .int .i64 c]) ∧ WriP ns w' w.heap.size v c ∧ Below w.heap.size w w'
theorem flat_bts_len {ns : List Nt} (h : ∀ n ∈ ns, n.ok = true) : (ns.flatMap Nt.bts).length ≤ 19 * ns.length := by
 induction ns with
 | nil => simp
 | cons n ns ih =>
  have h1 := ih (fun m hm => h m (by simp [hm]))
  have h2 := bts_len5 (h n (by simp))
  rw [List.flatMap_cons, List.length_append, List.length_cons]
  omega
theorem flat_bts_in {ns : List Nt} (h : ∀ n ∈ ns, n.ok = true) : InB (ns.flatMap Nt.bts) := by
 intro z hz
 obtain ⟨n, hn, h'⟩ := List.mem_flatMap.1 hz
 exact bts_in (h n hn) z h'
set_option maxHeartbeats 2000000 in
theorem write_any {w : World} {a : Option Addr} {N c : Nat} {ns : List Nt} (h : ntE.Rd w (.slice a N c) ns) (hl : ns.length = N) (hN : N ≤ 10000) : Calls Tryz.prog 175 #[.slice a N c] w fun e w' => WriR ns w e w' := by
  have H := hide h
  have Hl := hide hl
  clear h hl
  go_enter Tryz.func175, Tryz.ntmps175
  go_wp2_with fail
  go_loopw [4, 11] (fun v i wr => Hid (∃ (j : Nat), j ≤ N ∧ i = .int .i64 j ∧ (∀ m ∈ ns.take j, m.ok = true) ∧ byE.Own wr w.heap.size v ((ns.take j).flatMap Nt.bts) ∧ Below w.heap.size w wr)) (fun _ i _ => N - (intOf i).toNat)
  case atStart => exact hide ⟨0, Nat.zero_le _, rfl, by simp, El.Own.nil _ _ _, Below.refl _ _⟩
  case round =>
    obtain ⟨j, hj, rfl, hok, ho, hb⟩ := hrel.out
    have Hok := hide hok
    clear hrel hok
    by_cases hlt : j < N
    · obtain ⟨m, hm⟩ : ∃ m, ns[j]? = some m := ⟨_, List.getElem?_eq_getElem (by rw [Hl.out]; exact hlt)⟩
      obtain ⟨b, off, rfl, c0, c1, c2, c3⟩ := nt_at (H.out.keep hb) j m hm
      obtain ⟨k, x, y, z⟩ := m
      have Hm := hide hm
      have ht : ns.take (j + 1) = ns.take j ++ [⟨k, x, y, z⟩] := by rw [List.take_add_one, hm]; rfl
      have Ht := hide ht
      clear hm ht
      have j1 : (j : Int) < (N : Int) := by omega
      have K10 := hide (encode_any k x y z)
      have hb1 := hb.alloc hb.size (.cells #[.int .i64 k, .int .i64 x, .int .i64 y, .int .i64 z] 101)
      have ho1 := ho.keep (below_new wr (.cells #[.int .i64 k, .int .i64 x, .int .i64 y, .int .i64 z] 101))
      go_upto_region 6 with (go_at_call 211; refine (K10.out _).mono ?_; rintro e W1 ⟨v, cc, rfl, henc, hb2⟩)
      clear c0 c1 c2 c3 K10
      generalize wr.alloc (.cells #[.int .i64 k, .int .i64 x, .int .i64 y, .int .i64 z] 101) = W0 at *
      rcases henc with ⟨hk, rfl, hov⟩ | ⟨hk, rfl, rfl⟩
      · have ho2 := ho1.keep hb2
        have hb3 := hb1.trans (hb2.mono hb1.size)
        have hrd := hov.rd
        have Hlen : Hid (((ns.take j).flatMap Nt.bts).length + (Nt.mk k x y z).bts.length ≤ 1000000) := hide (by
          have h1 := flat_bts_len Hok.out
          have h2 := bts_len5 hk
          have h3 : (ns.take j).length ≤ 10000 := by rw [List.length_take]; omega
          omega)
        have Hk := hide hk
        clear hov ho1 ho hb hb1 hb2 hk
        go_wp2_with (at_builtin; refine byE.wp hb3 (by rfl) _ _ rfl _ _ rfl rfl ((ns.take j).flatMap Nt.bts) (Nt.mk k x y z).bts ho2 hrd Hlen.out ?_; intro v1 w6 hown1 hg1 hs1 hb6; refine Hid.out ?_)
        refine hide ?_
        clear hg1 hs1
        go_wp2_with fail
        go_roundw
        case rel => exact hide ⟨j + 1, by omega, by go_num, by rw [Ht.out]; exact ok_more Hok.out Hk.out, by rw [Ht.out, List.flatMap_append, List.flatMap_singleton]; exact hown1, hb6⟩
        case measure => simp [intOf]; omega
      · go_wp2_with fail
        go_ret2
        exact ⟨_, _, rfl, .inr ⟨⟨⟨k, x, y, z⟩, List.mem_of_getElem? Hm.out, hk⟩, rfl, rfl⟩, hb1.trans (hb2.mono hb1.size)⟩
    · obtain rfl : j = N := by omega
      have hta : ns.take j = ns := List.take_of_length_le (by rw [Hl.out]; exact Nat.le_refl _)
      rw [hta] at Hok ho
      clear hta
      have j1 : ¬ ((j : Int) < (j : Int)) := by omega
      go_wp2_with fail
      go_ret2
      exact ⟨_, _, rfl, .inl ⟨Hok.out, rfl, ho⟩, hb⟩
structure Tp where
 A : Bool → List Int
 cn : Bool
 ar : Bool
 bd : Nat
 dd : Bool
def Tp.now (T : Tp) : List Int := T.A T.cn
def Tp.oth (T : Tp) : List Int := T.A (!T.cn)
def Tp.nw : Tp := ⟨fun _ => [], false, false, 0, false⟩
def Tp.can (T : Tp) (n : Nat) : Bool := !T.ar || decide (n ≤ T.bd)
def Tp.use (T : Tp) (n : Nat) : Tp := ⟨T.A, T.cn, T.ar, if T.ar = true then T.bd - n else T.bd, T.dd⟩
def Tp.setA (T : Tp) (s : Bool) (xs : List Int) : Tp := ⟨fun q => if q = s then xs else T.A q, T.cn, T.ar, T.bd, T.dd⟩
def Tp.die (T : Tp) : Tp := ⟨T.A, T.cn, T.ar, T.bd, true⟩
def Tp.put (T : Tp) (s : Bool) (bs : List Int) : Int × Tp := if T.can bs.length = true then (0, (T.use bs.length).setA s (T.A s ++ bs)) else (190, ((T.use T.bd).setA s (T.A s ++ bs.take T.bd)).die)
def Tp.cut (T : Tp) (s : Bool) (n : Nat) : Int × Tp := if (T.A s).length = n then (0, T) else if T.can 1 = true then (0, (T.use 1).setA s ((T.A s).take n)) else (190, T.die)
def Tp.app (T : Tp) (r : List Int) (ns : List Nt) : Int × Tp :=
 if T.dd = true then (190, T) else if ns.all Nt.ok = false then (180, T) else if r ≠ [] then (140, T) else if 65536 < T.now.length + tot ns then (5, T) else T.put T.cn (ns.flatMap Nt.bts)
def Tp.rep (T : Tp) (r : List Int) : Int × Int × Tp :=
 if T.dd = true then (0, 190, T) else if (T.cut T.cn (T.now.length - r.length)).1 = 0 then (r.length, 0, (T.cut T.cn (T.now.length - r.length)).2) else (0, 190, (T.cut T.cn (T.now.length - r.length)).2)
structure Tp.Ok (T : Tp) : Prop where
 inb : ∀ s, InB (T.A s)
 len : ∀ s, (T.A s).length ≤ 65536
 bud : T.bd ≤ 1099511627776
theorem Tp.Ok.nw : Tp.nw.Ok := ⟨fun _ => InB.nil, fun _ => by simp [Tp.nw], by simp [Tp.nw]⟩
theorem Tp.Ok.use {T : Tp} (h : T.Ok) (n : Nat) : (T.use n).Ok := ⟨h.inb, h.len, by
 have := h.bud
 unfold Tp.use
 simp only
 split <;> omega⟩
theorem Tp.Ok.setA {T : Tp} (h : T.Ok) (s : Bool) {xs : List Int} (hx : InB xs) (hl : xs.length ≤ 65536) : (T.setA s xs).Ok := ⟨fun q => by
  unfold Tp.setA
  simp only
  split
  · exact hx
  · exact h.inb q, fun q => by
  unfold Tp.setA
  simp only
  split
  · exact hl
  · exact h.len q, h.bud⟩
theorem Tp.Ok.die {T : Tp} (h : T.Ok) : T.die.Ok := ⟨h.inb, h.len, h.bud⟩
theorem use_zero (T : Tp) : T.use 0 = T := by
 unfold Tp.use
 simp
theorem use_use (T : Tp) (a b : Nat) : (T.use a).use b = T.use (a + b) := by
 unfold Tp.use
 cases T.ar <;> simp
 omega
theorem setA_at (T : Tp) (s : Bool) (xs : List Int) : (T.setA s xs).A s = xs := by simp [Tp.setA]
theorem setA_off (T : Tp) {s q : Bool} (h : q ≠ s) (xs : List Int) : (T.setA s xs).A q = T.A q := by simp [Tp.setA, h]
theorem setA_set (T : Tp) (s : Bool) (xs ys : List Int) : (T.setA s xs).setA s ys = T.setA s ys := by
 unfold Tp.setA
 congr 1
 funext q
 by_cases h : q = s <;> simp [h]
theorem setA_same (T : Tp) (s : Bool) : T.setA s (T.A s) = T := by
 unfold Tp.setA
 congr 1
 funext q
 by_cases h : q = s <;> simp [h]
theorem setA_use (T : Tp) (s : Bool) (xs : List Int) (n : Nat) : (T.setA s xs).use n = (T.use n).setA s xs := rfl
theorem use_A (T : Tp) (n : Nat) : (T.use n).A = T.A := rfl
theorem rds_ex (l : List Int) : ∃ ns r, NRds l ns r := by
  obtain ⟨n, hn⟩ : ∃ n, l.length = n := ⟨_, rfl⟩
  induction n using Nat.strongRecOn generalizing l with
  | _ n ih =>
    by_cases h : ∃ m, Fst l m
    · obtain ⟨m, hm, r, rfl⟩ := h
      have hp : m.bts ≠ [] := bts_pos m
      have hl : 0 < m.bts.length := List.length_pos_iff.2 hp
      rw [List.length_append] at hn
      obtain ⟨ns, s, q⟩ := ih r.length (by omega) r rfl
      exact ⟨m :: ns, s, by rw [List.flatMap_cons, List.append_assoc, ← q.eq], fun z hz => by
        rcases List.mem_cons.1 hz with rfl | hz
        · exact hm
        · exact q.ok z hz, q.no⟩
    · exact ⟨[], l, rds_nil (fun m hm => h ⟨m, hm⟩)⟩
open Go.RowKit
def Ar (w : World) (B : Nat) (v : Value) (xs : List Int) : Prop := byE.Own w B v xs ∨ ∃ g c ys, v = .slice (some ⟨g, 0, none⟩) xs.length xs.length ∧ byE.Own w B (.slice (some ⟨g, 0, none⟩) ys.length c) ys ∧ xs = ys.take xs.length
theorem Ar.nil (w : World) (B : Nat) : Ar w B (.slice none 0 0) [] := .inl (El.Own.nil _ _ _)
theorem Ar.lt {w : World} {B : Nat} {v : Value} {xs : List Int} (h : Ar w B v xs) (k : Nat) (hk : v.ownBlock = some k) : k < w.heap.size := by
  rcases h with h | ⟨g, c, ys, rfl, h, _⟩
  · exact h.lt k hk
  · exact h.lt k hk
theorem Ar.st {w w' : World} {B : Nat} {v : Value} {xs : List Int} (h : Ar w B v xs) (hs : ∀ k, v.ownBlock = some k → w'.heap[k]? = w.heap[k]?) : Ar w' B v xs := by
  rcases h with h | ⟨g, c, ys, rfl, h, e⟩
  · exact .inl (own_stay h fun g hg _ => hs g hg)
  · exact .inr ⟨g, c, ys, rfl, own_stay h fun g hg _ => hs g hg, e⟩
theorem Ar.rd {w : World} {B : Nat} {v : Value} {xs : List Int} (h : Ar w B v xs) : byE.Rd w v xs := by
  rcases h with h | ⟨g, c, ys, rfl, h, e⟩
  · exact h.rd
  · have hl : xs.length ≤ ys.length := by
      have := congrArg List.length e
      rw [List.length_take] at this
      omega
    have := h.rd.take xs.length hl
    rw [← e] at this
    rcases this with ⟨h1, _⟩ | ⟨x, c', h1, h2⟩
    · cases h1
    · simp only [Value.slice.injEq, Option.some.injEq] at h1
      obtain ⟨rfl, _, _⟩ := h1
      exact .inr ⟨_, _, rfl, h2⟩
theorem Ar.sl {w : World} {B : Nat} {v : Value} {xs : List Int} (h : Ar w B v xs) : ∃ a c, v = .slice a xs.length c ∧ Sl w a xs.length c xs := by
  have hr := h.rd
  rcases h with h | ⟨g, c, ys, rfl, h, e⟩
  · exact Sl.own h
  · exact ⟨_, _, rfl, hr, rfl, Nat.le_refl _⟩
theorem Ar.cut {w : World} {B g n c : Nat} {xs : List Int} (h : Ar w B (.slice (some ⟨g, 0, none⟩) n c) xs) (m : Nat) (hm : m ≤ xs.length) : Ar w B (.slice (some ⟨g, 0, none⟩) m m) (xs.take m) := by
  have hl : (xs.take m).length = m := by rw [List.length_take]; omega
  obtain ⟨a, c', e, _⟩ := h.sl
  rcases h with h | ⟨g', c, ys, e2, h, e3⟩
  · simp only [Value.slice.injEq] at e
    rw [e.2.1] at h
    exact .inr ⟨g, c, xs, by rw [hl], h, by rw [hl]⟩
  · simp only [Value.slice.injEq, Option.some.injEq, Addr.mk.injEq] at e2
    obtain ⟨⟨rfl, _⟩, _, _⟩ := e2
    refine .inr ⟨g, c, ys, by rw [hl], h, ?_⟩
    rw [hl, e3, List.take_take, Nat.min_eq_left hm]
theorem Ar.form {w : World} {B : Nat} {v : Value} {xs : List Int} (h : Ar w B v xs) (hne : xs ≠ []) : ∃ g c, v = .slice (some ⟨g, 0, none⟩) xs.length c ∧ xs.length ≤ c := by
  rcases h with h | ⟨g, c, ys, rfl, h, e⟩
  · obtain ⟨g, c, h1, h2, _⟩ := El.Own.some h hne
    exact ⟨g, c, h1, h2⟩
  · exact ⟨g, _, rfl, Nat.le_refl _⟩
theorem Ar.run {w : World} {B : Nat} {v : Value} {xs : List Int} (h : Ar w B v xs) (hB : B ≤ w.heap.size) {g1 : Nat} {x : Int} (hu : byE.Rd w (.slice (some ⟨g1, 0, none⟩) 1 1) [x]) (hn : xs.length ≤ 65536) (ty : TypeId) :
    ∃ v' w', (Builtin.append_ #[54, 54] ty #[v, .slice (some ⟨g1, 0, none⟩) 1 1]).run Tryz.prog w = .ok v' w' ∧ byE.Own w' B v' (xs ++ [x]) ∧ w.grownBy w' v.ownBlock ∧ (v'.ownBlock = v.ownBlock ∨ v'.ownBlock = some w.heap.size) := by
  have hrd := h.rd
  rcases h with h | ⟨g, c, ys, rfl, h, e⟩
  · exact byE.run h hB hu (by simp; omega) ty
  · obtain ⟨i, hi, he⟩ := Option.map_eq_some_iff.1 byE.info
    have e1 : i.zero = some byE.z := congrArg Prod.fst he
    have e2 : i.size = byE.k := congrArg (fun p => p.2.1) he
    have e3 : i.bytes = byE.by' := congrArg (fun p => p.2.2) he
    have e4 : i.size = 1 := e2
    have e5 : i.bytes = 1 := e3
    have hol : ∀ j u, (byE.fl xs)[j]? = some u → w.cell? ((⟨g, 0, none⟩ : Addr).add j) = some u := by
      intro j u hu
      rcases hrd with ⟨h1, _⟩ | ⟨a, c', h1, h2⟩
      · cases h1
      · simp only [Value.slice.injEq, Option.some.injEq] at h1
        obtain ⟨rfl, _, _⟩ := h1
        rw [h2 j ?_]
        · exact hu
        · have := idx_lt hu
          rw [byE.fl_len] at this
          exact this
    have hnw : ∀ j u, (byE.fl [x])[j]? = some u → w.cell? ((⟨g1, 0, none⟩ : Addr).add j) = some u := by
      intro j u hu'
      rcases hu with ⟨h1, _⟩ | ⟨a, c', h1, h2⟩
      · cases h1
      · simp only [Value.slice.injEq, Option.some.injEq] at h1
        obtain ⟨rfl, _, _⟩ := h1
        rw [h2 j ?_]
        · exact hu'
        · have := idx_lt hu'
          rw [byE.fl_len] at this
          exact this
    have hbytes : (xs.length + 1) * i.bytes ≤ 140737488355328 := by rw [e5]; omega
    have hr := run_append_grow (P := Tryz.prog) w 54 ty 5 i byE.z byE.ht hi e1 ⟨g, 0, none⟩ xs.length xs.length (byE.fl xs) (by rw [byE.fl_len, e2]) hol ⟨g1, 0, none⟩ 1 1 (byE.fl [x]) (by rw [e4]; rfl) hnw (by omega) (by omega) (growslice_fits (by omega) hbytes)
    have hge := grownCap_ge w (xs.length + 1) xs.length 5
    have hcm : grownCap w (xs.length + 1) xs.length 5 ≤ maxLen := grownCap_le_maxLen w (xs.length + 1) xs.length 5 (by unfold maxLen; omega)
    refine ⟨_, _, hr, ⟨?_, .inr ⟨w.heap.size, _, _, by rw [List.length_append]; rfl, hB, heap_alloc_new w.drew _, by rw [List.length_append]; exact hge, hcm, ?_, ?_⟩⟩, ⟨rfl, rfl, rfl, by simp, fun k hk _ => (below_new w.drew _).block k hk⟩, .inr rfl⟩
    · rw [byE.fl_len]
    · have hz : byE.z.cells.size = 1 := rfl
      have f1 := byE.fl_len xs
      have f2 := byE.fl_len [x]
      simp only [Array.size_append, List.size_toArray, size_zeroCells, hz, f1, f2]
      show xs.length * 1 + 1 * 1 + _ = _ * 1
      omega
    · simp only [Array.toList_append, List.append_assoc]
      rw [← List.append_assoc, byE.fl_app]
      have : (xs ++ [x]).length * byE.k = (byE.fl xs ++ byE.fl [x]).length := by rw [← byE.fl_app, byE.fl_len]
      rw [this]
      exact List.take_left
def It.area (B : Nat) (v : Value) (xs : List Int) : It where
 P w := Ar w B v xs
 f k := v.ownBlock = some k
 lt h k hk := h.lt k hk
 st h hs := h.st hs
section
variable {P : Program} {ops : Array Oper} {Q : Exit → Act → World → Prop} {md : Region.Mode} {S : World → Prop} {ex : Nat}
def linked (md : Region.Mode) (ops : Array Oper) : Nat → List Nat → Bool
 | _, [] => true
 | i, c :: C => waits md ops c i && linked md ops c C
def unlisted (listed : Array Bool) (C : List Nat) : Bool := C.all fun c => listed.getD c true == false
theorem not_ready_of_waits {listed : Array Bool} {i c : Nat} (hw : waits md ops c i = true) (hi : listed.getD i true = false) : c ∉ Region.ready md ops listed := by
  intro hc
  unfold waits at hw
  obtain ⟨_, oc, hoc, hall⟩ := mem_ready.1 hc
  rw [hoc] at hw
  simp only [Bool.and_eq_true, bne_iff_ne, ne_eq] at hw
  obtain ⟨h1, h2⟩ := hw
  rw [Array.any_eq_true] at h1
  obtain ⟨n, hn, h3⟩ := h1
  simp only [Bool.and_eq_true, beq_iff_eq] at h3
  have h4 := hall oc.after[n] (Array.getElem_mem hn) h3.1
  rw [h3.2] at h4
  rcases Nat.lt_or_ge i listed.size with h' | h'
  · simp [h'] at hi h4; rw [hi] at h4; cases h4
  · simp [Array.getElem?_eq_none h'] at h4
theorem not_ready_of_linked : ∀ (C : List Nat) {listed : Array Bool} {i : Nat}, linked md ops i C = true → listed.getD i true = false → unlisted listed C = true → ∀ c ∈ C, c ∉ Region.ready md ops listed
  | [], _, _, _, _, _, c, hc => by cases hc
  | d :: C, listed, i, hl, hi, hu, c, hc => by
    unfold linked at hl
    rw [Bool.and_eq_true] at hl
    unfold unlisted at hu
    rw [List.all_cons, Bool.and_eq_true] at hu
    rcases List.mem_cons.1 hc with rfl | hc
    · exact not_ready_of_waits hl.1 hi
    · exact not_ready_of_linked C hl.2 (by simpa using hu.1) hu.2 c hc
theorem wpAnyE_firstC {i : Nat} {oi : Oper} {v : Value} {C : List Nat} (hi : ops[i]? = some oi) (hsel : ∀ (j : Nat) (o : Oper) cs b, ops[j]? = some o → o.op ≠ .select cs b)
    (hQ : ∀ c a w, Q (.panic c) (a.put oi.dst v) w → Q (.panic c) a w) (hlk : linked md ops i C = true) (hex : ex ∈ C) (hie : i ≠ ex) :
    ∀ (fuel : Nat) (listed : Array Bool) (a : Act) (w : World), unlisted listed C = true →
      (∀ j oj, ops[j]? = some oj → j ≠ i → listed.getD j true = false → (∀ e ∈ oj.after, Region.binds md e = true → e.on ≠ i) → oi.apart ops oj = true) →
      i ∈ Region.ready md ops listed → YieldsIf P ops S oi v a → S w →
      wpAnyE P md ops Q S ex fuel (listed.setIfInBounds i true) (a.put oi.dst v) w → wpAnyE P md ops Q S ex (fuel + 1) listed a w := by
  intro fuel
  induction fuel with
  | zero =>
    intro listed a w _ _ hr hy hS H
    refine ⟨fun h => (by rw [h] at hr; cases hr), fun j hj => ?_⟩
    by_cases hji : j = i
    · subst hji; exact hy.wpOp hi hS ⟨fun _ => hS, H⟩
    · have := ready_mono hj hji
      rw [H.1] at this
      cases this
  | succ fuel ih =>
    intro listed a w hun hfree hr hy hS H
    refine ⟨fun h => (by rw [h] at hr; cases hr), fun j hj => ?_⟩
    by_cases hji : j = i
    · subst hji; exact hy.wpOp hi hS ⟨fun _ => hS, H⟩
    · have h1 := H.2 j (ready_mono hj hji)
      obtain ⟨hjun, oj, hoj, hall⟩ := mem_ready.1 hj
      have hnot : ∀ e ∈ oj.after, Region.binds md e = true → e.on ≠ i := fun e he hb heq => by
        have h1 := hall e he hb
        have h0 := (mem_ready.1 hr).1
        rw [heq] at h1
        rcases Nat.lt_or_ge i listed.size with h' | h'
        · simp [h'] at h0 h1; rw [h0] at h1; cases h1
        · simp [Array.getElem?_eq_none h'] at h1
      have hjC : j ∉ C := fun e => not_ready_of_linked C hlk (mem_ready.1 hr).1 hun j e hj
      have hjx : j ≠ ex := fun e => hjC (e ▸ hex)
      have h2 := wpOp_putIf hoj (hfree j oj hoj hji hjun hnot) (fun cs b => hsel i oi cs b hi) (fun cs b => hsel j oj cs b hoj) hQ hy h1
      have hun' : unlisted (listed.setIfInBounds j true) C = true := by
        unfold unlisted at hun ⊢
        rw [List.all_eq_true] at hun ⊢
        intro c hc
        have hjc : j ≠ c := fun e => hjC (e ▸ hc)
        rw [getD_set_ne true hjc]
        exact hun c hc
      have hfree' : ∀ k ok, ops[k]? = some ok → k ≠ i → (listed.setIfInBounds j true).getD k true = false →
          (∀ e ∈ ok.after, Region.binds md e = true → e.on ≠ i) → oi.apart ops ok = true := fun k ok hk hki hun hno => by
        refine hfree k ok hk hki ?_ hno
        by_cases hjk : j = k
        · subst hjk; exact hjun
        · rw [getD_set_ne true hjk] at hun; exact hun
      refine wpOp_mono (fun a' w' h3 => ⟨h3.2.1, ih (listed.setIfInBounds j true) a' w' hun' hfree' (ready_mono hr (Ne.symm hji)) h3.1 (h3.2.1 hjx) ?_⟩) h2
      rw [Array.setIfInBounds_comm _ _ hji]
      exact h3.2.2
theorem wpAnyE_takeC (C : List Nat) {i : Nat} {oi : Oper} {v : Value} {fuel : Nat} {listed : Array Bool} {a : Act} {w : World} (hi : ops[i]? = some oi)
  (hs : Region.noSelect ops = true) (hf : Region.free md ops listed i = true) (hr : (Region.ready md ops listed).contains i = true) (hlk : (linked md ops i C && unlisted listed C && C.contains ex && (i != ex)) = true)
  (hQ : ∀ c a w, Q (.panic c) (a.put oi.dst v) w → Q (.panic c) a w) (hy : YieldsIf P ops S oi v a) (hS : S w)
  (h : wpAnyE P md ops Q S ex fuel (listed.setIfInBounds i true) (a.put oi.dst v) w) : wpAnyE P md ops Q S ex (fuel + 1) listed a w := by
 simp only [Bool.and_eq_true, bne_iff_ne, ne_eq] at hlk
 obtain ⟨⟨⟨h1, h2⟩, h3⟩, h4⟩ := hlk
 exact wpAnyE_firstC hi (Region.noSelect_spec hs) hQ h1 (by simpa using h3) h4 fuel listed a w h2 (Region.free_spec hi hf) (by simpa using hr) hy hS h
end
open Go.RowKit
def bi (s : Bool) : Int := if s = true then 1 else 0
def bn (s : Bool) : Nat := if s = true then 1 else 0
def updH (H : Bool → Value) (s : Bool) (v : Value) : Bool → Value := fun q => if q = s then v else H q
def tcells (H : Bool → Value) (T : Tp) : Array Value := #[H false, H true, .int .i64 (bi T.cn), .bool T.ar, .int .i64 (T.bd : Int), .bool T.dd]
def tparts (B g : Nat) (H : Bool → Value) (T : Tp) : List It := [.area B (H false) (T.A false), .area B (H true) (T.A true), .box g (tcells H T) 82]
def It.tape (B g : Nat) (H : Bool → Value) (T : Tp) : It := .grp (.fact T.Ok :: tparts B g H T)
section
variable {w0 w w1 : World} {B g : Nat} {H : Bool → Value} {T : Tp} {l : List It}
theorem tp_ok (h : (It.tape B g H T).P w) : T.Ok := h.1 (.fact T.Ok) (by simp)
theorem tp_box (h : (It.tape B g H T).P w) : w.heap[g]? = some (.cells (tcells H T) 82) := h.1 (.box g (tcells H T) 82) (by simp [tparts])
theorem tp_ar (h : (It.tape B g H T).P w) (s : Bool) : Ar w B (H s) (T.A s) := by
  cases s
  · exact h.1 (.area B (H false) (T.A false)) (by simp [tparts])
  · exact h.1 (.area B (H true) (T.A true)) (by simp [tparts])
theorem tp_cells (h : (It.tape B g H T).P w) : w.cell? ⟨g, 0, none⟩ = some (H false) ∧ w.cell? ⟨g, 1, none⟩ = some (H true) ∧ w.cell? ⟨g, 2, none⟩ = some (.int .i64 (bi T.cn)) ∧ w.cell? ⟨g, 3, none⟩ = some (.bool T.ar) ∧ w.cell? ⟨g, 4, none⟩ = some (.int .i64 (T.bd : Int)) ∧ w.cell? ⟨g, 5, none⟩ = some (.bool T.dd) :=
 ⟨(cells_at (tp_box h) 0).1, (cells_at (tp_box h) 1).1, (cells_at (tp_box h) 2).1, (cells_at (tp_box h) 3).1, (cells_at (tp_box h) 4).1, (cells_at (tp_box h) 5).1⟩
theorem tp_frozen (h : (It.tape B g H T).P w) (i : Nat) : w.frozen? ⟨g, i, none⟩ = false := (cells_at (tp_box h) i).2
theorem Its.topen (h : Its w0 (.tape B g H T :: l) w) : Its w0 (tparts B g H T ++ l) w := h.opn.tail
theorem Its.tshut (h : Its w0 (tparts B g H T ++ l) w) (hok : T.Ok) : Its w0 (.tape B g H T :: l) w :=
 Its.shut (a := .fact T.Ok :: tparts B g H T) (h.new (x := .fact T.Ok) hok (fun k hk => hk.elim) (Below.refl _ _))
theorem Its.tcell (h : Its w0 (.tape B g H T :: l) w) {T' : Tp} (hA : T'.A = T.A) (hok : T'.Ok) (i : Nat) (u : Value) (he : (tcells H T).setIfInBounds i u = tcells H T') : Its w0 (.tape B g H T' :: l) (w.setCell ⟨g, i, none⟩ u) := by
 have h1 := (Its.rot3 h.topen).put i u
 rw [he] at h1
 have h2 := Its.rot3' h1
 rw [← hA] at h2
 exact Its.tshut h2 hok
theorem Its.tmid (h : Its w0 (.tape B g H T :: l) w) (s : Bool) {v' : Value} {xs : List Int} (ho : Ar w1 B v' xs) (hfr : Frm (fun k => (H s).ownBlock = some k) w w1) (hb : ∀ k, v'.ownBlock = some k → (H s).ownBlock = some k ∨ w.heap.size ≤ k) :
    Its w0 (.area B v' xs :: .area B (H !s) (T.A !s) :: .box g (tcells H T) 82 :: l) w1 := by
  cases s
  · exact Its.chg (x' := .area B v' xs) h.topen ho hb hfr
  · exact Its.chg (x' := .area B v' xs) (Its.swap h.topen) ho hb hfr
theorem Its.tend (s : Bool) {v' : Value} {xs : List Int} (h : Its w0 (.area B v' xs :: .area B (H !s) (T.A !s) :: .box g (tcells H T) 82 :: l) w1) (hok : T.Ok) (hx : InB xs) (hl : xs.length ≤ 65536) :
    Its w0 (.tape B g (updH H s v') (T.setA s xs) :: l) (w1.setCell ⟨g, bn s, none⟩ v') := by
  have hk := hok.setA s hx hl
  have h1 := Its.rot3' (h.rot3.put (bn s) v')
  cases s
  · exact Its.tshut h1 hk
  · exact Its.tshut h1.swap hk
theorem Its.tbox (s : Bool) {v' : Value} {xs : List Int} (h : Its w0 (.area B v' xs :: .area B (H !s) (T.A !s) :: .box g (tcells H T) 82 :: l) w1) : w1.heap[g]? = some (.cells (tcells H T) 82) := h.three
end
theorem app_step {w w' : World} {ops : Array Oper} {o : Oper} {a : Act} {K : Act → World → Prop} {Q : Exit → Act → World → Prop} {F : Prop} (hgd : o.guard = none) (s x : Operand)
  (ho : o.op = .call { callee := .builtin .append, args := #[s, x], argTypes := #[54, 54] }) (hty : o.type = 54) {v u v' : Value} (hs : a.eval s = v) (hx : a.eval x = u)
  (hr : (Builtin.append_ #[54, 54] 54 #[v, u]).run Tryz.prog w = .ok v' w') (h : K (a.put o.dst v') w') :
  if Region.wanted o (yielded ops a.tmps) = true then Oper.wp Tryz.prog o a w K Q else F := by
 have hw : Region.wanted o (yielded ops a.tmps) = true := by simp [Region.wanted, hgd]
 rw [if_pos hw]
 unfold Oper.wp execOp
 simp only [ho, hty, resolve, invoke, builtin, Sem.run_bind, Sem.run_pure, Result.andThen_ok, List.map_toArray, List.map_cons, List.map_nil, hs, hx, hr]
 exact h
set_option maxRecDepth 100000 in
set_option maxHeartbeats 1000000 in
theorem unit_put0 {w0 w : World} {g p3 p4 p8 : Nat} {H : Bool → Value} {T : Tp} {x : Int} {l : List It} (h : Its w0 (.tape w0.heap.size g H T :: .box p8 #[.int .u8 x] 5 :: .box p4 #[.int .i64 0] 3 :: .box p3 #[.pointer (some ⟨g, 0, none⟩)] 29 :: l) w) (hx : 0 ≤ x ∧ x ≤ 255) (hl : (T.A false).length < 65536) :
    Calls Tryz.prog 212 #[.pointer (some ⟨p3, 0, none⟩), .pointer (some ⟨p4, 0, none⟩), .pointer (some ⟨p8, 0, none⟩)] w fun e w' => e = .returned (.tuple #[]) ∧ ∃ H', Its w0 (.tape w0.heap.size g H' (T.setA false (T.A false ++ [x])) :: .box p8 #[.int .u8 x] 5 :: .box p4 #[.int .i64 0] 3 :: .box p3 #[.pointer (some ⟨g, 0, none⟩)] 29 :: l) w' := by
  have hb0 := tp_box h.one
  have hb8 : w.heap[p8]? = some (.cells #[.int .u8 x] 5) := h.two
  have hb4 : w.heap[p4]? = some (.cells #[.int .i64 0] 3) := h.three
  have hb3 : w.heap[p3]? = some (.cells #[.pointer (some ⟨g, 0, none⟩)] 29) := h.four
  have hok := tp_ok h.one
  obtain ⟨v, hv⟩ : ∃ v, H false = v := ⟨_, rfl⟩
  obtain ⟨SS, hSS⟩ : ∃ SS : World → Prop, SS = fun W => W.heap[g]? = some (.cells (tcells H T) 82) ∧ W.heap[p8]? = some (.cells #[.int .u8 x] 5) ∧ W.heap[p4]? = some (.cells #[.int .i64 0] 3) ∧ W.heap[p3]? = some (.cells #[.pointer (some ⟨g, 0, none⟩)] 29) := ⟨_, rfl⟩
  have s1 : ∀ W, SS W → W.cell? ⟨g, 0, none⟩ = some v := fun W hW => by
    rw [hSS] at hW
    rw [← hv]
    exact (cells_at hW.1 0).1
  have s2 : ∀ W, SS W → W.cell? ⟨p8, 0, none⟩ = some (.int .u8 x) := fun W hW => by
    rw [hSS] at hW
    exact (cells_at hW.2.1 0).1
  have s3 : ∀ W, SS W → W.cell? ⟨p4, 0, none⟩ = some (.int .i64 0) := fun W hW => by
    rw [hSS] at hW
    exact (cells_at hW.2.2.1 0).1
  have s4 : ∀ W, SS W → W.cell? ⟨p3, 0, none⟩ = some (.pointer (some ⟨g, 0, none⟩)) := fun W hW => by
    rw [hSS] at hW
    exact (cells_at hW.2.2.2 0).1
  have hS0 : SS w.drew := by rw [hSS]; exact ⟨hb0, hb8, hb4, hb3⟩
  have I1 := ((h.drew 1).alloc (.cells #[.int .u8 x] 5))
  have hS1 : SS (w.drew.alloc (.cells #[.int .u8 x] 5)) := by
    rw [hSS]
    exact ⟨tp_box I1.one, I1.two, I1.three, I1.four⟩
  have HA : Hid (∃ v' w', (Builtin.append_ #[54, 54] 54 #[v, .slice (some ⟨w.heap.size, 0, none⟩) 1 1]).run Tryz.prog (w.drew.alloc (.cells #[.int .u8 x] 5)) = .ok v' w' ∧ SS w' ∧ w'.frozen? ⟨g, 0, none⟩ = false ∧ w'.cell? ⟨g, 0, none⟩ = some v ∧ (∃ a c, v' = .slice a (T.A false ++ [x]).length c) ∧ ∃ H', Its w0 (.tape w0.heap.size g H' (T.setA false (T.A false ++ [x])) :: .box p8 #[.int .u8 x] 5 :: .box p4 #[.int .i64 0] 3 :: .box p3 #[.pointer (some ⟨g, 0, none⟩)] 29 :: l) (w'.setCell ⟨g, 0, none⟩ v')) := hide (by
    have ha := tp_ar I1.one false
    rw [hv] at ha
    obtain ⟨v', w', r1, r2, r3, r4⟩ := ha.run I1.size (by_new1 w.drew x _ rfl) (by omega) 57
    have I2 := I1.tmid false (.inl r2 : Ar w' _ v' _) (by rw [hv]; exact Frm.of_grown r3) (fun k hk => by
      rw [hv]
      rcases r4 with q | q
      · exact .inl (q ▸ hk)
      · rw [q] at hk
        cases hk
        exact .inr (Nat.le_refl _))
    have hgx := I2.tbox
    refine ⟨v', w', r1, ?_, (cells_at hgx 0).2, ?_, ?_, _, I2.tend false hok ((hok.inb false).append (InB.cons hx InB.nil)) (by rw [List.length_append]; simp; omega)⟩
    · rw [hSS]
      exact ⟨hgx, I2.all (.box p8 #[.int .u8 x] 5) (by simp), I2.all (.box p4 #[.int .i64 0] 3) (by simp), I2.all (.box p3 #[.pointer (some ⟨g, 0, none⟩)] 29) (by simp)⟩
    · rw [← hv]; exact (cells_at hgx 0).1
    · obtain ⟨a, c, e, _⟩ := Sl.own r2
      exact ⟨a, c, e⟩)
  obtain ⟨v', w', r1, hS2, f0, f1, ⟨a', c', rfl⟩, H', HE⟩ := HA.out
  have HE := hide HE
  obtain ⟨n', hn'⟩ : ∃ n', (T.A false ++ [x]).length = n' := ⟨_, rfl⟩
  rw [hn'] at r1 HE
  clear HA hn' hb0 hb8 hb4 hb3 hok hv hSS I1 h hx hl
  go_enter Tryz.func212, Tryz.ntmps212
  go_upto_region 0 with fail
  refine wp_region_E SS 14 (by kernel_rfl) ?_
  refine wpAnyE_take (i := 0) (v := .pointer (some ⟨g, 0, none⟩)) rfl (by kernel_rfl) (by kernel_rfl) (by kernel_rfl) (by kernel_rfl) (fun _ _ _ h => h) (Or.inl ⟨by rfl, fun W' hW => by have z0 := s4 W' hW; go_simp⟩) hS0 ?_
  refine wpAnyE_take (i := 1) (v := .int .i64 0) rfl (by kernel_rfl) (by kernel_rfl) (by kernel_rfl) (by kernel_rfl) (fun _ _ _ h => h) (Or.inl ⟨by rfl, fun W' hW => by have z0 := s3 W' hW; go_simp⟩) hS0 ?_
  refine wpAnyE_take (i := 2) (v := .pointer (some ⟨g, 0, none⟩)) rfl (by kernel_rfl) (by kernel_rfl) (by kernel_rfl) (by kernel_rfl) (fun _ _ _ h => h) (Or.inl ⟨by rfl, fun W' hW => by have z0 := s4 W' hW; go_simp⟩) hS0 ?_
  refine wpAnyE_take (i := 3) (v := .int .i64 0) rfl (by kernel_rfl) (by kernel_rfl) (by kernel_rfl) (by kernel_rfl) (fun _ _ _ h => h) (Or.inl ⟨by rfl, fun W' hW => by have z0 := s3 W' hW; go_simp⟩) hS0 ?_
  refine wpAnyE_take (i := 4) (v := .pointer (some ⟨g, 0, none⟩)) rfl (by kernel_rfl) (by kernel_rfl) (by kernel_rfl) (by kernel_rfl) (fun _ _ _ h => h) (Or.inl ⟨by rfl, fun W' hW => by go_simp⟩) hS0 ?_
  refine wpAnyE_take (i := 5) (v := .pointer (some ⟨g, 0, none⟩)) rfl (by kernel_rfl) (by kernel_rfl) (by kernel_rfl) (by kernel_rfl) (fun _ _ _ h => h) (Or.inl ⟨by rfl, fun W' hW => by go_simp⟩) hS0 ?_
  refine wpAnyE_take (i := 6) (v := .pointer (some ⟨g, 0, none⟩)) rfl (by kernel_rfl) (by kernel_rfl) (by kernel_rfl) (by kernel_rfl) (fun _ _ _ h => h) (Or.inl ⟨by rfl, fun W' hW => by go_simp⟩) hS0 ?_
  refine wpAnyE_take (i := 7) (v := v) rfl (by kernel_rfl) (by kernel_rfl) (by kernel_rfl) (by kernel_rfl) (fun _ _ _ h => h) (Or.inl ⟨by rfl, fun W' hW => by have z0 := s1 W' hW; go_simp⟩) hS0 ?_
  refine wpAnyE_take (i := 8) (v := .int .u8 x) rfl (by kernel_rfl) (by kernel_rfl) (by kernel_rfl) (by kernel_rfl) (fun _ _ _ h => h) (Or.inl ⟨by rfl, fun W' hW => by have z0 := s2 W' hW; go_simp⟩) hS0 ?_
  refine wpAnyE_takeC [12, 13, 14] (i := 11) (v := .pointer (some ⟨g, 0, none⟩)) rfl (by kernel_rfl) (by kernel_rfl) (by kernel_rfl) (by kernel_rfl) (fun _ _ _ h => h) (Or.inl ⟨by rfl, fun W' hW => by go_simp⟩) hS0 ?_
  refine wpAnyE_takeC [13, 14] (i := 12) (v := .pointer (some ⟨g, 0, none⟩)) rfl (by kernel_rfl) (by kernel_rfl) (by kernel_rfl) (by kernel_rfl) (fun _ _ _ h => h) (Or.inl ⟨by rfl, fun W' hW => by go_simp⟩) hS0 ?_
  refine wpAnyE_ready (rs := [9]) (by kernel_rfl) (by simp) ?_
  refine AllReadyE.cons rfl (fun K hK => ?_) AllReadyE.nil
  go_simp
  refine hK.out _ _ (fun _ => hS1) ?_
  clear hK K
  refine wpAnyE_ready (rs := [10]) (by kernel_rfl) (by simp) ?_
  refine AllReadyE.cons rfl (fun K hK => ?_) AllReadyE.nil
  refine app_step rfl _ _ rfl rfl rfl rfl r1 ?_
  refine hK.out _ _ (fun _ => hS2) ?_
  clear hK K
  refine wpAnyE_ready (rs := [13]) (by kernel_rfl) (by simp) ?_
  refine AllReadyE.cons rfl (fun K hK => ?_) AllReadyE.nil
  go_simp
  refine hK.out _ _ (fun _ => hS2) ?_
  clear hK K
  refine wpAnyE_ready (rs := [14]) (by kernel_rfl) (by simp) ?_
  refine AllReadyE.cons rfl (fun K hK => ?_) AllReadyE.nil
  go_simp
  refine hK.out _ _ (fun h => absurd rfl h) ?_
  clear hK K
  refine wpAnyE_done (by kernel_rfl) ?_ _
  go_wp2_with fail
  refine bodyPost_end (results_none rfl _ _ _) rfl ?_
  exact ⟨rfl, H', HE.out⟩
set_option maxRecDepth 100000 in
set_option maxHeartbeats 1000000 in
theorem unit_put1 {w0 w : World} {g p3 p4 p8 : Nat} {H : Bool → Value} {T : Tp} {x : Int} {l : List It} (h : Its w0 (.tape w0.heap.size g H T :: .box p8 #[.int .u8 x] 5 :: .box p4 #[.int .i64 1] 3 :: .box p3 #[.pointer (some ⟨g, 0, none⟩)] 29 :: l) w) (hx : 0 ≤ x ∧ x ≤ 255) (hl : (T.A true).length < 65536) :
    Calls Tryz.prog 212 #[.pointer (some ⟨p3, 0, none⟩), .pointer (some ⟨p4, 0, none⟩), .pointer (some ⟨p8, 0, none⟩)] w fun e w' => e = .returned (.tuple #[]) ∧ ∃ H', Its w0 (.tape w0.heap.size g H' (T.setA true (T.A true ++ [x])) :: .box p8 #[.int .u8 x] 5 :: .box p4 #[.int .i64 1] 3 :: .box p3 #[.pointer (some ⟨g, 0, none⟩)] 29 :: l) w' := by
  have hb0 := tp_box h.one
  have hb8 : w.heap[p8]? = some (.cells #[.int .u8 x] 5) := h.two
  have hb4 : w.heap[p4]? = some (.cells #[.int .i64 1] 3) := h.three
  have hb3 : w.heap[p3]? = some (.cells #[.pointer (some ⟨g, 0, none⟩)] 29) := h.four
  have hok := tp_ok h.one
  obtain ⟨v, hv⟩ : ∃ v, H true = v := ⟨_, rfl⟩
  obtain ⟨SS, hSS⟩ : ∃ SS : World → Prop, SS = fun W => W.heap[g]? = some (.cells (tcells H T) 82) ∧ W.heap[p8]? = some (.cells #[.int .u8 x] 5) ∧ W.heap[p4]? = some (.cells #[.int .i64 1] 3) ∧ W.heap[p3]? = some (.cells #[.pointer (some ⟨g, 0, none⟩)] 29) := ⟨_, rfl⟩
  have s1 : ∀ W, SS W → W.cell? ⟨g, 1, none⟩ = some v := fun W hW => by
    rw [hSS] at hW
    rw [← hv]
    exact (cells_at hW.1 1).1
  have s2 : ∀ W, SS W → W.cell? ⟨p8, 0, none⟩ = some (.int .u8 x) := fun W hW => by
    rw [hSS] at hW
    exact (cells_at hW.2.1 0).1
  have s3 : ∀ W, SS W → W.cell? ⟨p4, 0, none⟩ = some (.int .i64 1) := fun W hW => by
    rw [hSS] at hW
    exact (cells_at hW.2.2.1 0).1
  have s4 : ∀ W, SS W → W.cell? ⟨p3, 0, none⟩ = some (.pointer (some ⟨g, 0, none⟩)) := fun W hW => by
    rw [hSS] at hW
    exact (cells_at hW.2.2.2 0).1
  have hS0 : SS w.drew := by rw [hSS]; exact ⟨hb0, hb8, hb4, hb3⟩
  have I1 := ((h.drew 1).alloc (.cells #[.int .u8 x] 5))
  have hS1 : SS (w.drew.alloc (.cells #[.int .u8 x] 5)) := by
    rw [hSS]
    exact ⟨tp_box I1.one, I1.two, I1.three, I1.four⟩
  have HA : Hid (∃ v' w', (Builtin.append_ #[54, 54] 54 #[v, .slice (some ⟨w.heap.size, 0, none⟩) 1 1]).run Tryz.prog (w.drew.alloc (.cells #[.int .u8 x] 5)) = .ok v' w' ∧ SS w' ∧ w'.frozen? ⟨g, 1, none⟩ = false ∧ w'.cell? ⟨g, 1, none⟩ = some v ∧ (∃ a c, v' = .slice a (T.A true ++ [x]).length c) ∧ ∃ H', Its w0 (.tape w0.heap.size g H' (T.setA true (T.A true ++ [x])) :: .box p8 #[.int .u8 x] 5 :: .box p4 #[.int .i64 1] 3 :: .box p3 #[.pointer (some ⟨g, 0, none⟩)] 29 :: l) (w'.setCell ⟨g, 1, none⟩ v')) := hide (by
    have ha := tp_ar I1.one true
    rw [hv] at ha
    obtain ⟨v', w', r1, r2, r3, r4⟩ := ha.run I1.size (by_new1 w.drew x _ rfl) (by omega) 57
    have I2 := I1.tmid true (.inl r2 : Ar w' _ v' _) (by rw [hv]; exact Frm.of_grown r3) (fun k hk => by
      rw [hv]
      rcases r4 with q | q
      · exact .inl (q ▸ hk)
      · rw [q] at hk
        cases hk
        exact .inr (Nat.le_refl _))
    have hgx := I2.tbox
    refine ⟨v', w', r1, ?_, (cells_at hgx 1).2, ?_, ?_, _, I2.tend true hok ((hok.inb true).append (InB.cons hx InB.nil)) (by rw [List.length_append]; simp; omega)⟩
    · rw [hSS]
      exact ⟨hgx, I2.all (.box p8 #[.int .u8 x] 5) (by simp), I2.all (.box p4 #[.int .i64 1] 3) (by simp), I2.all (.box p3 #[.pointer (some ⟨g, 0, none⟩)] 29) (by simp)⟩
    · rw [← hv]; exact (cells_at hgx 1).1
    · obtain ⟨a, c, e, _⟩ := Sl.own r2
      exact ⟨a, c, e⟩)
  obtain ⟨v', w', r1, hS2, f0, f1, ⟨a', c', rfl⟩, H', HE⟩ := HA.out
  have HE := hide HE
  obtain ⟨n', hn'⟩ : ∃ n', (T.A true ++ [x]).length = n' := ⟨_, rfl⟩
  rw [hn'] at r1 HE
  clear HA hn' hb0 hb8 hb4 hb3 hok hv hSS I1 h hx hl
  go_enter Tryz.func212, Tryz.ntmps212
  go_upto_region 0 with fail
  refine wp_region_E SS 14 (by kernel_rfl) ?_
  refine wpAnyE_take (i := 0) (v := .pointer (some ⟨g, 0, none⟩)) rfl (by kernel_rfl) (by kernel_rfl) (by kernel_rfl) (by kernel_rfl) (fun _ _ _ h => h) (Or.inl ⟨by rfl, fun W' hW => by have z0 := s4 W' hW; go_simp⟩) hS0 ?_
  refine wpAnyE_take (i := 1) (v := .int .i64 1) rfl (by kernel_rfl) (by kernel_rfl) (by kernel_rfl) (by kernel_rfl) (fun _ _ _ h => h) (Or.inl ⟨by rfl, fun W' hW => by have z0 := s3 W' hW; go_simp⟩) hS0 ?_
  refine wpAnyE_take (i := 2) (v := .pointer (some ⟨g, 0, none⟩)) rfl (by kernel_rfl) (by kernel_rfl) (by kernel_rfl) (by kernel_rfl) (fun _ _ _ h => h) (Or.inl ⟨by rfl, fun W' hW => by have z0 := s4 W' hW; go_simp⟩) hS0 ?_
  refine wpAnyE_take (i := 3) (v := .int .i64 1) rfl (by kernel_rfl) (by kernel_rfl) (by kernel_rfl) (by kernel_rfl) (fun _ _ _ h => h) (Or.inl ⟨by rfl, fun W' hW => by have z0 := s3 W' hW; go_simp⟩) hS0 ?_
  refine wpAnyE_take (i := 4) (v := .pointer (some ⟨g, 0, none⟩)) rfl (by kernel_rfl) (by kernel_rfl) (by kernel_rfl) (by kernel_rfl) (fun _ _ _ h => h) (Or.inl ⟨by rfl, fun W' hW => by go_simp⟩) hS0 ?_
  refine wpAnyE_take (i := 5) (v := .pointer (some ⟨g, 0, none⟩)) rfl (by kernel_rfl) (by kernel_rfl) (by kernel_rfl) (by kernel_rfl) (fun _ _ _ h => h) (Or.inl ⟨by rfl, fun W' hW => by go_simp⟩) hS0 ?_
  refine wpAnyE_take (i := 6) (v := .pointer (some ⟨g, 1, none⟩)) rfl (by kernel_rfl) (by kernel_rfl) (by kernel_rfl) (by kernel_rfl) (fun _ _ _ h => h) (Or.inl ⟨by rfl, fun W' hW => by go_simp⟩) hS0 ?_
  refine wpAnyE_take (i := 7) (v := v) rfl (by kernel_rfl) (by kernel_rfl) (by kernel_rfl) (by kernel_rfl) (fun _ _ _ h => h) (Or.inl ⟨by rfl, fun W' hW => by have z0 := s1 W' hW; go_simp⟩) hS0 ?_
  refine wpAnyE_take (i := 8) (v := .int .u8 x) rfl (by kernel_rfl) (by kernel_rfl) (by kernel_rfl) (by kernel_rfl) (fun _ _ _ h => h) (Or.inl ⟨by rfl, fun W' hW => by have z0 := s2 W' hW; go_simp⟩) hS0 ?_
  refine wpAnyE_takeC [12, 13, 14] (i := 11) (v := .pointer (some ⟨g, 0, none⟩)) rfl (by kernel_rfl) (by kernel_rfl) (by kernel_rfl) (by kernel_rfl) (fun _ _ _ h => h) (Or.inl ⟨by rfl, fun W' hW => by go_simp⟩) hS0 ?_
  refine wpAnyE_takeC [13, 14] (i := 12) (v := .pointer (some ⟨g, 0, none⟩)) rfl (by kernel_rfl) (by kernel_rfl) (by kernel_rfl) (by kernel_rfl) (fun _ _ _ h => h) (Or.inl ⟨by rfl, fun W' hW => by go_simp⟩) hS0 ?_
  refine wpAnyE_ready (rs := [9]) (by kernel_rfl) (by simp) ?_
  refine AllReadyE.cons rfl (fun K hK => ?_) AllReadyE.nil
  go_simp
  refine hK.out _ _ (fun _ => hS1) ?_
  clear hK K
  refine wpAnyE_ready (rs := [10]) (by kernel_rfl) (by simp) ?_
  refine AllReadyE.cons rfl (fun K hK => ?_) AllReadyE.nil
  refine app_step rfl _ _ rfl rfl rfl rfl r1 ?_
  refine hK.out _ _ (fun _ => hS2) ?_
  clear hK K
  refine wpAnyE_ready (rs := [13]) (by kernel_rfl) (by simp) ?_
  refine AllReadyE.cons rfl (fun K hK => ?_) AllReadyE.nil
  go_simp
  refine hK.out _ _ (fun _ => hS2) ?_
  clear hK K
  refine wpAnyE_ready (rs := [14]) (by kernel_rfl) (by simp) ?_
  refine AllReadyE.cons rfl (fun K hK => ?_) AllReadyE.nil
  go_simp
  refine hK.out _ _ (fun h => absurd rfl h) ?_
  clear hK K
  refine wpAnyE_done (by kernel_rfl) ?_ _
  go_wp2_with fail
  refine bodyPost_end (results_none rfl _ _ _) rfl ?_
  exact ⟨rfl, H', HE.out⟩
end Go.Proofs.YtocmngpoemfpkabGreatDoor
