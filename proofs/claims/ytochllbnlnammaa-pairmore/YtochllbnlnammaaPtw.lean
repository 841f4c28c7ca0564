/- The law on stores and retrievals turned: the closure, the walk. -/
import Derived.Test.YtochllbnlnammaaPrt
import Derived.Test.YtochllbnlnammaaLag
namespace Go.Proofs.Ytochllbnlnammaa
open Go.RowKit
set_option linter.unusedVariables false

set_option maxRecDepth 100000 in
set_option maxHeartbeats 2000000 in
theorem turn_any (a : Option Addr) (n c : Nat) (L : List (Int × Int)) (x : Int) (g k : Nat) (w : World) (hn : L.length = n) (hl : n ≤ 100) (hv : spE.Rd w (.slice a n c) L) (hg : w.cell? ⟨g, 0, none⟩ = some (.int .i64 x)) (hx : wrap64 ((IntKind.u64.wrap x).tmod 7) = (k : Int)) (hk : (k : Int) < 7) :
    Calls Try.prog 20 #[.slice a n c, .pointer (some ⟨g, 0, none⟩)] w fun e w' => ∃ a' c', e = .returned (.slice a' n c') ∧ spE.Own w' w.heap.size (.slice a' n c') (rot L k) ∧ Below w.heap.size w w' := by
  obtain ⟨w0, rfl⟩ : ∃ w0, w0 = w := ⟨_, rfl⟩
  have Hn := hide hn
  have HV := hide hv
  have HG : Hid (∀ W, Below w0.heap.size w0 W → W.cell? ⟨g, 0, none⟩ = some (.int .i64 x)) := hide (fun W h => by rw [h.cell (p := ⟨g, 0, none⟩) (cell_lt hg)]; exact hg)
  have Hr : Hid ((rot L k).length = n) := hide (by rw [rot_len]; exact hn)
  have Hat : Hid (∀ i, i < n → (rot L k)[i]? = L[(i + k) % n]?) := hide (fun i hi => by rw [← hn] at hi ⊢; rw [rt_mod hi]; exact rot_at hi)
  have i0 : (n : Int) ≤ 100 := by omega
  have k0 : (0 : Int) ≤ (k : Int) := by omega
  clear hn hv hg hl
  go_enter Try.func20, Try.ntmps20
  go_upto_region 3 with fail
  go_loopw [4, 8] (fun v4 v8 wr => ∃ i : Nat, v8 = .int .i64 i ∧ i ≤ n ∧ Hid (Below w0.heap.size w0 wr) ∧ Hid (spE.Own wr w0.heap.size v4 ((rot L k).take i))) (fun _ v8 _ => n - (intOf v8).toNat)
  case atStart => exact ⟨0, rfl, Nat.zero_le _, hide (Below.refl _ _), hide (El.Own.nil _ _ _)⟩
  case round =>
    obtain ⟨i, rfl, hi, HB, HO⟩ := hrel
    by_cases hlt : i < n
    · obtain ⟨j, hj⟩ : ∃ j, (i + k) % n = j := ⟨_, rfl⟩
      have hjn : j < n := by rw [← hj]; exact Nat.mod_lt _ (by omega)
      obtain ⟨⟨x1, y1⟩, hp⟩ : ∃ p, L[j]? = some p := ⟨_, List.getElem?_eq_getElem (by rw [Hn.out]; exact hjn)⟩
      obtain ⟨b1, off1, rfl, c0, c1⟩ := sp_at (HV.out.keep HB.out) j _ hp
      have hs : (rot L k).take (i + 1) = (rot L k).take i ++ [(x1, y1)] := by rw [List.take_add_one, Hat.out i hlt, hj, hp]; rfl
      have Hs := hide hs
      have hm : ((i : Int) + (k : Int)).tmod (n : Int) = (j : Int) := by
        rw [← hj, Int.tmod_eq_emod_of_nonneg (by omega)]; simp
      have i1 : (0 : Int) ≤ (i : Int) := by omega
      have i2 : (i : Int) < (n : Int) := by omega
      have j0 : (0 : Int) ≤ (j : Int) := by omega
      have j1 : (j : Int) < (n : Int) := by omega
      have n0 : (n : Int) ≠ 0 := by omega
      have hgc := HG.out _ HB.out
      have HB1 : Hid (Below w0.heap.size w0 (wr.alloc (.cells #[.int .i64 x1, .int .i64 y1] 23))) := hide (HB.out.alloc HB.out.size _)
      have HO1 : Hid (spE.Own (wr.alloc (.cells #[.int .i64 x1, .int .i64 y1] 23)) w0.heap.size u4 ((rot L k).take i)) := hide (HO.out.keep ((Below.refl _ _).alloc (Nat.le_refl _) _))
      have HR1 : Hid (spE.Rd (wr.alloc (.cells #[.int .i64 x1, .int .i64 y1] 23)) (.slice (some ⟨wr.heap.size, 0, none⟩) 1 1) [(x1, y1)]) := hide (sp_new wr _ [(x1, y1)] rfl (by simp) _ 1 rfl rfl)
      have HL : Hid (((rot L k).take i).length + [(x1, y1)].length ≤ 1000000) := hide (by rw [List.length_take]; simp; omega)
      have e1 : wrap64 ((i : Int) + (k : Int)) = (i : Int) + (k : Int) := by unfold wrap64; omega
      clear hp hs hj
      go_wp2_with (at_builtin; refine spE.wp (w0 := w0) HB1.out (by rfl) _ _ rfl _ _ rfl rfl _ [(x1, y1)] HO1.out HR1.out HL.out ?_; intro v' w' ho _ _ hb; have HO2 := hide ho; have HB2 := hide hb; clear ho hb)
      go_roundw
      case rel => exact ⟨i + 1, by go_num, by omega, HB2, hide (by rw [Hs.out]; exact HO2.out)⟩
      case measure => simp [intOf] <;> omega
    · obtain rfl : i = n := by omega
      have i2 : ¬ (i : Int) < (i : Int) := by omega
      have HO1 : spE.Own wr w0.heap.size u4 (rot L k) := by have := HO.out; rwa [List.take_of_length_le (by rw [Hr.out]; exact Nat.le_refl _)] at this
      obtain ⟨a', c', e4⟩ := HO1.rd.form
      rw [Hr.out] at e4
      subst e4
      have HO2 := hide HO1
      clear HO1
      go_wp2_with fail
      go_ret
      exact ⟨_, _, rfl, HO2.out, HB.out⟩

/-- what Best tells, whatever the places -/
theorem best_tell (a b : Option Addr) (n c m d : Nat) (L M : List (Int × Int)) (w : World) (hn : L.length = n) (hm : M.length = m) (hv : spE.Rd w (.slice a n c) L) (hu : spE.Rd w (.slice b m d) M) :
    Calls Try.prog 16 #[.slice a n c, .slice b m d] w fun e w' => ∃ v, e = .returned (.tuple #[v, .int .i64 (if Alw L ∧ Alw M then cst L M (bst L M) else 0), .int .i64 (if Alw L ∧ Alw M then 0 else 1)]) ∧ Below w.heap.size w w' :=
  (best_any a b n c m d L M w hn hm hv hu).mono (by
    rintro e w' ⟨hb, ⟨h, rfl⟩ | ⟨h1, h2, a, c, rfl, _⟩⟩
    · rw [if_neg h, if_neg h]; exact ⟨_, rfl, hb⟩
    · rw [if_pos ⟨h1, h2⟩, if_pos ⟨h1, h2⟩]; exact ⟨_, rfl, hb⟩)

set_option maxRecDepth 100000 in
set_option maxHeartbeats 4000000 in
theorem turned_walk (a : Option Addr) (n c : Nat) (L : List (Int × Int)) (b : Option Addr) (m d : Nat) (M : List (Int × Int)) (x : Int) (w : World) (hn : L.length = n) (hv : spE.Rd w (.slice a n c) L) (q1 : n * 16 ≤ 140737488351232) (hm : M.length = m) (hu : spE.Rd w (.slice b m d) M) (q2 : m * 16 ≤ 140737488351232) :
    Calls Try.prog 7 #[.slice a n c, .slice b m d, .int .i64 x] w fun e w' => e = .returned (.bool true) ∧ Below w.heap.size w w' := by
  obtain ⟨w0, rfl⟩ : ∃ w0, w0 = w := ⟨_, rfl⟩
  have K9 := hide awake_any
  have x1 : (n : Int) ≤ 140737488351232 := by omega
  have x2 : (m : Int) ≤ 140737488351232 := by omega
  have HB0 : Hid (Below w0.heap.size w0 (w0.alloc (.cells #[.int .i64 x] 3))) := hide ((Below.refl _ _).alloc (Nat.le_refl _) _)
  have HG0 : Hid ((w0.alloc (.cells #[.int .i64 x] 3)).cell? ⟨w0.heap.size, 0, none⟩ = some (.int .i64 x)) := hide (cells_at (heap_new _ _) 0).1
  obtain ⟨g, hg⟩ : ∃ g, w0.heap.size = g := ⟨_, rfl⟩
  rw [hg] at HG0
  by_cases hbig : (n : Int) + (m : Int) > 100
  · clear hn hv hm hu q1 q2
    go_enter Try.func7, Try.ntmps7
    go_upto_region 1 with fail
    generalize w0.alloc (.cells #[.int .i64 x] 3) = W0 at *
    go_wp2_with (first
      | (go_at_call 9; refine (K9.out _).mono ?_; rintro e W1 ⟨rfl, hb⟩; first | (have HB2 := hide (HB1.out.trans (hb.mono HB1.out.size)); clear hb) | (have HB1 := hide (HB0.out.trans (hb.mono HB0.out.size)); clear hb)))
    go_ret
    exact ⟨rfl, HB2.out⟩
  have i0 : (n : Int) ≤ 100 := by omega
  have i1 : (m : Int) ≤ 100 := by omega
  obtain ⟨k, hk, hk7⟩ := few x 7 (by omega)
  have KA : Hid (∀ W, Below w0.heap.size w0 W → Calls Try.prog 13 #[.slice a n c] W fun e w' => ∃ g c', e = .returned (.slice g n c') ∧ spE.Own w' W.heap.size (.slice g n c') L ∧ Below W.heap.size W w') := hide (fun W h => own_any a n c L W hn (by omega) (hv.keep h))
  have KB : Hid (∀ W, Below w0.heap.size w0 W → Calls Try.prog 13 #[.slice b m d] W fun e w' => ∃ g c', e = .returned (.slice g m c') ∧ spE.Own w' W.heap.size (.slice g m c') M ∧ Below W.heap.size W w') := hide (fun W h => own_any b m d M W hm (by omega) (hu.keep h))
  have KTA : Hid (∀ W, Below w0.heap.size w0 W → W.cell? ⟨g, 0, none⟩ = some (.int .i64 x) → Calls Try.prog 20 #[.slice a n c, .pointer (some ⟨g, 0, none⟩)] W fun e w' => ∃ g c', e = .returned (.slice g n c') ∧ spE.Own w' W.heap.size (.slice g n c') (rot L k) ∧ Below W.heap.size W w') := hide (fun W h hc => turn_any a n c L x g k W hn (by omega) (hv.keep h) hc hk hk7)
  have KTB : Hid (∀ W, Below w0.heap.size w0 W → W.cell? ⟨g, 0, none⟩ = some (.int .i64 x) → Calls Try.prog 20 #[.slice b m d, .pointer (some ⟨g, 0, none⟩)] W fun e w' => ∃ g c', e = .returned (.slice g m c') ∧ spE.Own w' W.heap.size (.slice g m c') (rot M k) ∧ Below W.heap.size W w') := hide (fun W h hc => turn_any b m d M x g k W hm (by omega) (hu.keep h) hc hk hk7)
  have K16 : Hid (∀ W a1 c1 b1 d1, spE.Rd W (.slice a1 n c1) L → spE.Rd W (.slice b1 m d1) M → _) := hide (fun W a1 c1 b1 d1 h1 h2 => best_tell a1 b1 n c1 m d1 L M W hn hm h1 h2)
  have K16t : Hid (∀ W a1 c1 b1 d1, spE.Rd W (.slice a1 n c1) (rot L k) → spE.Rd W (.slice b1 m d1) (rot M k) → _) := hide (fun W a1 c1 b1 d1 h1 h2 => best_tell a1 b1 n c1 m d1 (rot L k) (rot M k) W (by rw [rot_len]; exact hn) (by rw [rot_len]; exact hm) h1 h2)
  have K16s : Hid (∀ W a1 c1 b1 d1, spE.Rd W (.slice b1 m d1) M → spE.Rd W (.slice a1 n c1) L → _) := hide (fun W a1 c1 b1 d1 h1 h2 => best_tell b1 a1 m d1 n c1 M L W hm hn h1 h2)
  have e1 : wrap64 ((n : Int) + (m : Int)) = (n : Int) + (m : Int) := by unfold wrap64; omega
  have HGk : Hid (∀ W W', Below W.heap.size W W' → W.cell? ⟨g, 0, none⟩ = some (.int .i64 x) → W'.cell? ⟨g, 0, none⟩ = some (.int .i64 x)) := hide (fun W W' h hc => by rw [h.cell (p := ⟨g, 0, none⟩) (cell_lt hc)]; exact hc)
  have hrot : (Alw L ∧ Alw M) → (Alw (rot L k) ∧ Alw (rot M k)) := fun h => ⟨rot_alw h.1 k, rot_alw h.2 k⟩
  have hc1 := cst_rot L M k
  have hc2 := cst_swap L M
  clear hn hv hm hu q1 q2 x1 x2 hk hk7
  by_cases hok : Alw L ∧ Alw M
  · simp only [if_pos hok] at K16
    simp only [if_pos (hrot hok), hc1] at K16t
    simp only [if_pos (And.intro hok.2 hok.1), hc2] at K16s
    generalize cst L M (bst L M) = nn at *
    clear hok hrot hc1 hc2
    go_enter Try.func7, Try.ntmps7
    go_upto_region 1 with fail
    try rw [hg]
    generalize w0.alloc (.cells #[.int .i64 x] 3) = W0 at *
    clear hg
    go_upto_region 3 with (go_at_call 9; refine (K9.out _).mono ?_; rintro e W1 ⟨rfl, hb⟩; have Hc := hide (HGk.out _ _ hb HG0.out); have Hb := hide (HB0.out.trans (hb.mono HB0.out.size)); clear hb)
    clear e1
    go_upto_region 6 with (first
      | (go_at_call_of 13 (Value.slice a n c); refine (KA.out _ Hb.out).mono ?_; rintro e W2 ⟨ga, ca, rfl, ho, hb⟩; have HA := hide ho.rd; have Hc := hide (HGk.out _ _ hb Hc.out); have Hb := hide (Hb.out.trans (hb.mono Hb.out.size)); clear ho hb)
      | (go_at_call_of 13 (Value.slice b m d); refine (KB.out _ Hb.out).mono ?_; rintro e W3 ⟨gb, cb, rfl, ho, hb⟩; have HA := hide (HA.out.keep hb); have HM := hide ho.rd; have Hc := hide (HGk.out _ _ hb Hc.out); have Hb := hide (Hb.out.trans (hb.mono Hb.out.size)); clear ho hb)
      | (go_at_call 16; refine (K16.out _ _ _ _ _ HA.out HM.out).mono ?_; rintro e W4 ⟨v4, rfl, hb⟩; have Hc := hide (HGk.out _ _ hb Hc.out); have Hb := hide (Hb.out.trans (hb.mono Hb.out.size)); clear hb))
    go_upto_region 8 with (first
      | (go_at_call_of 20 (Value.slice a n c); refine (KTA.out _ Hb.out Hc.out).mono ?_; rintro e W5 ⟨ga, ca, rfl, ho, hb⟩; have HA := hide ho.rd; have Hc := hide (HGk.out _ _ hb Hc.out); have Hb := hide (Hb.out.trans (hb.mono Hb.out.size)); clear ho hb)
      | (go_at_call_of 20 (Value.slice b m d); refine (KTB.out _ Hb.out Hc.out).mono ?_; rintro e W6 ⟨gb, cb, rfl, ho, hb⟩; have HA := hide (HA.out.keep hb); have HM := hide ho.rd; have Hc := hide (HGk.out _ _ hb Hc.out); have Hb := hide (Hb.out.trans (hb.mono Hb.out.size)); clear ho hb)
      | (go_at_call 16; refine (K16t.out _ _ _ _ _ HA.out HM.out).mono ?_; rintro e W7 ⟨v7, rfl, hb⟩; have Hb := hide (Hb.out.trans (hb.mono Hb.out.size)); clear hb))
    go_wp2_with (first
      | (go_at_call_of 13 (Value.slice b m d); refine (KB.out _ Hb.out).mono ?_; rintro e W8 ⟨gb, cb, rfl, ho, hb⟩; have HM := hide ho.rd; have Hb := hide (Hb.out.trans (hb.mono Hb.out.size)); clear ho hb)
      | (go_at_call_of 13 (Value.slice a n c); refine (KA.out _ Hb.out).mono ?_; rintro e W9 ⟨ga, ca, rfl, ho, hb⟩; have HM := hide (HM.out.keep hb); have HA := hide ho.rd; have Hb := hide (Hb.out.trans (hb.mono Hb.out.size)); clear ho hb)
      | (go_at_call 16; refine (K16s.out _ _ _ _ _ HM.out HA.out).mono ?_; rintro e W10 ⟨v10, rfl, hb⟩; have Hb := hide (Hb.out.trans (hb.mono Hb.out.size)); clear hb))
    go_ret
    exact ⟨rfl, Hb.out⟩
  · simp only [if_neg hok] at K16
    clear hok hrot hc1 hc2 K16t K16s
    go_enter Try.func7, Try.ntmps7
    go_upto_region 1 with fail
    try rw [hg]
    generalize w0.alloc (.cells #[.int .i64 x] 3) = W0 at *
    clear hg
    go_upto_region 3 with (go_at_call 9; refine (K9.out _).mono ?_; rintro e W1 ⟨rfl, hb⟩; have Hb := hide (HB0.out.trans (hb.mono HB0.out.size)); clear hb)
    clear e1
    go_wp2_with (first
      | (go_at_call_of 13 (Value.slice a n c); refine (KA.out _ Hb.out).mono ?_; rintro e W2 ⟨ga, ca, rfl, ho, hb⟩; have HA := hide ho.rd; have Hb := hide (Hb.out.trans (hb.mono Hb.out.size)); clear ho hb)
      | (go_at_call_of 13 (Value.slice b m d); refine (KB.out _ Hb.out).mono ?_; rintro e W3 ⟨gb, cb, rfl, ho, hb⟩; have HA := hide (HA.out.keep hb); have HM := hide ho.rd; have Hb := hide (Hb.out.trans (hb.mono Hb.out.size)); clear ho hb)
      | (go_at_call 16; refine (K16.out _ _ _ _ _ HA.out HM.out).mono ?_; rintro e W4 ⟨v4, rfl, hb⟩; have Hb := hide (Hb.out.trans (hb.mono Hb.out.size)); clear hb))
    go_ret
    exact ⟨rfl, Hb.out⟩
end Go.Proofs.Ytochllbnlnammaa
