/- The law on costs. -/
import Derived.Test.YtochllbnlnammaaPrs
import Derived.Test.YtochllbnlnammaaPlw
namespace Go.Proofs.Ytochllbnlnammaa
open Go.RowKit
set_option linter.unusedVariables false

set_option maxRecDepth 100000 in
set_option maxHeartbeats 4000000 in
theorem costs_walk (a : Option Addr) (n c : Nat) (L : List (Int × Int)) (b : Option Addr) (m d : Nat) (M : List (Int × Int)) (p : Option Addr) (k c' : Nat) (ps : List Int) (w : World) (hn : L.length = n) (hv : spE.Rd w (.slice a n c) L) (q1 : n * 16 ≤ 140737488351232) (hm : M.length = m) (hu : spE.Rd w (.slice b m d) M) (q2 : m * 16 ≤ 140737488351232) (hk : ps.length = k) (hq : intE.Rd w (.slice p k c') ps) (q3 : k * 8 ≤ 140737488351232) :
    Calls Try.prog 4 #[.slice a n c, .slice b m d, .slice p k c'] w fun e w' => e = .returned (.bool true) ∧ Below w.heap.size w w' := by
  obtain ⟨w0, rfl⟩ : ∃ w0, w0 = w := ⟨_, rfl⟩
  have K9 := hide awake_any
  have x1 : (n : Int) ≤ 140737488351232 := by omega
  have x2 : (m : Int) ≤ 140737488351232 := by omega
  have x3 : (k : Int) ≤ 140737488351232 := by omega
  by_cases hbig : (n : Int) + (m : Int) + (k : Int) > 100
  · clear hn hv hm hu hk hq q1 q2 q3
    go_enter Try.func4, Try.ntmps4
    go_wp2_with (first
      | (go_at_call 9; refine (K9.out _).mono ?_; rintro e W1 ⟨rfl, hb⟩; first | (have HB2 := hide (HB1.out.trans (hb.mono HB1.out.size)); clear hb) | (have HB1 := hide hb; clear hb)))
    go_ret
    exact ⟨rfl, HB2.out⟩
  have n1 : n ≤ 100 := by omega
  have m1 : m ≤ 100 := by omega
  have k1 : k ≤ 100 := by omega
  have i0 : (n : Int) ≤ 100 := by omega
  have i1 : (m : Int) ≤ 100 := by omega
  have i2 : (k : Int) ≤ 100 := by omega
  have KA : Hid (∀ W, Below w0.heap.size w0 W → Calls Try.prog 13 #[.slice a n c] W fun e w' => ∃ g c', e = .returned (.slice g n c') ∧ spE.Own w' W.heap.size (.slice g n c') L ∧ Below W.heap.size W w') := hide (fun W h => own_any a n c L W hn (by omega) (hv.keep h))
  have KB : Hid (∀ W, Below w0.heap.size w0 W → Calls Try.prog 13 #[.slice b m d] W fun e w' => ∃ g c', e = .returned (.slice g m c') ∧ spE.Own w' W.heap.size (.slice g m c') M ∧ Below W.heap.size W w') := hide (fun W h => own_any b m d M W hm (by omega) (hu.keep h))
  have RA : Hid (∀ W, Below w0.heap.size w0 W → Calls Try.prog 15 #[.slice a n c] W fun e w' => ∃ g c', e = .returned (.slice g n c') ∧ rsE.Own w' W.heap.size (.slice g n c') L ∧ Below W.heap.size W w') := hide (fun W h => ref_any a n c L W hn (by omega) (hv.keep h))
  have RB : Hid (∀ W, Below w0.heap.size w0 W → Calls Try.prog 15 #[.slice b m d] W fun e w' => ∃ g c', e = .returned (.slice g m c') ∧ rsE.Own w' W.heap.size (.slice g m c') M ∧ Below W.heap.size W w') := hide (fun W h => ref_any b m d M W hm (by omega) (hu.keep h))
  have K12 : Hid (∀ W a1 c1 b1 d1 p1 c2, spE.Rd W (.slice a1 n c1) L → spE.Rd W (.slice b1 m d1) M → intE.Rd W (.slice p1 k c2) ps → k ≤ c2 → Calls Try.prog 12 #[.slice a1 n c1, .slice b1 m d1, .slice p1 k c2] W (CostP L M ps W)) := hide (fun W a1 c1 b1 d1 p1 c2 h1 h2 h4 h5 => cost_any a1 b1 p1 n c1 m d1 k c2 L M ps W hn hm hk h1 h2 h4 h5 (by omega))
  have K14 : Hid (∀ W a1 c1 b1 d1 p1 c2, rsE.Rd W (.slice a1 n c1) L → rsE.Rd W (.slice b1 m d1) M → intE.Rd W (.slice p1 k c2) ps → Calls Try.prog 14 #[.slice a1 n c1, .slice b1 m d1, .slice p1 k c2] W (CostP L M ps W)) := hide (fun W a1 c1 b1 d1 p1 c2 h1 h2 h4 => rcost_any a1 b1 p1 n c1 m d1 k c2 L M ps W hn hm hk n1 m1 k1 h1 h2 h4)
  unfold CostP at K12 K14
  have HQ := hide hq
  have Hk := hide hk
  generalize cstN L M ps = cN at *
  generalize cstC L M ps = cC at *
  clear hn hv hm hu hk hq q1 q2 q3 x1 x2 x3
  have e1 : wrap64 ((n : Int) + (m : Int)) = (n : Int) + (m : Int) := by unfold wrap64; omega
  have e2 : wrap64 ((n : Int) + (m : Int) + (k : Int)) = (n : Int) + (m : Int) + (k : Int) := by unfold wrap64; omega
  go_enter Try.func4, Try.ntmps4
  go_upto_region 3 with (go_at_call 9; refine (K9.out _).mono ?_; rintro e W1 ⟨rfl, hb⟩; have Hb := hide hb; clear hb)
  clear e1 e2
  go_upto_region 4 with (first
    | (go_at_call_of 13 (Value.slice a n c); refine (KA.out _ Hb.out).mono ?_; rintro e W8 ⟨ga, ca, rfl, ho, hb⟩; have HA := hide ho.rd; have Hb := hide (Hb.out.trans (hb.mono Hb.out.size)); clear ho hb)
    | (go_at_call_of 13 (Value.slice b m d); refine (KB.out _ Hb.out).mono ?_; rintro e W9 ⟨gb, cb, rfl, ho, hb⟩; have HA := hide (HA.out.keep hb); have HG := hide ho.rd; have Hb := hide (Hb.out.trans (hb.mono Hb.out.size)); clear ho hb)
    | (at_builtin; refine intE.wp (w0 := W9) ((Below.refl _ _).alloc (Nat.le_refl _) _) (by rfl) _ _ rfl _ _ rfl rfl [] ps (El.Own.new intE W9 W9.heap.size (Nat.le_refl _) #[] [] rfl (by decide) _ _ _ rfl rfl rfl) ((HQ.out.keep Hb.out).keep ((Below.refl _ _).alloc (Nat.le_refl _) _)) (by rw [Hk.out]; simp; omega) ?_; intro v' w' ho _ _ hb; obtain ⟨gp, cp, e8, hcp⟩ := own_form ho; rw [List.nil_append, Hk.out] at e8 hcp; subst e8; have HPs := hide ho.rd; have Hcp := hide hcp; have HA := hide (HA.out.keep hb); have HG := hide (HG.out.keep hb); have Hb := hide (Hb.out.trans (hb.mono Hb.out.size)); clear ho hb hcp)
    | (go_at_call 12; refine (K12.out _ _ _ _ _ _ _ HA.out HG.out HPs.out Hcp.out).mono ?_; rintro e W10 ⟨rfl, hb⟩; have Hb := hide (Hb.out.trans (hb.mono Hb.out.size)); clear hb))
  clear HA HG HPs
  go_wp2_with (first
    | (go_at_call_of 15 (Value.slice a n c); refine (RA.out _ Hb.out).mono ?_; rintro e W11 ⟨gr, cr, rfl, ho, hb⟩; have HA := hide ho.rd; have Hb := hide (Hb.out.trans (hb.mono Hb.out.size)); clear ho hb)
    | (go_at_call_of 15 (Value.slice b m d); refine (RB.out _ Hb.out).mono ?_; rintro e W12 ⟨gs, cs, rfl, ho, hb⟩; have HA := hide (HA.out.keep hb); have HG := hide ho.rd; have Hb := hide (Hb.out.trans (hb.mono Hb.out.size)); clear ho hb)
    | (go_at_call 14; refine (K14.out _ _ _ _ _ _ _ HA.out HG.out (HQ.out.keep Hb.out)).mono ?_; rintro e W13 ⟨rfl, hb⟩; have Hb := hide (Hb.out.trans (hb.mono Hb.out.size)); clear hb))
  go_ret
  exact ⟨rfl, Hb.out⟩
end Go.Proofs.Ytochllbnlnammaa
