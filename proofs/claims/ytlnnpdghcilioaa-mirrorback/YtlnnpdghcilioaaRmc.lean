/- The document's list without a place. -/
import Derived.Test.YtlnnpdghcilioaaRmb
namespace Go.Proofs.Ytlnnpdghcilioaa
open Go.RowKit
set_option linter.unusedVariables false
set_option maxRecDepth 100000 in
set_option maxHeartbeats 2000000 in
theorem without_any {w0 w : World} {l : List It} {a : Option Addr} {n p : Nat} {xs : List Td} (j : Nat) (h : Its w0 (.row tdE w0.heap.size (.slice a n p) xs :: l) w) (hn : xs.length = n) (hj : j < n) (h64 : n ≤ 1000) {nx : Nat} (hnx : (xs.take j ++ xs.drop (j + 1)).length = nx) :
    Calls Try.prog 53 #[.slice a n p, .int .i64 (j : Int)] w fun e w' => ∃ a' c', e = .returned (.slice a' nx c') ∧ Its w0 (.row tdE w0.heap.size (.slice a' nx c') (xs.take j ++ xs.drop (j + 1)) :: .row tdE w0.heap.size (.slice a n p) xs :: l) w' := by
  obtain ⟨w1, rfl⟩ : ∃ w1, w1 = w := ⟨_, rfl⟩
  obtain ⟨gb, c3, hv, hle, hmx⟩ := El.Own.some h.one (fun e => by rw [e] at hn; simp at hn; omega)
  simp only [Value.slice.injEq] at hv
  obtain ⟨rfl, hn7, rfl⟩ := hv
  rw [← hn7] at hle
  unfold maxLen at hmx
  have HI := hide h
  have Hn := hide hn
  have HLn3 : Hid (([] ++ xs.take j ++ xs.drop (j + 1)).length = nx) := hide (by rw [List.nil_append]; exact hnx)
  have t1 : (0 : Int) ≤ (j : Int) := by omega
  have t2 : (j : Int) < (n : Int) := by omega
  have t3 : (j : Int) ≤ (p : Int) := by omega
  have t4 : (j : Int) + 1 ≤ (n : Int) := by omega
  have t5 : (n : Int) ≤ (p : Int) := by omega
  have t6 : IntKind.i64.wrap ((j : Int) + 1) = (j : Int) + 1 := by simp [IntKind.wrap, IntKind.bits, IntKind.signed]; omega
  have t7 : (0 : Int) ≤ (j : Int) + 1 := by omega
  obtain ⟨pv, hpv⟩ : ∃ pv : Option Addr, (if p = j + 1 then some ⟨gb, 0, none⟩ else some ⟨gb, (j + 1) * 3, none⟩) = pv := ⟨_, rfl⟩
  have HRd1 : Hid (∀ W, tdE.Rd W (.slice (some ⟨gb, 0, none⟩) n p) xs → tdE.Rd W (.slice (some ⟨gb, 0, none⟩) j p) (xs.take j) ∧ tdE.Rd W (.slice pv (n - (j + 1)) (p - (j + 1))) (xs.drop (j + 1))) := hide (fun W ho => by
    refine ⟨ho.take j (by rw [Hn.out]; omega), ?_⟩
    by_cases e : p = j + 1
    · rw [if_pos e] at hpv
      subst hpv
      have e2 : xs.drop (j + 1) = [] := List.drop_eq_nil_of_le (by rw [Hn.out]; omega)
      rw [e2]
      exact .inr ⟨_, _, by rw [show n - (j + 1) = ([] : List Td).length by simp; omega], fun q hq => by simp at hq⟩
    · rw [if_neg e] at hpv
      subst hpv
      have := El.Rd.drop (cap' := p - (j + 1)) ho (j + 1) (n - (j + 1)) (by rw [Hn.out]) (by rw [Hn.out]; omega)
      simpa [tdE] using this)
  have HLn1 : Hid (([] : List Td).length + (xs.take j).length ≤ 1000000) := hide (by simp; rw [Hn.out]; omega)
  have HLn2 : Hid (([] ++ xs.take j).length + (xs.drop (j + 1)).length ≤ 1000000) := hide (by simp; rw [Hn.out]; omega)
  clear hn7 h hnx
  go_enter Try.func53, Try.ntmps53
  go_upto_region 1 with fail
  have HIn : Hid (Its w0 _ (w1.alloc (.cells #[] 79)).drew) := hide ((HI.out.fresh (El.Own.new tdE w1 w1.heap.size (Nat.le_refl _) #[] [] rfl (by simp) w1.heap.size 0 0 rfl rfl rfl) (below_new w1 _)).drew 1)
  refine wp_region_held_drew (S := fun _ => True) (by kernel_rfl) trivial (fun hS0 => ?_)
  refine wpAnyH_take (i := 1) (v := .slice (some ⟨gb, 0, none⟩) n p) rfl (by kernel_rfl) (by kernel_rfl) (by kernel_rfl) (fun _ _ _ h => h) (Or.inl ⟨by rfl, fun W' hW => by go_simp⟩) trivial ?_
  refine wpAnyH_take (i := 2) (v := .int .i64 j) rfl (by kernel_rfl) (by kernel_rfl) (by kernel_rfl) (fun _ _ _ h => h) (Or.inl ⟨by rfl, fun W' hW => by go_simp⟩) trivial ?_
  refine wpAnyH_take (i := 3) (v := .slice (some ⟨gb, 0, none⟩) j p) rfl (by kernel_rfl) (by kernel_rfl) (by kernel_rfl) (fun _ _ _ h => h) (Or.inl ⟨by rfl, fun W' hW => by go_simp⟩) trivial ?_
  refine wpAnyH_take (i := 5) (v := .slice (some ⟨gb, 0, none⟩) n p) rfl (by kernel_rfl) (by kernel_rfl) (by kernel_rfl) (fun _ _ _ h => h) (Or.inl ⟨by rfl, fun W' hW => by go_simp⟩) trivial ?_
  refine wpAnyH_take (i := 6) (v := .int .i64 j) rfl (by kernel_rfl) (by kernel_rfl) (by kernel_rfl) (fun _ _ _ h => h) (Or.inl ⟨by rfl, fun W' hW => by go_simp⟩) trivial ?_
  refine wpAnyH_take (i := 7) (v := .int .i64 ((j : Int) + 1)) rfl (by kernel_rfl) (by kernel_rfl) (by kernel_rfl) (fun _ _ _ h => h) (Or.inl ⟨by rfl, fun W' hW => by go_simp⟩) trivial ?_
  refine wpAnyH_take (i := 8) (v := .slice pv (n - (j + 1)) (p - (j + 1))) rfl (by kernel_rfl) (by kernel_rfl) (by kernel_rfl) (fun _ _ _ h => h) (Or.inl ⟨by rfl, fun W' hW => by go_simp⟩) trivial ?_
  refine wpAnyH_ready (rs := [0]) (by kernel_rfl) (by simp) ?_
  refine AllReadyH.cons rfl (fun K hK => ?_) AllReadyH.nil
  go_simp
  refine hK.out _ _ trivial (fun _ => ?_)
  clear hK K
  refine wpAnyH_ready (rs := [4]) (by kernel_rfl) (by simp) ?_
  refine AllReadyH.cons rfl (fun K hK => ?_) AllReadyH.nil
  refine tdE.step (w0 := w0) HIn.out.bel rfl _ _ rfl _ _ rfl rfl [] (xs.take j) HIn.out.one (HRd1.out _ (El.Own.rd HIn.out.two)).1 HLn1.out ?_
  intro vz4 Wz4 ho4 hg4 hs4 hb4
  have HIz4 := hide (HIn.out.grow ho4 hg4 hs4)
  refine hK.out _ _ trivial (fun _ => ?_)
  clear hK K ho4 hg4 hs4 hb4
  refine wpAnyH_ready (rs := [9]) (by kernel_rfl) (by simp) ?_
  refine AllReadyH.cons rfl (fun K hK => ?_) AllReadyH.nil
  refine tdE.step (w0 := w0) HIz4.out.bel rfl _ _ rfl _ _ rfl rfl ([] ++ xs.take j) (xs.drop (j + 1)) HIz4.out.one (HRd1.out _ (El.Own.rd HIz4.out.two)).2 HLn2.out ?_
  intro vz5 Wz5 ho5 hg5 hs5 hb5
  have HIz5 := hide (HIz4.out.grow ho5 hg5 hs5)
  obtain ⟨az5, cz5, e5⟩ := ho5.rd.form
  rw [HLn3.out] at e5
  subst e5
  refine hK.out _ _ trivial (fun _ => ?_)
  clear hK K ho5 hg5 hs5 hb5
  refine wpAnyH_ready (rs := [10]) (by kernel_rfl) (by simp) ?_
  refine AllReadyH.cons rfl (fun K hK => ?_) AllReadyH.nil
  go_simp
  refine hK.out _ _ trivial (fun _ => ?_)
  clear hK K
  refine wpAnyH_done (by kernel_rfl) ?_ _
  have HE := hide HIz5.out
  rw [List.nil_append] at HE
  clear HIz4 HIz5 HIn HI
  go_wp2_with fail
  go_ret
  exact ⟨_, _, rfl, HE.out⟩

end Go.Proofs.Ytlnnpdghcilioaa
