/- ref; the document's Stuck and Ring. -/
import Derived.Test.YtmmkfcmbmecleaaZrf
import Derived.Deep.RegionHeld3
import Derived.Deep.CutBlock
namespace Go.Proofs.Ytmmkfcmbmecleaa
open Go.RowKit
set_option linter.unusedVariables false

set_option maxRecDepth 100000 in
set_option maxHeartbeats 4000000 in
theorem ref_any (a : Option Addr) (c n : Nat) (hs : List Hl) (w : World) (hn : hs.length = n) (hv : Hds hvE w (.slice a n c) hs) (hl : n ≤ 1000) :
    Calls Try.prog 25 #[.slice a n c] w fun e w' => (∃ a' c', e = .returned (.slice a' n c') ∧ Hds rvE w' (.slice a' n c') hs) ∧ Below w.heap.size w w' := by
  obtain ⟨vs, h1, h2⟩ := hv
  have hvn : vs.length = n := by rw [h2.1]; exact hn
  have H1 := hide h1
  have H2 := hide h2
  have Hn := hide hn
  have Hvn := hide hvn
  have i0 : (n : Int) ≤ 1000 := by omega
  obtain ⟨w0, rfl⟩ : ∃ w0, w0 = w := ⟨_, rfl⟩
  clear h1 h2 hn hvn
  go_enter Try.func25, Try.ntmps25
  go_wp2_with fail
  go_loopw [3, 7] (fun v3 v7 wr => ∃ k : Nat, v7 = .int .i64 k ∧ k ≤ n ∧ Hid (Below w0.heap.size w0 wr) ∧ Hid (rvE.Own wr w0.heap.size v3 (vs.take k))) (fun _ v7 _ => n - (intOf v7).toNat)
  case atStart => exact ⟨0, rfl, Nat.zero_le _, hide (Below.refl _ _), hide (El.Own.nil _ _ _)⟩
  case round =>
    obtain ⟨k, rfl, hk, HB, HO⟩ := hrel
    by_cases hlt : k < n
    · obtain ⟨p, hp⟩ : ∃ p, vs[k]? = some p := ⟨_, List.getElem?_eq_getElem (by rw [Hvn.out]; exact hlt)⟩
      obtain ⟨b, off, rfl, hcc⟩ := H1.out.at k p hp
      have c0 : w0.cell? ⟨b, off + k * 2, none⟩ = some (.slice p.a p.l p.c) := hcc 0 (by decide)
      have c1 : w0.cell? ⟨b, off + k * 2 + 1, none⟩ = some (.int .i64 p.want) := hcc 1 (by decide)
      have j0 : (0 : Int) ≤ (k : Int) := by omega
      have j1 : (k : Int) < (n : Int) := by omega
      have Hstep : Hid (vs.take (k + 1) = vs.take k ++ [p]) := hide (by rw [List.take_add_one, hp]; rfl)
      have Hl : Hid ((vs.take k).length + [p].length ≤ 1000000) := hide (by rw [List.length_take, Hvn.out]; simp; omega)
      obtain ⟨pa, pl, pc, pw⟩ := p
      simp only at c0 c1
      obtain ⟨S0, hS0⟩ : ∃ S : World → Prop, ∀ W, S W ↔ (W.cell? ⟨b, off + k * 2, none⟩ = some (.slice pa pl pc) ∧ W.cell? ⟨b, off + k * 2 + 1, none⟩ = some (.int .i64 pw)) := ⟨_, fun _ => Iff.rfl⟩
      have SD : Hid (∀ W, S0 W → W.cell? ⟨b, off + k * 2, none⟩ = some (.slice pa pl pc) ∧ W.cell? ⟨b, off + k * 2 + 1, none⟩ = some (.int .i64 pw)) := hide (fun W h => (hS0 W).1 h)
      have SI : Hid (∀ W, Below w0.heap.size w0 W → S0 W) := hide (fun W hb => (hS0 W).2 ⟨by rw [hb.cell (p := ⟨b, off + k * 2, none⟩) (cell_lt c0)]; exact c0, by rw [hb.cell (p := ⟨b, off + k * 2 + 1, none⟩) (cell_lt c1)]; exact c1⟩)
      have Hba : Hid (∀ (o : Obj), Below wr.heap.size wr (wr.drew.alloc o)) := hide (fun o => ((Below.refl _ _).drew).alloc (Nat.le_refl _) o)
      have HBa : Hid (∀ (o : Obj), Below w0.heap.size w0 (wr.drew.alloc o)) := hide (fun o => HB.out.trans ((Hba.out o).mono HB.out.size))
      have HOa : Hid (∀ (o : Obj), rvE.Own (wr.drew.alloc o) w0.heap.size u3 (vs.take k)) := hide (fun o => HO.out.keep (Hba.out o))
      have HNw : Hid (rvE.Rd (wr.drew.alloc (.cells #[.slice pa pl pc, .int .i64 pw] 75)) (.slice (some ⟨wr.heap.size, 0, none⟩) 1 1) [⟨pa, pl, pc, pw⟩]) := hide ((El.Own.new rvE wr.drew 0 (Nat.zero_le _) _ [⟨pa, pl, pc, pw⟩] rfl (by simp) _ _ _ rfl rfl rfl).rd)
      have HRefl : Hid (S0 wr.drew) := hide (SI.out _ HB.out.drew)
      clear hp hcc hS0 c0 c1
      go_upto_region 5 with fail
      refine wp_region_held_drew (S := S0) (by kernel_rfl) (HRefl.out) (fun hS0 => ?_)
      refine wpAnyH_take (i := 0) (v := u3) rfl (by kernel_rfl) (by kernel_rfl) (by kernel_rfl) (fun _ _ _ h => h) (Or.inl ⟨by rfl, fun W' hW => by go_simp⟩) hS0 ?_
      refine wpAnyH_take (i := 1) (v := .slice (some ⟨b, off, none⟩) n c) rfl (by kernel_rfl) (by kernel_rfl) (by kernel_rfl) (fun _ _ _ h => h) (Or.inl ⟨by rfl, fun W' hW => by go_simp⟩) hS0 ?_
      refine wpAnyH_take (i := 2) (v := .int .i64 (k : Int)) rfl (by kernel_rfl) (by kernel_rfl) (by kernel_rfl) (fun _ _ _ h => h) (Or.inl ⟨by rfl, fun W' hW => by go_simp⟩) hS0 ?_
      refine wpAnyH_take (i := 3) (v := .pointer (some ⟨b, off + k * 2, none⟩)) rfl (by kernel_rfl) (by kernel_rfl) (by kernel_rfl) (fun _ _ _ h => h) (Or.inl ⟨by rfl, fun W' hW => by go_simp⟩) hS0 ?_
      refine wpAnyH_take (i := 4) (v := .pointer (some ⟨b, off + k * 2, none⟩)) rfl (by kernel_rfl) (by kernel_rfl) (by kernel_rfl) (fun _ _ _ h => h) (Or.inl ⟨by rfl, fun W' hW => by go_simp⟩) hS0 ?_
      refine wpAnyH_take (i := 5) (v := .slice pa pl pc) rfl (by kernel_rfl) (by kernel_rfl) (by kernel_rfl) (fun _ _ _ h => h) (Or.inl ⟨by rfl, fun W' hW => by obtain ⟨z0, z1⟩ := SD.out W' hW; go_simp⟩) hS0 ?_
      refine wpAnyH_take (i := 6) (v := .slice (some ⟨b, off, none⟩) n c) rfl (by kernel_rfl) (by kernel_rfl) (by kernel_rfl) (fun _ _ _ h => h) (Or.inl ⟨by rfl, fun W' hW => by go_simp⟩) hS0 ?_
      refine wpAnyH_take (i := 7) (v := .int .i64 (k : Int)) rfl (by kernel_rfl) (by kernel_rfl) (by kernel_rfl) (fun _ _ _ h => h) (Or.inl ⟨by rfl, fun W' hW => by go_simp⟩) hS0 ?_
      refine wpAnyH_take (i := 8) (v := .pointer (some ⟨b, off + k * 2, none⟩)) rfl (by kernel_rfl) (by kernel_rfl) (by kernel_rfl) (fun _ _ _ h => h) (Or.inl ⟨by rfl, fun W' hW => by go_simp⟩) hS0 ?_
      refine wpAnyH_take (i := 9) (v := .pointer (some ⟨b, off + k * 2 + 1, none⟩)) rfl (by kernel_rfl) (by kernel_rfl) (by kernel_rfl) (fun _ _ _ h => h) (Or.inl ⟨by rfl, fun W' hW => by go_simp⟩) hS0 ?_
      refine wpAnyH_take (i := 10) (v := .int .i64 pw) rfl (by kernel_rfl) (by kernel_rfl) (by kernel_rfl) (fun _ _ _ h => h) (Or.inl ⟨by rfl, fun W' hW => by obtain ⟨z0, z1⟩ := SD.out W' hW; go_simp⟩) hS0 ?_
      refine wpAnyH_take (i := 11) (v := .agg #[.slice pa pl pc, .int .i64 pw]) rfl (by kernel_rfl) (by kernel_rfl) (by kernel_rfl) (fun _ _ _ h => h) (Or.inl ⟨by rfl, fun W' hW => by go_simp⟩) hS0 ?_
      refine wpAnyH_ready (rs := [12]) (by kernel_rfl) (by simp) ?_
      refine AllReadyH.cons rfl (fun K hK => ?_) AllReadyH.nil
      go_simp
      refine hK.out _ _ (SI.out _ (HBa.out _)) (fun hS1 => ?_)
      clear hK K
      refine wpAnyH_ready (rs := [13]) (by kernel_rfl) (by simp) ?_
      refine AllReadyH.cons rfl (fun K hK => ?_) AllReadyH.nil
      refine rvE.step (w0 := w0) (HBa.out _) rfl _ _ rfl _ _ rfl rfl (vs.take k) [⟨pa, pl, pc, pw⟩] (HOa.out _) HNw.out Hl.out ?_
      intro v' w' ho' hg' hs' hb'
      have HO2 := hide ho'
      have HB2 := hide hb'
      refine hK.out _ _ (SI.out _ hb') (fun hS2 => ?_)
      clear hK K ho' hg' hs' hb'
      refine wpAnyH_ready (rs := [14]) (by kernel_rfl) (by simp) ?_
      refine AllReadyH.cons rfl (fun K hK => ?_) AllReadyH.nil
      go_simp
      refine hK.out _ _ hS2 (fun _ => ?_)
      clear hK K
      refine wpAnyH_done (by kernel_rfl) ?_ _
      go_wp2_with fail
      go_roundw
      case rel => exact ⟨k + 1, by go_num, by omega, HB2, hide (by rw [Hstep.out]; exact HO2.out)⟩
      case measure => simp [intOf]; omega
    · obtain rfl : k = n := by omega
      have j1 : ¬ (k : Int) < (k : Int) := by omega
      obtain ⟨ra, rc, hf⟩ := HO.out.rd.form
      have ht : vs.take k = vs := List.take_of_length_le (by rw [Hvn.out]; omega)
      rw [ht, Hvn.out] at hf
      subst hf
      have Hfin : Hid (Hds rvE wr (.slice ra k rc) hs) := hide ⟨vs, by have := HO.out.rd; rw [ht] at this; exact this, H2.out.keep HB.out⟩
      clear ht
      go_wp2_with fail
      go_ret
      exact ⟨⟨_, _, rfl, Hfin.out⟩, HB.out⟩
end Go.Proofs.Ytmmkfcmbmecleaa
