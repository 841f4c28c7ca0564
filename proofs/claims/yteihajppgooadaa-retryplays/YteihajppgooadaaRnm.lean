/- The document's Numbers; the law's own comparison of what is sent. -/
import Derived.Test.YteihajppgooadaaRtk
namespace Go.Proofs.Yteihajppgooadaa
open Go.RowKit
set_option linter.unusedVariables false

theorem row_other {α : Type} {E : El Try.prog α} {w w' : World} {B g : Nat} {C : Array Value} {t : TypeId} {v : Value} {xs : List α} (h : E.Own w B v xs) (hb : w.heap[g]? = some (.cells C t)) (ht : t ≠ E.e) (hg : w.grownBy w' v.ownBlock) : w'.heap[g]? = some (.cells C t) := by
  rw [hg.block g (heap_lt hb) (fun e => by
    obtain ⟨cur, hc, _⟩ := own_cells h g e.symm
    rw [hb] at hc; simp only [Option.some.injEq, Obj.cells.injEq] at hc; exact ht hc.2.1)]
  exact hb

set_option maxRecDepth 100000 in
set_option maxHeartbeats 4000000 in
theorem rnums_any (win pause times first count : Int) (av : Option Addr) (cv : Nat) (d : Bool) (ps : List Rp) (w : World) (hv : rE.Rd w (.slice av ps.length cv) ps) (hl : ps.length ≤ 1000) (hf : 0 ≤ first ∧ first ≤ 65535) (hs : ∀ p ∈ ps, 0 ≤ p.n ∧ p.n ≤ 1000000) :
    Calls Try.prog 24 #[.agg #[.int .i64 win, .int .i64 pause, .int .i64 times, .int .u16 first, .int .i64 count, .slice av ps.length cv, .bool d]] w fun e w' => ∃ v, e = .returned v ∧ u16sE.Own w' w.heap.size v (ps.map (fun p => sq first p.n)) ∧ Below w.heap.size w w' := by
  obtain ⟨n, hn⟩ : ∃ n, ps.length = n := ⟨_, rfl⟩
  rw [hn] at hl hv ⊢
  have hb0 := box_new w (.cells #[.int .i64 win, .int .i64 pause, .int .i64 times, .int .u16 first, .int .i64 count, .slice av n cv, .bool d] 33)
  have hB : Below w.heap.size w (w.alloc (.cells #[.int .i64 win, .int .i64 pause, .int .i64 times, .int .u16 first, .int .i64 count, .slice av n cv, .bool d] 33)) := (Below.refl _ _).alloc (Nat.le_refl _) _
  have Hn := hide hn
  have Hv := hide hv
  have Hs := hide hs
  have Hf := hide hf
  have hl2 : (n : Int) ≤ 1000 := by omega
  obtain ⟨g, hg⟩ : ∃ g, w.heap.size = g := ⟨_, rfl⟩
  have Hg := hide hg
  have Hb0 := hide hb0
  have HB := hide hB
  rw [hg] at Hb0
  have k5 := (cells_at Hb0.out 5).1
  simp at k5
  clear hb0 hB hn hv hs hl hf
  go_enter Try.func24, Try.ntmps24
  go_upto_region 1 with fail
  clear hg
  generalize w.alloc (.cells #[.int .i64 win, .int .i64 pause, .int .i64 times, .int .u16 first, .int .i64 count, .slice av n cv, .bool d] 33) = W0 at *
  go_wp2_with fail
  go_loopw [3, 8] (fun v3 v8 wr => ∃ k : Nat, k ≤ n ∧ v8 = .int .i64 k ∧ Hid (u16sE.Own wr w.heap.size v3 ((ps.take k).map (fun p => sq first p.n))) ∧ Hid (Below w.heap.size w wr) ∧ Hid (wr.heap[g]? = some (.cells #[.int .i64 win, .int .i64 pause, .int .i64 times, .int .u16 first, .int .i64 count, .slice av n cv, .bool d] 33))) (fun _ v8 _ => n - (intOf v8).toNat)
  case atStart => exact ⟨0, by omega, rfl, hide (by simpa using El.Own.nil _ _ _), HB, Hb0⟩
  case round =>
    clear HB Hb0 k5
    obtain ⟨k, hk, rfl, Ho, HB, Hb⟩ := hrel
    by_cases hlt : k < n
    · obtain ⟨p, hp⟩ : ∃ p, ps[k]? = some p := ⟨_, List.getElem?_eq_getElem (by rw [Hn.out]; exact hlt)⟩
      obtain ⟨b, off, rfl, _⟩ := rd_at (Hv.out.keep HB.out) k p hp
      have j0 : (0 : Int) ≤ (k : Int) := by omega
      have j1 : (k : Int) < (n : Int) := by omega
      have Hp := hide hp
      have Hne : Hid ((ps.take (k + 1)).map (fun p => sq first p.n) = (ps.take k).map (fun p => sq first p.n) ++ [sq first p.n]) := hide (by rw [List.take_add_one, Hp.out, List.map_append]; rfl)
      have Hlen : Hid (((ps.take k).map (fun p => sq first p.n)).length ≤ 1000) := hide (by rw [List.length_map, List.length_take]; omega)
      have hpn := Hs.out p (List.mem_of_getElem? hp)
      have K32 := hide (fun W' => seq_any win pause times first count p.n (.slice (some ⟨b, off, none⟩) n cv) d W' Hf.out hpn)
      clear hp hpn
      generalize (ps.take k).map (fun p => sq first p.n) = xs at *
      generalize sq first p.n = x at *
      obtain ⟨SS, hSS⟩ : ∃ SS : World → Prop, SS = fun W' => W'.heap[g]? = some (.cells #[.int .i64 win, .int .i64 pause, .int .i64 times, .int .u16 first, .int .i64 count, .slice (some ⟨b, off, none⟩) n cv, .bool d] 33) ∧ rE.Rd W' (.slice (some ⟨b, off, none⟩) n cv) ps := ⟨_, rfl⟩
      have sc0 : ∀ W', SS W' → W'.cell? ⟨g, 0, none⟩ = some (.int .i64 win) := fun W' h => by rw [hSS] at h; exact (cells_at h.1 0).1
      have sc1 : ∀ W', SS W' → W'.cell? ⟨g, 1, none⟩ = some (.int .i64 pause) := fun W' h => by rw [hSS] at h; exact (cells_at h.1 1).1
      have sc2 : ∀ W', SS W' → W'.cell? ⟨g, 2, none⟩ = some (.int .i64 times) := fun W' h => by rw [hSS] at h; exact (cells_at h.1 2).1
      have sc3 : ∀ W', SS W' → W'.cell? ⟨g, 3, none⟩ = some (.int .u16 first) := fun W' h => by rw [hSS] at h; exact (cells_at h.1 3).1
      have sc4 : ∀ W', SS W' → W'.cell? ⟨g, 4, none⟩ = some (.int .i64 count) := fun W' h => by rw [hSS] at h; exact (cells_at h.1 4).1
      have sc5 : ∀ W', SS W' → W'.cell? ⟨g, 5, none⟩ = some (.slice (some ⟨b, off, none⟩) n cv) := fun W' h => by rw [hSS] at h; exact (cells_at h.1 5).1
      have sc6 : ∀ W', SS W' → W'.cell? ⟨g, 6, none⟩ = some (.bool d) := fun W' h => by rw [hSS] at h; exact (cells_at h.1 6).1
      have sr : ∀ W', SS W' → W'.cell? ⟨b, off + k * 4, none⟩ = some (.int .i64 p.n) := fun W' h => by
        rw [hSS] at h
        obtain ⟨b', off', e, h1, _⟩ := rd_at h.2 k p Hp.out
        cases e
        exact h1
      have FS : Hid (∀ W', Below w.heap.size w W' → W'.heap[g]? = some (.cells #[.int .i64 win, .int .i64 pause, .int .i64 times, .int .u16 first, .int .i64 count, .slice (some ⟨b, off, none⟩) n cv, .bool d] 33) → SS W') := hide (fun W' h1 h2 => by rw [hSS]; exact ⟨h2, Hv.out.keep h1⟩)
      clear hSS
      have HBd : Hid (Below w.heap.size w wr.drew) := hide HB.out.drew
      have Hbd : Hid (wr.drew.heap[g]? = some (.cells #[.int .i64 win, .int .i64 pause, .int .i64 times, .int .u16 first, .int .i64 count, .slice (some ⟨b, off, none⟩) n cv, .bool d] 33)) := hide Hb.out
      have Hod : Hid (u16sE.Own wr.drew w.heap.size u3 xs) := hide (Ho.out.keep (Below.refl _ _).drew)
      have hS0 := FS.out _ HBd.out Hbd.out
      go_upto_region 5 with fail
      refine wp_region_E SS 11 (by kernel_rfl) ?_
      generalize wr.drew = wD at *
      refine wpAnyE_take (i := 0) (v := u3) rfl (by kernel_rfl) (by kernel_rfl) (by kernel_rfl) (by kernel_rfl) (fun _ _ _ h => h) (Or.inl ⟨by rfl, fun W' hW => by go_simp⟩) hS0 ?_
      refine wpAnyE_take (i := 1) (v := .agg #[.int .i64 win, .int .i64 pause, .int .i64 times, .int .u16 first, .int .i64 count, .slice (some ⟨b, off, none⟩) n cv, .bool d]) rfl (by kernel_rfl) (by kernel_rfl) (by kernel_rfl) (by kernel_rfl) (fun _ _ _ h => h) (Or.inl ⟨by rfl, fun W' hW => by have x0 := sc0 W' hW; have x1 := sc1 W' hW; have x2 := sc2 W' hW; have x3 := sc3 W' hW; have x4 := sc4 W' hW; have x5 := sc5 W' hW; have x6 := sc6 W' hW; go_simp⟩) hS0 ?_
      refine wpAnyE_take (i := 2) (v := .pointer (some ⟨g, 5, none⟩)) rfl (by kernel_rfl) (by kernel_rfl) (by kernel_rfl) (by kernel_rfl) (fun _ _ _ h => h) (Or.inl ⟨by rfl, fun W' hW => by go_simp⟩) hS0 ?_
      refine wpAnyE_take (i := 3) (v := .slice (some ⟨b, off, none⟩) n cv) rfl (by kernel_rfl) (by kernel_rfl) (by kernel_rfl) (by kernel_rfl) (fun _ _ _ h => h) (Or.inl ⟨by rfl, fun W' hW => by have x5 := sc5 W' hW; go_simp⟩) hS0 ?_
      refine wpAnyE_take (i := 4) (v := .int .i64 k) rfl (by kernel_rfl) (by kernel_rfl) (by kernel_rfl) (by kernel_rfl) (fun _ _ _ h => h) (Or.inl ⟨by rfl, fun W' hW => by go_simp⟩) hS0 ?_
      refine wpAnyE_take (i := 5) (v := .pointer (some ⟨b, off + k * 4, none⟩)) rfl (by kernel_rfl) (by kernel_rfl) (by kernel_rfl) (by kernel_rfl) (fun _ _ _ h => h) (Or.inl ⟨by rfl, fun W' hW => by go_simp⟩) hS0 ?_
      refine wpAnyE_take (i := 6) (v := .pointer (some ⟨b, off + k * 4, none⟩)) rfl (by kernel_rfl) (by kernel_rfl) (by kernel_rfl) (by kernel_rfl) (fun _ _ _ h => h) (Or.inl ⟨by rfl, fun W' hW => by go_simp⟩) hS0 ?_
      refine wpAnyE_take (i := 7) (v := .int .i64 p.n) rfl (by kernel_rfl) (by kernel_rfl) (by kernel_rfl) (by kernel_rfl) (fun _ _ _ h => h) (Or.inl ⟨by rfl, fun W' hW => by have xr := sr W' hW; go_simp⟩) hS0 ?_
      refine wpAnyE_ready (rs := [8]) (by kernel_rfl) (by simp) ?_
      refine AllReadyE.cons rfl (fun K hK => ?_) AllReadyE.nil
      go_simp
      refine (K32.out _).mono ?_
      rintro e w10 ⟨rfl, rfl⟩
      have bX : Below wD.heap.size wD (wD.alloc (.cells #[.int .i64 win, .int .i64 pause, .int .i64 times, .int .u16 first, .int .i64 count, .slice (some ⟨b, off, none⟩) n cv, .bool d] 33)) := (Below.refl _ _).alloc (Nat.le_refl _) _
      have HX := hide (HBd.out.trans (bX.mono HBd.out.size))
      have HXb : Hid ((wD.alloc (.cells #[.int .i64 win, .int .i64 pause, .int .i64 times, .int .u16 first, .int .i64 count, .slice (some ⟨b, off, none⟩) n cv, .bool d] 33)).heap[g]? = some (.cells #[.int .i64 win, .int .i64 pause, .int .i64 times, .int .u16 first, .int .i64 count, .slice (some ⟨b, off, none⟩) n cv, .bool d] 33)) := hide (by rw [bX.block _ (heap_lt Hbd.out)]; exact Hbd.out)
      have HXo := hide (Hod.out.keep bX)
      clear bX
      refine hK.out _ _ (fun _ => FS.out _ HX.out HXb.out) ?_
      clear hK K
      generalize wD.alloc (.cells #[.int .i64 win, .int .i64 pause, .int .i64 times, .int .u16 first, .int .i64 count, .slice (some ⟨b, off, none⟩) n cv, .bool d] 33) = w10 at *
      refine wpAnyE_ready (rs := [9]) (by kernel_rfl) (by simp) ?_
      refine AllReadyE.cons rfl (fun K hK => ?_) AllReadyE.nil
      go_simp
      have bY : Below w10.heap.size w10 (w10.alloc (.cells #[.int .u16 x] 22)) := (Below.refl _ _).alloc (Nat.le_refl _) _
      have HY := hide (HX.out.trans (bY.mono HX.out.size))
      have HYb : Hid ((w10.alloc (.cells #[.int .u16 x] 22)).heap[g]? = some (.cells #[.int .i64 win, .int .i64 pause, .int .i64 times, .int .u16 first, .int .i64 count, .slice (some ⟨b, off, none⟩) n cv, .bool d] 33)) := hide (by rw [bY.block _ (heap_lt HXb.out)]; exact HXb.out)
      have HYo := hide (HXo.out.keep bY)
      clear bY
      refine hK.out _ _ (fun _ => FS.out _ HY.out HYb.out) ?_
      clear hK K
      refine wpAnyE_ready (rs := [10]) (by kernel_rfl) (by simp) ?_
      refine AllReadyE.cons rfl (fun K hK => ?_) AllReadyE.nil
      refine u16sE.step (w0 := w) HY.out rfl (.tmp 11) (.tmp 20) rfl _ _ rfl rfl xs [x] HYo.out (u16_new w10 x _ rfl) (by have := Hlen.out; simp; omega) ?_
      intro v8 w8 ho8 hg8 hz8 hb8
      have h8b := row_other HYo.out HYb.out (show (33 : TypeId) ≠ 22 by decide) hg8
      refine hK.out _ _ (fun _ => FS.out _ hb8 h8b) ?_
      clear hK K
      have HO := hide ho8
      have HB8 := hide hb8
      have Hb8 := hide h8b
      clear ho8 hb8 h8b hg8 hz8 HYo HYb HY HX HXb HXo HBd Hbd Hod
      refine wpAnyE_ready (rs := [11]) (by kernel_rfl) (by simp) ?_
      refine AllReadyE.cons rfl (fun K hK => ?_) AllReadyE.nil
      go_simp
      refine hK.out _ _ (fun h => absurd rfl h) ?_
      clear hK K
      refine wpAnyE_done (by kernel_rfl) ?_ _
      go_wp2_with fail
      go_roundw
      case rel => exact ⟨k + 1, by omega, by go_num, by rw [Hne.out]; exact HO, HB8, Hb8⟩
      case measure => simp [intOf]; omega
    · have j1 : ¬ (k : Int) < (n : Int) := by omega
      have hkn : (ps.take k) = ps := List.take_of_length_le (by rw [Hn.out]; omega)
      rw [hkn] at Ho
      clear hkn
      go_wp2_with fail
      go_ret
      exact ⟨_, rfl, Ho.out, HB.out⟩
end Go.Proofs.Yteihajppgooadaa
