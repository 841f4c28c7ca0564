/- The law's own comparison of what is sent. -/
import Derived.Test.YteihajppgooadaaRtk
import Derived.Test.YteihajppgooadaaArgs
namespace Go.Proofs.Yteihajppgooadaa
open Go.RowKit
set_option linter.unusedVariables false

theorem ot_at {w : World} {a : Option Addr} {n c : Nat} {os : List Ot} (h : outE.Rd w (.slice a n c) os) (i : Nat) (o : Ot) (ho : os[i]? = some o) : ∃ b off, a = some ⟨b, off, none⟩ ∧ w.cell? ⟨b, off + i * 2, none⟩ = some (.int .u16 o.s) ∧ w.cell? ⟨b, off + i * 2 + 1, none⟩ = some (.slice o.a o.l o.c) := by
  obtain ⟨b, off, h1, h2⟩ := h.at i o ho
  exact ⟨b, off, h1, h2 0 (by decide), h2 1 (by decide)⟩

set_option maxRecDepth 100000 in
set_option maxHeartbeats 4000000 in
theorem osame_any (win pause times first count : Int) (av : Option Addr) (nv cv : Nat) (d : Bool) (al aw : Option Addr) (cl cw : Nat) (os : List Ot) (ws : List Rp) (w : World) (ho : outE.Rd w (.slice al os.length cl) os) (hw : rE.Rd w (.slice aw ws.length cw) ws) (hd : ∀ o ∈ os, bytesE.Rd w o.v o.d) (hm : os.map (fun o => (o.s, str o.d)) = ws.map (fun p => (sq first p.n, p.d))) (hl : ws.length ≤ 1000) (hf : 0 ≤ first ∧ first ≤ 65535) (hs : ∀ p ∈ ws, 0 ≤ p.n ∧ p.n ≤ 1000000) :
    Calls Try.prog 16 #[.slice al os.length cl, .agg #[.int .i64 win, .int .i64 pause, .int .i64 times, .int .u16 first, .int .i64 count, .slice av nv cv, .bool d], .slice aw ws.length cw] w fun e w' => e = .returned (.bool true) ∧ Below w.heap.size w w' := by
  obtain ⟨n, hn⟩ : ∃ n, ws.length = n := ⟨_, rfl⟩
  have hno : os.length = n := by have := congrArg List.length hm; rw [List.length_map, List.length_map, hn] at this; exact this
  rw [hn] at hl hw ⊢
  rw [hno] at ho ⊢
  have hb0 := box_new w (.cells #[.int .i64 win, .int .i64 pause, .int .i64 times, .int .u16 first, .int .i64 count, .slice av nv cv, .bool d] 33)
  have hB : Below w.heap.size w (w.alloc (.cells #[.int .i64 win, .int .i64 pause, .int .i64 times, .int .u16 first, .int .i64 count, .slice av nv cv, .bool d] 33)) := (Below.refl _ _).alloc (Nat.le_refl _) _
  have Hn := hide hn
  have Hno := hide hno
  have Ho := hide ho
  have Hw := hide hw
  have Hd := hide hd
  have Hm := hide hm
  have Hs := hide hs
  have Hf := hide hf
  have hl2 : (n : Int) ≤ 1000 := by omega
  obtain ⟨g, hg⟩ : ∃ g, w.heap.size = g := ⟨_, rfl⟩
  have Hb0 := hide hb0
  have HB := hide hB
  rw [hg] at Hb0
  clear hb0 hB hn hno ho hw hd hm hs hf hl
  go_enter Try.func16, Try.ntmps16
  go_upto_region 1 with fail
  clear hg
  generalize w.alloc (.cells #[.int .i64 win, .int .i64 pause, .int .i64 times, .int .u16 first, .int .i64 count, .slice av nv cv, .bool d] 33) = W0 at *
  go_wp2_with fail
  go_loopw [15] (fun v15 wr => ∃ k : Nat, k ≤ n ∧ v15 = .int .i64 k ∧ Hid (Below w.heap.size w wr) ∧ Hid (wr.heap[g]? = some (.cells #[.int .i64 win, .int .i64 pause, .int .i64 times, .int .u16 first, .int .i64 count, .slice av nv cv, .bool d] 33))) (fun v15 _ => n - (intOf v15).toNat)
  case atStart => exact ⟨0, by omega, rfl, HB, Hb0⟩
  case round =>
    clear HB Hb0
    obtain ⟨k, hk, rfl, HB, Hb⟩ := hrel
    by_cases hlt : k < n
    · obtain ⟨p, hp⟩ : ∃ p, ws[k]? = some p := ⟨_, List.getElem?_eq_getElem (by rw [Hn.out]; exact hlt)⟩
      obtain ⟨o, ho⟩ : ∃ o, os[k]? = some o := ⟨_, List.getElem?_eq_getElem (by rw [Hno.out]; exact hlt)⟩
      obtain ⟨b1, o1, rfl, _⟩ := ot_at Ho.out k o ho
      obtain ⟨b2, o2, rfl, _⟩ := rd_at Hw.out k p hp
      have j0 : (0 : Int) ≤ (k : Int) := by omega
      have j1 : (k : Int) < (n : Int) := by omega
      have Hp := hide hp
      have Hoo := hide ho
      have hpn := Hs.out p (List.mem_of_getElem? hp)
      have hoe : (o.s, str o.d) = (sq first p.n, p.d) := by
        have := congrArg (fun l => l[k]?) Hm.out
        simpa [ho, hp] using this
      have Hos : Hid (o.s = sq first p.n) := hide (congrArg Prod.fst hoe)
      have Hod : Hid (str o.d = p.d) := hide (congrArg Prod.snd hoe)
      have K32 := hide (fun W' => seq_any win pause times first count p.n (.slice av nv cv) d W' Hf.out hpn)
      have Hby := hide (Hd.out o (List.mem_of_getElem? ho))
      clear hp ho hpn hoe
      obtain ⟨SS, hSS⟩ : ∃ SS : World → Prop, SS = fun W' => W'.heap[g]? = some (.cells #[.int .i64 win, .int .i64 pause, .int .i64 times, .int .u16 first, .int .i64 count, .slice av nv cv, .bool d] 33) ∧ Below w.heap.size w W' := ⟨_, rfl⟩
      have sc0 : ∀ W', SS W' → W'.cell? ⟨g, 0, none⟩ = some (.int .i64 win) := fun W' h => by rw [hSS] at h; exact (cells_at h.1 0).1
      have sc1 : ∀ W', SS W' → W'.cell? ⟨g, 1, none⟩ = some (.int .i64 pause) := fun W' h => by rw [hSS] at h; exact (cells_at h.1 1).1
      have sc2 : ∀ W', SS W' → W'.cell? ⟨g, 2, none⟩ = some (.int .i64 times) := fun W' h => by rw [hSS] at h; exact (cells_at h.1 2).1
      have sc3 : ∀ W', SS W' → W'.cell? ⟨g, 3, none⟩ = some (.int .u16 first) := fun W' h => by rw [hSS] at h; exact (cells_at h.1 3).1
      have sc4 : ∀ W', SS W' → W'.cell? ⟨g, 4, none⟩ = some (.int .i64 count) := fun W' h => by rw [hSS] at h; exact (cells_at h.1 4).1
      have sc5 : ∀ W', SS W' → W'.cell? ⟨g, 5, none⟩ = some (.slice av nv cv) := fun W' h => by rw [hSS] at h; exact (cells_at h.1 5).1
      have sc6 : ∀ W', SS W' → W'.cell? ⟨g, 6, none⟩ = some (.bool d) := fun W' h => by rw [hSS] at h; exact (cells_at h.1 6).1
      have so0 : ∀ W', SS W' → W'.cell? ⟨b1, o1 + k * 2, none⟩ = some (.int .u16 (sq first p.n)) := fun W' h => by
        rw [hSS] at h
        obtain ⟨b', off', e, h1, _⟩ := ot_at (Ho.out.keep h.2) k o Hoo.out
        cases e
        rw [h1, Hos.out]
      have so1 : ∀ W', SS W' → W'.cell? ⟨b1, o1 + k * 2 + 1, none⟩ = some (.slice o.a o.l o.c) := fun W' h => by
        rw [hSS] at h
        obtain ⟨b', off', e, _, h1⟩ := ot_at (Ho.out.keep h.2) k o Hoo.out
        cases e
        exact h1
      have sw0 : ∀ W', SS W' → W'.cell? ⟨b2, o2 + k * 4, none⟩ = some (.int .i64 p.n) := fun W' h => by
        rw [hSS] at h
        obtain ⟨b', off', e, h1, _⟩ := rd_at (Hw.out.keep h.2) k p Hp.out
        cases e
        exact h1
      have sw1 : ∀ W', SS W' → W'.cell? ⟨b2, o2 + k * 4 + 1, none⟩ = some (.string p.d) := fun W' h => by
        rw [hSS] at h
        obtain ⟨b', off', e, _, h1, _⟩ := rd_at (Hw.out.keep h.2) k p Hp.out
        cases e
        exact h1
      have scv : ∀ W', SS W' → (convert 36 9 (.slice o.a o.l o.c)).run Try.prog W' = .ok (.string p.d) W' := fun W' h => by
        rw [hSS] at h
        rw [← Hod.out]
        exact conv_str (Hby.out.keep h.2)
      have FS : Hid (∀ W', Below w.heap.size w W' → W'.heap[g]? = some (.cells #[.int .i64 win, .int .i64 pause, .int .i64 times, .int .u16 first, .int .i64 count, .slice av nv cv, .bool d] 33) → SS W') := hide (fun W' h1 h2 => by rw [hSS]; exact ⟨h2, h1⟩)
      clear hSS
      generalize sq first p.n = z at *
      generalize p.d = sz at *
      generalize p.n = pn at *
      generalize o.a = oa at *
      generalize o.l = ol at *
      generalize o.c = oc at *
      have HBd : Hid (Below w.heap.size w wr.drew) := hide HB.out.drew
      have Hbd : Hid (wr.drew.heap[g]? = some (.cells #[.int .i64 win, .int .i64 pause, .int .i64 times, .int .u16 first, .int .i64 count, .slice av nv cv, .bool d] 33)) := hide Hb.out
      have hS0 := FS.out _ HBd.out Hbd.out
      go_upto_region 6 with fail
      refine wp_region_held_drew (S := SS) (by kernel_rfl) hS0 (fun hS0 => ?_)
      generalize wr.drew = wD at *
      refine wpAnyH_take (i := 0) (v := .slice (some ⟨b1, o1, none⟩) n cl) rfl (by kernel_rfl) (by kernel_rfl) (by kernel_rfl) (fun _ _ _ h => h) (Or.inl ⟨by rfl, fun W' hW => by go_simp⟩) hS0 ?_
      refine wpAnyH_take (i := 1) (v := .int .i64 k) rfl (by kernel_rfl) (by kernel_rfl) (by kernel_rfl) (fun _ _ _ h => h) (Or.inl ⟨by rfl, fun W' hW => by go_simp⟩) hS0 ?_
      refine wpAnyH_take (i := 2) (v := .pointer (some ⟨b1, o1 + k * 2, none⟩)) rfl (by kernel_rfl) (by kernel_rfl) (by kernel_rfl) (fun _ _ _ h => h) (Or.inl ⟨by rfl, fun W' hW => by go_simp⟩) hS0 ?_
      refine wpAnyH_take (i := 3) (v := .pointer (some ⟨b1, o1 + k * 2, none⟩)) rfl (by kernel_rfl) (by kernel_rfl) (by kernel_rfl) (fun _ _ _ h => h) (Or.inl ⟨by rfl, fun W' hW => by go_simp⟩) hS0 ?_
      refine wpAnyH_take (i := 4) (v := .int .u16 z) rfl (by kernel_rfl) (by kernel_rfl) (by kernel_rfl) (fun _ _ _ h => h) (Or.inl ⟨by rfl, fun W' hW => by have y := so0 W' hW; go_simp⟩) hS0 ?_
      refine wpAnyH_take (i := 5) (v := .agg #[.int .i64 win, .int .i64 pause, .int .i64 times, .int .u16 first, .int .i64 count, .slice av nv cv, .bool d]) rfl (by kernel_rfl) (by kernel_rfl) (by kernel_rfl) (fun _ _ _ h => h) (Or.inl ⟨by rfl, fun W' hW => by have x0 := sc0 W' hW; have x1 := sc1 W' hW; have x2 := sc2 W' hW; have x3 := sc3 W' hW; have x4 := sc4 W' hW; have x5 := sc5 W' hW; have x6 := sc6 W' hW; go_simp⟩) hS0 ?_
      refine wpAnyH_take (i := 6) (v := .slice (some ⟨b2, o2, none⟩) n cw) rfl (by kernel_rfl) (by kernel_rfl) (by kernel_rfl) (fun _ _ _ h => h) (Or.inl ⟨by rfl, fun W' hW => by go_simp⟩) hS0 ?_
      refine wpAnyH_take (i := 7) (v := .int .i64 k) rfl (by kernel_rfl) (by kernel_rfl) (by kernel_rfl) (fun _ _ _ h => h) (Or.inl ⟨by rfl, fun W' hW => by go_simp⟩) hS0 ?_
      refine wpAnyH_take (i := 8) (v := .pointer (some ⟨b2, o2 + k * 4, none⟩)) rfl (by kernel_rfl) (by kernel_rfl) (by kernel_rfl) (fun _ _ _ h => h) (Or.inl ⟨by rfl, fun W' hW => by go_simp⟩) hS0 ?_
      refine wpAnyH_take (i := 9) (v := .pointer (some ⟨b2, o2 + k * 4, none⟩)) rfl (by kernel_rfl) (by kernel_rfl) (by kernel_rfl) (fun _ _ _ h => h) (Or.inl ⟨by rfl, fun W' hW => by go_simp⟩) hS0 ?_
      refine wpAnyH_take (i := 10) (v := .int .i64 pn) rfl (by kernel_rfl) (by kernel_rfl) (by kernel_rfl) (fun _ _ _ h => h) (Or.inl ⟨by rfl, fun W' hW => by have y := sw0 W' hW; go_simp⟩) hS0 ?_
      refine wpAnyH_ready (rs := [11]) (by kernel_rfl) (by simp) ?_
      refine AllReadyH.cons rfl (fun K hK => ?_) AllReadyH.nil
      go_simp
      refine (K32.out _).mono ?_
      rintro e w10 ⟨rfl, rfl⟩
      have bX : Below wD.heap.size wD (wD.alloc (.cells #[.int .i64 win, .int .i64 pause, .int .i64 times, .int .u16 first, .int .i64 count, .slice av nv cv, .bool d] 33)) := (Below.refl _ _).alloc (Nat.le_refl _) _
      have HX := hide (HBd.out.trans (bX.mono HBd.out.size))
      have HXb : Hid ((wD.alloc (.cells #[.int .i64 win, .int .i64 pause, .int .i64 times, .int .u16 first, .int .i64 count, .slice av nv cv, .bool d] 33)).heap[g]? = some (.cells #[.int .i64 win, .int .i64 pause, .int .i64 times, .int .u16 first, .int .i64 count, .slice av nv cv, .bool d] 33)) := hide (by rw [bX.block _ (heap_lt Hbd.out)]; exact Hbd.out)
      clear bX
      have hS1 := FS.out _ HX.out HXb.out
      refine hK.out _ _ (hS1) (fun _ => ?_)
      clear hK K
      generalize wD.alloc (.cells #[.int .i64 win, .int .i64 pause, .int .i64 times, .int .u16 first, .int .i64 count, .slice av nv cv, .bool d] 33) = w10 at *
      refine wpAnyH_ready (rs := [12]) (by kernel_rfl) (by simp) ?_
      refine AllReadyH.cons rfl (fun K hK => ?_) AllReadyH.nil
      go_simp
      refine hK.out _ _ (hS1) (fun _ => ?_)
      clear hK K
      refine wpAnyH_ready (rs := [13]) (by kernel_rfl) (by simp) ?_
      refine AllReadyH.cons rfl (fun K hK => ?_) AllReadyH.nil
      go_simp
      refine hK.out _ _ (hS1) (fun _ => ?_)
      clear hK K
      refine wpAnyH_take (i := 14) (v := .slice (some ⟨b1, o1, none⟩) n cl) rfl (by kernel_rfl) (by kernel_rfl) (by kernel_rfl) (fun _ _ _ h => h) (Or.inl ⟨by kernel_rfl, fun W' hW => by go_simp⟩) hS1 ?_
      refine wpAnyH_take (i := 15) (v := .int .i64 k) rfl (by kernel_rfl) (by kernel_rfl) (by kernel_rfl) (fun _ _ _ h => h) (Or.inl ⟨by kernel_rfl, fun W' hW => by go_simp⟩) hS1 ?_
      refine wpAnyH_take (i := 16) (v := .pointer (some ⟨b1, o1 + k * 2, none⟩)) rfl (by kernel_rfl) (by kernel_rfl) (by kernel_rfl) (fun _ _ _ h => h) (Or.inl ⟨by kernel_rfl, fun W' hW => by go_simp⟩) hS1 ?_
      refine wpAnyH_take (i := 17) (v := .pointer (some ⟨b1, o1 + k * 2 + 1, none⟩)) rfl (by kernel_rfl) (by kernel_rfl) (by kernel_rfl) (fun _ _ _ h => h) (Or.inl ⟨by kernel_rfl, fun W' hW => by go_simp⟩) hS1 ?_
      refine wpAnyH_take (i := 18) (v := .slice oa ol oc) rfl (by kernel_rfl) (by kernel_rfl) (by kernel_rfl) (fun _ _ _ h => h) (Or.inl ⟨by kernel_rfl, fun W' hW => by have y := so1 W' hW; go_simp⟩) hS1 ?_
      refine wpAnyH_take (i := 19) (v := .string sz) rfl (by kernel_rfl) (by kernel_rfl) (by kernel_rfl) (fun _ _ _ h => h) (Or.inl ⟨by kernel_rfl, fun W' hW => by have y := scv W' hW; go_simp⟩) hS1 ?_
      refine wpAnyH_take (i := 20) (v := .slice (some ⟨b2, o2, none⟩) n cw) rfl (by kernel_rfl) (by kernel_rfl) (by kernel_rfl) (fun _ _ _ h => h) (Or.inl ⟨by kernel_rfl, fun W' hW => by go_simp⟩) hS1 ?_
      refine wpAnyH_take (i := 21) (v := .int .i64 k) rfl (by kernel_rfl) (by kernel_rfl) (by kernel_rfl) (fun _ _ _ h => h) (Or.inl ⟨by kernel_rfl, fun W' hW => by go_simp⟩) hS1 ?_
      refine wpAnyH_take (i := 22) (v := .pointer (some ⟨b2, o2 + k * 4, none⟩)) rfl (by kernel_rfl) (by kernel_rfl) (by kernel_rfl) (fun _ _ _ h => h) (Or.inl ⟨by kernel_rfl, fun W' hW => by go_simp⟩) hS1 ?_
      refine wpAnyH_take (i := 23) (v := .pointer (some ⟨b2, o2 + k * 4 + 1, none⟩)) rfl (by kernel_rfl) (by kernel_rfl) (by kernel_rfl) (fun _ _ _ h => h) (Or.inl ⟨by kernel_rfl, fun W' hW => by go_simp⟩) hS1 ?_
      refine wpAnyH_take (i := 24) (v := .string sz) rfl (by kernel_rfl) (by kernel_rfl) (by kernel_rfl) (fun _ _ _ h => h) (Or.inl ⟨by kernel_rfl, fun W' hW => by have y := sw1 W' hW; go_simp⟩) hS1 ?_
      refine wpAnyH_ready (rs := [25]) (by kernel_rfl) (by simp) ?_
      refine AllReadyH.cons rfl (fun K hK => ?_) AllReadyH.nil
      go_simp
      refine hK.out _ _ (hS1) (fun _ => ?_)
      clear hK K
      refine wpAnyH_ready (rs := [26]) (by kernel_rfl) (by simp) ?_
      refine AllReadyH.cons rfl (fun K hK => ?_) AllReadyH.nil
      go_simp
      refine hK.out _ _ (hS1) (fun _ => ?_)
      clear hK K
      refine wpAnyH_done (by kernel_rfl) ?_ _
      go_wp2_with fail
      go_roundw
      case rel => exact ⟨k + 1, by omega, by go_num, HX, HXb⟩
      case measure => simp [intOf]; omega
    · have j1 : ¬ (k : Int) < (n : Int) := by omega
      go_wp2_with fail
      go_ret
      exact ⟨rfl, HB.out⟩
end Go.Proofs.Yteihajppgooadaa
