/- The document's Ack. -/
import Derived.Test.YteihajppgooadaaRnm
namespace Go.Proofs.Yteihajppgooadaa
open Go.RowKit
set_option linter.unusedVariables false

def rix (first x : Int) (ps : List Rp) : Nat := ps.findIdx (fun p => decide (sq first p.n = x))
theorem rix_at {first x : Int} {ps : List Rp} {i : Nat} {p : Rp} (hi : ps[i]? = some p) (hp : sq first p.n = x) (hno : ∀ j q, j < i → ps[j]? = some q → sq first q.n ≠ x) : rix first x ps = i := by
  obtain ⟨hlt, he⟩ := List.getElem?_eq_some_iff.1 hi
  unfold rix
  rw [List.findIdx_eq hlt]
  refine ⟨by rw [he]; simpa using hp, fun j hj => ?_⟩
  simpa using hno j _ hj (List.getElem?_eq_getElem (by omega))
theorem rix_no {first x : Int} {ps : List Rp} (hno : ∀ (j : Nat) (q : Rp), ps[j]? = some q → sq first q.n ≠ x) : rix first x ps = ps.length := by
  unfold rix
  rw [List.findIdx_eq_length]
  intro p hp
  obtain ⟨j, hj, rfl⟩ := List.mem_iff_getElem.1 hp
  simpa using hno j _ (List.getElem?_eq_getElem hj)
theorem own_cap {w : World} {B n c : Nat} {a : Option Addr} {ps : List Rp} (h : rE.Own w B (.slice a n c) ps) (hp : 0 < n) : ∃ b, a = some ⟨b, 0, none⟩ ∧ n ≤ c ∧ c ≤ maxLen := by
  rcases h.2 with ⟨h1, _⟩ | ⟨g, cap, cur, h1, hb, hg, hn, hm, hs, ht⟩
  · simp only [Value.slice.injEq] at h1
    omega
  · simp only [Value.slice.injEq] at h1
    obtain ⟨rfl, rfl, rfl⟩ := h1
    exact ⟨g, rfl, hn, hm⟩
theorem rd_from {w : World} {b n c k : Nat} {ps : List Rp} (h : rE.Rd w (.slice (some ⟨b, 0, none⟩) n c) ps) (hn : ps.length = n) (hk : k ≤ n) (hc : n ≤ c) : rE.Rd w (.slice (if c = k then some ⟨b, 0, none⟩ else some ⟨b, k * 4, none⟩) (n - k) (c - k)) (ps.drop k) := by
  by_cases e : c = k
  · rw [if_pos e]
    have e2 : ps.drop k = [] := List.drop_of_length_le (by omega)
    rw [e2, show n - k = 0 by omega]
    exact .inr ⟨_, _, rfl, fun i hi => by simp at hi⟩
  · rw [if_neg e]
    have := h.drop (cap' := c - k) k (n - k) (by rw [hn]) (by omega)
    rw [Nat.zero_add] at this
    exact this

/-- what the document's Ack answers -/
def RAck (win pause times first count seq : Int) (av : Option Addr) (cv : Nat) (ps : List Rp) (w : World) (e : Ending) (w' : World) : Prop :=
  (rix first seq ps < ps.length ∧ ∃ a' l' c', e = .returned (.tuple #[.agg #[.int .i64 win, .int .i64 pause, .int .i64 times, .int .u16 first, .int .i64 count, .slice a' l' c', .bool false], .int .i64 0]) ∧ rE.Own w' w.heap.size (.slice a' l' c') (ps.take (rix first seq ps) ++ ps.drop (rix first seq ps + 1))) ∨
  (rix first seq ps = ps.length ∧ e = .returned (.tuple #[.agg #[.int .i64 win, .int .i64 pause, .int .i64 times, .int .u16 first, .int .i64 count, .slice av ps.length cv, .bool false], .int .i64 4]))

set_option maxRecDepth 100000 in
set_option maxHeartbeats 8000000 in
theorem rack_any (win pause times first count seq : Int) (av : Option Addr) (cv B : Nat) (ps : List Rp) (w : World) (hv : rE.Own w B (.slice av ps.length cv) ps) (hl : ps.length ≤ 1000) (hf : 0 ≤ first ∧ first ≤ 65535) (hs : ∀ p ∈ ps, 0 ≤ p.n ∧ p.n ≤ 1000000) :
    Calls Try.prog 18 #[.agg #[.int .i64 win, .int .i64 pause, .int .i64 times, .int .u16 first, .int .i64 count, .slice av ps.length cv, .bool false], .int .u16 seq] w fun e w' => Below w.heap.size w w' ∧ RAck win pause times first count seq av cv ps w e w' := by
  obtain ⟨hb0, hb1, hB⟩ := two_boxes w #[.int .i64 win, .int .i64 pause, .int .i64 times, .int .u16 first, .int .i64 count, .slice av ps.length cv, .bool false] #[.int .i64 0, .int .i64 0, .int .i64 0, .int .u16 0, .int .i64 0, .slice none 0 0, .bool false]
  obtain ⟨W0, hW0⟩ : ∃ W0, (w.alloc (.cells #[.int .i64 win, .int .i64 pause, .int .i64 times, .int .u16 first, .int .i64 count, .slice av ps.length cv, .bool false] 33)).alloc (.cells #[.int .i64 0, .int .i64 0, .int .i64 0, .int .u16 0, .int .i64 0, .slice none 0 0, .bool false] 33) = W0 := ⟨_, rfl⟩
  rw [hW0] at hb0 hb1 hB
  have Hv := hide hv.rd
  have Hcap := hide (own_cap hv)
  obtain ⟨n, hn⟩ : ∃ n, ps.length = n := ⟨_, rfl⟩
  rw [hn] at hb0 hW0 hl Hv Hcap ⊢
  have Hn := hide hn
  have hl2 : (n : Int) ≤ 1000 := by omega
  have HT : Hid (Tst w W0 w.heap.size #[.int .i64 win, .int .i64 pause, .int .i64 times, .int .u16 first, .int .i64 count, .slice av n cv, .bool false] (.slice none 0 0) (.slice none 0 0) [] []) := hide ⟨hb0, hb1, El.Own.nil _ _ _, El.Own.nil _ _ _, (fun k hk => by cases hk), hB, Nat.le_refl _⟩
  have k5 := (cells_at hb0 5).1
  have k6 := (cells_at hb0 6).1
  simp at k5 k6
  have Hf := hide hf
  have Hs := hide hs
  clear hb0 hb1 hB hl hv hn hf hs
  obtain ⟨g, hg⟩ : ∃ g, w.heap.size = g := ⟨_, rfl⟩
  have Hg := hide hg
  go_enter Try.func18, Try.ntmps18
  rw [hg] at k5 k6 HT
  go_upto_region 4 with fail
  clear hg hW0 k5 k6
  go_loopw [13] (fun v13 wr => ∃ k : Nat, k ≤ n ∧ v13 = .int .i64 k ∧ Hid (∀ j q, j < k → ps[j]? = some q → sq first q.n ≠ seq) ∧ Hid (Tst w wr g #[.int .i64 win, .int .i64 pause, .int .i64 times, .int .u16 first, .int .i64 count, .slice av n cv, .bool false] (.slice none 0 0) (.slice none 0 0) [] [])) (fun v13 _ => n - (intOf v13).toNat)
  case atStart => exact ⟨0, by omega, rfl, hide (fun j q h => by omega), HT⟩
  case round =>
    clear HT
    obtain ⟨k, hk, rfl, Hno, HT⟩ := hrel
    by_cases hlt : k < n
    · obtain ⟨p, hp⟩ : ∃ p, ps[k]? = some p := ⟨_, List.getElem?_eq_getElem (by rw [Hn.out]; exact hlt)⟩
      obtain ⟨b, rfl, hnc, hcm⟩ := Hcap.out (by omega)
      have hcm' : cv ≤ 9223372036854775807 := by unfold maxLen at hcm; omega
      have j0 : (0 : Int) ≤ (k : Int) := by omega
      have j1 : (k : Int) < (n : Int) := by omega
      have Hp := hide hp
      have hpn := Hs.out p (List.mem_of_getElem? hp)
      have K32 := hide (fun W' => seq_any win pause times first count p.n (.slice (some ⟨b, 0, none⟩) n cv) false W' Hf.out hpn)
      obtain ⟨z, hz⟩ : ∃ z, sq first p.n = z := ⟨_, rfl⟩
      rw [hz] at K32
      have Hz := hide hz
      clear hp hpn hz hcm
      obtain ⟨SS, hSS⟩ : ∃ SS : World → Prop, SS = fun W' => W'.heap[g]? = some (.cells #[.int .i64 win, .int .i64 pause, .int .i64 times, .int .u16 first, .int .i64 count, .slice (some ⟨b, 0, none⟩) n cv, .bool false] 33) ∧ rE.Rd W' (.slice (some ⟨b, 0, none⟩) n cv) ps := ⟨_, rfl⟩
      have sc0 : ∀ W', SS W' → W'.cell? ⟨g, 0, none⟩ = some (.int .i64 win) := fun W' h => by rw [hSS] at h; exact (cells_at h.1 0).1
      have sc1 : ∀ W', SS W' → W'.cell? ⟨g, 1, none⟩ = some (.int .i64 pause) := fun W' h => by rw [hSS] at h; exact (cells_at h.1 1).1
      have sc2 : ∀ W', SS W' → W'.cell? ⟨g, 2, none⟩ = some (.int .i64 times) := fun W' h => by rw [hSS] at h; exact (cells_at h.1 2).1
      have sc3 : ∀ W', SS W' → W'.cell? ⟨g, 3, none⟩ = some (.int .u16 first) := fun W' h => by rw [hSS] at h; exact (cells_at h.1 3).1
      have sc4 : ∀ W', SS W' → W'.cell? ⟨g, 4, none⟩ = some (.int .i64 count) := fun W' h => by rw [hSS] at h; exact (cells_at h.1 4).1
      have sc5 : ∀ W', SS W' → W'.cell? ⟨g, 5, none⟩ = some (.slice (some ⟨b, 0, none⟩) n cv) := fun W' h => by rw [hSS] at h; exact (cells_at h.1 5).1
      have sc6 : ∀ W', SS W' → W'.cell? ⟨g, 6, none⟩ = some (.bool false) := fun W' h => by rw [hSS] at h; exact (cells_at h.1 6).1
      have sf5 : ∀ W', SS W' → W'.frozen? ⟨g, 5, none⟩ = false := fun W' h => by rw [hSS] at h; exact (cells_at h.1 5).2
      have sr : ∀ W', SS W' → W'.cell? ⟨b, k * 4, none⟩ = some (.int .i64 p.n) := fun W' h => by
        rw [hSS] at h
        obtain ⟨b', off', e, h1, _⟩ := rd_at h.2 k p Hp.out
        cases e
        rw [Nat.zero_add] at h1
        exact h1
      have FS : Hid (∀ W', Below w.heap.size w W' → W'.heap[g]? = some (.cells #[.int .i64 win, .int .i64 pause, .int .i64 times, .int .u16 first, .int .i64 count, .slice (some ⟨b, 0, none⟩) n cv, .bool false] 33) → SS W') := hide (fun W' h1 h2 => by rw [hSS]; exact ⟨h2, Hv.out.keep h1⟩)
      clear hSS
      have HTd := hide (HT.out.keep (Below.refl _ wr).drew)
      have hS0 := FS.out _ HTd.out.bel HTd.out.b0
      obtain ⟨bb, hbb⟩ : ∃ bb, decide (z = seq) = bb := ⟨_, rfl⟩
      have Hbb := hide hbb
      clear hbb
      go_upto_region 6 with fail
      go_cut [25] (fun v25 wx => v25 = .bool bb ∧ Hid (Tst w wx g #[.int .i64 win, .int .i64 pause, .int .i64 times, .int .u16 first, .int .i64 count, .slice (some ⟨b, 0, none⟩) n cv, .bool false] (.slice none 0 0) (.slice none 0 0) [] []))
      case first =>
        refine wp_region_held_drew (S := SS) (by kernel_rfl) hS0 (fun hS0 => ?_)
        generalize wr.drew = wD at *
        refine wpAnyH_take (i := 0) (v := .agg #[.int .i64 win, .int .i64 pause, .int .i64 times, .int .u16 first, .int .i64 count, .slice (some ⟨b, 0, none⟩) n cv, .bool false]) rfl (by kernel_rfl) (by kernel_rfl) (by kernel_rfl) (fun _ _ _ h => h) (Or.inl ⟨by rfl, fun W' hW => by have x0 := sc0 W' hW; have x1 := sc1 W' hW; have x2 := sc2 W' hW; have x3 := sc3 W' hW; have x4 := sc4 W' hW; have x5 := sc5 W' hW; have x6 := sc6 W' hW; go_simp⟩) hS0 ?_
        refine wpAnyH_take (i := 1) (v := .pointer (some ⟨g, 5, none⟩)) rfl (by kernel_rfl) (by kernel_rfl) (by kernel_rfl) (fun _ _ _ h => h) (Or.inl ⟨by rfl, fun W' hW => by go_simp⟩) hS0 ?_
        refine wpAnyH_take (i := 2) (v := .slice (some ⟨b, 0, none⟩) n cv) rfl (by kernel_rfl) (by kernel_rfl) (by kernel_rfl) (fun _ _ _ h => h) (Or.inl ⟨by rfl, fun W' hW => by have x5 := sc5 W' hW; go_simp⟩) hS0 ?_
        refine wpAnyH_take (i := 3) (v := .int .i64 k) rfl (by kernel_rfl) (by kernel_rfl) (by kernel_rfl) (fun _ _ _ h => h) (Or.inl ⟨by rfl, fun W' hW => by go_simp⟩) hS0 ?_
        refine wpAnyH_take (i := 4) (v := .pointer (some ⟨b, k * 4, none⟩)) rfl (by kernel_rfl) (by kernel_rfl) (by kernel_rfl) (fun _ _ _ h => h) (Or.inl ⟨by rfl, fun W' hW => by go_simp⟩) hS0 ?_
        refine wpAnyH_take (i := 5) (v := .pointer (some ⟨b, k * 4, none⟩)) rfl (by kernel_rfl) (by kernel_rfl) (by kernel_rfl) (fun _ _ _ h => h) (Or.inl ⟨by rfl, fun W' hW => by go_simp⟩) hS0 ?_
        refine wpAnyH_take (i := 6) (v := .int .i64 p.n) rfl (by kernel_rfl) (by kernel_rfl) (by kernel_rfl) (fun _ _ _ h => h) (Or.inl ⟨by rfl, fun W' hW => by have xr := sr W' hW; go_simp⟩) hS0 ?_
        refine wpAnyH_take (i := 8) (v := .int .u16 seq) rfl (by kernel_rfl) (by kernel_rfl) (by kernel_rfl) (fun _ _ _ h => h) (Or.inl ⟨by rfl, fun W' hW => by go_simp⟩) hS0 ?_
        refine wpAnyH_ready (rs := [7]) (by kernel_rfl) (by simp) ?_
        refine AllReadyH.cons rfl (fun K hK => ?_) AllReadyH.nil
        go_simp
        refine (K32.out _).mono ?_
        rintro e w10 ⟨rfl, rfl⟩
        have HX := hide (HTd.out.keep ((Below.refl _ wD).alloc (Nat.le_refl _) (.cells #[.int .i64 win, .int .i64 pause, .int .i64 times, .int .u16 first, .int .i64 count, .slice (some ⟨b, 0, none⟩) n cv, .bool false] 33)))
        refine hK.out _ _ (FS.out _ HX.out.bel HX.out.b0) (fun _ => ?_)
        clear hK K
        refine wpAnyH_ready (rs := [9]) (by kernel_rfl) (by simp) ?_
        refine AllReadyH.cons rfl (fun K hK => ?_) AllReadyH.nil
        go_simp
        refine hK.out _ _ (FS.out _ HX.out.bel HX.out.b0) (fun _ => ?_)
        clear hK K
        refine wpAnyH_done (by kernel_rfl) ?_ _
        go_wp2_with fail
        go_meet
        exact ⟨by rw [← Hbb.out]; first | rfl | simp, HX⟩
      case rest =>
      obtain ⟨rfl, HTc⟩ := hcut
      clear HT HTd hS0
      cases bb with
      | false =>
        have hne : z ≠ seq := by simpa using Hbb.out
        go_wp2_with fail
        go_roundw
        case rel => exact ⟨k + 1, by omega, by go_num, hide (fun j q hj hq => by
          by_cases e : j = k
          · subst e
            rw [Hp.out] at hq
            cases hq
            rw [Hz.out]
            exact hne
          · exact Hno.out j q (by omega) hq), HTc⟩
        case measure => simp [intOf]; omega
      | true =>
        have hze : z = seq := by simpa using Hbb.out
        have Hix : Hid (rix first seq ps = k) := hide (rix_at Hp.out (by rw [Hz.out]; exact hze) Hno.out)
        obtain ⟨k1, hk1⟩ : ∃ k1, k + 1 = k1 := ⟨_, rfl⟩
        have Hk1 := hide hk1
        have ek : (k : Int) + 1 = (k1 : Int) := by omega
        have e0 : (0 : Int) ≤ (k1 : Int) := by omega
        have ew : IntKind.i64.wrap (k1 : Int) = (k1 : Int) := by unfold IntKind.wrap; simp [IntKind.bits, IntKind.signed]; omega
        have e1 : (k1 : Int) ≤ (n : Int) := by omega
        have e2 : (n : Int) ≤ (cv : Int) := by omega
        have e3 : (k : Int) ≤ (cv : Int) := by omega
        have e4 : (k1 : Int) ≤ (cv : Int) := by omega
        have n1 : k1 ≤ n := by omega
        have n2 : k1 ≤ cv := by omega
        have n3 : k ≤ cv := by omega
        obtain ⟨A, hA⟩ : ∃ A : Option Addr, (if cv = k1 then some (⟨b, 0, none⟩ : Addr) else some ⟨b, k1 * 4, none⟩) = A := ⟨_, rfl⟩
        have Hrd : Hid (∀ W, rE.Rd W (.slice (some ⟨b, 0, none⟩) n cv) ps → rE.Rd W (.slice A (n - k1) (cv - k1)) (ps.drop k1)) := hide (fun W h => by rw [← hA]; exact rd_from h Hn.out n1 (by omega))
        have HTd := hide (HTc.out.keep (Below.refl _ wc).drew)
        have hS0 := FS.out _ HTd.out.bel HTd.out.b0
        clear hze hk1 Hbb
        go_upto_region 7 with fail
        refine wp_region_E SS 13 (by kernel_rfl) ?_
        generalize wc.drew = wD at *
        refine wpAnyE_take (i := 1) (v := .pointer (some ⟨g, 5, none⟩)) rfl (by kernel_rfl) (by kernel_rfl) (by kernel_rfl) (by kernel_rfl) (fun _ _ _ h => h) (Or.inl ⟨by rfl, fun W' hW => by go_simp⟩) hS0 ?_
        refine wpAnyE_take (i := 2) (v := .slice (some ⟨b, 0, none⟩) n cv) rfl (by kernel_rfl) (by kernel_rfl) (by kernel_rfl) (by kernel_rfl) (fun _ _ _ h => h) (Or.inl ⟨by rfl, fun W' hW => by have x5 := sc5 W' hW; go_simp⟩) hS0 ?_
        refine wpAnyE_take (i := 3) (v := .int .i64 k) rfl (by kernel_rfl) (by kernel_rfl) (by kernel_rfl) (by kernel_rfl) (fun _ _ _ h => h) (Or.inl ⟨by rfl, fun W' hW => by go_simp⟩) hS0 ?_
        refine wpAnyE_take (i := 4) (v := .slice (some ⟨b, 0, none⟩) k cv) rfl (by kernel_rfl) (by kernel_rfl) (by kernel_rfl) (by kernel_rfl) (fun _ _ _ h => h) (Or.inl ⟨by rfl, fun W' hW => by go_simp⟩) hS0 ?_
        refine wpAnyE_take (i := 6) (v := .pointer (some ⟨g, 5, none⟩)) rfl (by kernel_rfl) (by kernel_rfl) (by kernel_rfl) (by kernel_rfl) (fun _ _ _ h => h) (Or.inl ⟨by rfl, fun W' hW => by go_simp⟩) hS0 ?_
        refine wpAnyE_take (i := 7) (v := .slice (some ⟨b, 0, none⟩) n cv) rfl (by kernel_rfl) (by kernel_rfl) (by kernel_rfl) (by kernel_rfl) (fun _ _ _ h => h) (Or.inl ⟨by rfl, fun W' hW => by have x5 := sc5 W' hW; go_simp⟩) hS0 ?_
        refine wpAnyE_take (i := 8) (v := .int .i64 k) rfl (by kernel_rfl) (by kernel_rfl) (by kernel_rfl) (by kernel_rfl) (fun _ _ _ h => h) (Or.inl ⟨by rfl, fun W' hW => by go_simp⟩) hS0 ?_
        refine wpAnyE_take (i := 9) (v := .int .i64 (k1 : Int)) rfl (by kernel_rfl) (by kernel_rfl) (by kernel_rfl) (by kernel_rfl) (fun _ _ _ h => h) (Or.inl ⟨by rfl, fun W' hW => by go_simp⟩) hS0 ?_
        refine wpAnyE_take (i := 10) (v := .slice A (n - k1) (cv - k1)) rfl (by kernel_rfl) (by kernel_rfl) (by kernel_rfl) (by kernel_rfl) (fun _ _ _ h => h) (Or.inl ⟨by rfl, fun W' hW => by go_simp⟩) hS0 ?_
        clear hA
        refine wpAnyE_ready (rs := [0]) (by kernel_rfl) (by simp) ?_
        refine AllReadyE.cons rfl (fun K hK => ?_) AllReadyE.nil
        go_simp
        have bA : Below wD.heap.size wD (wD.alloc (.cells #[] 85)) := (Below.refl _ _).alloc (Nat.le_refl _) _
        have oA : rE.Own (wD.alloc (.cells #[] 85)) wD.heap.size (.slice (some ⟨wD.heap.size, 0, none⟩) 0 0) [] := El.Own.new rE wD _ (Nat.le_refl _) #[] [] rfl (by simp) _ _ _ rfl rfl rfl
        have HA := hide (HTd.out.keep bA)
        refine hK.out _ _ (fun _ => FS.out _ HA.out.bel HA.out.b0) ?_
        clear hK K
        refine wpAnyE_ready (rs := [5]) (by kernel_rfl) (by simp) ?_
        refine AllReadyE.cons rfl (fun K hK => ?_) AllReadyE.nil
        refine rE.step (w0 := wD) bA rfl (.tmp 26) (.tmp 30) rfl _ _ rfl rfl [] (ps.take k) oA ((Hv.out.keep HA.out.bel).take k (by rw [Hn.out]; omega)) (by rw [List.length_take, Hn.out]; simp; omega) ?_
        intro v6 w6 ho6 hg6 hz6 hb6
        rw [List.nil_append] at ho6
        have H6 := hide (HTd.out.keep hb6)
        refine hK.out _ _ (fun _ => FS.out _ H6.out.bel H6.out.b0) ?_
        clear hK K
        refine wpAnyE_ready (rs := [11]) (by kernel_rfl) (by simp) ?_
        refine AllReadyE.cons rfl (fun K hK => ?_) AllReadyE.nil
        refine rE.step (w0 := wD) hb6 rfl (.tmp 31) (.tmp 36) rfl _ _ rfl rfl (ps.take k) (ps.drop k1) ho6 (Hrd.out _ (Hv.out.keep H6.out.bel)) (by rw [List.length_take, List.length_drop, Hn.out]; omega) ?_
        intro v8 w8 ho8 hg8 hz8 hb8
        obtain ⟨a8, c8, rfl⟩ := ho8.rd.form
        obtain ⟨l8, hl8⟩ : ∃ l8, (ps.take k ++ ps.drop k1).length = l8 := ⟨_, rfl⟩
        rw [hl8] at ho8 ⊢
        have H8 := hide (HTd.out.keep hb8)
        have HO8 := hide (ho8.mono HTd.out.bel.size)
        refine hK.out _ _ (fun _ => FS.out _ H8.out.bel H8.out.b0) ?_
        clear hK K
        clear Hrd ek ew e0 e1 e2 e3 e4 n2 n3 ho8 ho6 hb6 hg6 hz6 hg8 hz8 hb8 bA oA HA H6 hl8
        refine wpAnyE_ready (rs := [12]) (by kernel_rfl) (by simp) ?_
        refine AllReadyE.cons rfl (fun K hK => ?_) AllReadyE.nil
        go_simp
        refine hK.out _ _ (fun _ => FS.out _ H8.out.bel H8.out.b0) ?_
        clear hK K
        refine wpAnyE_ready (rs := [13]) (by kernel_rfl) (by simp) ?_
        refine AllReadyE.cons rfl (fun K hK => ?_) AllReadyE.nil
        have x1 := sc5 _ (FS.out _ H8.out.bel H8.out.b0)
        have x4 := sf5 _ (FS.out _ H8.out.bel H8.out.b0)
        go_simp
        refine hK.out _ _ (fun h => absurd rfl h) ?_
        clear hK K
        refine wpAnyE_done (by kernel_rfl) ?_ _
        have HT8 : Hid (Tst w w8 g #[.int .i64 win, .int .i64 pause, .int .i64 times, .int .u16 first, .int .i64 count, .slice (some ⟨b, 0, none⟩) n cv, .bool false] (.slice a8 l8 c8) (.slice none 0 0) (ps.take k ++ ps.drop k1) []) := hide ⟨H8.out.b0, H8.out.b1, HO8.out, H8.out.o2, (fun _ _ h => by cases h), H8.out.bel, H8.out.gg⟩
        have HT7 : Hid (Tst w (w8.setCell ⟨g, 5, none⟩ (.slice a8 l8 c8)) g #[.int .i64 win, .int .i64 pause, .int .i64 times, .int .u16 first, .int .i64 count, .slice a8 l8 c8, .bool false] (.slice a8 l8 c8) (.slice none 0 0) (ps.take k ++ ps.drop k1) []) := hide (HT8.out.put 5 (.slice a8 l8 c8))
        go_upto_region 8 with fail
        generalize w8.setCell ⟨g, 5, none⟩ (.slice a8 l8 c8) = W7 at *
        clear HT8 H8 HO8 x1 x4
        have Hg1 : Hid (w.heap.size ≤ g + 1) := hide (by have := HT7.out.gg; omega)
        have HO5 : Hid (rE.Own (((((((W7.setCell ⟨g + 1, 0, none⟩ (.int .i64 win)).setCell ⟨g + 1, 1, none⟩ (.int .i64 pause)).setCell ⟨g + 1, 2, none⟩ (.int .i64 times)).setCell ⟨g + 1, 3, none⟩ (.int .u16 first)).setCell ⟨g + 1, 4, none⟩ (.int .i64 count)).setCell ⟨g + 1, 5, none⟩ (.slice a8 l8 c8)).setCell ⟨g + 1, 6, none⟩ (.bool false)) w.heap.size (.slice a8 l8 c8) (ps.take k ++ ps.drop k1)) := hide (own_chg HT7.out.o1 fun k cur hk hc => by
          have hk1 : k ≠ g + 1 := fun e => by
            rw [e, HT7.out.b1] at hc; simp only [Option.some.injEq, Obj.cells.injEq] at hc; exact absurd hc.2.1 (show ¬ (33 : TypeId) = 85 by decide)
          rw [Below.heap_setCell _ _ _ _ hk1, Below.heap_setCell _ _ _ _ hk1, Below.heap_setCell _ _ _ _ hk1, Below.heap_setCell _ _ _ _ hk1, Below.heap_setCell _ _ _ _ hk1, Below.heap_setCell _ _ _ _ hk1, Below.heap_setCell _ _ _ _ hk1])
        have kk0 := (cells_at HT7.out.b0 0).1
        have kk1 := (cells_at HT7.out.b0 1).1
        have kk2 := (cells_at HT7.out.b0 2).1
        have kk3 := (cells_at HT7.out.b0 3).1
        have kk4 := (cells_at HT7.out.b0 4).1
        have kk5 := (cells_at HT7.out.b0 5).1
        have kk6 := (cells_at HT7.out.b0 6).1
        simp at kk0 kk1 kk2 kk3 kk4 kk5 kk6
        have mm0 := (cells_at HT7.out.b1 0).1
        have ff0 := (cells_at HT7.out.b1 0).2
        have mm1 := (cells_at HT7.out.b1 1).1
        have ff1 := (cells_at HT7.out.b1 1).2
        have mm2 := (cells_at HT7.out.b1 2).1
        have ff2 := (cells_at HT7.out.b1 2).2
        have mm3 := (cells_at HT7.out.b1 3).1
        have ff3 := (cells_at HT7.out.b1 3).2
        have mm4 := (cells_at HT7.out.b1 4).1
        have ff4 := (cells_at HT7.out.b1 4).2
        have mm5 := (cells_at HT7.out.b1 5).1
        have ff5 := (cells_at HT7.out.b1 5).2
        have mm6 := (cells_at HT7.out.b1 6).1
        have ff6 := (cells_at HT7.out.b1 6).2
        simp at mm0 mm1 mm2 mm3 mm4 mm5 mm6
        have z7 := (heap_put (i := 6) (heap_put (i := 5) (heap_put (i := 4) (heap_put (i := 3) (heap_put (i := 2) (heap_put (i := 1) (heap_put (i := 0) HT7.out.b1 (.int .i64 win)) (.int .i64 pause)) (.int .i64 times)) (.int .u16 first)) (.int .i64 count)) (.slice a8 l8 c8)) (.bool false))
        have HBf : Hid (Below w.heap.size w (((((((W7.setCell ⟨g + 1, 0, none⟩ (.int .i64 win)).setCell ⟨g + 1, 1, none⟩ (.int .i64 pause)).setCell ⟨g + 1, 2, none⟩ (.int .i64 times)).setCell ⟨g + 1, 3, none⟩ (.int .u16 first)).setCell ⟨g + 1, 4, none⟩ (.int .i64 count)).setCell ⟨g + 1, 5, none⟩ (.slice a8 l8 c8)).setCell ⟨g + 1, 6, none⟩ (.bool false))) := hide (((((((HT7.out.bel.setCell (p := ⟨g + 1, 0, none⟩) Hg1.out (.int .i64 win)).setCell (p := ⟨g + 1, 1, none⟩) Hg1.out (.int .i64 pause)).setCell (p := ⟨g + 1, 2, none⟩) Hg1.out (.int .i64 times)).setCell (p := ⟨g + 1, 3, none⟩) Hg1.out (.int .u16 first)).setCell (p := ⟨g + 1, 4, none⟩) Hg1.out (.int .i64 count)).setCell (p := ⟨g + 1, 5, none⟩) Hg1.out (.slice a8 l8 c8)).setCell (p := ⟨g + 1, 6, none⟩) Hg1.out (.bool false))
        have yy0 := (cells_at z7 0).1
        have yy1 := (cells_at z7 1).1
        have yy2 := (cells_at z7 2).1
        have yy3 := (cells_at z7 3).1
        have yy4 := (cells_at z7 4).1
        have yy5 := (cells_at z7 5).1
        have yy6 := (cells_at z7 6).1
        simp at yy0 yy1 yy2 yy3 yy4 yy5 yy6
        clear z7
        go_wp2_with fail
        refine bodyPost_ret (v := .tuple #[.agg #[.int .i64 win, .int .i64 pause, .int .i64 times, .int .u16 first, .int .i64 count, .slice a8 l8 c8, .bool false], .int .i64 0]) (by simp [results, Try.results18, go_sem, yy0, yy1, yy2, yy3, yy4, yy5, yy6]) rfl ?_
        refine ⟨HBf.out, .inl ⟨by rw [Hix.out, Hn.out]; exact hlt, a8, l8, c8, rfl, ?_⟩⟩
        rw [Hix.out, Hk1.out]
        exact HO5.out
    · have j1 : ¬ (k : Int) < (n : Int) := by omega
      have Hg1 : Hid (w.heap.size ≤ g + 1) := hide (by have := HT.out.gg; omega)
      have Hix : Hid (rix first seq ps = ps.length) := hide (rix_no (fun j q hq => Hno.out j q (by have := (List.getElem?_eq_some_iff.1 hq).1; rw [Hn.out] at this; omega) hq))
      have kk0 := (cells_at HT.out.b0 0).1
      have kk1 := (cells_at HT.out.b0 1).1
      have kk2 := (cells_at HT.out.b0 2).1
      have kk3 := (cells_at HT.out.b0 3).1
      have kk4 := (cells_at HT.out.b0 4).1
      have kk5 := (cells_at HT.out.b0 5).1
      have kk6 := (cells_at HT.out.b0 6).1
      simp at kk0 kk1 kk2 kk3 kk4 kk5 kk6
      have mm0 := (cells_at HT.out.b1 0).1
      have ff0 := (cells_at HT.out.b1 0).2
      have mm1 := (cells_at HT.out.b1 1).1
      have ff1 := (cells_at HT.out.b1 1).2
      have mm2 := (cells_at HT.out.b1 2).1
      have ff2 := (cells_at HT.out.b1 2).2
      have mm3 := (cells_at HT.out.b1 3).1
      have ff3 := (cells_at HT.out.b1 3).2
      have mm4 := (cells_at HT.out.b1 4).1
      have ff4 := (cells_at HT.out.b1 4).2
      have mm5 := (cells_at HT.out.b1 5).1
      have ff5 := (cells_at HT.out.b1 5).2
      have mm6 := (cells_at HT.out.b1 6).1
      have ff6 := (cells_at HT.out.b1 6).2
      simp at mm0 mm1 mm2 mm3 mm4 mm5 mm6
      have z7 := (heap_put (i := 6) (heap_put (i := 5) (heap_put (i := 4) (heap_put (i := 3) (heap_put (i := 2) (heap_put (i := 1) (heap_put (i := 0) HT.out.b1 (.int .i64 win)) (.int .i64 pause)) (.int .i64 times)) (.int .u16 first)) (.int .i64 count)) (.slice av n cv)) (.bool false))
      have HBf : Hid (Below w.heap.size w (((((((wr.setCell ⟨g + 1, 0, none⟩ (.int .i64 win)).setCell ⟨g + 1, 1, none⟩ (.int .i64 pause)).setCell ⟨g + 1, 2, none⟩ (.int .i64 times)).setCell ⟨g + 1, 3, none⟩ (.int .u16 first)).setCell ⟨g + 1, 4, none⟩ (.int .i64 count)).setCell ⟨g + 1, 5, none⟩ (.slice av n cv)).setCell ⟨g + 1, 6, none⟩ (.bool false))) := hide (((((((HT.out.bel.setCell (p := ⟨g + 1, 0, none⟩) Hg1.out (.int .i64 win)).setCell (p := ⟨g + 1, 1, none⟩) Hg1.out (.int .i64 pause)).setCell (p := ⟨g + 1, 2, none⟩) Hg1.out (.int .i64 times)).setCell (p := ⟨g + 1, 3, none⟩) Hg1.out (.int .u16 first)).setCell (p := ⟨g + 1, 4, none⟩) Hg1.out (.int .i64 count)).setCell (p := ⟨g + 1, 5, none⟩) Hg1.out (.slice av n cv)).setCell (p := ⟨g + 1, 6, none⟩) Hg1.out (.bool false))
      have yy0 := (cells_at z7 0).1
      have yy1 := (cells_at z7 1).1
      have yy2 := (cells_at z7 2).1
      have yy3 := (cells_at z7 3).1
      have yy4 := (cells_at z7 4).1
      have yy5 := (cells_at z7 5).1
      have yy6 := (cells_at z7 6).1
      simp at yy0 yy1 yy2 yy3 yy4 yy5 yy6
      clear z7
      go_wp2_with fail
      refine bodyPost_ret (v := .tuple #[.agg #[.int .i64 win, .int .i64 pause, .int .i64 times, .int .u16 first, .int .i64 count, .slice av n cv, .bool false], .int .i64 4]) (by simp [results, Try.results18, go_sem, yy0, yy1, yy2, yy3, yy4, yy5, yy6]) rfl ?_
      exact ⟨HBf.out, .inr ⟨Hix.out, by rw [Hn.out]⟩⟩
end Go.Proofs.Yteihajppgooadaa
