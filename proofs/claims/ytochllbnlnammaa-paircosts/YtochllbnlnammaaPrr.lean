/- Spots as the document has them: ref, good. -/
import Derived.Test.YtochllbnlnammaaPrn
import Derived.Test.YtochllbnlnammaaPdr
namespace Go.Proofs.Ytochllbnlnammaa
open Go.RowKit
set_option linter.unusedVariables false

def rsE : El Try.prog (Int × Int) where
  t := 38
  e := 28
  k := 2
  by' := 16
  z := .agg #[.int .i64 0, .int .i64 0]
  enc l := [.int .i64 l.1, .int .i64 l.2]
  ht := Try.underlying38
  info := by kernel_rfl
  zc := rfl
  kpos := by omega
  bsm := by omega
  len _ := rfl
  one x v hv := by simp at hv; rcases hv with rfl | rfl <;> rfl
theorem rs_at {w : World} {a : Option Addr} {n c : Nat} {L : List (Int × Int)} (h : rsE.Rd w (.slice a n c) L) (i : Nat) (l : Int × Int) (hp : L[i]? = some l) : ∃ b off, a = some ⟨b, off, none⟩ ∧ w.cell? ⟨b, off + i * 2, none⟩ = some (.int .i64 l.1) ∧ w.cell? ⟨b, off + i * 2 + 1, none⟩ = some (.int .i64 l.2) := by
  obtain ⟨b, off, e, hc⟩ := El.Rd.at h i l hp
  exact ⟨b, off, e, hc 0 (by decide), hc 1 (by decide)⟩
theorem rs_new (w : World) (C : Array Value) (xs : List (Int × Int)) (hC : C.toList = rsE.fl xs) (hm : xs.length ≤ 1000000) (g n : Nat) (hg : g = w.heap.size) (hn : n = xs.length) : rsE.Rd (w.alloc (.cells C 28)) (.slice (some ⟨g, 0, none⟩) n n) xs :=
  (El.Own.new rsE w w.heap.size (Nat.le_refl _) C xs hC hm _ _ _ hg hn hn).rd

set_option maxRecDepth 100000 in
set_option maxHeartbeats 2000000 in
theorem ref_any (a : Option Addr) (n c : Nat) (L : List (Int × Int)) (w : World) (hn : L.length = n) (hl : n ≤ 100) (hv : spE.Rd w (.slice a n c) L) :
    Calls Try.prog 15 #[.slice a n c] w fun e w' => ∃ a' c', e = .returned (.slice a' n c') ∧ rsE.Own w' w.heap.size (.slice a' n c') L ∧ Below w.heap.size w w' := by
  obtain ⟨w0, rfl⟩ : ∃ w0, w0 = w := ⟨_, rfl⟩
  have Hn := hide hn
  have HV := hide hv
  have i0 : (n : Int) ≤ 100 := by omega
  clear hn hv hl
  go_enter Try.func15, Try.ntmps15
  go_upto_region 3 with fail
  go_loopw [3, 7] (fun v3 v7 wr => ∃ i : Nat, v7 = .int .i64 i ∧ i ≤ n ∧ Hid (Below w0.heap.size w0 wr) ∧ Hid (rsE.Own wr w0.heap.size v3 (L.take i))) (fun _ v7 _ => n - (intOf v7).toNat)
  case atStart => exact ⟨0, rfl, Nat.zero_le _, hide (Below.refl _ _), hide (El.Own.nil _ _ _)⟩
  case round =>
    obtain ⟨i, rfl, hi, HB, HO⟩ := hrel
    by_cases hlt : i < n
    · obtain ⟨⟨x, y⟩, hp⟩ : ∃ p, L[i]? = some p := ⟨_, List.getElem?_eq_getElem (by rw [Hn.out]; exact hlt)⟩
      obtain ⟨b, off, rfl, c0, c1⟩ := sp_at HV.out i _ hp
      have Hs : Hid (L.take (i + 1) = L.take i ++ [(x, y)]) := hide (by rw [List.take_add_one, hp]; rfl)
      have HL : Hid ((L.take i).length + [(x, y)].length ≤ 1000000) := hide (by rw [List.length_take]; simp; omega)
      have i1 : (0 : Int) ≤ (i : Int) := by omega
      have i2 : (i : Int) < (n : Int) := by omega
      have SI : Hid (∀ W, Below w0.heap.size w0 W → W.cell? ⟨b, off + i * 2, none⟩ = some (.int .i64 x) ∧ W.cell? ⟨b, off + i * 2 + 1, none⟩ = some (.int .i64 y)) := hide (fun W h => by
        rw [h.cell (cell_lt c0), h.cell (cell_lt c1)]; exact ⟨c0, c1⟩)
      obtain ⟨S0, hS0⟩ : ∃ S : World → Prop, S = fun W => W.cell? ⟨b, off + i * 2, none⟩ = some (.int .i64 x) ∧ W.cell? ⟨b, off + i * 2 + 1, none⟩ = some (.int .i64 y) := ⟨_, rfl⟩
      have SI : Hid (∀ W, Below w0.heap.size w0 W → S0 W) := hide (fun W h => by rw [hS0]; exact SI.out W h)
      have SD : Hid (∀ W, S0 W → W.cell? ⟨b, off + i * 2, none⟩ = some (.int .i64 x) ∧ W.cell? ⟨b, off + i * 2 + 1, none⟩ = some (.int .i64 y)) := hide (fun W h => by rw [hS0] at h; exact h)
      have HBd : Hid (Below w0.heap.size w0 wr.drew) := hide HB.out.drew
      have HOd : Hid (rsE.Own wr.drew w0.heap.size u3 (L.take i)) := hide (HO.out.keep (Below.refl _ _).drew)
      have HB1 : Hid (Below w0.heap.size w0 (wr.alloc (.cells #[.int .i64 x, .int .i64 y] 28)).drew) := hide (HB.out.alloc HB.out.size _).drew
      have HO1 : Hid (rsE.Own (wr.alloc (.cells #[.int .i64 x, .int .i64 y] 28)).drew w0.heap.size u3 (L.take i)) := hide (HO.out.keep ((Below.refl _ _).alloc (Nat.le_refl _) _).drew)
      have HR1 : Hid (rsE.Rd (wr.alloc (.cells #[.int .i64 x, .int .i64 y] 28)).drew (.slice (some ⟨wr.heap.size, 0, none⟩) 1 1) [(x, y)]) := hide ((rs_new wr _ [(x, y)] rfl (by simp) _ 1 rfl rfl).keep (Below.refl _ _).drew)
      have hS := SI.out _ HBd.out
      clear hp hS0 c0 c1
      go_upto_region 5 with fail
      refine wp_region_held_drew (S := S0) (by kernel_rfl) hS (fun _ => ?_)
      refine wpAnyH_take (i := 0) (v := u3) rfl (by kernel_rfl) (by kernel_rfl) (by kernel_rfl) (fun _ _ _ h => h) (Or.inl ⟨by rfl, fun W' hW => by go_simp⟩) hS ?_
      refine wpAnyH_take (i := 1) (v := .slice (some ⟨b, off, none⟩) n c) rfl (by kernel_rfl) (by kernel_rfl) (by kernel_rfl) (fun _ _ _ h => h) (Or.inl ⟨by rfl, fun W' hW => by go_simp⟩) hS ?_
      refine wpAnyH_take (i := 2) (v := .int .i64 i) rfl (by kernel_rfl) (by kernel_rfl) (by kernel_rfl) (fun _ _ _ h => h) (Or.inl ⟨by rfl, fun W' hW => by go_simp⟩) hS ?_
      refine wpAnyH_take (i := 3) (v := .pointer (some ⟨b, off + i * 2, none⟩)) rfl (by kernel_rfl) (by kernel_rfl) (by kernel_rfl) (fun _ _ _ h => h) (Or.inl ⟨by rfl, fun W' hW => by go_simp⟩) hS ?_
      refine wpAnyH_take (i := 4) (v := .pointer (some ⟨b, off + i * 2, none⟩)) rfl (by kernel_rfl) (by kernel_rfl) (by kernel_rfl) (fun _ _ _ h => h) (Or.inl ⟨by rfl, fun W' hW => by go_simp⟩) hS ?_
      refine wpAnyH_take (i := 5) (v := .int .i64 x) rfl (by kernel_rfl) (by kernel_rfl) (by kernel_rfl) (fun _ _ _ h => h) (Or.inl ⟨by rfl, fun W' hW => by have z0 := SD.out W' hW; go_simp⟩) hS ?_
      refine wpAnyH_take (i := 6) (v := .slice (some ⟨b, off, none⟩) n c) rfl (by kernel_rfl) (by kernel_rfl) (by kernel_rfl) (fun _ _ _ h => h) (Or.inl ⟨by rfl, fun W' hW => by go_simp⟩) hS ?_
      refine wpAnyH_take (i := 7) (v := .int .i64 i) rfl (by kernel_rfl) (by kernel_rfl) (by kernel_rfl) (fun _ _ _ h => h) (Or.inl ⟨by rfl, fun W' hW => by go_simp⟩) hS ?_
      refine wpAnyH_take (i := 8) (v := .pointer (some ⟨b, off + i * 2, none⟩)) rfl (by kernel_rfl) (by kernel_rfl) (by kernel_rfl) (fun _ _ _ h => h) (Or.inl ⟨by rfl, fun W' hW => by go_simp⟩) hS ?_
      refine wpAnyH_take (i := 9) (v := .pointer (some ⟨b, off + i * 2 + 1, none⟩)) rfl (by kernel_rfl) (by kernel_rfl) (by kernel_rfl) (fun _ _ _ h => h) (Or.inl ⟨by rfl, fun W' hW => by go_simp⟩) hS ?_
      refine wpAnyH_take (i := 10) (v := .int .i64 y) rfl (by kernel_rfl) (by kernel_rfl) (by kernel_rfl) (fun _ _ _ h => h) (Or.inl ⟨by rfl, fun W' hW => by have z0 := SD.out W' hW; go_simp⟩) hS ?_
      refine wpAnyH_ready (rs := [11]) (by kernel_rfl) (by simp) ?_
      refine AllReadyH.cons rfl (fun K hK => ?_) AllReadyH.nil
      go_simp
      refine hK.out _ _ hS (fun _ => ?_)
      clear hK K
      refine wpAnyH_ready (rs := [12]) (by kernel_rfl) (by simp) ?_
      refine AllReadyH.cons rfl (fun K hK => ?_) AllReadyH.nil
      go_simp
      refine hK.out _ _ (SI.out _ HB1.out) (fun _ => ?_)
      clear hK K
      refine wpAnyH_ready (rs := [13]) (by kernel_rfl) (by simp) ?_
      refine AllReadyH.cons rfl (fun K hK => ?_) AllReadyH.nil
      refine rsE.step (w0 := w0) HB1.out rfl _ _ rfl _ _ rfl rfl _ [(x, y)] HO1.out HR1.out HL.out ?_
      intro v' w' ho _ _ hb
      have HO2 := hide ho
      have HB2 := hide hb
      clear ho hb
      refine hK.out _ _ (SI.out _ HB2.out) (fun _ => ?_)
      clear hK K
      refine wpAnyH_ready (rs := [14]) (by kernel_rfl) (by simp) ?_
      refine AllReadyH.cons rfl (fun K hK => ?_) AllReadyH.nil
      go_simp
      refine hK.out _ _ (SI.out _ HB2.out) (fun _ => ?_)
      clear hK K
      refine wpAnyH_done (by kernel_rfl) ?_ _
      go_wp2_with fail
      go_roundw
      case rel => exact ⟨i + 1, by go_num, by omega, HB2, hide (by rw [Hs.out]; exact HO2.out)⟩
      case measure => simp [intOf] <;> omega
    · obtain rfl : i = n := by omega
      have i2 : ¬ (i : Int) < (i : Int) := by omega
      have HO1 : rsE.Own wr w0.heap.size u3 L := by have := HO.out; rwa [← Hn.out, List.take_length] at this
      obtain ⟨a', c', e4⟩ := HO1.rd.form
      rw [Hn.out] at e4
      subst e4
      have HO2 := hide HO1
      clear HO1
      go_wp2_with fail
      go_ret
      exact ⟨_, _, rfl, HO2.out, HB.out⟩

set_option maxRecDepth 100000 in
set_option maxHeartbeats 2000000 in
theorem good_any (a : Option Addr) (n c : Nat) (L : List (Int × Int)) (w : World) (hn : L.length = n) (hl : n ≤ 100) (hv : rsE.Rd w (.slice a n c) L) :
    Calls Try.prog 25 #[.slice a n c] w fun e w' => e = .returned (.bool (decide (Alw L))) ∧ w' = w := by
  have Hn := hide hn
  have HV := hide hv
  have HA : Hid (decide (Alw L) = (decide (n ≤ 6 ∧ ∀ p ∈ L, In p))) := hide (by rw [← hn]; rfl)
  generalize decide (Alw L) = res at *
  have i0 : (n : Int) ≤ 100 := by omega
  clear hv hn hl
  go_enter Try.func25, Try.ntmps25
  go_upto_region 2 with fail
  go_loopw [6] (fun v6 wr => ∃ k : Nat, v6 = .int .i64 k ∧ k ≤ n ∧ wr = w ∧ Hid (∀ p ∈ L.take k, In p)) (fun v6 _ => n - (intOf v6).toNat)
  case atStart => exact ⟨0, rfl, Nat.zero_le _, rfl, hide (by simp)⟩
  case round =>
    obtain ⟨k, rfl, hk, hw, HI⟩ := hrel
    subst hw
    by_cases hlt : k < n
    · obtain ⟨⟨x, y⟩, hp⟩ : ∃ p, L[k]? = some p := ⟨_, List.getElem?_eq_getElem (by rw [Hn.out]; exact hlt)⟩
      obtain ⟨b, off, rfl, c0, c1⟩ := rs_at HV.out k _ hp
      have j0 : (0 : Int) ≤ (k : Int) := by omega
      have j1 : (k : Int) < (n : Int) := by omega
      by_cases hi : In (x, y)
      · have HI1 : Hid (∀ p ∈ L.take (k + 1), In p) := hide (fun p h => by
          rw [List.take_add_one, hp] at h
          rcases List.mem_append.1 h with h | h
          · exact HI.out p h
          · simp at h; subst h; exact hi)
        obtain ⟨h1, h2, h3, h4⟩ := hi
        simp only at h1 h2 h3 h4
        clear hp
        go_wp2_with fail
        go_roundw
        case rel => exact ⟨k + 1, by go_num, by omega, trivial, HI1⟩
        case measure => simp [intOf] <;> omega
      · have e : res = false := by rw [HA.out]; exact decide_eq_false (fun h => hi (h.2 _ (List.mem_of_getElem? hp)))
        subst e
        have h := In.not hi
        simp only at h
        clear hp hi
        rcases h with h | ⟨h, h'⟩ | ⟨h, h', h''⟩ | ⟨h, h', h'', hq⟩
        all_goals
          go_wp2_with fail
          go_ret
          exact ⟨rfl, rfl⟩
    · obtain rfl : k = n := by omega
      have j1 : ¬ (k : Int) < (k : Int) := by omega
      have hin : ∀ p ∈ L, In p := by have := HI.out; rwa [← Hn.out, List.take_length] at this
      have e : res = decide ((k : Int) ≤ 6) := by
        rw [HA.out, Bool.eq_iff_iff, decide_eq_true_iff, decide_eq_true_iff]
        exact ⟨fun h => by omega, fun h => ⟨by omega, hin⟩⟩
      subst e
      clear hin
      go_wp2_with fail
      go_ret
      exact ⟨rfl, rfl⟩
end Go.Proofs.Ytochllbnlnammaa
