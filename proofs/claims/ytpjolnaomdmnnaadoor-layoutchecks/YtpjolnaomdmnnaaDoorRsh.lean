/- The document's Show. -/
import Derived.Test.YtpjolnaomdmnnaaDoorSho
import Derived.Test.YtpjolnaomdmnnaaDoorDig
import Derived.Test.YtpjolnaomdmnnaaDoorPsh
namespace Go.Proofs.YtpjolnaomdmnnaaDoor
open Go.RowKit
set_option linter.unusedVariables false

theorem app_list (a b : ByteArray) : (a ++ b).data.toList = a.data.toList ++ b.data.toList := by simp
theorem dig_sz (i : Nat) : (dig i).size ≤ 2 := by unfold dig; split <;> simp [str_size]
theorem dig_dec (z : Nat) (h : z < 8) : (dig z).data.toList = Lib.decDigits z := by
  have : z = 0 ∨ z = 1 ∨ z = 2 ∨ z = 3 ∨ z = 4 ∨ z = 5 ∨ z = 6 ∨ z = 7 := by omega
  rw [Lib.decDigits, dif_pos (by omega)]
  rcases this with rfl | rfl | rfl | rfl | rfl | rfl | rfl | rfl <;> rfl

set_option maxRecDepth 100000 in
set_option maxHeartbeats 16000000 in
theorem rshow_ok (a a' : Option Addr) (c c' n m : Nat) (ns : List Nd) (es : List Ed) (w : World) (hn : ns.length = n) (hm : es.length = m) (hv : ndE.Rd w (.slice a n c) ns) (hu : edE.Rd w (.slice a' m c') es) (hg : good ns es = true) :
    Calls Tryd.prog 15 #[.agg #[.slice a n c, .slice a' m c']] w fun e w' => e = .returned (.string (str (showL ns es))) ∧ Below w.heap.size w w' := by
  obtain ⟨W0, hW0⟩ : ∃ W0, (w.alloc (.cells #[.slice a n c, .slice a' m c'] 25)).alloc (.cells #[.string (kindW 1), .string (kindW 2), .string (kindW 3), .string (kindW 4)] 57) = W0 := ⟨_, rfl⟩
  have bA : Below w.heap.size w W0 := by rw [← hW0]; exact ((Below.refl _ _).alloc (Nat.le_refl _) _).alloc (by simp) _
  have hbox : W0.heap[w.heap.size]? = some (.cells #[.slice a n c, .slice a' m c'] 25) := by rw [← hW0, Below.heap_alloc _ _ _ (by simp)]; exact heap_new _ _
  have hbx2 : W0.heap[w.heap.size + 1]? = some (.cells #[.string (kindW 1), .string (kindW 2), .string (kindW 3), .string (kindW 4)] 57) := by
    rw [← hW0]
    have := heap_new (w.alloc (.cells #[.slice a n c, .slice a' m c'] 25)) (.cells #[.string (kindW 1), .string (kindW 2), .string (kindW 3), .string (kindW 4)] 57)
    rwa [show (w.alloc (.cells #[.slice a n c, .slice a' m c'] 25)).heap.size = w.heap.size + 1 by simp] at this
  have HA := hide bA
  have HW0 := hide hW0
  have HN : Hid (ns.length = n ∧ es.length = m ∧ (∀ x ∈ ns, ndB x = true) ∧ (∀ e ∈ es, edB ns e = true) ∧ n ≤ 40 ∧ m ≤ 120) := hide (by
    unfold good goodN goodE at hg
    simp only [Bool.and_eq_true, decide_eq_true_eq] at hg
    exact ⟨hn, hm, hg.1.2.2.1, hg.2.2.1, by omega, by omega⟩)
  have HRW : Hid (∀ W, Below W0.heap.size W0 W → ndE.Rd W (.slice a n c) ns ∧ edE.Rd W (.slice a' m c') es ∧ (W.cell? ⟨w.heap.size, 0, none⟩ = some (.slice a n c) ∧ W.cell? ⟨w.heap.size, 1, none⟩ = some (.slice a' m c')) ∧ W.heap[w.heap.size + 1]? = some (.cells #[.string (kindW 1), .string (kindW 2), .string (kindW 3), .string (kindW 4)] 57)) := hide (fun W h => by
    have b := bA.trans (h.mono bA.size)
    have h1 : W.heap[w.heap.size]? = some (.cells #[.slice a n c, .slice a' m c'] 25) := by rw [h.block _ (heap_lt hbox)]; exact hbox
    exact ⟨hv.keep b, hu.keep b, ⟨(cells_at h1 0).1, (cells_at h1 1).1⟩, by rw [h.block _ (heap_lt hbx2)]; exact hbx2⟩)
  have i0 : (n : Int) ≤ 40 := by have := HN.out.2.2.2.2.1; omega
  have i1 : (m : Int) ≤ 120 := by have := HN.out.2.2.2.2.2; omega
  obtain ⟨_, _, ⟨x0, x1⟩, _⟩ := HRW.out W0 (Below.refl _ _)
  have Hb0 : Hid (Below W0.heap.size W0 W0) := hide (Below.refl _ _)
  clear hW0 hbox hbx2 bA hv hu hg hn hm
  go_enter Tryd.func15, Tryd.ntmps15
  go_upto_region 2 with fail
  have ek1 : kindW 1 = ⟨#[116, 114, 97, 99, 107]⟩ := rfl
  have ek2 : kindW 2 = ⟨#[115, 108, 111, 116]⟩ := rfl
  have ek3 : kindW 3 = ⟨#[115, 116, 97, 116, 105, 111, 110]⟩ := rfl
  have ek4 : kindW 4 = ⟨#[103, 97, 116, 101]⟩ := rfl
  rw [← ek1, ← ek2, ← ek3, ← ek4]
  rw [HW0.out]
  clear HW0 ek1 ek2 ek3 ek4
  go_wp2_with fail
  clear x0 x1
  go_loopw [4, 12] (fun v4 v12 wr => ∃ (k : Nat) (S : ByteArray), k ≤ n ∧ v12 = .int .i64 k ∧ v4 = .string S ∧ Hid (S.data.toList = (ns.take k).flatMap ndLine) ∧ Hid (Below W0.heap.size W0 wr)) (fun _ v12 _ => n - (intOf v12).toNat)
  case atStart => exact ⟨0, _, by omega, rfl, rfl, hide rfl, Hb0⟩
  case round =>
    clear Hb0
    obtain ⟨k, S, hk, rfl, rfl, HS, HB⟩ := hrel
    obtain ⟨_, _, ⟨x0, x1⟩, _⟩ := HRW.out wr HB.out
    by_cases hlt : k < n
    · obtain ⟨p, hp⟩ : ∃ p, ns[k]? = some p := ⟨_, List.getElem?_eq_getElem (by rw [HN.out.1]; exact hlt)⟩
      have hpb := nd_parts (HN.out.2.2.1 p (List.mem_of_getElem? hp))
      have Htk := hide (flat_take ndLine ns k p hp)
      have hSz : S.size ≤ 1600 := by
        have h1 := flat_len ndLine 40 (ns.take k) (fun x hx => ndLine_small x (HN.out.2.2.1 x (List.mem_of_mem_take hx)))
        have h2 : (ns.take k).length ≤ 40 := by rw [List.length_take]; have := HN.out.2.2.2.2.1; omega
        have h3 := Nat.mul_le_mul_right 40 h2
        rw [← HS.out] at h1
        have h4 : S.data.toList.length = S.size := rfl
        omega
      have hnm : p.name.size ≤ 8 := by
        have h1 := hpb.1
        unfold nameB at h1
        exact (of_decide_eq_true h1).2.1
      obtain ⟨bN, oN, haN, c0, c1, c2⟩ := nd_at (HRW.out wr HB.out).1 k p hp
      obtain ⟨nm, kd, zn⟩ := p
      simp only at c0 c1 c2 hnm
      have Hsz : Hid (S.size ≤ 1600 ∧ nm.size ≤ 8) := hide ⟨hSz, hnm⟩
      clear hSz hnm
      rw [haN] at x0
      obtain ⟨_, ⟨hk1, hk4⟩, z, hzz, hz8⟩ := hpb
      simp only at hk1 hk4 hzz
      subst hzz
      have Hz : Hid (z < 8 ∧ z < 100) := hide ⟨hz8, by omega⟩
      obtain ⟨WN, hWN⟩ : ∃ WN, wr.alloc (.cells #[.string nm, .int .i64 kd, .int .i64 (z : Int)] 44) = WN := ⟨_, rfl⟩
      have bN' : Below wr.heap.size wr WN := by rw [← hWN]; exact (Below.refl _ _).alloc (Nat.le_refl _) _
      have hbxN : WN.heap[wr.heap.size]? = some (.cells #[.string nm, .int .i64 kd, .int .i64 (z : Int)] 44) := by rw [← hWN]; exact heap_new _ _
      have HBN : Hid (Below W0.heap.size W0 WN) := hide (HB.out.trans (bN'.mono HB.out.size))
      obtain ⟨gn, hgn⟩ : ∃ g, wr.heap.size = g := ⟨_, rfl⟩
      have Hgne := hide hgn
      rw [hgn] at hbxN
      have j0 : (0 : Int) ≤ (k : Int) := by omega
      have j1 : (k : Int) < (n : Int) := by omega
      have Hlt := hide hlt
      have HWN := hide hWN
      clear hp hk hlt hz8 bN' hWN hgn haN
      go_upto_region 7 with fail
      rw [HWN.out, Hgne.out]
      clear HWN Hgne c0 c1 c2 x0 x1
      obtain ⟨SS, hSS⟩ : ∃ SS : World → Prop, SS = fun W' => Below WN.heap.size WN W' := ⟨_, rfl⟩
      have s9 : Hid (∀ W', SS W' → Below WN.heap.size WN W') := hide (fun W' h => by rw [hSS] at h; exact h)
      have s8 : Hid (∀ W', Below WN.heap.size WN W' → SS W') := hide (fun W' h => by rw [hSS]; exact h)
      have s1 : ∀ W', SS W' → W'.cell? ⟨gn, 0, none⟩ = some (.string nm) ∧ W'.cell? ⟨gn, 1, none⟩ = some (.int .i64 kd) ∧ W'.cell? ⟨gn, 2, none⟩ = some (.int .i64 (z : Int)) := fun W' h => by
        have hb : W'.heap[gn]? = some (.cells #[.string nm, .int .i64 kd, .int .i64 (z : Int)] 44) := by rw [(s9.out W' h).block _ (heap_lt hbxN)]; exact hbxN
        exact ⟨(cells_at hb 0).1, (cells_at hb 1).1, (cells_at hb 2).1⟩
      have s2 : Hid (∀ W', SS W' → W'.heap[w.heap.size + 1]? = some (.cells #[.string (kindW 1), .string (kindW 2), .string (kindW 3), .string (kindW 4)] 57)) := hide (fun W' h => (HRW.out W' (HBN.out.trans ((s9.out W' h).mono HBN.out.size))).2.2.2)
      have hS0 := s8.out WN.drew (below_h3 (Below.refl _ _) rfl rfl rfl rfl)
      clear hSS
      have hk4c : kd = 1 ∨ kd = 2 ∨ kd = 3 ∨ kd = 4 := by omega
      rcases hk4c with h4 | h4 | h4 | h4
      · subst h4
        have s3 : ∀ W', SS W' → W'.cell? ⟨w.heap.size + 1, 0, none⟩ = some (.string (kindW 1)) := fun W' h => (cells_at (s2.out W' h) 0).1
        have hsz := Hsz.out
        have hkw := kindW_small 1
        have hdg := dig_sz z
        have e1 : S.size ≤ 9223372036854775802 := by omega
        have e2 : S.size + 5 + nm.size ≤ 9223372036854775807 := by omega
        have e3 : S.size + 5 + nm.size ≤ 9223372036854775806 := by omega
        have e4 : S.size + 5 + nm.size + 1 + (kindW 1).size ≤ 9223372036854775807 := by omega
        have e5 : S.size + 5 + nm.size + 1 + (kindW 1).size ≤ 9223372036854775806 := by omega
        have e6 : S.size + 5 + nm.size + 1 + (kindW 1).size + 1 + (dig z).size ≤ 9223372036854775807 := by omega
        have e7 : S.size + 5 + nm.size + 1 + (kindW 1).size + 1 + (dig z).size ≤ 9223372036854775806 := by omega
        clear hkw hdg hsz
        have w0 : IntKind.i64.wrap 0 = 0 := by first | decide | (unfold IntKind.wrap; simp [IntKind.bits, IntKind.signed])
        have HS2 : Hid (((((((((S ++ ⟨#[110, 111, 100, 101, 32]⟩) ++ nm) ++ ⟨#[32]⟩) ++ kindW 1) ++ ⟨#[32]⟩) ++ dig z) ++ ⟨#[10]⟩) : ByteArray).data.toList = (ns.take (k + 1)).flatMap ndLine) := hide (by
          rw [Htk.out, app_list, app_list, app_list, app_list, app_list, app_list, app_list, HS.out, nd_line, dig_dec z Hz.out.1]
          unfold ndBody
          simp [nodeWd, str])
        refine wp_region_held_drew (S := SS) (by kernel_rfl) (hS0) (fun hS1 => ?_)
        refine wpAnyH_take (i := 0) (v := .string S) rfl (by kernel_rfl) (by kernel_rfl) (by kernel_rfl) (fun _ _ _ h => h) (Or.inl ⟨by rfl, fun W' hW => by go_simp⟩) hS1 ?_
        refine wpAnyH_take (i := 1) (v := .string (S ++ ⟨#[110, 111, 100, 101, 32]⟩)) rfl (by kernel_rfl) (by kernel_rfl) (by kernel_rfl) (fun _ _ _ h => h) (Or.inl ⟨by rfl, fun W' hW => by go_simp⟩) hS1 ?_
        refine wpAnyH_take (i := 2) (v := .pointer (some ⟨gn, 0, none⟩)) rfl (by kernel_rfl) (by kernel_rfl) (by kernel_rfl) (fun _ _ _ h => h) (Or.inl ⟨by rfl, fun W' hW => by go_simp⟩) hS1 ?_
        refine wpAnyH_take (i := 3) (v := .string nm) rfl (by kernel_rfl) (by kernel_rfl) (by kernel_rfl) (fun _ _ _ h => h) (Or.inl ⟨by rfl, fun W' hW => by have x0 := (s1 W' hW).1; go_simp⟩) hS1 ?_
        refine wpAnyH_take (i := 4) (v := .string ((S ++ ⟨#[110, 111, 100, 101, 32]⟩) ++ nm)) rfl (by kernel_rfl) (by kernel_rfl) (by kernel_rfl) (fun _ _ _ h => h) (Or.inl ⟨by rfl, fun W' hW => by go_simp⟩) hS1 ?_
        refine wpAnyH_take (i := 5) (v := .string (((S ++ ⟨#[110, 111, 100, 101, 32]⟩) ++ nm) ++ ⟨#[32]⟩)) rfl (by kernel_rfl) (by kernel_rfl) (by kernel_rfl) (fun _ _ _ h => h) (Or.inl ⟨by rfl, fun W' hW => by go_simp⟩) hS1 ?_
        refine wpAnyH_take (i := 6) (v := .pointer (some ⟨gn, 1, none⟩)) rfl (by kernel_rfl) (by kernel_rfl) (by kernel_rfl) (fun _ _ _ h => h) (Or.inl ⟨by rfl, fun W' hW => by go_simp⟩) hS1 ?_
        refine wpAnyH_take (i := 7) (v := .int .i64 1) rfl (by kernel_rfl) (by kernel_rfl) (by kernel_rfl) (fun _ _ _ h => h) (Or.inl ⟨by rfl, fun W' hW => by have x0 := (s1 W' hW).2.1; go_simp⟩) hS1 ?_
        refine wpAnyH_take (i := 8) (v := .int .i64 0) rfl (by kernel_rfl) (by kernel_rfl) (by kernel_rfl) (fun _ _ _ h => h) (Or.inl ⟨by rfl, fun W' hW => by go_simp⟩) hS1 ?_
        refine wpAnyH_take (i := 9) (v := .pointer (some ⟨w.heap.size + 1, 0, none⟩)) rfl (by kernel_rfl) (by kernel_rfl) (by kernel_rfl) (fun _ _ _ h => h) (Or.inl ⟨by rfl, fun W' hW => by go_simp⟩) hS1 ?_
        refine wpAnyH_take (i := 10) (v := .string (kindW 1)) rfl (by kernel_rfl) (by kernel_rfl) (by kernel_rfl) (fun _ _ _ h => h) (Or.inl ⟨by rfl, fun W' hW => by have x0 := s3 W' hW; go_simp⟩) hS1 ?_
        refine wpAnyH_take (i := 11) (v := .string ((((S ++ ⟨#[110, 111, 100, 101, 32]⟩) ++ nm) ++ ⟨#[32]⟩) ++ kindW 1)) rfl (by kernel_rfl) (by kernel_rfl) (by kernel_rfl) (fun _ _ _ h => h) (Or.inl ⟨by rfl, fun W' hW => by go_simp⟩) hS1 ?_
        refine wpAnyH_take (i := 12) (v := .string (((((S ++ ⟨#[110, 111, 100, 101, 32]⟩) ++ nm) ++ ⟨#[32]⟩) ++ kindW 1) ++ ⟨#[32]⟩)) rfl (by kernel_rfl) (by kernel_rfl) (by kernel_rfl) (fun _ _ _ h => h) (Or.inl ⟨by rfl, fun W' hW => by go_simp⟩) hS1 ?_
        refine wpAnyH_take (i := 13) (v := .pointer (some ⟨gn, 2, none⟩)) rfl (by kernel_rfl) (by kernel_rfl) (by kernel_rfl) (fun _ _ _ h => h) (Or.inl ⟨by rfl, fun W' hW => by go_simp⟩) hS1 ?_
        refine wpAnyH_take (i := 14) (v := .int .i64 (z : Int)) rfl (by kernel_rfl) (by kernel_rfl) (by kernel_rfl) (fun _ _ _ h => h) (Or.inl ⟨by rfl, fun W' hW => by have x0 := (s1 W' hW).2.2; go_simp⟩) hS1 ?_
        refine wpAnyH_ready (rs := [15]) (by kernel_rfl) (by simp) ?_
        refine AllReadyH.cons rfl (fun K hK => ?_) AllReadyH.nil
        go_simp
        refine (digits_any z Hz.out.2 _).mono ?_
        rintro e U1 ⟨rfl, hb1⟩
        have S2 := s8.out U1 ((s9.out _ hS1).trans (hb1.mono (s9.out _ hS1).size))
        refine hK.out _ _ S2 (fun _ => ?_)
        clear hK K hb1
        refine wpAnyH_take (i := 16) (v := .string ((((((S ++ ⟨#[110, 111, 100, 101, 32]⟩) ++ nm) ++ ⟨#[32]⟩) ++ kindW 1) ++ ⟨#[32]⟩) ++ dig z)) rfl (by kernel_rfl) (by kernel_rfl) (by kernel_rfl) (fun _ _ _ h => h) (Or.inl ⟨by rfl, fun W' hW => by go_simp⟩) S2 ?_
        refine wpAnyH_take (i := 17) (v := .string (((((((S ++ ⟨#[110, 111, 100, 101, 32]⟩) ++ nm) ++ ⟨#[32]⟩) ++ kindW 1) ++ ⟨#[32]⟩) ++ dig z) ++ ⟨#[10]⟩)) rfl (by kernel_rfl) (by kernel_rfl) (by kernel_rfl) (fun _ _ _ h => h) (Or.inl ⟨by rfl, fun W' hW => by go_simp⟩) S2 ?_
        refine wpAnyH_ready (rs := [18]) (by kernel_rfl) (by simp) ?_
        refine AllReadyH.cons rfl (fun K hK => ?_) AllReadyH.nil
        go_simp
        refine hK.out _ _ S2 (fun _ => ?_)
        clear hK K
        refine wpAnyH_done (by kernel_rfl) ?_ _
        have HB3 : Hid (Below W0.heap.size W0 U1) := hide (HBN.out.trans ((s9.out _ S2).mono HBN.out.size))
        clear s1 s3
        go_wp2_with fail
        go_roundw
        case rel => exact ⟨k + 1, _, by have := Hlt.out; omega, by go_num, rfl, HS2, HB3⟩
        case measure => have := Hlt.out; simp [intOf]; omega
      · subst h4
        have s3 : ∀ W', SS W' → W'.cell? ⟨w.heap.size + 1, 1, none⟩ = some (.string (kindW 2)) := fun W' h => (cells_at (s2.out W' h) 1).1
        have hsz := Hsz.out
        have hkw := kindW_small 2
        have hdg := dig_sz z
        have e1 : S.size ≤ 9223372036854775802 := by omega
        have e2 : S.size + 5 + nm.size ≤ 9223372036854775807 := by omega
        have e3 : S.size + 5 + nm.size ≤ 9223372036854775806 := by omega
        have e4 : S.size + 5 + nm.size + 1 + (kindW 2).size ≤ 9223372036854775807 := by omega
        have e5 : S.size + 5 + nm.size + 1 + (kindW 2).size ≤ 9223372036854775806 := by omega
        have e6 : S.size + 5 + nm.size + 1 + (kindW 2).size + 1 + (dig z).size ≤ 9223372036854775807 := by omega
        have e7 : S.size + 5 + nm.size + 1 + (kindW 2).size + 1 + (dig z).size ≤ 9223372036854775806 := by omega
        clear hkw hdg hsz
        have w0 : IntKind.i64.wrap 1 = 1 := by first | decide | (unfold IntKind.wrap; simp [IntKind.bits, IntKind.signed])
        have HS2 : Hid (((((((((S ++ ⟨#[110, 111, 100, 101, 32]⟩) ++ nm) ++ ⟨#[32]⟩) ++ kindW 2) ++ ⟨#[32]⟩) ++ dig z) ++ ⟨#[10]⟩) : ByteArray).data.toList = (ns.take (k + 1)).flatMap ndLine) := hide (by
          rw [Htk.out, app_list, app_list, app_list, app_list, app_list, app_list, app_list, HS.out, nd_line, dig_dec z Hz.out.1]
          unfold ndBody
          simp [nodeWd, str])
        refine wp_region_held_drew (S := SS) (by kernel_rfl) (hS0) (fun hS1 => ?_)
        refine wpAnyH_take (i := 0) (v := .string S) rfl (by kernel_rfl) (by kernel_rfl) (by kernel_rfl) (fun _ _ _ h => h) (Or.inl ⟨by rfl, fun W' hW => by go_simp⟩) hS1 ?_
        refine wpAnyH_take (i := 1) (v := .string (S ++ ⟨#[110, 111, 100, 101, 32]⟩)) rfl (by kernel_rfl) (by kernel_rfl) (by kernel_rfl) (fun _ _ _ h => h) (Or.inl ⟨by rfl, fun W' hW => by go_simp⟩) hS1 ?_
        refine wpAnyH_take (i := 2) (v := .pointer (some ⟨gn, 0, none⟩)) rfl (by kernel_rfl) (by kernel_rfl) (by kernel_rfl) (fun _ _ _ h => h) (Or.inl ⟨by rfl, fun W' hW => by go_simp⟩) hS1 ?_
        refine wpAnyH_take (i := 3) (v := .string nm) rfl (by kernel_rfl) (by kernel_rfl) (by kernel_rfl) (fun _ _ _ h => h) (Or.inl ⟨by rfl, fun W' hW => by have x0 := (s1 W' hW).1; go_simp⟩) hS1 ?_
        refine wpAnyH_take (i := 4) (v := .string ((S ++ ⟨#[110, 111, 100, 101, 32]⟩) ++ nm)) rfl (by kernel_rfl) (by kernel_rfl) (by kernel_rfl) (fun _ _ _ h => h) (Or.inl ⟨by rfl, fun W' hW => by go_simp⟩) hS1 ?_
        refine wpAnyH_take (i := 5) (v := .string (((S ++ ⟨#[110, 111, 100, 101, 32]⟩) ++ nm) ++ ⟨#[32]⟩)) rfl (by kernel_rfl) (by kernel_rfl) (by kernel_rfl) (fun _ _ _ h => h) (Or.inl ⟨by rfl, fun W' hW => by go_simp⟩) hS1 ?_
        refine wpAnyH_take (i := 6) (v := .pointer (some ⟨gn, 1, none⟩)) rfl (by kernel_rfl) (by kernel_rfl) (by kernel_rfl) (fun _ _ _ h => h) (Or.inl ⟨by rfl, fun W' hW => by go_simp⟩) hS1 ?_
        refine wpAnyH_take (i := 7) (v := .int .i64 2) rfl (by kernel_rfl) (by kernel_rfl) (by kernel_rfl) (fun _ _ _ h => h) (Or.inl ⟨by rfl, fun W' hW => by have x0 := (s1 W' hW).2.1; go_simp⟩) hS1 ?_
        refine wpAnyH_take (i := 8) (v := .int .i64 1) rfl (by kernel_rfl) (by kernel_rfl) (by kernel_rfl) (fun _ _ _ h => h) (Or.inl ⟨by rfl, fun W' hW => by go_simp⟩) hS1 ?_
        refine wpAnyH_take (i := 9) (v := .pointer (some ⟨w.heap.size + 1, 1, none⟩)) rfl (by kernel_rfl) (by kernel_rfl) (by kernel_rfl) (fun _ _ _ h => h) (Or.inl ⟨by rfl, fun W' hW => by go_simp⟩) hS1 ?_
        refine wpAnyH_take (i := 10) (v := .string (kindW 2)) rfl (by kernel_rfl) (by kernel_rfl) (by kernel_rfl) (fun _ _ _ h => h) (Or.inl ⟨by rfl, fun W' hW => by have x0 := s3 W' hW; go_simp⟩) hS1 ?_
        refine wpAnyH_take (i := 11) (v := .string ((((S ++ ⟨#[110, 111, 100, 101, 32]⟩) ++ nm) ++ ⟨#[32]⟩) ++ kindW 2)) rfl (by kernel_rfl) (by kernel_rfl) (by kernel_rfl) (fun _ _ _ h => h) (Or.inl ⟨by rfl, fun W' hW => by go_simp⟩) hS1 ?_
        refine wpAnyH_take (i := 12) (v := .string (((((S ++ ⟨#[110, 111, 100, 101, 32]⟩) ++ nm) ++ ⟨#[32]⟩) ++ kindW 2) ++ ⟨#[32]⟩)) rfl (by kernel_rfl) (by kernel_rfl) (by kernel_rfl) (fun _ _ _ h => h) (Or.inl ⟨by rfl, fun W' hW => by go_simp⟩) hS1 ?_
        refine wpAnyH_take (i := 13) (v := .pointer (some ⟨gn, 2, none⟩)) rfl (by kernel_rfl) (by kernel_rfl) (by kernel_rfl) (fun _ _ _ h => h) (Or.inl ⟨by rfl, fun W' hW => by go_simp⟩) hS1 ?_
        refine wpAnyH_take (i := 14) (v := .int .i64 (z : Int)) rfl (by kernel_rfl) (by kernel_rfl) (by kernel_rfl) (fun _ _ _ h => h) (Or.inl ⟨by rfl, fun W' hW => by have x0 := (s1 W' hW).2.2; go_simp⟩) hS1 ?_
        refine wpAnyH_ready (rs := [15]) (by kernel_rfl) (by simp) ?_
        refine AllReadyH.cons rfl (fun K hK => ?_) AllReadyH.nil
        go_simp
        refine (digits_any z Hz.out.2 _).mono ?_
        rintro e U1 ⟨rfl, hb1⟩
        have S2 := s8.out U1 ((s9.out _ hS1).trans (hb1.mono (s9.out _ hS1).size))
        refine hK.out _ _ S2 (fun _ => ?_)
        clear hK K hb1
        refine wpAnyH_take (i := 16) (v := .string ((((((S ++ ⟨#[110, 111, 100, 101, 32]⟩) ++ nm) ++ ⟨#[32]⟩) ++ kindW 2) ++ ⟨#[32]⟩) ++ dig z)) rfl (by kernel_rfl) (by kernel_rfl) (by kernel_rfl) (fun _ _ _ h => h) (Or.inl ⟨by rfl, fun W' hW => by go_simp⟩) S2 ?_
        refine wpAnyH_take (i := 17) (v := .string (((((((S ++ ⟨#[110, 111, 100, 101, 32]⟩) ++ nm) ++ ⟨#[32]⟩) ++ kindW 2) ++ ⟨#[32]⟩) ++ dig z) ++ ⟨#[10]⟩)) rfl (by kernel_rfl) (by kernel_rfl) (by kernel_rfl) (fun _ _ _ h => h) (Or.inl ⟨by rfl, fun W' hW => by go_simp⟩) S2 ?_
        refine wpAnyH_ready (rs := [18]) (by kernel_rfl) (by simp) ?_
        refine AllReadyH.cons rfl (fun K hK => ?_) AllReadyH.nil
        go_simp
        refine hK.out _ _ S2 (fun _ => ?_)
        clear hK K
        refine wpAnyH_done (by kernel_rfl) ?_ _
        have HB3 : Hid (Below W0.heap.size W0 U1) := hide (HBN.out.trans ((s9.out _ S2).mono HBN.out.size))
        clear s1 s3
        go_wp2_with fail
        go_roundw
        case rel => exact ⟨k + 1, _, by have := Hlt.out; omega, by go_num, rfl, HS2, HB3⟩
        case measure => have := Hlt.out; simp [intOf]; omega
      · subst h4
        have s3 : ∀ W', SS W' → W'.cell? ⟨w.heap.size + 1, 2, none⟩ = some (.string (kindW 3)) := fun W' h => (cells_at (s2.out W' h) 2).1
        have hsz := Hsz.out
        have hkw := kindW_small 3
        have hdg := dig_sz z
        have e1 : S.size ≤ 9223372036854775802 := by omega
        have e2 : S.size + 5 + nm.size ≤ 9223372036854775807 := by omega
        have e3 : S.size + 5 + nm.size ≤ 9223372036854775806 := by omega
        have e4 : S.size + 5 + nm.size + 1 + (kindW 3).size ≤ 9223372036854775807 := by omega
        have e5 : S.size + 5 + nm.size + 1 + (kindW 3).size ≤ 9223372036854775806 := by omega
        have e6 : S.size + 5 + nm.size + 1 + (kindW 3).size + 1 + (dig z).size ≤ 9223372036854775807 := by omega
        have e7 : S.size + 5 + nm.size + 1 + (kindW 3).size + 1 + (dig z).size ≤ 9223372036854775806 := by omega
        clear hkw hdg hsz
        have w0 : IntKind.i64.wrap 2 = 2 := by first | decide | (unfold IntKind.wrap; simp [IntKind.bits, IntKind.signed])
        have HS2 : Hid (((((((((S ++ ⟨#[110, 111, 100, 101, 32]⟩) ++ nm) ++ ⟨#[32]⟩) ++ kindW 3) ++ ⟨#[32]⟩) ++ dig z) ++ ⟨#[10]⟩) : ByteArray).data.toList = (ns.take (k + 1)).flatMap ndLine) := hide (by
          rw [Htk.out, app_list, app_list, app_list, app_list, app_list, app_list, app_list, HS.out, nd_line, dig_dec z Hz.out.1]
          unfold ndBody
          simp [nodeWd, str])
        refine wp_region_held_drew (S := SS) (by kernel_rfl) (hS0) (fun hS1 => ?_)
        refine wpAnyH_take (i := 0) (v := .string S) rfl (by kernel_rfl) (by kernel_rfl) (by kernel_rfl) (fun _ _ _ h => h) (Or.inl ⟨by rfl, fun W' hW => by go_simp⟩) hS1 ?_
        refine wpAnyH_take (i := 1) (v := .string (S ++ ⟨#[110, 111, 100, 101, 32]⟩)) rfl (by kernel_rfl) (by kernel_rfl) (by kernel_rfl) (fun _ _ _ h => h) (Or.inl ⟨by rfl, fun W' hW => by go_simp⟩) hS1 ?_
        refine wpAnyH_take (i := 2) (v := .pointer (some ⟨gn, 0, none⟩)) rfl (by kernel_rfl) (by kernel_rfl) (by kernel_rfl) (fun _ _ _ h => h) (Or.inl ⟨by rfl, fun W' hW => by go_simp⟩) hS1 ?_
        refine wpAnyH_take (i := 3) (v := .string nm) rfl (by kernel_rfl) (by kernel_rfl) (by kernel_rfl) (fun _ _ _ h => h) (Or.inl ⟨by rfl, fun W' hW => by have x0 := (s1 W' hW).1; go_simp⟩) hS1 ?_
        refine wpAnyH_take (i := 4) (v := .string ((S ++ ⟨#[110, 111, 100, 101, 32]⟩) ++ nm)) rfl (by kernel_rfl) (by kernel_rfl) (by kernel_rfl) (fun _ _ _ h => h) (Or.inl ⟨by rfl, fun W' hW => by go_simp⟩) hS1 ?_
        refine wpAnyH_take (i := 5) (v := .string (((S ++ ⟨#[110, 111, 100, 101, 32]⟩) ++ nm) ++ ⟨#[32]⟩)) rfl (by kernel_rfl) (by kernel_rfl) (by kernel_rfl) (fun _ _ _ h => h) (Or.inl ⟨by rfl, fun W' hW => by go_simp⟩) hS1 ?_
        refine wpAnyH_take (i := 6) (v := .pointer (some ⟨gn, 1, none⟩)) rfl (by kernel_rfl) (by kernel_rfl) (by kernel_rfl) (fun _ _ _ h => h) (Or.inl ⟨by rfl, fun W' hW => by go_simp⟩) hS1 ?_
        refine wpAnyH_take (i := 7) (v := .int .i64 3) rfl (by kernel_rfl) (by kernel_rfl) (by kernel_rfl) (fun _ _ _ h => h) (Or.inl ⟨by rfl, fun W' hW => by have x0 := (s1 W' hW).2.1; go_simp⟩) hS1 ?_
        refine wpAnyH_take (i := 8) (v := .int .i64 2) rfl (by kernel_rfl) (by kernel_rfl) (by kernel_rfl) (fun _ _ _ h => h) (Or.inl ⟨by rfl, fun W' hW => by go_simp⟩) hS1 ?_
        refine wpAnyH_take (i := 9) (v := .pointer (some ⟨w.heap.size + 1, 2, none⟩)) rfl (by kernel_rfl) (by kernel_rfl) (by kernel_rfl) (fun _ _ _ h => h) (Or.inl ⟨by rfl, fun W' hW => by go_simp⟩) hS1 ?_
        refine wpAnyH_take (i := 10) (v := .string (kindW 3)) rfl (by kernel_rfl) (by kernel_rfl) (by kernel_rfl) (fun _ _ _ h => h) (Or.inl ⟨by rfl, fun W' hW => by have x0 := s3 W' hW; go_simp⟩) hS1 ?_
        refine wpAnyH_take (i := 11) (v := .string ((((S ++ ⟨#[110, 111, 100, 101, 32]⟩) ++ nm) ++ ⟨#[32]⟩) ++ kindW 3)) rfl (by kernel_rfl) (by kernel_rfl) (by kernel_rfl) (fun _ _ _ h => h) (Or.inl ⟨by rfl, fun W' hW => by go_simp⟩) hS1 ?_
        refine wpAnyH_take (i := 12) (v := .string (((((S ++ ⟨#[110, 111, 100, 101, 32]⟩) ++ nm) ++ ⟨#[32]⟩) ++ kindW 3) ++ ⟨#[32]⟩)) rfl (by kernel_rfl) (by kernel_rfl) (by kernel_rfl) (fun _ _ _ h => h) (Or.inl ⟨by rfl, fun W' hW => by go_simp⟩) hS1 ?_
        refine wpAnyH_take (i := 13) (v := .pointer (some ⟨gn, 2, none⟩)) rfl (by kernel_rfl) (by kernel_rfl) (by kernel_rfl) (fun _ _ _ h => h) (Or.inl ⟨by rfl, fun W' hW => by go_simp⟩) hS1 ?_
        refine wpAnyH_take (i := 14) (v := .int .i64 (z : Int)) rfl (by kernel_rfl) (by kernel_rfl) (by kernel_rfl) (fun _ _ _ h => h) (Or.inl ⟨by rfl, fun W' hW => by have x0 := (s1 W' hW).2.2; go_simp⟩) hS1 ?_
        refine wpAnyH_ready (rs := [15]) (by kernel_rfl) (by simp) ?_
        refine AllReadyH.cons rfl (fun K hK => ?_) AllReadyH.nil
        go_simp
        refine (digits_any z Hz.out.2 _).mono ?_
        rintro e U1 ⟨rfl, hb1⟩
        have S2 := s8.out U1 ((s9.out _ hS1).trans (hb1.mono (s9.out _ hS1).size))
        refine hK.out _ _ S2 (fun _ => ?_)
        clear hK K hb1
        refine wpAnyH_take (i := 16) (v := .string ((((((S ++ ⟨#[110, 111, 100, 101, 32]⟩) ++ nm) ++ ⟨#[32]⟩) ++ kindW 3) ++ ⟨#[32]⟩) ++ dig z)) rfl (by kernel_rfl) (by kernel_rfl) (by kernel_rfl) (fun _ _ _ h => h) (Or.inl ⟨by rfl, fun W' hW => by go_simp⟩) S2 ?_
        refine wpAnyH_take (i := 17) (v := .string (((((((S ++ ⟨#[110, 111, 100, 101, 32]⟩) ++ nm) ++ ⟨#[32]⟩) ++ kindW 3) ++ ⟨#[32]⟩) ++ dig z) ++ ⟨#[10]⟩)) rfl (by kernel_rfl) (by kernel_rfl) (by kernel_rfl) (fun _ _ _ h => h) (Or.inl ⟨by rfl, fun W' hW => by go_simp⟩) S2 ?_
        refine wpAnyH_ready (rs := [18]) (by kernel_rfl) (by simp) ?_
        refine AllReadyH.cons rfl (fun K hK => ?_) AllReadyH.nil
        go_simp
        refine hK.out _ _ S2 (fun _ => ?_)
        clear hK K
        refine wpAnyH_done (by kernel_rfl) ?_ _
        have HB3 : Hid (Below W0.heap.size W0 U1) := hide (HBN.out.trans ((s9.out _ S2).mono HBN.out.size))
        clear s1 s3
        go_wp2_with fail
        go_roundw
        case rel => exact ⟨k + 1, _, by have := Hlt.out; omega, by go_num, rfl, HS2, HB3⟩
        case measure => have := Hlt.out; simp [intOf]; omega
      · subst h4
        have s3 : ∀ W', SS W' → W'.cell? ⟨w.heap.size + 1, 3, none⟩ = some (.string (kindW 4)) := fun W' h => (cells_at (s2.out W' h) 3).1
        have hsz := Hsz.out
        have hkw := kindW_small 4
        have hdg := dig_sz z
        have e1 : S.size ≤ 9223372036854775802 := by omega
        have e2 : S.size + 5 + nm.size ≤ 9223372036854775807 := by omega
        have e3 : S.size + 5 + nm.size ≤ 9223372036854775806 := by omega
        have e4 : S.size + 5 + nm.size + 1 + (kindW 4).size ≤ 9223372036854775807 := by omega
        have e5 : S.size + 5 + nm.size + 1 + (kindW 4).size ≤ 9223372036854775806 := by omega
        have e6 : S.size + 5 + nm.size + 1 + (kindW 4).size + 1 + (dig z).size ≤ 9223372036854775807 := by omega
        have e7 : S.size + 5 + nm.size + 1 + (kindW 4).size + 1 + (dig z).size ≤ 9223372036854775806 := by omega
        clear hkw hdg hsz
        have w0 : IntKind.i64.wrap 3 = 3 := by first | decide | (unfold IntKind.wrap; simp [IntKind.bits, IntKind.signed])
        have HS2 : Hid (((((((((S ++ ⟨#[110, 111, 100, 101, 32]⟩) ++ nm) ++ ⟨#[32]⟩) ++ kindW 4) ++ ⟨#[32]⟩) ++ dig z) ++ ⟨#[10]⟩) : ByteArray).data.toList = (ns.take (k + 1)).flatMap ndLine) := hide (by
          rw [Htk.out, app_list, app_list, app_list, app_list, app_list, app_list, app_list, HS.out, nd_line, dig_dec z Hz.out.1]
          unfold ndBody
          simp [nodeWd, str])
        refine wp_region_held_drew (S := SS) (by kernel_rfl) (hS0) (fun hS1 => ?_)
        refine wpAnyH_take (i := 0) (v := .string S) rfl (by kernel_rfl) (by kernel_rfl) (by kernel_rfl) (fun _ _ _ h => h) (Or.inl ⟨by rfl, fun W' hW => by go_simp⟩) hS1 ?_
        refine wpAnyH_take (i := 1) (v := .string (S ++ ⟨#[110, 111, 100, 101, 32]⟩)) rfl (by kernel_rfl) (by kernel_rfl) (by kernel_rfl) (fun _ _ _ h => h) (Or.inl ⟨by rfl, fun W' hW => by go_simp⟩) hS1 ?_
        refine wpAnyH_take (i := 2) (v := .pointer (some ⟨gn, 0, none⟩)) rfl (by kernel_rfl) (by kernel_rfl) (by kernel_rfl) (fun _ _ _ h => h) (Or.inl ⟨by rfl, fun W' hW => by go_simp⟩) hS1 ?_
        refine wpAnyH_take (i := 3) (v := .string nm) rfl (by kernel_rfl) (by kernel_rfl) (by kernel_rfl) (fun _ _ _ h => h) (Or.inl ⟨by rfl, fun W' hW => by have x0 := (s1 W' hW).1; go_simp⟩) hS1 ?_
        refine wpAnyH_take (i := 4) (v := .string ((S ++ ⟨#[110, 111, 100, 101, 32]⟩) ++ nm)) rfl (by kernel_rfl) (by kernel_rfl) (by kernel_rfl) (fun _ _ _ h => h) (Or.inl ⟨by rfl, fun W' hW => by go_simp⟩) hS1 ?_
        refine wpAnyH_take (i := 5) (v := .string (((S ++ ⟨#[110, 111, 100, 101, 32]⟩) ++ nm) ++ ⟨#[32]⟩)) rfl (by kernel_rfl) (by kernel_rfl) (by kernel_rfl) (fun _ _ _ h => h) (Or.inl ⟨by rfl, fun W' hW => by go_simp⟩) hS1 ?_
        refine wpAnyH_take (i := 6) (v := .pointer (some ⟨gn, 1, none⟩)) rfl (by kernel_rfl) (by kernel_rfl) (by kernel_rfl) (fun _ _ _ h => h) (Or.inl ⟨by rfl, fun W' hW => by go_simp⟩) hS1 ?_
        refine wpAnyH_take (i := 7) (v := .int .i64 4) rfl (by kernel_rfl) (by kernel_rfl) (by kernel_rfl) (fun _ _ _ h => h) (Or.inl ⟨by rfl, fun W' hW => by have x0 := (s1 W' hW).2.1; go_simp⟩) hS1 ?_
        refine wpAnyH_take (i := 8) (v := .int .i64 3) rfl (by kernel_rfl) (by kernel_rfl) (by kernel_rfl) (fun _ _ _ h => h) (Or.inl ⟨by rfl, fun W' hW => by go_simp⟩) hS1 ?_
        refine wpAnyH_take (i := 9) (v := .pointer (some ⟨w.heap.size + 1, 3, none⟩)) rfl (by kernel_rfl) (by kernel_rfl) (by kernel_rfl) (fun _ _ _ h => h) (Or.inl ⟨by rfl, fun W' hW => by go_simp⟩) hS1 ?_
        refine wpAnyH_take (i := 10) (v := .string (kindW 4)) rfl (by kernel_rfl) (by kernel_rfl) (by kernel_rfl) (fun _ _ _ h => h) (Or.inl ⟨by rfl, fun W' hW => by have x0 := s3 W' hW; go_simp⟩) hS1 ?_
        refine wpAnyH_take (i := 11) (v := .string ((((S ++ ⟨#[110, 111, 100, 101, 32]⟩) ++ nm) ++ ⟨#[32]⟩) ++ kindW 4)) rfl (by kernel_rfl) (by kernel_rfl) (by kernel_rfl) (fun _ _ _ h => h) (Or.inl ⟨by rfl, fun W' hW => by go_simp⟩) hS1 ?_
        refine wpAnyH_take (i := 12) (v := .string (((((S ++ ⟨#[110, 111, 100, 101, 32]⟩) ++ nm) ++ ⟨#[32]⟩) ++ kindW 4) ++ ⟨#[32]⟩)) rfl (by kernel_rfl) (by kernel_rfl) (by kernel_rfl) (fun _ _ _ h => h) (Or.inl ⟨by rfl, fun W' hW => by go_simp⟩) hS1 ?_
        refine wpAnyH_take (i := 13) (v := .pointer (some ⟨gn, 2, none⟩)) rfl (by kernel_rfl) (by kernel_rfl) (by kernel_rfl) (fun _ _ _ h => h) (Or.inl ⟨by rfl, fun W' hW => by go_simp⟩) hS1 ?_
        refine wpAnyH_take (i := 14) (v := .int .i64 (z : Int)) rfl (by kernel_rfl) (by kernel_rfl) (by kernel_rfl) (fun _ _ _ h => h) (Or.inl ⟨by rfl, fun W' hW => by have x0 := (s1 W' hW).2.2; go_simp⟩) hS1 ?_
        refine wpAnyH_ready (rs := [15]) (by kernel_rfl) (by simp) ?_
        refine AllReadyH.cons rfl (fun K hK => ?_) AllReadyH.nil
        go_simp
        refine (digits_any z Hz.out.2 _).mono ?_
        rintro e U1 ⟨rfl, hb1⟩
        have S2 := s8.out U1 ((s9.out _ hS1).trans (hb1.mono (s9.out _ hS1).size))
        refine hK.out _ _ S2 (fun _ => ?_)
        clear hK K hb1
        refine wpAnyH_take (i := 16) (v := .string ((((((S ++ ⟨#[110, 111, 100, 101, 32]⟩) ++ nm) ++ ⟨#[32]⟩) ++ kindW 4) ++ ⟨#[32]⟩) ++ dig z)) rfl (by kernel_rfl) (by kernel_rfl) (by kernel_rfl) (fun _ _ _ h => h) (Or.inl ⟨by rfl, fun W' hW => by go_simp⟩) S2 ?_
        refine wpAnyH_take (i := 17) (v := .string (((((((S ++ ⟨#[110, 111, 100, 101, 32]⟩) ++ nm) ++ ⟨#[32]⟩) ++ kindW 4) ++ ⟨#[32]⟩) ++ dig z) ++ ⟨#[10]⟩)) rfl (by kernel_rfl) (by kernel_rfl) (by kernel_rfl) (fun _ _ _ h => h) (Or.inl ⟨by rfl, fun W' hW => by go_simp⟩) S2 ?_
        refine wpAnyH_ready (rs := [18]) (by kernel_rfl) (by simp) ?_
        refine AllReadyH.cons rfl (fun K hK => ?_) AllReadyH.nil
        go_simp
        refine hK.out _ _ S2 (fun _ => ?_)
        clear hK K
        refine wpAnyH_done (by kernel_rfl) ?_ _
        have HB3 : Hid (Below W0.heap.size W0 U1) := hide (HBN.out.trans ((s9.out _ S2).mono HBN.out.size))
        clear s1 s3
        go_wp2_with fail
        go_roundw
        case rel => exact ⟨k + 1, _, by have := Hlt.out; omega, by go_num, rfl, HS2, HB3⟩
        case measure => have := Hlt.out; simp [intOf]; omega
    · obtain rfl : k = n := by omega
      have j1 : ¬ (k : Int) < (k : Int) := by omega
      obtain ⟨n, rfl⟩ : ∃ n', n' = k := ⟨_, rfl⟩
      have HS1 : Hid (S.data.toList = ns.flatMap ndLine) := hide (by rw [HS.out, List.take_of_length_le (by rw [HN.out.1]; omega)])
      go_wp2_with fail
      clear x0 x1
      go_loopw [4, 42] (fun v4 v42 wr => ∃ (i : Nat) (S : ByteArray), i ≤ m ∧ v42 = .int .i64 i ∧ v4 = .string S ∧ Hid (S.data.toList = ns.flatMap ndLine ++ (es.take i).flatMap (edLine ns)) ∧ Hid (Below W0.heap.size W0 wr)) (fun _ v42 _ => m - (intOf v42).toNat)
      case atStart => exact ⟨0, S, by omega, rfl, rfl, hide (by rw [HS1.out]; simp), HB⟩
      case round =>
        clear HB HS HS1
        obtain ⟨i, S, hi, rfl, rfl, HS, HB⟩ := hrel
        obtain ⟨rn, re, ⟨x0, x1⟩, _⟩ := HRW.out wr HB.out
        by_cases hlt : i < m
        · obtain ⟨p, hp⟩ : ∃ p, es[i]? = some p := ⟨_, List.getElem?_eq_getElem (by rw [HN.out.2.1]; exact hlt)⟩
          have hpe := HN.out.2.2.2.1 p (List.mem_of_getElem? hp)
          have Htk : Hid (ns.flatMap ndLine ++ (es.take (i + 1)).flatMap (edLine ns) = (ns.flatMap ndLine ++ (es.take i).flatMap (edLine ns)) ++ edLine ns p) := hide (by rw [flat_take (edLine ns) es i p hp, List.append_assoc])
          obtain ⟨y, z⟩ := p
          unfold edB placeB at hpe
          simp only [Bool.and_eq_true, decide_eq_true_eq] at hpe
          obtain ⟨⟨⟨⟨hy0, hy1⟩, hz0, hz1⟩, _⟩, _⟩ := hpe
          rw [HN.out.1] at hy1 hz1
          obtain ⟨y', rfl⟩ := Int.eq_ofNat_of_zero_le hy0
          obtain ⟨z', rfl⟩ := Int.eq_ofNat_of_zero_le hz0
          obtain ⟨bE, oE, haE, ce0, ce1⟩ := ed_at re i _ hp
          simp only at ce0 ce1
          obtain ⟨p1, hp1⟩ : ∃ p, ns[y']? = some p := ⟨_, List.getElem?_eq_getElem (by rw [HN.out.1]; omega)⟩
          obtain ⟨p2, hp2⟩ : ∃ p, ns[z']? = some p := ⟨_, List.getElem?_eq_getElem (by rw [HN.out.1]; omega)⟩
          have Hn1 : Hid (nameAt ns (y' : Int) = p1.name) := hide (by simp [nameAt, hp1])
          have Hn2 : Hid (nameAt ns (z' : Int) = p2.name) := hide (by simp [nameAt, hp2])
          obtain ⟨bN, oN, haN, cn1, _, _⟩ := nd_at rn y' p1 hp1
          obtain ⟨bN2, oN2, haN2, cn2, _, _⟩ := nd_at rn z' p2 hp2
          rw [haN] at haN2
          simp only [Option.some.injEq, Addr.mk.injEq] at haN2
          obtain ⟨rfl, rfl, _⟩ := haN2
          rw [haN] at x0
          rw [haE] at x1
          have hSz : S.size ≤ 6400 := by
            have h1 := flat_len (edLine ns) 40 (es.take i) (fun x hx => edLine_small ns x HN.out.2.2.1)
            have h2 : (es.take i).length ≤ 120 := by rw [List.length_take]; have := HN.out.2.2.2.2.2; omega
            have h3 := Nat.mul_le_mul_right 40 h2
            have h4 := flat_len ndLine 40 ns (fun x hx => ndLine_small x (HN.out.2.2.1 x hx))
            have h5 : ns.length * 40 ≤ 40 * 40 := Nat.mul_le_mul_right 40 (by rw [HN.out.1]; exact HN.out.2.2.2.2.1)
            have h6 := congrArg List.length HS.out
            rw [List.length_append] at h6
            have h7 : S.data.toList.length = S.size := rfl
            omega
          have hq1 : p1.name.size ≤ 8 := by
            have h1 := (nd_parts (HN.out.2.2.1 p1 (List.mem_of_getElem? hp1))).1
            unfold nameB at h1
            exact (of_decide_eq_true h1).2.1
          have hq2 : p2.name.size ≤ 8 := by
            have h1 := (nd_parts (HN.out.2.2.1 p2 (List.mem_of_getElem? hp2))).1
            unfold nameB at h1
            exact (of_decide_eq_true h1).2.1
          have e1 : S.size ≤ 9223372036854775802 := by omega
          have e2 : S.size + 5 + p1.name.size ≤ 9223372036854775807 := by omega
          have e3 : S.size + 5 + p1.name.size ≤ 9223372036854775806 := by omega
          have e4 : S.size + 5 + p1.name.size + 1 + p2.name.size ≤ 9223372036854775807 := by omega
          have e5 : S.size + 5 + p1.name.size + 1 + p2.name.size ≤ 9223372036854775806 := by omega
          clear hSz hq1 hq2
          have j0 : (0 : Int) ≤ (i : Int) := by omega
          have j1 : (i : Int) < (m : Int) := by omega
          have HS2 : Hid ((S ++ ⟨#[101, 100, 103, 101, 32]⟩ ++ p1.name ++ ⟨#[32]⟩ ++ p2.name ++ ⟨#[10]⟩ : ByteArray).data.toList = ns.flatMap ndLine ++ (es.take (i + 1)).flatMap (edLine ns)) := hide (by
            rw [Htk.out, app_list, app_list, app_list, app_list, app_list, HS.out, ed_line]
            unfold edBody
            rw [Hn1.out, Hn2.out]
            simp [edgeWd, str])
          clear hp hi rn re haN haE hp1 hp2
          go_upto_region 12 with fail
          go_quiet (fail)
          go_wp2_with fail
          go_roundw
          case rel => exact ⟨i + 1, _, by omega, by go_num, rfl, HS2, hide (below_h3 HB.out (by rfl) (by rfl) (by rfl) (by rfl))⟩
          case measure => simp [intOf]; omega
        · obtain rfl : i = m := by omega
          have j1 : ¬ (i : Int) < (i : Int) := by omega
          have hSe : S = str (showL ns es) := by
            rw [← str_of S, HS.out]
            unfold showL
            rw [List.take_of_length_le (by rw [HN.out.2.1]; omega)]
          subst hSe
          go_wp2_with fail
          go_ret
          exact ⟨rfl, HA.out.trans (HB.out.mono HA.out.size)⟩
end Go.Proofs.YtpjolnaomdmnnaaDoor
