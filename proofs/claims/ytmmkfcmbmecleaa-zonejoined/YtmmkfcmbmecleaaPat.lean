/- The path of the first one of the shortest ways: path. -/
import Derived.Test.YtmmkfcmbmecleaaStq
namespace Go.Proofs.Ytmmkfcmbmecleaa
open Go.RowKit
set_option linter.unusedVariables false

def lenV : Value → Nat
  | .slice _ n _ => n
  | _ => 0

set_option maxRecDepth 100000 in
set_option maxHeartbeats 4000000 in
theorem path_any (a a' aM : Option Addr) (c c' cM n m k0 t g u k : Nat) (ns : List Nd) (es : List Ed) (ms l : List Int) (w : World) (hW : Wy w a a' aM c c' cM n m k0 t g ns es ms l) (hu : va l u = (k : Int)) :
    Calls Try.prog 43 #[.agg #[.slice a n c, .slice a' m c', .slice aM k0 cM, .int .i64 (t : Int), .slice (some ⟨g, 0, none⟩) n n], .int .i64 (u : Int)] w fun e w' => (∃ v, e = .returned v ∧ intE.Own w' w.heap.size v (pth ns es ms l t k u)) ∧ Below w.heap.size w w' := by
  obtain ⟨W0, hW0⟩ : ∃ W0, w.alloc (.cells #[.slice a n c, .slice a' m c', .slice aM k0 cM, .int .i64 (t : Int), .slice (some ⟨g, 0, none⟩) n n] 80) = W0 := ⟨_, rfl⟩
  have bA : Below w.heap.size w W0 := by rw [← hW0]; exact (Below.refl _ _).alloc (Nat.le_refl _) _
  have hbox : W0.heap[w.heap.size]? = some (.cells #[.slice a n c, .slice a' m c', .slice aM k0 cM, .int .i64 (t : Int), .slice (some ⟨g, 0, none⟩) n n] 80) := by rw [← hW0]; exact heap_new _ _
  have HBOX := hide hbox
  have HA := hide bA
  have HW0 := hide hW0
  have HWy : Hid (∀ W, Below W0.heap.size W0 W → Wy W a a' aM c c' cM n m k0 t g ns es ms l) := hide (fun W h => hW.keep (bA.trans (h.mono bA.size)))
  have Hgr := hide hW.gr
  have Hkn : Hid (k < n) := hide (by have := hW.gr.high u; omega)
  have Hn4 := hide hW.ly.n4
  have K30 : Hid (∀ W (v : Nat) (left : Int), Below W0.heap.size W0 W → v < n → Calls Try.prog 54 #[.agg #[.slice a n c, .slice a' m c', .slice aM k0 cM, .int .i64 (t : Int), .slice (some ⟨g, 0, none⟩) n n], .int .i64 (v : Int), .int .i64 left] W fun e w' => e = .returned (.int .i64 (stp ns es ms l t (v : Int) left)) ∧ Below W.heap.size W w') := hide (fun W v left h hv => step_any a a' aM c c' cM n m k0 t g v ns es ms l left W (HWy.out W h) hv)
  have K34 : Hid (∀ W (i v y : Nat), Below W0.heap.size W0 W → es[i]? = some ((v : Int), (y : Int)) → Calls Try.prog 55 #[.agg #[.slice a n c, .slice a' m c', .slice aM k0 cM, .int .i64 (t : Int), .slice (some ⟨g, 0, none⟩) n n], .int .i64 ((i + 1 : Nat) : Int)] W fun e w' => e = .returned (.int .i64 (y : Int)) ∧ Below W.heap.size W w') := hide (fun W i v y h hi => (end_any a a' aM c c' cM n m k0 (t : Int) (.slice (some ⟨g, 0, none⟩) n n) es i (v : Int) (y : Int) W (HWy.out W h).ly.hu hW.ly.hm (by have := hW.ly.m4; omega) hi).mono (by
    rintro e w' ⟨h1, rfl⟩
    exact ⟨h1, (Below.refl _ _).alloc (Nat.le_refl _) _⟩))
  obtain ⟨SS, hSS⟩ : ∃ SS : World → Prop, SS = fun W' => Below W0.heap.size W0 W' := ⟨_, rfl⟩
  have s9 : Hid (∀ W', SS W' → Below W0.heap.size W0 W') := hide (fun W' h => by rw [hSS] at h; exact h)
  have s8 : Hid (∀ W', Below W0.heap.size W0 W' → SS W') := hide (fun W' h => by rw [hSS]; exact h)
  have sb : Hid (∀ W', SS W' → W'.cell? ⟨w.heap.size, 0, none⟩ = some (.slice a n c) ∧ W'.cell? ⟨w.heap.size, 1, none⟩ = some (.slice a' m c') ∧ W'.cell? ⟨w.heap.size, 2, none⟩ = some (.slice aM k0 cM) ∧ W'.cell? ⟨w.heap.size, 3, none⟩ = some (.int .i64 (t : Int)) ∧ W'.cell? ⟨w.heap.size, 4, none⟩ = some (.slice (some ⟨g, 0, none⟩) n n)) := hide (fun W' h => box5 HBOX.out (s9.out W' h))
  have Hu := hide hu
  obtain ⟨res, hres⟩ : ∃ res, pth ns es ms l t k u = res := ⟨_, rfl⟩
  rw [hres]
  have Hres := hide hres
  clear hW hu hbox bA hW0 hSS hres
  go_enter Try.func43, Try.ntmps43
  go_upto_region 1 with fail
  rw [HW0.out]
  clear HW0
  go_wp2_with fail
  go_loopw [1, 5] (fun v1 v5 wr => ∃ (r v : Nat) (xs : List Int), v1 = .int .i64 (v : Int) ∧ Hid (va l v = (r : Int) ∧ xs.length + r = k ∧ xs ++ pth ns es ms l t r v = res) ∧ Hid (intE.Own wr W0.heap.size v5 xs) ∧ Hid (Below W0.heap.size W0 wr)) (fun _ v5 _ => k - lenV v5)
  case atStart => exact ⟨k, u, [], rfl, hide ⟨Hu.out, by simp, by simpa using Hres.out⟩, hide (El.Own.nil _ _ _), hide (Below.refl _ _)⟩
  case round =>
    obtain ⟨r, v, xs, rfl, HX, HO, HB⟩ := hrel
    obtain ⟨z0, z1, z2, z3, z4⟩ := box5 HBOX.out HB.out
    obtain ⟨aD, cD, rfl⟩ := HO.out.rd.form
    obtain ⟨nD, hnD⟩ : ∃ nD, xs.length = nD := ⟨_, rfl⟩
    rw [hnD] at HO HX ⊢
    have Hnd := hide hnD
    clear hnD
    rcases r with _ | r
    · have hvt : v = t := Hgr.out.only (by simpa using HX.out.1)
      subst hvt
      have q1 : ((v : Int) != (v : Int)) = false := bne_self_eq_false _
      have HR : Hid (xs = res) := hide (by have := HX.out.2.2; simpa [pth] using this)
      go_wp2_with fail
      go_ret
      exact ⟨⟨_, rfl, by rw [← HR.out]; exact HO.out.mono HA.out.size⟩, HA.out.trans (HB.out.mono HA.out.size)⟩
    · have hne : v ≠ t := fun e => by have h1 := HX.out.1; rw [e, Hgr.out.zero] at h1; omega
      have q1 : ((v : Int) != (t : Int)) = true := bne_iff_ne.2 (by omega)
      obtain ⟨i, y, g1, g2, g3, g4, g5, g6, g7, g8⟩ := Hgr.out.on HX.out.1
      have hvn : v < n := Hgr.out.out (by rw [HX.out.1]; omega)
      have Hvn := hide hvn
      have j0 : (0 : Int) ≤ (v : Int) := by omega
      have j1 : (v : Int) < (n : Int) := by omega
      have j2 : (r : Int) ≤ 1000 := by have h1 := Hkn.out; have h2 := Hn4.out; have h3 := HX.out.2.1; omega
      have j3 : (0 : Int) ≤ (r : Int) := by omega
      have hwr : IntKind.i64.wrap (r : Int) = (r : Int) := i64_small _ (by omega) (by omega)
      have sc : Hid (∀ W', SS W' → W'.cell? ⟨g, v, none⟩ = some (.int .i64 ((r : Int) + 1))) := hide (fun W' h => by
        have h1 := (HWy.out W' (s9.out W' h)).at v Hvn.out
        rw [HX.out.1] at h1
        rw [h1, show ((r + 1 : Nat) : Int) = (r : Int) + 1 by omega])
      obtain ⟨D, hD⟩ : ∃ D : Int, ((i + 1 : Nat) : Int) = D := ⟨_, rfl⟩
      have K34' : Hid (∀ W, Below W0.heap.size W0 W → Calls Try.prog 55 #[.agg #[.slice a n c, .slice a' m c', .slice aM k0 cM, .int .i64 (t : Int), .slice (some ⟨g, 0, none⟩) n n], .int .i64 D] W fun e w' => e = .returned (.int .i64 (y : Int)) ∧ Below W.heap.size W w') := hide (fun W h => by rw [← hD]; exact K34.out W i v y h g3)
      rw [hD] at g1
      have K30' : Hid (∀ W, Below W0.heap.size W0 W → Calls Try.prog 54 #[.agg #[.slice a n c, .slice a' m c', .slice aM k0 cM, .int .i64 (t : Int), .slice (some ⟨g, 0, none⟩) n n], .int .i64 (v : Int), .int .i64 (r : Int)] W fun e w' => e = .returned (.int .i64 D) ∧ Below W.heap.size W w') := hide (fun W h => by rw [← g1]; exact K30.out W v (r : Int) h Hvn.out)
      have HX1 : Hid (va l y = (r : Int) ∧ (xs ++ [D]).length + r = k ∧ (xs ++ [D]) ++ pth ns es ms l t r y = res) := hide ⟨g6, by have := HX.out.2.1; have := Hnd.out; simp; omega, by
        have h1 := HX.out.2.2
        unfold pth at h1
        rw [g8, g1] at h1
        rw [List.append_assoc]; exact h1⟩
      have Hln : Hid (xs.length + 1 ≤ 1000000) := hide (by have h1 := Hkn.out; have h2 := Hn4.out; have h3 := HX.out.2.1; have := Hnd.out; omega)
      clear g1 g2 g3 g4 g5 g6 g7 g8 hvn hne HX hD
      go_upto_region 3 with fail
      refine wp_region_held_drew (S := SS) (by kernel_rfl) (s8.out _ (below_heap HB.out rfl rfl rfl rfl)) (fun hS0 => ?_)
      refine wpAnyH_take (i := 0) (v := .agg #[.slice a n c, .slice a' m c', .slice aM k0 cM, .int .i64 (t : Int), .slice (some ⟨g, 0, none⟩) n n]) rfl (by kernel_rfl) (by kernel_rfl) (by kernel_rfl) (fun _ _ _ h => h) (Or.inl ⟨by rfl, fun W' hW => by obtain ⟨z0, z1, z2, z3, z4⟩ := sb.out W' hW; go_simp⟩) hS0 ?_
      refine wpAnyH_take (i := 1) (v := .int .i64 (v : Int)) rfl (by kernel_rfl) (by kernel_rfl) (by kernel_rfl) (fun _ _ _ h => h) (Or.inl ⟨by rfl, fun W' hW => by go_simp⟩) hS0 ?_
      refine wpAnyH_take (i := 2) (v := .pointer (some ⟨w.heap.size, 4, none⟩)) rfl (by kernel_rfl) (by kernel_rfl) (by kernel_rfl) (fun _ _ _ h => h) (Or.inl ⟨by rfl, fun W' hW => by go_simp⟩) hS0 ?_
      refine wpAnyH_take (i := 4) (v := .int .i64 (v : Int)) rfl (by kernel_rfl) (by kernel_rfl) (by kernel_rfl) (fun _ _ _ h => h) (Or.inl ⟨by rfl, fun W' hW => by go_simp⟩) hS0 ?_
      refine wpAnyH_take (i := 3) (v := .slice (some ⟨g, 0, none⟩) n n) rfl (by kernel_rfl) (by kernel_rfl) (by kernel_rfl) (fun _ _ _ h => h) (Or.inl ⟨by rfl, fun W' hW => by obtain ⟨z0, z1, z2, z3, z4⟩ := sb.out W' hW; go_simp⟩) hS0 ?_
      refine wpAnyH_take (i := 5) (v := .pointer (some ⟨g, v, none⟩)) rfl (by kernel_rfl) (by kernel_rfl) (by kernel_rfl) (fun _ _ _ h => h) (Or.inl ⟨by rfl, fun W' hW => by go_simp⟩) hS0 ?_
      refine wpAnyH_take (i := 6) (v := .int .i64 ((r : Int) + 1)) rfl (by kernel_rfl) (by kernel_rfl) (by kernel_rfl) (fun _ _ _ h => h) (Or.inl ⟨by rfl, fun W' hW => by have z5 := sc.out W' hW; go_simp⟩) hS0 ?_
      refine wpAnyH_take (i := 7) (v := .int .i64 (r : Int)) rfl (by kernel_rfl) (by kernel_rfl) (by kernel_rfl) (fun _ _ _ h => h) (Or.inl ⟨by rfl, fun W' hW => by go_simp⟩) hS0 ?_
      refine wpAnyH_ready (rs := [8]) (by kernel_rfl) (by simp) ?_
      refine AllReadyH.cons rfl (fun K hK => ?_) AllReadyH.nil
      go_simp
      refine (K30'.out _ (s9.out _ hS0)).mono ?_
      rintro e W3 ⟨rfl, hb3⟩
      refine hK.out _ _ (s8.out _ ((s9.out _ hS0).trans (hb3.mono (s9.out _ hS0).size))) (fun hS1 => ?_)
      clear hK K
      refine wpAnyH_ready (rs := [9]) (by kernel_rfl) (by simp) ?_
      refine AllReadyH.cons rfl (fun K hK => ?_) AllReadyH.nil
      go_simp
      refine hK.out _ _ hS1 (fun _ => ?_)
      clear hK K
      refine wpAnyH_done (by kernel_rfl) ?_ _
      have HO1 : Hid (intE.Own W3 W0.heap.size (.slice aD nD cD) xs) := hide (by
        have h1 : Below wr.heap.size wr wr.drew := (Below.refl _ _).drew
        exact (HO.out.keep h1).keep hb3)
      have HB1 : Hid (Below W0.heap.size W0 W3) := hide (s9.out _ hS1)
      have HB2 : Hid (Below W0.heap.size W0 (W3.alloc (.cells #[.int .i64 D] 3))) := hide (HB1.out.alloc HB1.out.size _)
      have HO2 : Hid (intE.Own (W3.alloc (.cells #[.int .i64 D] 3)) W0.heap.size (.slice aD nD cD) xs) := hide (World.ownsRow.alloc HO1.out _)
      clear hb3 K30' sc z0 z1 z2 z3 z4
      go_upto_region 5 with (at_builtin; refine intE.wp (w0 := W0) HB2.out (by rfl) _ _ rfl _ _ rfl rfl xs [D] HO2.out (int_new _ _ _ rfl) (by simpa using Hln.out) ?_; intro v1 w2 ho2 _ _ hb2; have HO3 := hide ho2; have HB3 := hide hb2; obtain ⟨z0, z1, z2, z3, z4⟩ := box5 HBOX.out hb2; clear ho2 hb2; refine Hid.out ?_)
      refine hide ?_
      obtain ⟨aQ, cQ, rfl⟩ := HO3.out.rd.form
      have Hln2 : Hid ((xs ++ [D]).length = nD + 1) := hide (by rw [List.length_append, Hnd.out]; rfl)
      rw [Hln2.out] at HO3 ⊢
      go_wp2_with (go_at_call 55; refine (K34'.out _ HB3.out).mono ?_; rintro e W5 ⟨rfl, hb5⟩; have HO5 := hide (HO3.out.keep hb5); have HB5 : Hid (Below W0.heap.size W0 W5) := hide (HB3.out.trans (hb5.mono HB3.out.size)); clear hb5)
      go_roundw
      case rel => exact ⟨r, y, xs ++ [D], rfl, HX1, HO5, HB5⟩
      case measure => have h1 := HX1.out.2.1; rw [Hln2.out] at h1; simp [lenV]; omega
end Go.Proofs.Ytmmkfcmbmecleaa
