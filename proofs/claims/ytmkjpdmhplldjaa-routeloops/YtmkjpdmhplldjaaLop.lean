/- Back to the node: Loop. -/
import Derived.Test.YtmkjpdmhplldjaaTbl
namespace Go.Proofs.Ytmkjpdmhplldjaa
open Go.RowKit
set_option linter.unusedVariables false

/-- what Loop tells -/
def Lp (ns : List Nd) (es : List Ed) (ms l : List Int) (t n : Nat) (r : Option (List Int)) : Prop :=
  (r = none ∧ ∀ j : Nat, 1 ≤ j → j < n → stp ns es ms l t (t : Int) (j : Int) = 0) ∨
  ∃ j : Nat, 1 ≤ j ∧ j < n ∧ (∀ i : Nat, 1 ≤ i → i < j → stp ns es ms l t (t : Int) (i : Int) = 0) ∧ stp ns es ms l t (t : Int) (j : Int) ≠ 0 ∧ r = some (stp ns es ms l t (t : Int) (j : Int) :: pth ns es ms l t j (endN es (stp ns es ms l t (t : Int) (j : Int))))

set_option maxRecDepth 100000 in
set_option maxHeartbeats 4000000 in
theorem loop_ok (a a' aM : Option Addr) (c c' cM n m k0 t : Nat) (ns : List Nd) (es : List Ed) (ms : List Int) (w : World) (hL : Ly w a a' c c' n m ns es) (hM : Mk w aM cM k0 ms) (ht : t < n) :
    Calls Try.prog 19 #[.agg #[.slice a n c, .slice a' m c'], .slice aM k0 cM, .int .i64 (t : Int)] w fun e w' => (∃ l, Gr ns es ms l t n ∧ ((Lp ns es ms l t n none ∧ e = .returned (.tuple #[.slice none 0 0, .int .i64 80])) ∨ ∃ v xs, Lp ns es ms l t n (some xs) ∧ e = .returned (.tuple #[v, .int .i64 0]) ∧ intE.Own w' w.heap.size v xs)) ∧ Below w.heap.size w w' := by
  obtain ⟨W0, hW0⟩ : ∃ W0, w.alloc (.cells #[.slice a n c, .slice a' m c'] 25) = W0 := ⟨_, rfl⟩
  have bA : Below w.heap.size w W0 := by rw [← hW0]; exact (Below.refl _ _).alloc (Nat.le_refl _) _
  have hbox : W0.heap[w.heap.size]? = some (.cells #[.slice a n c, .slice a' m c'] 25) := by rw [← hW0]; exact heap_new _ _
  have HBOX := hide hbox
  have HA := hide bA
  have HW0 := hide hW0
  have d0 := (cells_at hbox 0).1
  have d1 := (cells_at hbox 1).1
  simp at d0 d1
  have HLW : Hid (∀ W, Below W0.heap.size W0 W → Ly W a a' c c' n m ns es ∧ Mk W aM cM k0 ms) := hide (fun W h => ⟨hL.keep (bA.trans (h.mono bA.size)), hM.keep (bA.trans (h.mono bA.size))⟩)
  have b1 : Below W0.heap.size W0 (W0.alloc (.cells #[.int .i64 (t : Int)] 3)) := (Below.refl _ _).alloc (Nat.le_refl _) _
  have Hb1 := hide b1
  have K28 : Hid (∀ W, Below W0.heap.size W0 W → intE.Rd W (.slice (some ⟨W0.heap.size, 0, none⟩) 1 1) [(t : Int)] → Calls Try.prog 28 #[.agg #[.slice a n c, .slice a' m c'], .slice (some ⟨W0.heap.size, 0, none⟩) 1 1] W fun e w' => e = .returned (.bool true) ∧ Below W.heap.size W w') := hide (fun W h hr => by
    have := places_any a a' (some ⟨W0.heap.size, 0, none⟩) n c m c' 1 1 [(t : Int)] W rfl hr (by omega)
    rwa [place1, decide_eq_true ⟨by omega, by omega⟩] at this)
  have K29 : Hid (∀ (W : World), Below W0.heap.size W0 W → Calls Try.prog 29 #[.agg #[.slice a n c, .slice a' m c'], .slice aM k0 cM, .int .i64 (t : Int)] W fun e w' => (∃ g l, e = .returned (.agg #[.slice a n c, .slice a' m c', .slice aM k0 cM, .int .i64 (t : Int), .slice (some ⟨g, 0, none⟩) n n]) ∧ intE.Own w' W.heap.size (.slice (some ⟨g, 0, none⟩) n n) l ∧ Gr ns es ms l t n) ∧ Below W.heap.size W w') := hide (fun W h => waysTo_wy a a' aM c c' cM n m k0 t ns es ms W (HLW.out W h).1 (HLW.out W h).2 ht)
  have Hn4 := hide hL.n4
  have Ht := hide ht
  clear hL hM ht b1 hbox bA hW0
  go_enter Try.func19, Try.ntmps19
  go_upto_region 1 with fail
  rw [HW0.out]
  clear HW0
  go_upto_region 3 with (go_at_call 28; refine (K28.out _ Hb1.out (int_new _ _ _ rfl)).mono ?_; rintro e W2 ⟨rfl, hb2⟩; have Hb2 : Hid (Below W0.heap.size W0 W2) := hide (Hb1.out.trans (hb2.mono Hb1.out.size)); obtain ⟨x5, x6⟩ := layc HBOX.out Hb2.out; clear hb2 d0 d1)
  go_upto_region 4 with (go_at_call 29; refine (K29.out _ Hb2.out).mono ?_; rintro e V3 ⟨⟨g, l, rfl, ho3, hgr⟩, hb3⟩; have HBV : Hid (Below W0.heap.size W0 V3) := hide (Hb2.out.trans (hb3.mono Hb2.out.size)); have HOV : Hid (intE.Own V3 W0.heap.size (.slice (some ⟨g, 0, none⟩) n n) l) := hide (ho3.mono Hb2.out.size); clear hb3 ho3 x5 x6)
  clear K28 K29 Hb1
  have bX : Below V3.heap.size V3 (V3.alloc (.cells #[.slice a n c, .slice a' m c', .slice aM k0 cM, .int .i64 (t : Int), .slice (some ⟨g, 0, none⟩) n n] 56)) := (Below.refl _ _).alloc (Nat.le_refl _) _
  have HQ := hide (heap_new V3 (.cells #[.slice a n c, .slice a' m c', .slice aM k0 cM, .int .i64 (t : Int), .slice (some ⟨g, 0, none⟩) n n] 56))
  have HQg : Hid (W0.heap.size ≤ V3.heap.size) := hide HBV.out.size
  have HF := hide (HOV.out.keep bX)
  have HB3 := hide (HBV.out.trans (bX.mono HBV.out.size))
  obtain ⟨W3, hW3⟩ : ∃ W3, V3.alloc (.cells #[.slice a n c, .slice a' m c', .slice aM k0 cM, .int .i64 (t : Int), .slice (some ⟨g, 0, none⟩) n n] 56) = W3 := ⟨_, rfl⟩
  obtain ⟨q, hq⟩ : ∃ q, V3.heap.size = q := ⟨_, rfl⟩
  rw [hW3] at HQ HF HB3
  rw [hq] at HQ HQg
  rw [hW3, hq]
  clear hW3 hq bX HBV HOV
  obtain ⟨x5, x6⟩ := layc HBOX.out HB3.out
  obtain ⟨SS, hSS⟩ : ∃ SS : World → Prop, SS = fun W' => W'.heap[q]? = some (.cells #[.slice a n c, .slice a' m c', .slice aM k0 cM, .int .i64 (t : Int), .slice (some ⟨g, 0, none⟩) n n] 56) ∧ intE.Own W' W0.heap.size (.slice (some ⟨g, 0, none⟩) n n) l ∧ Below W0.heap.size W0 W' := ⟨_, rfl⟩
  have s9 : Hid (∀ W', SS W' → Below W0.heap.size W0 W') := hide (fun W' h => by rw [hSS] at h; exact h.2.2)
  have s8 : Hid (∀ W', W'.heap[q]? = some (.cells #[.slice a n c, .slice a' m c', .slice aM k0 cM, .int .i64 (t : Int), .slice (some ⟨g, 0, none⟩) n n] 56) → intE.Own W' W0.heap.size (.slice (some ⟨g, 0, none⟩) n n) l → Below W0.heap.size W0 W' → SS W') := hide (fun W' h1 h2 h3 => by rw [hSS]; exact ⟨h1, h2, h3⟩)
  have s8b : Hid (∀ W W', SS W → Below W.heap.size W W' → SS W') := hide (fun W W' h hb => by rw [hSS] at h ⊢; exact ⟨(hb.block _ (heap_lt h.1)).trans h.1, h.2.1.keep hb, h.2.2.trans (hb.mono h.2.2.size)⟩)
  have s8d : Hid (∀ W, SS W → SS W.drew) := hide (fun W h => s8b.out W _ h (Below.refl _ _).drew)
  have HWy : Hid (∀ W', SS W' → Wy W' a a' aM c c' cM n m k0 t g ns es ms l) := hide (fun W' h => by rw [hSS] at h; exact ⟨(HLW.out _ h.2.2).1, (HLW.out _ h.2.2).2, h.2.1.rd, hgr⟩)
  have sb : Hid (∀ W', SS W' → W'.cell? ⟨q, 0, none⟩ = some (.slice a n c) ∧ W'.cell? ⟨q, 1, none⟩ = some (.slice a' m c') ∧ W'.cell? ⟨q, 2, none⟩ = some (.slice aM k0 cM) ∧ W'.cell? ⟨q, 3, none⟩ = some (.int .i64 (t : Int)) ∧ W'.cell? ⟨q, 4, none⟩ = some (.slice (some ⟨g, 0, none⟩) n n)) := hide (fun W' h => by rw [hSS] at h; exact box5 h.1 (Below.refl _ _))
  have s8z : Hid (∀ W', SS W' → g < W'.heap.size ∧ q < W'.heap.size) := hide (fun W' h => by rw [hSS] at h; exact ⟨h.2.1.lt g rfl, heap_lt h.1⟩)
  have s8p : Hid (∀ W gN k v, SS W → g ≠ gN → q ≠ gN → W0.heap.size ≤ gN → SS (W.setCell ⟨gN, k, none⟩ v)) := hide (fun W gN k v h h1 h2 h3 => by
    rw [hSS] at h ⊢
    refine ⟨?_, own_set_other h.2.1 (fun e => h1 (Option.some.inj e)), h.2.2.setCell (p := ⟨gN, k, none⟩) h3 _⟩
    rw [← h.1]
    simp only [World.setCell, Array.getElem?_modify, if_neg (fun e => h2 (Eq.symm e))])
  have s8g : Hid (∀ W W' gN, SS W → g ≠ gN → q ≠ gN → W0.heap.size ≤ gN → W.grownBy W' (some gN) → SS W') := hide (fun W W' gN h h1 h2 h3 hg => by
    rw [hSS] at h ⊢
    refine ⟨(hg.block q (heap_lt h.1) (fun e => h2 (Option.some.inj e))).trans h.1, own_chg h.2.1 (fun k cur hk hc => hg.block k (heap_lt hc) (fun e => h1 (Option.some.inj (hk.trans e)))), h.2.2.grown hg h.2.2.size (fun k hk => by obtain rfl := Option.some.inj hk; exact h3)⟩)
  have K30 : Hid (∀ W (u : Nat) (left : Int), SS W → u < n → Calls Try.prog 30 #[.agg #[.slice a n c, .slice a' m c', .slice aM k0 cM, .int .i64 (t : Int), .slice (some ⟨g, 0, none⟩) n n], .int .i64 (u : Int), .int .i64 left] W fun e w' => e = .returned (.int .i64 (stp ns es ms l t (u : Int) left)) ∧ Below W.heap.size W w') := hide (fun W u left h hu => step_any a a' aM c c' cM n m k0 t g u ns es ms l left W (HWy.out W h) hu)
  clear hSS
  have hn4 := Hn4.out
  have i0 : (n : Int) ≤ 1000 := by omega
  have HS3 : Hid (SS W3) := hide (s8.out _ HQ.out HF.out HB3.out)
  have Hgr := hide hgr
  have HWb : Hid (∀ W', SS W' → W'.cell? ⟨w.heap.size, 0, none⟩ = some (.slice a n c)) := hide (fun W' h => (layc HBOX.out (s9.out W' h)).1)
  have K34 : Hid (∀ W (i v y : Nat), SS W → es[i]? = some ((v : Int), (y : Int)) → Calls Try.prog 34 #[.agg #[.slice a n c, .slice a' m c', .slice aM k0 cM, .int .i64 (t : Int), .slice (some ⟨g, 0, none⟩) n n], .int .i64 ((i + 1 : Nat) : Int)] W fun e w' => e = .returned (.int .i64 (y : Int)) ∧ Below W.heap.size W w') := hide (fun W i v y h hi => (end_any a a' aM c c' cM n m k0 (t : Int) (.slice (some ⟨g, 0, none⟩) n n) es i (v : Int) (y : Int) W (HWy.out W h).ly.hu (HWy.out W h).ly.hm (by have := (HWy.out W h).ly.m4; omega) hi).mono (by
    rintro e w' ⟨h1, rfl⟩
    exact ⟨h1, (Below.refl _ _).alloc (Nat.le_refl _) _⟩))
  have K33 : Hid (∀ W (y j : Nat), SS W → va l y = (j : Int) → Calls Try.prog 33 #[.agg #[.slice a n c, .slice a' m c', .slice aM k0 cM, .int .i64 (t : Int), .slice (some ⟨g, 0, none⟩) n n], .int .i64 (y : Int)] W fun e w' => (∃ v, e = .returned v ∧ intE.Own w' W.heap.size v (pth ns es ms l t j y)) ∧ Below W.heap.size W w') := hide (fun W y j h hy => path_any a a' aM c c' cM n m k0 t g y j ns es ms l W (HWy.out W h) hy)
  clear hn4 hgr x5 x6
  go_wp2_with fail
  go_loopw [9] (fun v9 wr => ∃ j : Nat, 1 ≤ j ∧ j ≤ n + 1 ∧ v9 = .int .i64 (j : Int) ∧ Hid (SS wr) ∧ Hid (∀ i : Nat, 1 ≤ i → i < j → stp ns es ms l t (t : Int) (i : Int) = 0)) (fun v9 _ => n + 1 - (intOf v9).toNat)
  case atStart => exact ⟨1, by omega, by omega, rfl, HS3, hide (fun i h1 h2 => by omega)⟩
  case round =>
    obtain ⟨j, hj1, hj2, rfl, HS, HX⟩ := hrel
    have x5 := HWb.out _ HS.out
    obtain ⟨z0, z1, z2, z3, z4⟩ := sb.out _ HS.out
    by_cases hlt : j < n
    · have j1 : (j : Int) < (n : Int) := by omega
      have j0 : (0 : Int) ≤ (j : Int) := by omega
      obtain ⟨d, hd⟩ : ∃ d, stp ns es ms l t (t : Int) (j : Int) = d := ⟨_, rfl⟩
      have K30' : Hid (∀ W, SS W → Calls Try.prog 30 #[.agg #[.slice a n c, .slice a' m c', .slice aM k0 cM, .int .i64 (t : Int), .slice (some ⟨g, 0, none⟩) n n], .int .i64 (t : Int), .int .i64 (j : Int)] W fun e w' => e = .returned (.int .i64 d) ∧ Below W.heap.size W w') := hide (fun W h => by rw [← hd]; exact K30.out W t (j : Int) h Ht.out)
      by_cases h0 : d = 0
      · have q1 : (d != 0) = false := by rw [h0]; rfl
        have HX1 : Hid (∀ i : Nat, 1 ≤ i → i < j + 1 → stp ns es ms l t (t : Int) (i : Int) = 0) := hide (fun i h1 h2 => by
          rcases Nat.lt_or_ge i j with h | h
          · exact HX.out i h1 h
          · obtain rfl : i = j := by omega
            rw [hd, h0])
        clear hd h0
        go_wp2_with (go_at_call 30; refine (K30'.out _ HS.out).mono ?_; rintro e W5 ⟨rfl, hb5⟩; have HS5 : Hid (SS W5) := hide (s8b.out _ _ HS.out hb5); clear hb5)
        go_roundw
        case rel => exact ⟨j + 1, by omega, by omega, by go_num, HS5, HX1⟩
        case measure => simp [intOf]; omega
      · have q1 : (d != 0) = true := bne_iff_ne.2 h0
        obtain ⟨_, i, vy, g1, g2, g3, g4, g5, g6, g7⟩ := stp_pos (ns := ns) (es := es) (ms := ms) (l := l) (t := t) (u := (t : Int)) (left := (j : Int)) (by rw [hd]; exact h0)
        have hbb := inB_at Hgr.out.inb g3
        obtain ⟨y, rfl⟩ := Int.eq_ofNat_of_zero_le hbb.2.2.1
        rw [Int.toNat_natCast] at g5 g7
        rw [hd] at g1 g7
        have HLp : Hid (Lp ns es ms l t n (some (d :: pth ns es ms l t j y))) := hide (.inr ⟨j, hj1, hlt, HX.out, by rw [hd]; exact h0, by rw [hd, g7]⟩)
        have K34' : Hid (∀ W, SS W → Calls Try.prog 34 #[.agg #[.slice a n c, .slice a' m c', .slice aM k0 cM, .int .i64 (t : Int), .slice (some ⟨g, 0, none⟩) n n], .int .i64 d] W fun e w' => e = .returned (.int .i64 (y : Int)) ∧ Below W.heap.size W w') := hide (fun W h => by rw [g1]; exact K34.out W i t y h g3)
        have K33' : Hid (∀ W, SS W → Calls Try.prog 33 #[.agg #[.slice a n c, .slice a' m c', .slice aM k0 cM, .int .i64 (t : Int), .slice (some ⟨g, 0, none⟩) n n], .int .i64 (y : Int)] W fun e w' => (∃ v, e = .returned v ∧ intE.Own w' W.heap.size v (pth ns es ms l t j y)) ∧ Below W.heap.size W w') := hide (fun W h => K33.out W y j h g5)
        have Hpl : Hid ((pth ns es ms l t j y).length = j) := hide (pth_len j y)
        have Hjn := hide (And.intro hlt i0)
        clear hd h0 g1 g2 g3 g4 g5 g6 g7 hbb K30 K33 K34
        generalize pth ns es ms l t j y = xs at *
        go_upto_region 9 with (go_at_call 30; refine (K30'.out _ HS.out).mono ?_; rintro e W5 ⟨rfl, hb5⟩; have HS5 : Hid (SS W5) := hide (s8b.out _ _ HS.out hb5); clear hb5)
        clear z0 z1 z2 z3 z4 x5
        obtain ⟨wA, hwA⟩ : ∃ W, W = W5 := ⟨_, rfl⟩
        rw [← hwA] at HS5
        rw [← hwA]
        clear hwA
        go_cut [6, 7] from 33 to 40 (fun v6 v7 wx => v7 = .int .i64 0 ∧ Hid (intE.Own wx W0.heap.size v6 (d :: xs)) ∧ Hid (SS wx))
        case first =>
          refine wp_region_held_drew (S := SS) (by kernel_rfl) (s8d.out _ HS5.out) (fun hS0 => ?_)
          obtain ⟨V0, hV0⟩ : ∃ V0, wA.drew = V0 := ⟨_, rfl⟩
          rw [hV0] at hS0 ⊢
          have Hgq : Hid (g < V0.heap.size ∧ q < V0.heap.size) := hide (s8z.out _ hS0)
          have HSz : Hid (V0.heap.size ≤ V0.heap.size) := hide (Nat.le_refl _)
          clear hV0
          refine wpAnyH_take (i := 0) (v := .int .i64 d) rfl (by kernel_rfl) (by kernel_rfl) (by kernel_rfl) (fun _ _ _ h => h) (Or.inl ⟨by rfl, fun W' hW => by go_simp⟩) hS0 ?_
          refine wpAnyH_take (i := 2) (v := .agg #[.slice a n c, .slice a' m c', .slice aM k0 cM, .int .i64 (t : Int), .slice (some ⟨g, 0, none⟩) n n]) rfl (by kernel_rfl) (by kernel_rfl) (by kernel_rfl) (fun _ _ _ h => h) (Or.inl ⟨by rfl, fun W' hW => by obtain ⟨z0, z1, z2, z3, z4⟩ := sb.out W' hW; go_simp⟩) hS0 ?_
          refine wpAnyH_take (i := 3) (v := .agg #[.slice a n c, .slice a' m c', .slice aM k0 cM, .int .i64 (t : Int), .slice (some ⟨g, 0, none⟩) n n]) rfl (by kernel_rfl) (by kernel_rfl) (by kernel_rfl) (fun _ _ _ h => h) (Or.inl ⟨by rfl, fun W' hW => by obtain ⟨z0, z1, z2, z3, z4⟩ := sb.out W' hW; go_simp⟩) hS0 ?_
          refine wpAnyH_take (i := 4) (v := .int .i64 d) rfl (by kernel_rfl) (by kernel_rfl) (by kernel_rfl) (fun _ _ _ h => h) (Or.inl ⟨by rfl, fun W' hW => by go_simp⟩) hS0 ?_
          refine wpAnyH_ready (rs := [1, 5]) (by kernel_rfl) (by simp) ?_
          refine AllReadyH.cons rfl (fun K hK => ?_) (AllReadyH.cons rfl (fun K hK => ?_) AllReadyH.nil)
          · go_simp
            have hb3 : Below V0.heap.size V0 (V0.alloc (.cells #[.int .i64 d] 3)) := (Below.refl _ _).alloc (Nat.le_refl _) _
            refine hK.out _ _ (s8b.out _ _ hS0 hb3) (fun hS1 => ?_)
            clear hK K
            have HNe : Hid (g ≠ V0.heap.size ∧ q ≠ V0.heap.size) := hide (by have h1 := Hgq.out; have h2 := HSz.out; omega)
            have HSz := hide (Nat.le_trans HSz.out hb3.size)
            have HN : Hid (intE.Own (V0.alloc (.cells #[.int .i64 d] 3)) W0.heap.size (.slice (some ⟨V0.heap.size, 0, none⟩) 1 1) [d]) := hide (El.Own.new intE V0 W0.heap.size (s9.out _ hS0).size _ [d] rfl (by simp) _ _ _ rfl rfl rfl)
            obtain ⟨V2, hV2⟩ : ∃ V2, V0.alloc (.cells #[.int .i64 d] 3) = V2 := ⟨_, rfl⟩
            obtain ⟨q1, hq1⟩ : ∃ q1, V0.heap.size = q1 := ⟨_, rfl⟩
            rw [hV2] at HN HSz hS1 
            rw [hq1] at HN HNe
            rw [hV2, hq1]
            clear hq1 hb3
            clear hV2
            refine wpAnyH_ready (rs := [5]) (by kernel_rfl) (by simp) ?_
            refine AllReadyH.cons rfl (fun K hK => ?_) AllReadyH.nil
            go_simp
            refine (K34'.out _ hS1).mono ?_
            rintro e V5 ⟨rfl, hb6⟩
            refine hK.out _ _ (s8b.out _ _ hS1 hb6) (fun hS4 => ?_)
            clear hK K
            have HN := hide (HN.out.keep hb6)
            have HSz := hide (Nat.le_trans HSz.out hb6.size)
            refine wpAnyH_ready (rs := [6]) (by kernel_rfl) (by simp) ?_
            refine AllReadyH.cons rfl (fun K hK => ?_) AllReadyH.nil
            go_simp
            have hszp := (s9.out _ hS4).size
            refine (K33'.out _ hS4).mono ?_
            rintro e V8 ⟨⟨vP, rfl, hoP⟩, hb9⟩
            refine hK.out _ _ (s8b.out _ _ hS4 hb9) (fun hS7 => ?_)
            have HP := hide (hoP.mono hszp)
            clear hK K hoP hszp
            have HN := hide (HN.out.keep hb9)
            have HSz := hide (Nat.le_trans HSz.out hb9.size)
            refine wpAnyH_ready (rs := [7]) (by kernel_rfl) (by simp) ?_
            refine AllReadyH.cons rfl (fun K hK => ?_) AllReadyH.nil
            refine stepB intE (B := W0.heap.size) (s9.out _ hS7).size rfl (.tmp 34) (.tmp 39) rfl (.slice (some ⟨q1, 0, none⟩) 1 1) vP rfl rfl [d] xs HN.out HP.out.rd (by rw [Hpl.out]; have := Hjn.out; simp; omega) ?_
            intro v1 w2 ho2 hg2
            have hSx : SS w2 := s8g.out _ _ q1 hS7 HNe.out.1 HNe.out.2 (HN.out.ge q1 rfl) hg2
            refine hK.out _ _ hSx (fun hS10 => ?_)
            clear hK K
            have HO2 := hide ho2
            clear ho2 hg2
            refine wpAnyH_ready (rs := [8]) (by kernel_rfl) (by simp) ?_
            refine AllReadyH.cons rfl (fun K hK => ?_) AllReadyH.nil
            go_simp
            refine hK.out _ _ hSx (fun _ => ?_)
            clear hK K
            refine wpAnyH_ready (rs := [9]) (by kernel_rfl) (by simp) ?_
            refine AllReadyH.cons rfl (fun K hK => ?_) AllReadyH.nil
            go_simp
            refine hK.out _ _ hSx (fun _ => ?_)
            clear hK K
            refine wpAnyH_done (by kernel_rfl) ?_ _
            go_wp2_with fail
            go_meet
            exact ⟨rfl, HO2, hide hSx⟩
          · go_simp
            refine (K34'.out _ hS0).mono ?_
            rintro e V12 ⟨rfl, hb13⟩
            refine hK.out _ _ (s8b.out _ _ hS0 hb13) (fun hS11 => ?_)
            clear hK K
            have HSz := hide (Nat.le_trans HSz.out hb13.size)
            refine wpAnyH_ready (rs := [1, 6]) (by kernel_rfl) (by simp) ?_
            refine AllReadyH.cons rfl (fun K hK => ?_) (AllReadyH.cons rfl (fun K hK => ?_) AllReadyH.nil)
            · go_simp
              have hb16 : Below V12.heap.size V12 (V12.alloc (.cells #[.int .i64 d] 3)) := (Below.refl _ _).alloc (Nat.le_refl _) _
              refine hK.out _ _ (s8b.out _ _ hS11 hb16) (fun hS14 => ?_)
              clear hK K
              have HNe : Hid (g ≠ V12.heap.size ∧ q ≠ V12.heap.size) := hide (by have h1 := Hgq.out; have h2 := HSz.out; omega)
              have HSz := hide (Nat.le_trans HSz.out hb16.size)
              have HN : Hid (intE.Own (V12.alloc (.cells #[.int .i64 d] 3)) W0.heap.size (.slice (some ⟨V12.heap.size, 0, none⟩) 1 1) [d]) := hide (El.Own.new intE V12 W0.heap.size (s9.out _ hS11).size _ [d] rfl (by simp) _ _ _ rfl rfl rfl)
              obtain ⟨V15, hV15⟩ : ∃ V15, V12.alloc (.cells #[.int .i64 d] 3) = V15 := ⟨_, rfl⟩
              obtain ⟨q1, hq1⟩ : ∃ q1, V12.heap.size = q1 := ⟨_, rfl⟩
              rw [hV15] at HN HSz hS14 
              rw [hq1] at HN HNe
              rw [hV15, hq1]
              clear hq1 hb16
              clear hV15
              refine wpAnyH_ready (rs := [6]) (by kernel_rfl) (by simp) ?_
              refine AllReadyH.cons rfl (fun K hK => ?_) AllReadyH.nil
              go_simp
              have hszp := (s9.out _ hS14).size
              refine (K33'.out _ hS14).mono ?_
              rintro e V18 ⟨⟨vP, rfl, hoP⟩, hb19⟩
              refine hK.out _ _ (s8b.out _ _ hS14 hb19) (fun hS17 => ?_)
              have HP := hide (hoP.mono hszp)
              clear hK K hoP hszp
              have HN := hide (HN.out.keep hb19)
              have HSz := hide (Nat.le_trans HSz.out hb19.size)
              refine wpAnyH_ready (rs := [7]) (by kernel_rfl) (by simp) ?_
              refine AllReadyH.cons rfl (fun K hK => ?_) AllReadyH.nil
              refine stepB intE (B := W0.heap.size) (s9.out _ hS17).size rfl (.tmp 34) (.tmp 39) rfl (.slice (some ⟨q1, 0, none⟩) 1 1) vP rfl rfl [d] xs HN.out HP.out.rd (by rw [Hpl.out]; have := Hjn.out; simp; omega) ?_
              intro v1 w2 ho2 hg2
              have hSx : SS w2 := s8g.out _ _ q1 hS17 HNe.out.1 HNe.out.2 (HN.out.ge q1 rfl) hg2
              refine hK.out _ _ hSx (fun hS20 => ?_)
              clear hK K
              have HO2 := hide ho2
              clear ho2 hg2
              refine wpAnyH_ready (rs := [8]) (by kernel_rfl) (by simp) ?_
              refine AllReadyH.cons rfl (fun K hK => ?_) AllReadyH.nil
              go_simp
              refine hK.out _ _ hSx (fun _ => ?_)
              clear hK K
              refine wpAnyH_ready (rs := [9]) (by kernel_rfl) (by simp) ?_
              refine AllReadyH.cons rfl (fun K hK => ?_) AllReadyH.nil
              go_simp
              refine hK.out _ _ hSx (fun _ => ?_)
              clear hK K
              refine wpAnyH_done (by kernel_rfl) ?_ _
              go_wp2_with fail
              go_meet
              exact ⟨rfl, HO2, hide hSx⟩
            · go_simp
              have hszp := (s9.out _ hS11).size
              refine (K33'.out _ hS11).mono ?_
              rintro e V22 ⟨⟨vP, rfl, hoP⟩, hb23⟩
              refine hK.out _ _ (s8b.out _ _ hS11 hb23) (fun hS21 => ?_)
              have HP := hide (hoP.mono hszp)
              clear hK K hoP hszp
              have HSz := hide (Nat.le_trans HSz.out hb23.size)
              refine wpAnyH_ready (rs := [1]) (by kernel_rfl) (by simp) ?_
              refine AllReadyH.cons rfl (fun K hK => ?_) AllReadyH.nil
              go_simp
              have hb26 : Below V22.heap.size V22 (V22.alloc (.cells #[.int .i64 d] 3)) := (Below.refl _ _).alloc (Nat.le_refl _) _
              refine hK.out _ _ (s8b.out _ _ hS21 hb26) (fun hS24 => ?_)
              clear hK K
              have HP := hide (HP.out.keep hb26)
              have HNe : Hid (g ≠ V22.heap.size ∧ q ≠ V22.heap.size) := hide (by have h1 := Hgq.out; have h2 := HSz.out; omega)
              have HSz := hide (Nat.le_trans HSz.out hb26.size)
              have HN : Hid (intE.Own (V22.alloc (.cells #[.int .i64 d] 3)) W0.heap.size (.slice (some ⟨V22.heap.size, 0, none⟩) 1 1) [d]) := hide (El.Own.new intE V22 W0.heap.size (s9.out _ hS21).size _ [d] rfl (by simp) _ _ _ rfl rfl rfl)
              obtain ⟨V25, hV25⟩ : ∃ V25, V22.alloc (.cells #[.int .i64 d] 3) = V25 := ⟨_, rfl⟩
              obtain ⟨q1, hq1⟩ : ∃ q1, V22.heap.size = q1 := ⟨_, rfl⟩
              rw [hV25] at HN HSz hS24 HP
              rw [hq1] at HN HNe
              rw [hV25, hq1]
              clear hq1 hb26
              clear hV25
              refine wpAnyH_ready (rs := [7]) (by kernel_rfl) (by simp) ?_
              refine AllReadyH.cons rfl (fun K hK => ?_) AllReadyH.nil
              refine stepB intE (B := W0.heap.size) (s9.out _ hS24).size rfl (.tmp 34) (.tmp 39) rfl (.slice (some ⟨q1, 0, none⟩) 1 1) vP rfl rfl [d] xs HN.out HP.out.rd (by rw [Hpl.out]; have := Hjn.out; simp; omega) ?_
              intro v1 w2 ho2 hg2
              have hSx : SS w2 := s8g.out _ _ q1 hS24 HNe.out.1 HNe.out.2 (HN.out.ge q1 rfl) hg2
              refine hK.out _ _ hSx (fun hS27 => ?_)
              clear hK K
              have HO2 := hide ho2
              clear ho2 hg2
              refine wpAnyH_ready (rs := [8]) (by kernel_rfl) (by simp) ?_
              refine AllReadyH.cons rfl (fun K hK => ?_) AllReadyH.nil
              go_simp
              refine hK.out _ _ hSx (fun _ => ?_)
              clear hK K
              refine wpAnyH_ready (rs := [9]) (by kernel_rfl) (by simp) ?_
              refine AllReadyH.cons rfl (fun K hK => ?_) AllReadyH.nil
              go_simp
              refine hK.out _ _ hSx (fun _ => ?_)
              clear hK K
              refine wpAnyH_done (by kernel_rfl) ?_ _
              go_wp2_with fail
              go_meet
              exact ⟨rfl, HO2, hide hSx⟩
        case rest =>
        obtain ⟨rfl, HO9, HS9⟩ := hcut
        go_wp2_with fail
        refine bodyPost_ret (v := .tuple #[_, .int .i64 0]) (by simp [results, Try.results19, go_sem]) rfl ⟨⟨l, Hgr.out, .inr ⟨_, _, HLp.out, rfl, HO9.out.mono HA.out.size⟩⟩, HA.out.trans ((s9.out _ HS9.out).mono HA.out.size)⟩
    · have j1 : ¬ (j : Int) < (n : Int) := by omega
      have HLp : Hid (Lp ns es ms l t n none) := hide (.inl ⟨rfl, fun i h1 h2 => HX.out i h1 (by omega)⟩)
      go_wp2_with fail
      refine bodyPost_ret (v := .tuple #[.slice none 0 0, .int .i64 80]) (by simp [results, Try.results19, go_sem]) rfl ⟨⟨l, Hgr.out, .inl ⟨HLp.out, rfl⟩⟩, HA.out.trans ((s9.out _ HS.out).mono HA.out.size)⟩
end Go.Proofs.Ytmkjpdmhplldjaa
