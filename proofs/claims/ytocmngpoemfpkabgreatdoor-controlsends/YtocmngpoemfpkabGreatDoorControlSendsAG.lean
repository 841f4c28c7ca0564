import Derived.Deep.RegionHeld3
import Derived.Lib.IndexBytes
import Derived.Lib.SplitLaws
import Derived.Shelf.LaysM
import Derived.Shelf.Strconv.Clone
import Derived.Shelf.Strings.Prefix
import Derived.Shelf.Strings.Split
import Derived.Shelf.Unicode.DecodeAny
import Derived.Test.YtocmngpoemfpkabGreatDoorControlSendsAA
import Derived.Test.YtocmngpoemfpkabGreatDoorControlSendsAB
import Derived.Test.YtocmngpoemfpkabGreatDoorControlSendsAD
import Derived.Test.YtocmngpoemfpkabGreatDoorControlSendsAE
import Derived.Test.YtocmngpoemfpkabGreatDoorControlSendsAF
import Derived.Test.YtocmngpoemfpkabGreatDoorProg
set_option linter.unusedVariables false
namespace Go.Proofs.YtocmngpoemfpkabGreatDoor
open Go.RowKit
theorem int_new2 (w : World) (x y : Int) (g : Nat) (hg : g = w.heap.size) : intE.Rd (w.alloc (.cells #[.int .i64 x, .int .i64 y] 3)) (.slice (some ⟨g, 0, none⟩) 2 2) [x, y] :=
  (El.Own.new intE w w.heap.size (Nat.le_refl _) _ [x, y] rfl (by simp) _ _ _ hg rfl rfl).rd
theorem box_put {W0 W : World} {q : Nat} {z0 z1 z2 z3 z4 : Value} (hq : W.heap[q]? = some (.cells #[z0, z1, z2, z3, z4] 279)) (hg : W0.heap.size ≤ q) (hb : Below W0.heap.size W0 W) (v0 v1 v2 v3 v4 : Value) :
    Below W0.heap.size W0 (((((W.setCell ⟨q, 0, none⟩ v0).setCell ⟨q, 1, none⟩ v1).setCell ⟨q, 2, none⟩ v2).setCell ⟨q, 3, none⟩ v3).setCell ⟨q, 4, none⟩ v4) ∧
    (((((W.setCell ⟨q, 0, none⟩ v0).setCell ⟨q, 1, none⟩ v1).setCell ⟨q, 2, none⟩ v2).setCell ⟨q, 3, none⟩ v3).setCell ⟨q, 4, none⟩ v4).heap[q]? = some (.cells #[v0, v1, v2, v3, v4] 279) ∧
    ∀ (B : Nat) (v : Value) (xs : List Int), intE.Own W B v xs → intE.Own (((((W.setCell ⟨q, 0, none⟩ v0).setCell ⟨q, 1, none⟩ v1).setCell ⟨q, 2, none⟩ v2).setCell ⟨q, 3, none⟩ v3).setCell ⟨q, 4, none⟩ v4) B v xs := by
  refine ⟨((((hb.setCell (p := ⟨q, 0, none⟩) hg _).setCell (p := ⟨q, 1, none⟩) hg _).setCell (p := ⟨q, 2, none⟩) hg _).setCell (p := ⟨q, 3, none⟩) hg _).setCell (p := ⟨q, 4, none⟩) hg _, heap_put (heap_put (heap_put (heap_put (heap_put hq v0) v1) v2) v3) v4, fun B v xs ho => ?_⟩
  have hne : v.ownBlock ≠ some q := fun e => by
    rcases ho.2 with ⟨hx, _⟩ | ⟨q', cap, cur, hx, h2, h3, _⟩
    · rw [hx] at e; cases e
    · rw [hx] at e
      obtain rfl := Option.some.inj e
      rw [hq] at h3
      simp only [Option.some.injEq, Obj.cells.injEq] at h3
      exact absurd h3.2.1 (by decide)
  exact own_set_other (own_set_other (own_set_other (own_set_other (own_set_other ho hne) hne) hne) hne) hne
set_option maxRecDepth 100000 in
theorem around_no (a a' aM : Option Addr) (c c' cM n m k0 : Nat) (x y : Int) (vF : Value) (w : World) (hx : ¬ ((0 ≤ x ∧ x < (n : Int)) ∧ 0 ≤ y ∧ y < (n : Int))) :
    Calls Tryz.prog 181 #[.agg #[.slice a n c, .slice a' m c'], .slice aM k0 cM, .int .i64 x, .int .i64 y, vF] w fun e w' => e = .returned (.tuple #[.slice none 0 0, .int .i64 1]) ∧ Below w.heap.size w w' := by
  obtain ⟨W0, hW0⟩ : ∃ W0, w.alloc (.cells #[.slice a n c, .slice a' m c'] 25) = W0 := ⟨_, rfl⟩
  have bA : Below w.heap.size w W0 := by rw [← hW0]; exact (Below.refl _ _).alloc (Nat.le_refl _) _
  have hbox : W0.heap[w.heap.size]? = some (.cells #[.slice a n c, .slice a' m c'] 25) := by rw [← hW0]; exact heap_new _ _
  have HA := hide bA
  have HW0 := hide hW0
  have d0 := (cells_at hbox 0).1
  have d1 := (cells_at hbox 1).1
  simp at d0 d1
  have b1 : Below W0.heap.size W0 (W0.alloc (.cells #[.int .i64 x, .int .i64 y] 3)) := (Below.refl _ _).alloc (Nat.le_refl _) _
  have Hb1 := hide b1
  have K28 : Hid (∀ W, Below W0.heap.size W0 W → intE.Rd W (.slice (some ⟨W0.heap.size, 0, none⟩) 2 2) [x, y] → Calls Tryz.prog 214 #[.agg #[.slice a n c, .slice a' m c'], .slice (some ⟨W0.heap.size, 0, none⟩) 2 2] W fun e w' => e = .returned (.bool false) ∧ Below W.heap.size W w') := hide (fun W h hr => by
    have := places_any a a' (some ⟨W0.heap.size, 0, none⟩) n c m c' 2 2 [x, y] W rfl hr (by omega)
    rwa [place2, decide_eq_false hx] at this)
  clear b1 hx hbox bA hW0
  go_enter Tryz.func181, Tryz.ntmps181
  go_upto_region 1 with fail
  rw [HW0.out]
  clear HW0
  go_wp2_with (go_at_call 214; refine (K28.out _ Hb1.out (int_new2 _ _ _ _ rfl)).mono ?_; rintro e W2 ⟨rfl, hb2⟩; have Hb2 : Hid (Below W0.heap.size W0 W2) := hide (Hb1.out.trans (hb2.mono Hb1.out.size)); clear hb2 d0 d1)
  refine bodyPost_ret (v := .tuple #[.slice none 0 0, .int .i64 1]) (by simp [results, Tryz.results181, go_sem]) rfl ⟨rfl, HA.out.trans (Hb2.out.mono HA.out.size)⟩
set_option maxRecDepth 100000 in
set_option maxHeartbeats 4000000 in
theorem around_ok (a a' aM aX : Option Addr) (c c' cM cX n m k0 kX u t : Nat) (ns : List Nd) (es : List Ed) (ms fs : List Int) (w : World) (hL : Ly w a a' c c' n m ns es) (hM : Mk w aM cM k0 ms) (hF : Mk w aX cX kX fs) (hk : k0 ≤ 1000) (hu : u < n) (ht : t < n) :
    Calls Tryz.prog 181 #[.agg #[.slice a n c, .slice a' m c'], .slice aM k0 cM, .int .i64 (u : Int), .int .i64 (t : Int), .slice aX kX cX] w fun e w' => (∃ l, Gr ns es (ms ++ shut es (t : Int) fs) l t n ∧ ((va l u = -1 ∧ e = .returned (.tuple #[.slice none 0 0, .int .i64 80])) ∨ ∃ (k : Nat) (v : Value), va l u = (k : Int) ∧ e = .returned (.tuple #[v, .int .i64 0]) ∧ intE.Own w' w.heap.size v (pth ns es (ms ++ shut es (t : Int) fs) l t k u))) ∧ Below w.heap.size w w' := by
  obtain ⟨W0, hW0⟩ : ∃ W0, w.alloc (.cells #[.slice a n c, .slice a' m c'] 25) = W0 := ⟨_, rfl⟩
  have bA : Below w.heap.size w W0 := by rw [← hW0]; exact (Below.refl _ _).alloc (Nat.le_refl _) _
  have hbox : W0.heap[w.heap.size]? = some (.cells #[.slice a n c, .slice a' m c'] 25) := by rw [← hW0]; exact heap_new _ _
  have HBOX := hide hbox
  have HA := hide bA
  have HW0 := hide hW0
  have d0 := (cells_at hbox 0).1
  have d1 := (cells_at hbox 1).1
  simp at d0 d1
  have HLW : Hid (∀ W, Below W0.heap.size W0 W → Ly W a a' c c' n m ns es ∧ Mk W aM cM k0 ms ∧ Mk W aX cX kX fs) := hide (fun W h => ⟨hL.keep (bA.trans (h.mono bA.size)), hM.keep (bA.trans (h.mono bA.size)), hF.keep (bA.trans (h.mono bA.size))⟩)
  have b1 : Below W0.heap.size W0 (W0.alloc (.cells #[.int .i64 (u : Int), .int .i64 (t : Int)] 3)) := (Below.refl _ _).alloc (Nat.le_refl _) _
  have Hb1 := hide b1
  have K28 : Hid (∀ W, Below W0.heap.size W0 W → intE.Rd W (.slice (some ⟨W0.heap.size, 0, none⟩) 2 2) [(u : Int), (t : Int)] → Calls Tryz.prog 214 #[.agg #[.slice a n c, .slice a' m c'], .slice (some ⟨W0.heap.size, 0, none⟩) 2 2] W fun e w' => e = .returned (.bool true) ∧ Below W.heap.size W w') := hide (fun W h hr => by
    have := places_any a a' (some ⟨W0.heap.size, 0, none⟩) n c m c' 2 2 [(u : Int), (t : Int)] W rfl hr (by omega)
    rwa [place2, decide_eq_true ⟨⟨by omega, by omega⟩, by omega, by omega⟩] at this)
  have Hshl : Hid ((shut es (t : Int) fs).length ≤ 1000) := hide (by
    have h1 : (shut es (t : Int) fs).length ≤ es.length := dvs_len es _ _
    have h2 := hL.hm; have h3 := hL.m4; omega)
  have K32 : Hid (∀ W, Below W0.heap.size W0 W → Calls Tryz.prog 217 #[.agg #[.slice a n c, .slice a' m c'], .int .i64 (t : Int), .slice aX kX cX] W fun e w' => (∃ v, e = .returned v ∧ intE.Own w' W.heap.size v (shut es (t : Int) fs)) ∧ Below W.heap.size W w') := hide (fun W h => shut_any a a' aX c c' n m kX cX es (t : Int) fs W hL.hm (HLW.out W h).1.hu (by have := hL.m4; omega) hF.hk (HLW.out W h).2.2.hM hF.k4)
  obtain ⟨sh, hsh⟩ : ∃ sh, shut es (t : Int) fs = sh := ⟨_, rfl⟩
  rw [hsh] at Hshl K32
  rw [hsh]
  have K31 : Hid (∀ (W : World) (q : Nat) (aD : Option Addr) (nD cD : Nat), Below W0.heap.size W0 W → W.cell? ⟨q, 0, none⟩ = some (.slice aM k0 cM) → W.cell? ⟨q, 1, none⟩ = some (.slice aD nD cD) → sh.length = nD → intE.Rd W (.slice aD nD cD) sh → Calls Tryz.prog 216 #[.slice (some ⟨q, 0, none⟩) 2 2] W fun e w' => (∃ aC cC, e = .returned (.slice aC (ms ++ sh).length cC) ∧ intE.Own w' W.heap.size (.slice aC (ms ++ sh).length cC) (ms ++ sh)) ∧ Below W.heap.size W w') := hide (fun W q aD nD cD h h0 h1 h2 h3 => (concat_any q aM aD k0 cM nD cD ms sh W hM.hk h2 h0 h1 (HLW.out W h).2.1.hM h3 (by omega) (by have := Hshl.out; omega)).mono (by
    rintro e w' ⟨⟨v, rfl, ho⟩, hb⟩
    obtain ⟨aC, cC, rfl⟩ := ho.rd.form
    exact ⟨⟨aC, cC, rfl, ho⟩, hb⟩))
  have HkC : Hid ((ms ++ sh).length ≤ 100000) := hide (by rw [List.length_append, hM.hk]; have := Hshl.out; omega)
  obtain ⟨kC, hkC⟩ : ∃ kC, (ms ++ sh).length = kC := ⟨_, rfl⟩
  rw [hkC] at K31 HkC
  obtain ⟨cs, hcs⟩ : ∃ cs, ms ++ sh = cs := ⟨_, rfl⟩
  rw [hcs] at K31
  rw [hcs]
  have HkCe : Hid (cs.length = kC) := hide (by rw [← hcs]; exact hkC)
  have K29 : Hid (∀ (W : World) (aC : Option Addr) (cC : Nat), Below W0.heap.size W0 W → intE.Rd W (.slice aC kC cC) cs → Calls Tryz.prog 215 #[.agg #[.slice a n c, .slice a' m c'], .slice aC kC cC, .int .i64 (t : Int)] W fun e w' => (∃ g l, e = .returned (.agg #[.slice a n c, .slice a' m c', .slice aC kC cC, .int .i64 (t : Int), .slice (some ⟨g, 0, none⟩) n n]) ∧ intE.Own w' W.heap.size (.slice (some ⟨g, 0, none⟩) n n) l ∧ Gr ns es cs l t n) ∧ Below W.heap.size W w') := hide (fun W aC cC h hC => (waysTo_any a a' aC c c' cC n m kC t ns es cs W (HLW.out W h).1 ⟨HkCe.out, hC, HkC.out⟩ ht).mono (by
    rintro e w' ⟨⟨g, l, rfl, ho, hf⟩, hb⟩
    refine ⟨⟨g, l, rfl, ho, hL.hE, ?_, ht⟩, hb⟩
    rw [hL.hm]; exact hf))
  have K33 : Hid (∀ (W : World) (aC : Option Addr) (cC g : Nat) (l : List Int) (k : Nat), Wy W a a' aC c c' cC n m kC t g ns es cs l → va l u = (k : Int) → Calls Tryz.prog 218 #[.agg #[.slice a n c, .slice a' m c', .slice aC kC cC, .int .i64 (t : Int), .slice (some ⟨g, 0, none⟩) n n], .int .i64 (u : Int)] W fun e w' => (∃ v, e = .returned v ∧ intE.Own w' W.heap.size v (pth ns es cs l t k u)) ∧ Below W.heap.size W w') := hide (fun W aC cC g l k h hk => path_any a a' aC c c' cC n m kC t g u k ns es cs l W h hk)
  have j0 : (0 : Int) ≤ (u : Int) := by omega
  have j1 : (u : Int) < (n : Int) := by omega
  have Hun := hide hu
  obtain ⟨SS, hSS⟩ : ∃ SS : World → Prop, SS = fun W' => Below W0.heap.size W0 W' := ⟨_, rfl⟩
  have s9 : Hid (∀ W', SS W' → Below W0.heap.size W0 W') := hide (fun W' h => by rw [hSS] at h; exact h)
  have s8 : Hid (∀ W', Below W0.heap.size W0 W' → SS W') := hide (fun W' h => by rw [hSS]; exact h)
  have sb : Hid (∀ W', SS W' → W'.cell? ⟨w.heap.size, 0, none⟩ = some (.slice a n c) ∧ W'.cell? ⟨w.heap.size, 1, none⟩ = some (.slice a' m c')) := hide (fun W' h => layc HBOX.out (s9.out W' h))
  clear hL hM hF hk hu ht b1 hbox bA hW0 hSS hsh hkC hcs
  go_enter Tryz.func181, Tryz.ntmps181
  go_upto_region 1 with fail
  rw [HW0.out]
  clear HW0
  go_upto_region 3 with (go_at_call 214; refine (K28.out _ Hb1.out (int_new2 _ _ _ _ rfl)).mono ?_; rintro e W2 ⟨rfl, hb2⟩; have Hb2 : Hid (Below W0.heap.size W0 W2) := hide (Hb1.out.trans (hb2.mono Hb1.out.size)); clear hb2 d0 d1)
  clear K28
  obtain ⟨wA, rfl⟩ : ∃ W, W = W2 := ⟨_, rfl⟩
  go_cut [12] (fun v12 wx => ∃ q aC cC g l, v12 = .pointer (some ⟨q, 0, none⟩) ∧ Hid (wx.heap[q]? = some (.cells #[.slice a n c, .slice a' m c', .slice aC kC cC, .int .i64 (t : Int), .slice (some ⟨g, 0, none⟩) n n] 279)) ∧ Hid (Wy wx a a' aC c c' cC n m kC t g ns es cs l) ∧ Hid (Below W0.heap.size W0 wx))
  case first =>
    refine wp_region_held_drew (S := SS) (by kernel_rfl) (s8.out _ (below_heap Hb2.out rfl rfl rfl rfl)) (fun hS0 => ?_)
    obtain ⟨V0, hV0⟩ : ∃ V0, wA.drew = V0 := ⟨_, rfl⟩
    rw [hV0] at hS0 ⊢
    clear hV0
    refine wpAnyH_take (i := 0) (v := .agg #[.slice a n c, .slice a' m c']) rfl (by kernel_rfl) (by kernel_rfl) (by kernel_rfl) (fun _ _ _ h => h) (Or.inl ⟨by rfl, fun W' hW => by obtain ⟨z0, z1⟩ := sb.out W' hW; go_simp⟩) hS0 ?_
    refine wpAnyH_take (i := 1) (v := .slice aM k0 cM) rfl (by kernel_rfl) (by kernel_rfl) (by kernel_rfl) (fun _ _ _ h => h) (Or.inl ⟨by rfl, fun W' hW => by go_simp⟩) hS0 ?_
    refine wpAnyH_take (i := 2) (v := .agg #[.slice a n c, .slice a' m c']) rfl (by kernel_rfl) (by kernel_rfl) (by kernel_rfl) (fun _ _ _ h => h) (Or.inl ⟨by rfl, fun W' hW => by obtain ⟨z0, z1⟩ := sb.out W' hW; go_simp⟩) hS0 ?_
    refine wpAnyH_take (i := 3) (v := .int .i64 (t : Int)) rfl (by kernel_rfl) (by kernel_rfl) (by kernel_rfl) (fun _ _ _ h => h) (Or.inl ⟨by rfl, fun W' hW => by go_simp⟩) hS0 ?_
    refine wpAnyH_take (i := 4) (v := .slice aX kX cX) rfl (by kernel_rfl) (by kernel_rfl) (by kernel_rfl) (fun _ _ _ h => h) (Or.inl ⟨by rfl, fun W' hW => by go_simp⟩) hS0 ?_
    refine wpAnyH_take (i := 8) (v := .int .i64 (t : Int)) rfl (by kernel_rfl) (by kernel_rfl) (by kernel_rfl) (fun _ _ _ h => h) (Or.inl ⟨by rfl, fun W' hW => by go_simp⟩) hS0 ?_
    refine wpAnyH_ready (rs := [5, 10]) (by kernel_rfl) (by simp) ?_
    refine AllReadyH.cons rfl (fun K hK => ?_) (AllReadyH.cons rfl (fun K hK => ?_) AllReadyH.nil)
    · go_simp
      refine (K32.out _ (s9.out _ hS0)).mono ?_
      rintro e V2 ⟨⟨vD, rfl, ho3⟩, hb3⟩
      refine hK.out _ _ (s8.out _ ((s9.out _ hS0).trans (hb3.mono (s9.out _ hS0).size))) (fun hS1 => ?_)
      clear hK K
      obtain ⟨aD, cD, rfl⟩ := ho3.rd.form
      obtain ⟨nD, hnD⟩ : ∃ nD, sh.length = nD := ⟨_, rfl⟩
      rw [hnD] at ho3
      rw [hnD]
      have Hnd := hide hnD
      clear hnD
      have HRd : Hid (intE.Rd V2 (.slice aD nD cD) sh) := hide ho3.rd
      clear ho3
      refine wpAnyH_ready (rs := [6, 10]) (by kernel_rfl) (by simp) ?_
      refine AllReadyH.cons rfl (fun K hK => ?_) (AllReadyH.cons rfl (fun K hK => ?_) AllReadyH.nil)
      · go_simp
        refine hK.out _ _ (s8.out _ ((s9.out _ hS1).alloc (s9.out _ hS1).size _)) (fun hS4 => ?_)
        clear hK K
        have hb6 : Below V2.heap.size V2 (V2.alloc (.cells #[.slice aM k0 cM, .slice aD nD cD] 40)) := (Below.refl _ _).alloc (Nat.le_refl _) _
        have HRd := hide (HRd.out.keep hb6)
        have HRr := hide (heap_new V2 (.cells #[.slice aM k0 cM, .slice aD nD cD] 40))
        have HRrg : Hid (W0.heap.size ≤ V2.heap.size) := hide (s9.out _ hS1).size
        obtain ⟨V5, hV5⟩ : ∃ V5, V2.alloc (.cells #[.slice aM k0 cM, .slice aD nD cD] 40) = V5 := ⟨_, rfl⟩
        obtain ⟨r, hr⟩ : ∃ r, V2.heap.size = r := ⟨_, rfl⟩
        rw [hV5] at HRr hS4 HRd
        rw [hr] at HRr HRrg
        rw [hV5, hr]
        clear hr hb6
        clear hV5
        refine wpAnyH_ready (rs := [7, 10]) (by kernel_rfl) (by simp) ?_
        refine AllReadyH.cons rfl (fun K hK => ?_) (AllReadyH.cons rfl (fun K hK => ?_) AllReadyH.nil)
        · go_simp
          refine (K31.out _ r aD nD cD (s9.out _ hS4) (cells_at HRr.out 0).1 (cells_at HRr.out 1).1 Hnd.out HRd.out).mono ?_
          rintro e V8 ⟨⟨aC, cC, rfl, hm5⟩, hb9⟩
          refine hK.out _ _ (s8.out _ ((s9.out _ hS4).trans (hb9.mono (s9.out _ hS4).size))) (fun hS7 => ?_)
          clear hK K
          clear HRr HRd
          have HMk := hide hm5
          clear hm5
          refine wpAnyH_ready (rs := [9, 10]) (by kernel_rfl) (by simp) ?_
          refine AllReadyH.cons rfl (fun K hK => ?_) (AllReadyH.cons rfl (fun K hK => ?_) AllReadyH.nil)
          · go_simp
            refine (K29.out _ aC cC (s9.out _ hS7) HMk.out.rd).mono ?_
            rintro e V11 ⟨⟨g, l, rfl, hW6, hg6⟩, hb12⟩
            refine hK.out _ _ (s8.out _ ((s9.out _ hS7).trans (hb12.mono (s9.out _ hS7).size))) (fun hS10 => ?_)
            clear hK K
            have HGr := hide hg6
            clear hg6
            have HMk := hide (HMk.out.keep hb12)
            have HFr := hide hW6
            clear hW6
            refine wpAnyH_ready (rs := [10]) (by kernel_rfl) (by simp) ?_
            refine AllReadyH.cons rfl (fun K hK => ?_) AllReadyH.nil
            go_simp
            refine hK.out _ _ (s8.out _ ((s9.out _ hS10).alloc (s9.out _ hS10).size _)) (fun hS13 => ?_)
            clear hK K
            have hb15 : Below V11.heap.size V11 (V11.alloc (.cells #[.slice none 0 0, .slice none 0 0, .slice none 0 0, .int .i64 0, .slice none 0 0] 279)) := (Below.refl _ _).alloc (Nat.le_refl _) _
            have HMk := hide (HMk.out.keep hb15)
            have HFr := hide (HFr.out.keep hb15)
            have HQ := hide (heap_new V11 (.cells #[.slice none 0 0, .slice none 0 0, .slice none 0 0, .int .i64 0, .slice none 0 0] 279))
            have HQg : Hid (W0.heap.size ≤ V11.heap.size) := hide (s9.out _ hS10).size
            obtain ⟨V14, hV14⟩ : ∃ V14, V11.alloc (.cells #[.slice none 0 0, .slice none 0 0, .slice none 0 0, .int .i64 0, .slice none 0 0] 279) = V14 := ⟨_, rfl⟩
            obtain ⟨q, hq⟩ : ∃ q, V11.heap.size = q := ⟨_, rfl⟩
            rw [hV14] at HQ hS13 HMk HFr
            rw [hq] at HQ HQg
            rw [hV14, hq]
            clear hq hb15
            clear hV14
            obtain ⟨y0, f0⟩ := cells_at HQ.out 0
            obtain ⟨y1, f1⟩ := cells_at HQ.out 1
            obtain ⟨y2, f2⟩ := cells_at HQ.out 2
            obtain ⟨y3, f3⟩ := cells_at HQ.out 3
            obtain ⟨y4, f4⟩ := cells_at HQ.out 4
            simp at y0 y1 y2 y3 y4
            have HF := hide (box_put HQ.out HQg.out (s9.out _ hS13))
            refine wpAnyH_ready (rs := [11]) (by kernel_rfl) (by simp) ?_
            refine AllReadyH.cons rfl (fun K hK => ?_) AllReadyH.nil
            go_simp
            refine hK.out _ _ (s8.out _ (HF.out _ _ _ _ _).1) (fun hS16 => ?_)
            clear hK K
            refine wpAnyH_done (by kernel_rfl) ?_ _
            have HB8 : Hid (Below W0.heap.size W0 _) := hide (s9.out _ hS16)
            go_wp2_with fail
            go_meet
            exact ⟨_, aC, cC, g, l, rfl, hide (HF.out _ _ _ _ _).2.1, hide ⟨(HLW.out _ HB8.out).1, ⟨HkCe.out, ((HF.out _ _ _ _ _).2.2 _ _ _ HMk.out).rd, HkC.out⟩, ((HF.out _ _ _ _ _).2.2 _ _ _ HFr.out).rd, HGr.out⟩, HB8⟩
          · go_simp
            refine hK.out _ _ (s8.out _ ((s9.out _ hS7).alloc (s9.out _ hS7).size _)) (fun hS17 => ?_)
            clear hK K
            have hb19 : Below V8.heap.size V8 (V8.alloc (.cells #[.slice none 0 0, .slice none 0 0, .slice none 0 0, .int .i64 0, .slice none 0 0] 279)) := (Below.refl _ _).alloc (Nat.le_refl _) _
            have HMk := hide (HMk.out.keep hb19)
            have HQ := hide (heap_new V8 (.cells #[.slice none 0 0, .slice none 0 0, .slice none 0 0, .int .i64 0, .slice none 0 0] 279))
            have HQg : Hid (W0.heap.size ≤ V8.heap.size) := hide (s9.out _ hS7).size
            obtain ⟨V18, hV18⟩ : ∃ V18, V8.alloc (.cells #[.slice none 0 0, .slice none 0 0, .slice none 0 0, .int .i64 0, .slice none 0 0] 279) = V18 := ⟨_, rfl⟩
            obtain ⟨q, hq⟩ : ∃ q, V8.heap.size = q := ⟨_, rfl⟩
            rw [hV18] at HQ hS17 HMk
            rw [hq] at HQ HQg
            rw [hV18, hq]
            clear hq hb19
            clear hV18
            refine wpAnyH_ready (rs := [9]) (by kernel_rfl) (by simp) ?_
            refine AllReadyH.cons rfl (fun K hK => ?_) AllReadyH.nil
            go_simp
            refine (K29.out _ aC cC (s9.out _ hS17) HMk.out.rd).mono ?_
            rintro e V21 ⟨⟨g, l, rfl, hW6, hg6⟩, hb22⟩
            refine hK.out _ _ (s8.out _ ((s9.out _ hS17).trans (hb22.mono (s9.out _ hS17).size))) (fun hS20 => ?_)
            clear hK K
            have HGr := hide hg6
            clear hg6
            have HMk := hide (HMk.out.keep hb22)
            have HQ := hide ((hb22.block _ (heap_lt HQ.out)).trans HQ.out)
            have HFr := hide hW6
            clear hW6
            obtain ⟨y0, f0⟩ := cells_at HQ.out 0
            obtain ⟨y1, f1⟩ := cells_at HQ.out 1
            obtain ⟨y2, f2⟩ := cells_at HQ.out 2
            obtain ⟨y3, f3⟩ := cells_at HQ.out 3
            obtain ⟨y4, f4⟩ := cells_at HQ.out 4
            simp at y0 y1 y2 y3 y4
            have HF := hide (box_put HQ.out HQg.out (s9.out _ hS20))
            refine wpAnyH_ready (rs := [11]) (by kernel_rfl) (by simp) ?_
            refine AllReadyH.cons rfl (fun K hK => ?_) AllReadyH.nil
            go_simp
            refine hK.out _ _ (s8.out _ (HF.out _ _ _ _ _).1) (fun hS23 => ?_)
            clear hK K
            refine wpAnyH_done (by kernel_rfl) ?_ _
            have HB8 : Hid (Below W0.heap.size W0 _) := hide (s9.out _ hS23)
            go_wp2_with fail
            go_meet
            exact ⟨_, aC, cC, g, l, rfl, hide (HF.out _ _ _ _ _).2.1, hide ⟨(HLW.out _ HB8.out).1, ⟨HkCe.out, ((HF.out _ _ _ _ _).2.2 _ _ _ HMk.out).rd, HkC.out⟩, ((HF.out _ _ _ _ _).2.2 _ _ _ HFr.out).rd, HGr.out⟩, HB8⟩
        · go_simp
          refine hK.out _ _ (s8.out _ ((s9.out _ hS4).alloc (s9.out _ hS4).size _)) (fun hS24 => ?_)
          clear hK K
          have hb26 : Below V5.heap.size V5 (V5.alloc (.cells #[.slice none 0 0, .slice none 0 0, .slice none 0 0, .int .i64 0, .slice none 0 0] 279)) := (Below.refl _ _).alloc (Nat.le_refl _) _
          have HRd := hide (HRd.out.keep hb26)
          have HRr := hide ((hb26.block _ (heap_lt HRr.out)).trans HRr.out)
          have HQ := hide (heap_new V5 (.cells #[.slice none 0 0, .slice none 0 0, .slice none 0 0, .int .i64 0, .slice none 0 0] 279))
          have HQg : Hid (W0.heap.size ≤ V5.heap.size) := hide (s9.out _ hS4).size
          obtain ⟨V25, hV25⟩ : ∃ V25, V5.alloc (.cells #[.slice none 0 0, .slice none 0 0, .slice none 0 0, .int .i64 0, .slice none 0 0] 279) = V25 := ⟨_, rfl⟩
          obtain ⟨q, hq⟩ : ∃ q, V5.heap.size = q := ⟨_, rfl⟩
          rw [hV25] at HQ hS24 HRd HRr
          rw [hq] at HQ HQg
          rw [hV25, hq]
          clear hq hb26
          clear hV25
          refine wpAnyH_ready (rs := [7]) (by kernel_rfl) (by simp) ?_
          refine AllReadyH.cons rfl (fun K hK => ?_) AllReadyH.nil
          go_simp
          refine (K31.out _ r aD nD cD (s9.out _ hS24) (cells_at HRr.out 0).1 (cells_at HRr.out 1).1 Hnd.out HRd.out).mono ?_
          rintro e V28 ⟨⟨aC, cC, rfl, hm5⟩, hb29⟩
          refine hK.out _ _ (s8.out _ ((s9.out _ hS24).trans (hb29.mono (s9.out _ hS24).size))) (fun hS27 => ?_)
          clear hK K
          clear HRr HRd
          have HQ := hide ((hb29.block _ (heap_lt HQ.out)).trans HQ.out)
          have HMk := hide hm5
          clear hm5
          refine wpAnyH_ready (rs := [9]) (by kernel_rfl) (by simp) ?_
          refine AllReadyH.cons rfl (fun K hK => ?_) AllReadyH.nil
          go_simp
          refine (K29.out _ aC cC (s9.out _ hS27) HMk.out.rd).mono ?_
          rintro e V31 ⟨⟨g, l, rfl, hW6, hg6⟩, hb32⟩
          refine hK.out _ _ (s8.out _ ((s9.out _ hS27).trans (hb32.mono (s9.out _ hS27).size))) (fun hS30 => ?_)
          clear hK K
          have HGr := hide hg6
          clear hg6
          have HQ := hide ((hb32.block _ (heap_lt HQ.out)).trans HQ.out)
          have HMk := hide (HMk.out.keep hb32)
          have HFr := hide hW6
          clear hW6
          obtain ⟨y0, f0⟩ := cells_at HQ.out 0
          obtain ⟨y1, f1⟩ := cells_at HQ.out 1
          obtain ⟨y2, f2⟩ := cells_at HQ.out 2
          obtain ⟨y3, f3⟩ := cells_at HQ.out 3
          obtain ⟨y4, f4⟩ := cells_at HQ.out 4
          simp at y0 y1 y2 y3 y4
          have HF := hide (box_put HQ.out HQg.out (s9.out _ hS30))
          refine wpAnyH_ready (rs := [11]) (by kernel_rfl) (by simp) ?_
          refine AllReadyH.cons rfl (fun K hK => ?_) AllReadyH.nil
          go_simp
          refine hK.out _ _ (s8.out _ (HF.out _ _ _ _ _).1) (fun hS33 => ?_)
          clear hK K
          refine wpAnyH_done (by kernel_rfl) ?_ _
          have HB8 : Hid (Below W0.heap.size W0 _) := hide (s9.out _ hS33)
          go_wp2_with fail
          go_meet
          exact ⟨_, aC, cC, g, l, rfl, hide (HF.out _ _ _ _ _).2.1, hide ⟨(HLW.out _ HB8.out).1, ⟨HkCe.out, ((HF.out _ _ _ _ _).2.2 _ _ _ HMk.out).rd, HkC.out⟩, ((HF.out _ _ _ _ _).2.2 _ _ _ HFr.out).rd, HGr.out⟩, HB8⟩
      · go_simp
        refine hK.out _ _ (s8.out _ ((s9.out _ hS1).alloc (s9.out _ hS1).size _)) (fun hS34 => ?_)
        clear hK K
        have hb36 : Below V2.heap.size V2 (V2.alloc (.cells #[.slice none 0 0, .slice none 0 0, .slice none 0 0, .int .i64 0, .slice none 0 0] 279)) := (Below.refl _ _).alloc (Nat.le_refl _) _
        have HRd := hide (HRd.out.keep hb36)
        have HQ := hide (heap_new V2 (.cells #[.slice none 0 0, .slice none 0 0, .slice none 0 0, .int .i64 0, .slice none 0 0] 279))
        have HQg : Hid (W0.heap.size ≤ V2.heap.size) := hide (s9.out _ hS1).size
        obtain ⟨V35, hV35⟩ : ∃ V35, V2.alloc (.cells #[.slice none 0 0, .slice none 0 0, .slice none 0 0, .int .i64 0, .slice none 0 0] 279) = V35 := ⟨_, rfl⟩
        obtain ⟨q, hq⟩ : ∃ q, V2.heap.size = q := ⟨_, rfl⟩
        rw [hV35] at HQ hS34 HRd
        rw [hq] at HQ HQg
        rw [hV35, hq]
        clear hq hb36
        clear hV35
        refine wpAnyH_ready (rs := [6]) (by kernel_rfl) (by simp) ?_
        refine AllReadyH.cons rfl (fun K hK => ?_) AllReadyH.nil
        go_simp
        refine hK.out _ _ (s8.out _ ((s9.out _ hS34).alloc (s9.out _ hS34).size _)) (fun hS37 => ?_)
        clear hK K
        have hb39 : Below V35.heap.size V35 (V35.alloc (.cells #[.slice aM k0 cM, .slice aD nD cD] 40)) := (Below.refl _ _).alloc (Nat.le_refl _) _
        have HRd := hide (HRd.out.keep hb39)
        have HQ := hide ((hb39.block _ (heap_lt HQ.out)).trans HQ.out)
        have HRr := hide (heap_new V35 (.cells #[.slice aM k0 cM, .slice aD nD cD] 40))
        have HRrg : Hid (W0.heap.size ≤ V35.heap.size) := hide (s9.out _ hS34).size
        obtain ⟨V38, hV38⟩ : ∃ V38, V35.alloc (.cells #[.slice aM k0 cM, .slice aD nD cD] 40) = V38 := ⟨_, rfl⟩
        obtain ⟨r, hr⟩ : ∃ r, V35.heap.size = r := ⟨_, rfl⟩
        rw [hV38] at HRr hS37 HRd HQ
        rw [hr] at HRr HRrg
        rw [hV38, hr]
        clear hr hb39
        clear hV38
        refine wpAnyH_ready (rs := [7]) (by kernel_rfl) (by simp) ?_
        refine AllReadyH.cons rfl (fun K hK => ?_) AllReadyH.nil
        go_simp
        refine (K31.out _ r aD nD cD (s9.out _ hS37) (cells_at HRr.out 0).1 (cells_at HRr.out 1).1 Hnd.out HRd.out).mono ?_
        rintro e V41 ⟨⟨aC, cC, rfl, hm5⟩, hb42⟩
        refine hK.out _ _ (s8.out _ ((s9.out _ hS37).trans (hb42.mono (s9.out _ hS37).size))) (fun hS40 => ?_)
        clear hK K
        clear HRr HRd
        have HQ := hide ((hb42.block _ (heap_lt HQ.out)).trans HQ.out)
        have HMk := hide hm5
        clear hm5
        refine wpAnyH_ready (rs := [9]) (by kernel_rfl) (by simp) ?_
        refine AllReadyH.cons rfl (fun K hK => ?_) AllReadyH.nil
        go_simp
        refine (K29.out _ aC cC (s9.out _ hS40) HMk.out.rd).mono ?_
        rintro e V44 ⟨⟨g, l, rfl, hW6, hg6⟩, hb45⟩
        refine hK.out _ _ (s8.out _ ((s9.out _ hS40).trans (hb45.mono (s9.out _ hS40).size))) (fun hS43 => ?_)
        clear hK K
        have HGr := hide hg6
        clear hg6
        have HQ := hide ((hb45.block _ (heap_lt HQ.out)).trans HQ.out)
        have HMk := hide (HMk.out.keep hb45)
        have HFr := hide hW6
        clear hW6
        obtain ⟨y0, f0⟩ := cells_at HQ.out 0
        obtain ⟨y1, f1⟩ := cells_at HQ.out 1
        obtain ⟨y2, f2⟩ := cells_at HQ.out 2
        obtain ⟨y3, f3⟩ := cells_at HQ.out 3
        obtain ⟨y4, f4⟩ := cells_at HQ.out 4
        simp at y0 y1 y2 y3 y4
        have HF := hide (box_put HQ.out HQg.out (s9.out _ hS43))
        refine wpAnyH_ready (rs := [11]) (by kernel_rfl) (by simp) ?_
        refine AllReadyH.cons rfl (fun K hK => ?_) AllReadyH.nil
        go_simp
        refine hK.out _ _ (s8.out _ (HF.out _ _ _ _ _).1) (fun hS46 => ?_)
        clear hK K
        refine wpAnyH_done (by kernel_rfl) ?_ _
        have HB8 : Hid (Below W0.heap.size W0 _) := hide (s9.out _ hS46)
        go_wp2_with fail
        go_meet
        exact ⟨_, aC, cC, g, l, rfl, hide (HF.out _ _ _ _ _).2.1, hide ⟨(HLW.out _ HB8.out).1, ⟨HkCe.out, ((HF.out _ _ _ _ _).2.2 _ _ _ HMk.out).rd, HkC.out⟩, ((HF.out _ _ _ _ _).2.2 _ _ _ HFr.out).rd, HGr.out⟩, HB8⟩
    · go_simp
      refine hK.out _ _ (s8.out _ ((s9.out _ hS0).alloc (s9.out _ hS0).size _)) (fun hS47 => ?_)
      clear hK K
      have hb49 : Below V0.heap.size V0 (V0.alloc (.cells #[.slice none 0 0, .slice none 0 0, .slice none 0 0, .int .i64 0, .slice none 0 0] 279)) := (Below.refl _ _).alloc (Nat.le_refl _) _
      have HQ := hide (heap_new V0 (.cells #[.slice none 0 0, .slice none 0 0, .slice none 0 0, .int .i64 0, .slice none 0 0] 279))
      have HQg : Hid (W0.heap.size ≤ V0.heap.size) := hide (s9.out _ hS0).size
      obtain ⟨V48, hV48⟩ : ∃ V48, V0.alloc (.cells #[.slice none 0 0, .slice none 0 0, .slice none 0 0, .int .i64 0, .slice none 0 0] 279) = V48 := ⟨_, rfl⟩
      obtain ⟨q, hq⟩ : ∃ q, V0.heap.size = q := ⟨_, rfl⟩
      rw [hV48] at HQ hS47
      rw [hq] at HQ HQg
      rw [hV48, hq]
      clear hq hb49
      clear hV48
      refine wpAnyH_ready (rs := [5]) (by kernel_rfl) (by simp) ?_
      refine AllReadyH.cons rfl (fun K hK => ?_) AllReadyH.nil
      go_simp
      refine (K32.out _ (s9.out _ hS47)).mono ?_
      rintro e V51 ⟨⟨vD, rfl, ho3⟩, hb52⟩
      refine hK.out _ _ (s8.out _ ((s9.out _ hS47).trans (hb52.mono (s9.out _ hS47).size))) (fun hS50 => ?_)
      clear hK K
      obtain ⟨aD, cD, rfl⟩ := ho3.rd.form
      obtain ⟨nD, hnD⟩ : ∃ nD, sh.length = nD := ⟨_, rfl⟩
      rw [hnD] at ho3
      rw [hnD]
      have Hnd := hide hnD
      clear hnD
      have HQ := hide ((hb52.block _ (heap_lt HQ.out)).trans HQ.out)
      have HRd : Hid (intE.Rd V51 (.slice aD nD cD) sh) := hide ho3.rd
      clear ho3
      refine wpAnyH_ready (rs := [6]) (by kernel_rfl) (by simp) ?_
      refine AllReadyH.cons rfl (fun K hK => ?_) AllReadyH.nil
      go_simp
      refine hK.out _ _ (s8.out _ ((s9.out _ hS50).alloc (s9.out _ hS50).size _)) (fun hS53 => ?_)
      clear hK K
      have hb55 : Below V51.heap.size V51 (V51.alloc (.cells #[.slice aM k0 cM, .slice aD nD cD] 40)) := (Below.refl _ _).alloc (Nat.le_refl _) _
      have HQ := hide ((hb55.block _ (heap_lt HQ.out)).trans HQ.out)
      have HRd := hide (HRd.out.keep hb55)
      have HRr := hide (heap_new V51 (.cells #[.slice aM k0 cM, .slice aD nD cD] 40))
      have HRrg : Hid (W0.heap.size ≤ V51.heap.size) := hide (s9.out _ hS50).size
      obtain ⟨V54, hV54⟩ : ∃ V54, V51.alloc (.cells #[.slice aM k0 cM, .slice aD nD cD] 40) = V54 := ⟨_, rfl⟩
      obtain ⟨r, hr⟩ : ∃ r, V51.heap.size = r := ⟨_, rfl⟩
      rw [hV54] at HRr hS53 HQ HRd
      rw [hr] at HRr HRrg
      rw [hV54, hr]
      clear hr hb55
      clear hV54
      refine wpAnyH_ready (rs := [7]) (by kernel_rfl) (by simp) ?_
      refine AllReadyH.cons rfl (fun K hK => ?_) AllReadyH.nil
      go_simp
      refine (K31.out _ r aD nD cD (s9.out _ hS53) (cells_at HRr.out 0).1 (cells_at HRr.out 1).1 Hnd.out HRd.out).mono ?_
      rintro e V57 ⟨⟨aC, cC, rfl, hm5⟩, hb58⟩
      refine hK.out _ _ (s8.out _ ((s9.out _ hS53).trans (hb58.mono (s9.out _ hS53).size))) (fun hS56 => ?_)
      clear hK K
      clear HRr HRd
      have HQ := hide ((hb58.block _ (heap_lt HQ.out)).trans HQ.out)
      have HMk := hide hm5
      clear hm5
      refine wpAnyH_ready (rs := [9]) (by kernel_rfl) (by simp) ?_
      refine AllReadyH.cons rfl (fun K hK => ?_) AllReadyH.nil
      go_simp
      refine (K29.out _ aC cC (s9.out _ hS56) HMk.out.rd).mono ?_
      rintro e V60 ⟨⟨g, l, rfl, hW6, hg6⟩, hb61⟩
      refine hK.out _ _ (s8.out _ ((s9.out _ hS56).trans (hb61.mono (s9.out _ hS56).size))) (fun hS59 => ?_)
      clear hK K
      have HGr := hide hg6
      clear hg6
      have HQ := hide ((hb61.block _ (heap_lt HQ.out)).trans HQ.out)
      have HMk := hide (HMk.out.keep hb61)
      have HFr := hide hW6
      clear hW6
      obtain ⟨y0, f0⟩ := cells_at HQ.out 0
      obtain ⟨y1, f1⟩ := cells_at HQ.out 1
      obtain ⟨y2, f2⟩ := cells_at HQ.out 2
      obtain ⟨y3, f3⟩ := cells_at HQ.out 3
      obtain ⟨y4, f4⟩ := cells_at HQ.out 4
      simp at y0 y1 y2 y3 y4
      have HF := hide (box_put HQ.out HQg.out (s9.out _ hS59))
      refine wpAnyH_ready (rs := [11]) (by kernel_rfl) (by simp) ?_
      refine AllReadyH.cons rfl (fun K hK => ?_) AllReadyH.nil
      go_simp
      refine hK.out _ _ (s8.out _ (HF.out _ _ _ _ _).1) (fun hS62 => ?_)
      clear hK K
      refine wpAnyH_done (by kernel_rfl) ?_ _
      have HB8 : Hid (Below W0.heap.size W0 _) := hide (s9.out _ hS62)
      go_wp2_with fail
      go_meet
      exact ⟨_, aC, cC, g, l, rfl, hide (HF.out _ _ _ _ _).2.1, hide ⟨(HLW.out _ HB8.out).1, ⟨HkCe.out, ((HF.out _ _ _ _ _).2.2 _ _ _ HMk.out).rd, HkC.out⟩, ((HF.out _ _ _ _ _).2.2 _ _ _ HFr.out).rd, HGr.out⟩, HB8⟩
  case rest =>
  obtain ⟨q, aC, cC, g, l, rfl, HQ, HW8, HB8⟩ := hcut
  rename_i W8
  have Hg : Hid (va l u = -1 ∨ ∃ k : Nat, va l u = (k : Int)) := hide (by
    have := HW8.out.gr.low u
    rcases Int.lt_or_le (va l u) 0 with h | h
    · exact .inl (by omega)
    · exact .inr (Int.eq_ofNat_of_zero_le h))
  have Hgr := hide HW8.out.gr
  have Hsz : Hid (w.heap.size ≤ wc.heap.size) := hide (Nat.le_trans HA.out.size HB8.out.size)
  obtain ⟨y0, y1, y2, y3, y4⟩ := box5W HQ.out (Below.refl _ _)
  have y5 := HW8.out.at u Hun.out
  rcases Hg.out with h1 | ⟨k, h1⟩
  · rw [h1] at y5
    go_wp2_with fail
    refine bodyPost_ret (v := .tuple #[.slice none 0 0, .int .i64 80]) (by simp [results, Tryz.results181, go_sem]) rfl ⟨⟨l, Hgr.out, .inl ⟨h1, rfl⟩⟩, HA.out.trans (HB8.out.mono HA.out.size)⟩
  · rw [h1] at y5
    have h2 : ¬ ((k : Int) < 0) := by omega
    have H1 := hide h1
    clear h1
    go_wp2_with (go_at_call 218; refine (K33.out _ aC cC g l k HW8.out H1.out).mono ?_; rintro e W9 ⟨⟨v, rfl, ho9⟩, hb9⟩; have HO9 := hide (ho9.mono Hsz.out); have HB9 : Hid (Below W0.heap.size W0 W9) := hide (HB8.out.trans (hb9.mono HB8.out.size)); clear ho9 hb9)
    refine bodyPost_ret (v := .tuple #[v, .int .i64 0]) (by simp [results, Tryz.results181, go_sem]) rfl ⟨⟨l, Hgr.out, .inr ⟨k, v, H1.out, rfl, HO9.out⟩⟩, HA.out.trans (HB9.out.mono HA.out.size)⟩
end Go.Proofs.YtocmngpoemfpkabGreatDoor

namespace Go.Proofs.YtocmngpoemfpkabGreatDoor
open Go.RowKit
theorem pick_perm {α : Type} : ∀ (l : List α) (i : Nat) (x : α), l[i]? = some x → l.Perm (x :: l.eraseIdx i)
  | [], i, x, h => by simp at h
  | y :: l, 0, x, h => by simp at h; subst h; exact List.Perm.refl _
  | y :: l, i + 1, x, h => by
    have := pick_perm l i x (by simpa using h)
    exact (this.cons y).trans (.swap x y _)
theorem Its.pick {w0 w : World} {l : List It} (h : Its w0 l w) (i : Nat) {x : It} (hx : l[i]? = some x) : Its w0 (x :: l.eraseIdx i) w := by
  exact h.perm (pick_perm l i x hx)
theorem Its.back {w0 w : World} {l : List It} (i : Nat) {x : It} (hi : i < l.length) (h : Its w0 (x :: l.eraseIdx i) w) : Its w0 (l.set i x) w := by
  refine h.perm ?_
  have := pick_perm (l.set i x) i x (by rw [List.getElem?_set, if_pos rfl, if_pos hi])
  rw [List.eraseIdx_set_eq] at this
  exact this.symm
def JRd (w : World) (v : Value) (xs : List Int) : Prop := (v = .slice none 0 0 ∧ xs = []) ∨ ∃ (g o c : Nat) (L : Array Value), v = .slice (some ⟨g, o, none⟩) xs.length c ∧ w.heap[g]? = some (.cells L 3) ∧ xs.length ≤ c ∧ ∀ (i : Nat) (x : Int), xs[i]? = some x → L[o + i]? = some (.int .i64 x)
theorem JRd.nil (w : World) : JRd w (.slice none 0 0) [] := .inl ⟨rfl, rfl⟩
theorem JRd.lt {w : World} {v : Value} {xs : List Int} (h : JRd w v xs) (k : Nat) (hk : v.ownBlock = some k) : k < w.heap.size := by
  rcases h with ⟨rfl, _⟩ | ⟨g, o, c, L, rfl, hg, _⟩
  · cases hk
  · cases hk; exact heap_lt hg
theorem JRd.st {w w' : World} {v : Value} {xs : List Int} (h : JRd w v xs) (hs : ∀ k, v.ownBlock = some k → w'.heap[k]? = w.heap[k]?) : JRd w' v xs := by
  rcases h with h | ⟨g, o, c, L, rfl, hg, h1, h2⟩
  · exact .inl h
  · exact .inr ⟨g, o, c, L, rfl, by rw [hs g rfl]; exact hg, h1, h2⟩
theorem JRd.form {w : World} {v : Value} {xs : List Int} (h : JRd w v xs) : ∃ a c, v = .slice a xs.length c ∧ xs.length ≤ c := by
  rcases h with ⟨rfl, rfl⟩ | ⟨g, o, c, L, rfl, _, h1, _⟩
  · exact ⟨none, 0, rfl, Nat.le_refl _⟩
  · exact ⟨_, c, rfl, h1⟩
theorem JRd.rd {w : World} {v : Value} {xs : List Int} (h : JRd w v xs) : intE.Rd w v xs := by
  rcases h with h | ⟨g, o, c, L, rfl, hg, h1, h2⟩
  · exact .inl h
  · refine .inr ⟨⟨g, o, none⟩, c, rfl, fun n hn => ?_⟩
    have hn' : n < xs.length := by have : xs.length * 1 = xs.length := Nat.mul_one _; change n < xs.length * 1 at hn; omega
    rw [addr_plain, (cells_at hg (o + n)).1, fl_map intE (Value.int .i64) (fun _ => rfl), List.getElem?_map, List.getElem?_eq_getElem hn']
    exact h2 n _ (List.getElem?_eq_getElem hn')
theorem JRd.of_own {w : World} {B : Nat} {v : Value} {xs : List Int} (h : intE.Own w B v xs) : JRd w v xs := by
  have hr := h.rd
  rcases h.2 with ⟨h1, h2⟩ | ⟨g, cap, cur, h1, _, hg, hn, _, _, ht⟩
  · exact .inl ⟨h1, List.eq_nil_of_length_eq_zero h2⟩
  · refine .inr ⟨g, 0, cap, cur, h1, hg, hn, fun i x hx => ?_⟩
    have hi := idx_lt hx
    have hfl : intE.fl xs = xs.map (Value.int .i64) := fl_map intE (Value.int .i64) (fun _ => rfl) xs
    rw [hfl] at ht
    have ht' : (cur.toList.take (xs.length * 1))[i]? = some (.int .i64 x) := by
      show (cur.toList.take (xs.length * intE.k))[i]? = _
      rw [ht, List.getElem?_map, hx]; rfl
    rw [List.getElem?_take_of_lt (by omega), Array.getElem?_toList] at ht'
    rw [Nat.zero_add]; exact ht'
def It.jobs (vJ : Nat → Value) (J : Int → List Int) : It where
  P w := ∀ t : Nat, t < 31 → JRd w (vJ t) (J (t : Int))
  f k := ∃ t : Nat, t < 31 ∧ (vJ t).ownBlock = some k
  lt h k hk := by
    obtain ⟨t, ht, q⟩ := hk
    exact (h t ht).lt k q
  st h hs t ht := (h t ht).st fun k hk => hs k ⟨t, ht, hk⟩
structure Kp where
  la : Option Addr
  lc : Nat
  lb : Option Addr
  le : Nat
  gt : Nat
  Ht : Bool → Value
  gm : Nat
  Hm : Nat × Nat
  gb : Nat
  Hk : Hb
  kg : Nat
  vJ : Nat → Value
  S : Mr
  K : Bk
def ccells (P : Kp) (n m : Nat) (pause : Int) (dead : Bool) : Array Value := #[.slice P.la n P.lc, .slice P.lb m P.le, .int .i64 pause, .pointer (some ⟨P.gt, 0, none⟩), .pointer (some ⟨P.gm, 0, none⟩), .pointer (some ⟨P.gb, 0, none⟩), P.vJ 0, P.vJ 1, P.vJ 2, P.vJ 3, P.vJ 4, P.vJ 5, P.vJ 6, P.vJ 7, P.vJ 8, P.vJ 9, P.vJ 10, P.vJ 11, P.vJ 12, P.vJ 13, P.vJ 14, P.vJ 15, P.vJ 16, P.vJ 17, P.vJ 18, P.vJ 19, P.vJ 20, P.vJ 21, P.vJ 22, P.vJ 23, P.vJ 24, P.vJ 25, P.vJ 26, P.vJ 27, P.vJ 28, P.vJ 29, P.vJ 30, .slice (some ⟨P.kg, 0, none⟩) (m + 1) (m + 1), .bool dead]
structure KF (E : Ev) (n m : Nat) (P : Kp) (c : Ct) : Prop where
  gd : good E.ns E.es = true
  hn : E.ns.length = n
  hm : E.es.length = m
  hs : ∀ p ∈ E.ns, p.name.size ≤ maxLen
  gq : P.gt = E.gt
  pa : 1 ≤ E.pause ∧ E.pause ≤ 1000
  tk : c.tk.length = m + 1
  jo : ∀ t : Int, t < 1 ∨ 30 < t → c.J t = []
  jd : ∀ t : Int, ∀ d ∈ c.J t, 1 ≤ d ∧ d ≤ (m : Int)
def kparts (B g : Nat) (E : Ev) (n m : Nat) (P : Kp) (c : Ct) : List It := [.box g (ccells P n m E.pause c.dead) 90, .row ndE B (.slice P.la n P.lc) E.ns, .row edE B (.slice P.lb m P.le) E.es, .ints B (.slice (some ⟨P.kg, 0, none⟩) (m + 1) (m + 1)) c.tk, .jobs P.vJ c.J, .tape B P.gt P.Ht c.T, .mir B P.gm P.Hm n m E.es P.S, .book B P.gb P.Hk P.K]
def It.ctl (B g : Nat) (E : Ev) (n m : Nat) (P : Kp) (c : Ct) : It := .grp (.fact (KF E n m P c) :: kparts B g E n m P c)
def Liv (P : Kp) (c : Ct) : Prop := c.dead = false → P.S = c.S ∧ P.K = c.K
section
variable {w0 w : World} {l : List It} {B g n m : Nat} {E : Ev} {P : Kp} {c : Ct}
theorem kt_f (h : (It.ctl B g E n m P c).P w) : KF E n m P c := h.1 (.fact (KF E n m P c)) (by simp [kparts])
theorem kt_box (h : (It.ctl B g E n m P c).P w) : w.heap[g]? = some (.cells (ccells P n m E.pause c.dead) 90) := h.1 (.box g (ccells P n m E.pause c.dead) 90) (by simp [kparts])
theorem kt_ns (h : (It.ctl B g E n m P c).P w) : ndE.Own w B (.slice P.la n P.lc) E.ns := h.1 (.row ndE B (.slice P.la n P.lc) E.ns) (by simp [kparts])
theorem kt_es (h : (It.ctl B g E n m P c).P w) : edE.Own w B (.slice P.lb m P.le) E.es := h.1 (.row edE B (.slice P.lb m P.le) E.es) (by simp [kparts])
theorem kt_tk (h : (It.ctl B g E n m P c).P w) : intE.Own w B (.slice (some ⟨P.kg, 0, none⟩) (m + 1) (m + 1)) c.tk := h.1 (.ints B (.slice (some ⟨P.kg, 0, none⟩) (m + 1) (m + 1)) c.tk) (by simp [kparts])
theorem kt_j (h : (It.ctl B g E n m P c).P w) (t : Nat) (ht : t < 31) : JRd w (P.vJ t) (c.J t) := h.1 (.jobs P.vJ c.J) (by simp [kparts]) t ht
theorem kt_t (h : (It.ctl B g E n m P c).P w) : (It.tape B P.gt P.Ht c.T).P w := h.1 (.tape B P.gt P.Ht c.T) (by simp [kparts])
theorem kt_m (h : (It.ctl B g E n m P c).P w) : (It.mir B P.gm P.Hm n m E.es P.S).P w := h.1 (.mir B P.gm P.Hm n m E.es P.S) (by simp [kparts])
theorem kt_b (h : (It.ctl B g E n m P c).P w) : (It.book B P.gb P.Hk P.K).P w := h.1 (.book B P.gb P.Hk P.K) (by simp [kparts])
theorem kt_c (h : (It.ctl B g E n m P c).P w) : w.cell? ⟨g, 0, none⟩ = some (.slice P.la n P.lc) ∧ w.cell? ⟨g, 1, none⟩ = some (.slice P.lb m P.le) ∧ w.cell? ⟨g, 2, none⟩ = some (.int .i64 E.pause) ∧ w.cell? ⟨g, 3, none⟩ = some (.pointer (some ⟨P.gt, 0, none⟩)) ∧ w.cell? ⟨g, 4, none⟩ = some (.pointer (some ⟨P.gm, 0, none⟩)) ∧ w.cell? ⟨g, 5, none⟩ = some (.pointer (some ⟨P.gb, 0, none⟩)) ∧ w.cell? ⟨g, 37, none⟩ = some (.slice (some ⟨P.kg, 0, none⟩) (m + 1) (m + 1)) ∧ w.cell? ⟨g, 38, none⟩ = some (.bool c.dead) :=
  ⟨(cells_at (kt_box h) 0).1, (cells_at (kt_box h) 1).1, (cells_at (kt_box h) 2).1, (cells_at (kt_box h) 3).1, (cells_at (kt_box h) 4).1, (cells_at (kt_box h) 5).1, (cells_at (kt_box h) 37).1, (cells_at (kt_box h) 38).1⟩
theorem kt_z (h : (It.ctl B g E n m P c).P w) (i : Nat) : w.frozen? ⟨g, i, none⟩ = false := (cells_at (kt_box h) i).2
theorem ccells_j (P : Kp) (n m : Nat) (pause : Int) (dead : Bool) (t : Nat) (ht : t < 31) : (ccells P n m pause dead)[6 + t]? = some (P.vJ t) := by
  rcases t with _ | t
  · rfl
  rcases t with _ | t
  · rfl
  rcases t with _ | t
  · rfl
  rcases t with _ | t
  · rfl
  rcases t with _ | t
  · rfl
  rcases t with _ | t
  · rfl
  rcases t with _ | t
  · rfl
  rcases t with _ | t
  · rfl
  rcases t with _ | t
  · rfl
  rcases t with _ | t
  · rfl
  rcases t with _ | t
  · rfl
  rcases t with _ | t
  · rfl
  rcases t with _ | t
  · rfl
  rcases t with _ | t
  · rfl
  rcases t with _ | t
  · rfl
  rcases t with _ | t
  · rfl
  rcases t with _ | t
  · rfl
  rcases t with _ | t
  · rfl
  rcases t with _ | t
  · rfl
  rcases t with _ | t
  · rfl
  rcases t with _ | t
  · rfl
  rcases t with _ | t
  · rfl
  rcases t with _ | t
  · rfl
  rcases t with _ | t
  · rfl
  rcases t with _ | t
  · rfl
  rcases t with _ | t
  · rfl
  rcases t with _ | t
  · rfl
  rcases t with _ | t
  · rfl
  rcases t with _ | t
  · rfl
  rcases t with _ | t
  · rfl
  rcases t with _ | t
  · rfl
  · omega
theorem kt_vj (h : (It.ctl B g E n m P c).P w) (t : Nat) (ht : t < 31) : w.cell? ⟨g, 6 + t, none⟩ = some (P.vJ t) := by
  rw [(cells_at (kt_box h) _).1]; exact ccells_j P n m _ _ t ht
theorem Its.kopen (h : Its w0 (.ctl B g E n m P c :: l) w) : Its w0 (kparts B g E n m P c ++ l) w ∧ KF E n m P c := ⟨h.opn.tail, kt_f h.one⟩
theorem Its.kshut (h : Its w0 (kparts B g E n m P c ++ l) w) (hl : KF E n m P c) : Its w0 (.ctl B g E n m P c :: l) w :=
  Its.shut (a := .fact (KF E n m P c) :: kparts B g E n m P c) (h.new (x := .fact (KF E n m P c)) hl (fun k hk => hk.elim) (Below.refl _ _))
theorem nd_cap {α : Type} {E : El Tryz.prog α} {w : World} {B : Nat} {a : Option Addr} {n c : Nat} {xs : List α} (h : E.Own w B (.slice a n c) xs) : xs.length ≤ c := by
  rcases h.2 with ⟨h1, h2⟩ | ⟨g, cap, cur, h1, _, _, h4, _⟩
  · omega
  · simp only [Value.slice.injEq] at h1
    obtain ⟨_, _, rfl⟩ := h1
    exact h4
theorem kt_l (h : (It.ctl B g E n m P c).P w) : Lyt w P.la P.lb P.lc P.le n m E.ns E.es := by
  have f := kt_f h
  exact ⟨f.hn, f.hm, (kt_ns h).rd, (kt_es h).rd, by have := nd_cap (kt_es h); rw [f.hm] at this; exact this, f.hs⟩
theorem kt_ly (h : (It.ctl B g E n m P c).P w) : Ly w P.la P.lb P.lc P.le n m E.ns E.es := by
  have f := kt_f h
  have hg := good_he f.gd
  rw [f.hn, f.hm] at hg
  exact ⟨f.hn, f.hm, (kt_ns h).rd, (kt_es h).rd, by omega, by omega, fun e he => ⟨(hg.2.2 e he).1.1, (hg.2.2 e he).1.2, (hg.2.2 e he).2.1.1, (hg.2.2 e he).2.1.2⟩⟩
end
end Go.Proofs.YtocmngpoemfpkabGreatDoor

namespace Go.Proofs
open Go.Shelf
def Tryz.laysM316_ren : Go.Shelf.Ren := ⟨fun | 316 => 144 | n => n, fun | 9 => 9 | 3 => 3 | 4 => 4 | 37 => 54 | 0 => 0 | 127 => 265 | 5 => 5 | n => n, fun | n => n⟩
theorem Tryz.laysM316 : Go.Proofs.LaysM.n316 Tryz.prog Tryz.laysM316_ren := {
  mixed := by kernel_rfl
  f316 := Tryz.func144.trans (congrArg some (by kernel_rfl))
  t0 := Tryz.underlying0
  a0 := Tryz.isAgg0
  z0 := Tryz.sizeOf0
  v0 := Tryz.zeroValue0
  t3 := Tryz.underlying3
  a3 := Tryz.isAgg3
  z3 := Tryz.sizeOf3
  v3 := Tryz.zeroValue3
  t4 := Tryz.underlying4
  a4 := Tryz.isAgg4
  z4 := Tryz.sizeOf4
  v4 := Tryz.zeroValue4
  t9 := Tryz.underlying9
  a9 := Tryz.isAgg9
  z9 := Tryz.sizeOf9
  v9 := Tryz.zeroValue9
  t37 := Tryz.underlying54
  a37 := Tryz.isAgg54
  z37 := Tryz.sizeOf54
  v37 := Tryz.zeroValue54
  t127 := Tryz.underlying265
  a127 := Tryz.isAgg265
  z127 := Tryz.sizeOf265
  v127 := Tryz.zeroValue265
  t5 := Tryz.underlying5
  a5 := Tryz.isAgg5
  z5 := Tryz.sizeOf5
  v5 := Tryz.zeroValue5
  i0 := by kernel_rfl
  i3 := by kernel_rfl
  i4 := by kernel_rfl
  i5 := by kernel_rfl
  i9 := by kernel_rfl
  i37 := by kernel_rfl
  i127 := by kernel_rfl }
open Go.RowKit in
theorem Tryz.stringslite_Clone (s : ByteArray) (w : World) (hlim : s.size ≤ 281474976710656) :
    Calls Tryz.prog 144 #[.string s] w fun e w' => e = .returned (.string s) ∧ Below w.heap.size w w' := Any.stringslite_Clone Tryz.laysM316 s w hlim
def Tryz.lays99_ren : Go.Shelf.Ren := ⟨fun | 99 => 134 | 206 => 188 | n => n, fun | 9 => 9 | 4 => 4 | 3 => 3 | n => n, fun | n => n⟩
theorem Tryz.lays99 : Go.Proofs.Lays.n99 Tryz.prog Tryz.lays99_ren := {
  mixed := by kernel_rfl
  f99 := Tryz.func134.trans (congrArg some (by kernel_rfl))
  f206 := Tryz.func188.trans (congrArg some (by kernel_rfl))
  t3 := Tryz.underlying3
  a3 := Tryz.isAgg3
  z3 := Tryz.sizeOf3
  v3 := Tryz.zeroValue3
  t4 := Tryz.underlying4
  a4 := Tryz.isAgg4
  z4 := Tryz.sizeOf4
  v4 := Tryz.zeroValue4
  t9 := Tryz.underlying9
  a9 := Tryz.isAgg9
  z9 := Tryz.sizeOf9
  v9 := Tryz.zeroValue9 }
open Go.RowKit Go.Lib in
theorem Tryz.strings_HasPrefix (s p : ByteArray) (w : World) :
    Calls Tryz.prog 134 #[.string s, .string p] w fun e w' => e = .returned (.bool (Lib.hasPrefix s.data.toList p.data.toList)) ∧ w' = w := Any.strings_HasPrefix Tryz.lays99 s p w
def Tryz.lays146_ren : Go.Shelf.Ren := ⟨fun | 146 => 59 | 221 => 133 | 268 => 185 | 138 => 186 | 143 => 187 | 195 => 222 | 197 => 223 | 218 => 224 | 219 => 225 | 260 => 242 | 217 => 243 | 225 => 244 | 224 => 245 | 267 => 246 | 266 => 253 | 314 => 254 | n => n, fun | 9 => 9 | 31 => 128 | 3 => 3 | 4 => 4 | 0 => 0 | 105 => 286 | 21 => 21 | 5 => 5 | 46 => 64 | 119 => 304 | 139 => 307 | 138 => 306 | 146 => 309 | 51 => 308 | n => n, fun | 1 => 1 | 3 => 2 | 4 => 3 | n => n⟩
theorem Tryz.lays146 : Go.Proofs.Lays.n146 Tryz.prog Tryz.lays146_ren := {
  mixed := by kernel_rfl
  f138 := Tryz.func186.trans (congrArg some (by kernel_rfl))
  f143 := Tryz.func187.trans (congrArg some (by kernel_rfl))
  f146 := Tryz.func59.trans (congrArg some (by kernel_rfl))
  f195 := Tryz.func222.trans (congrArg some (by kernel_rfl))
  f197 := Tryz.func223.trans (congrArg some (by kernel_rfl))
  f217 := Tryz.func243.trans (congrArg some (by kernel_rfl))
  f218 := Tryz.func224.trans (congrArg some (by kernel_rfl))
  f219 := Tryz.func225.trans (congrArg some (by kernel_rfl))
  f221 := Tryz.func133.trans (congrArg some (by kernel_rfl))
  f224 := Tryz.func245.trans (congrArg some (by kernel_rfl))
  f225 := Tryz.func244.trans (congrArg some (by kernel_rfl))
  f260 := Tryz.func242.trans (congrArg some (by kernel_rfl))
  f266 := Tryz.func253.trans (congrArg some (by kernel_rfl))
  f267 := Tryz.func246.trans (congrArg some (by kernel_rfl))
  f268 := Tryz.func185.trans (congrArg some (by kernel_rfl))
  f314 := Tryz.func254.trans (congrArg some (by kernel_rfl))
  t0 := Tryz.underlying0
  a0 := Tryz.isAgg0
  z0 := Tryz.sizeOf0
  v0 := Tryz.zeroValue0
  t3 := Tryz.underlying3
  a3 := Tryz.isAgg3
  z3 := Tryz.sizeOf3
  v3 := Tryz.zeroValue3
  t4 := Tryz.underlying4
  a4 := Tryz.isAgg4
  z4 := Tryz.sizeOf4
  v4 := Tryz.zeroValue4
  t5 := Tryz.underlying5
  a5 := Tryz.isAgg5
  z5 := Tryz.sizeOf5
  v5 := Tryz.zeroValue5
  t9 := Tryz.underlying9
  a9 := Tryz.isAgg9
  z9 := Tryz.sizeOf9
  v9 := Tryz.zeroValue9
  t21 := Tryz.underlying21
  a21 := Tryz.isAgg21
  z21 := Tryz.sizeOf21
  v21 := Tryz.zeroValue21
  t31 := Tryz.underlying128
  a31 := Tryz.isAgg128
  z31 := Tryz.sizeOf128
  v31 := Tryz.zeroValue128
  t46 := Tryz.underlying64
  a46 := Tryz.isAgg64
  z46 := Tryz.sizeOf64
  v46 := Tryz.zeroValue64
  t51 := Tryz.underlying308
  a51 := Tryz.isAgg308
  z51 := Tryz.sizeOf308
  v51 := Tryz.zeroValue308
  t105 := Tryz.underlying286
  a105 := Tryz.isAgg286
  z105 := Tryz.sizeOf286
  v105 := Tryz.zeroValue286
  t119 := Tryz.underlying304
  a119 := Tryz.isAgg304
  z119 := Tryz.sizeOf304
  t138 := Tryz.underlying306
  a138 := Tryz.isAgg306
  z138 := Tryz.sizeOf306
  v138 := Tryz.zeroValue306
  t139 := Tryz.underlying307
  a139 := Tryz.isAgg307
  z139 := Tryz.sizeOf307
  v139 := Tryz.zeroValue307
  t146 := Tryz.underlying309
  a146 := Tryz.isAgg309
  z146 := Tryz.sizeOf309
  v146 := Tryz.zeroValue309
  g1 := by kernel_rfl
  g3 := by kernel_rfl
  g4 := by kernel_rfl }
open Go.RowKit Go.Lib in
theorem Tryz.strings_Split (s sep : ByteArray) (m : Int) (w : World) (hs : s.size < 4294967281) (hm : w.cell? ⟨1, 0, none⟩ = some (.int .i64 m)) (h1 : 1 ≤ sep.size) :
    Calls Tryz.prog 59 #[.string s, .string sep] w fun e w' =>
      e = .returned (.slice (some ⟨w.heap.size, 0, none⟩) (Lib.countB s sep + 1) (Lib.countB s sep + 1)) ∧ w' = w.alloc (.cells ((Lib.splitB sep 0 (Lib.countB s sep) s).map Value.string).toArray 9) := Any.strings_Split Tryz.lays146 (by kernel_rfl) s sep m w hs hm h1
def Tryz.lays197_ren : Go.Shelf.Ren := ⟨fun | 197 => 223 | 260 => 242 | n => n, fun | 9 => 9 | 21 => 21 | 3 => 3 | 4 => 4 | 5 => 5 | 105 => 286 | 119 => 304 | 0 => 0 | 46 => 64 | 139 => 307 | 138 => 306 | n => n, fun | 3 => 2 | 4 => 3 | n => n⟩
theorem Tryz.lays197 : Go.Proofs.Lays.n197 Tryz.prog Tryz.lays197_ren := {
  mixed := by kernel_rfl
  f197 := Tryz.func223.trans (congrArg some (by kernel_rfl))
  f260 := Tryz.func242.trans (congrArg some (by kernel_rfl))
  t0 := Tryz.underlying0
  a0 := Tryz.isAgg0
  z0 := Tryz.sizeOf0
  v0 := Tryz.zeroValue0
  t3 := Tryz.underlying3
  a3 := Tryz.isAgg3
  z3 := Tryz.sizeOf3
  v3 := Tryz.zeroValue3
  t4 := Tryz.underlying4
  a4 := Tryz.isAgg4
  z4 := Tryz.sizeOf4
  v4 := Tryz.zeroValue4
  t5 := Tryz.underlying5
  a5 := Tryz.isAgg5
  z5 := Tryz.sizeOf5
  v5 := Tryz.zeroValue5
  t9 := Tryz.underlying9
  a9 := Tryz.isAgg9
  z9 := Tryz.sizeOf9
  v9 := Tryz.zeroValue9
  t21 := Tryz.underlying21
  a21 := Tryz.isAgg21
  z21 := Tryz.sizeOf21
  v21 := Tryz.zeroValue21
  t46 := Tryz.underlying64
  a46 := Tryz.isAgg64
  z46 := Tryz.sizeOf64
  v46 := Tryz.zeroValue64
  t105 := Tryz.underlying286
  a105 := Tryz.isAgg286
  z105 := Tryz.sizeOf286
  v105 := Tryz.zeroValue286
  t119 := Tryz.underlying304
  a119 := Tryz.isAgg304
  z119 := Tryz.sizeOf304
  t138 := Tryz.underlying306
  a138 := Tryz.isAgg306
  z138 := Tryz.sizeOf306
  v138 := Tryz.zeroValue306
  t139 := Tryz.underlying307
  a139 := Tryz.isAgg307
  z139 := Tryz.sizeOf307
  v139 := Tryz.zeroValue307
  g3 := by kernel_rfl
  g4 := by kernel_rfl }
open Go.RowKit Go.Lib in
theorem Tryz.utf8_DecodeRuneInString (s : ByteArray) (w : World) (hT : Lib.Utf8Tabs 2 3 w) :
    Calls Tryz.prog 223 #[.string s] w fun e w' => e = .returned (.tuple #[.int .i32 (Lib.decodeGo s).1, .int .i64 (Lib.decodeGo s).2]) ∧ Below w.heap.size w w' := Any.utf8_DecodeRuneInString Tryz.lays197 s w hT
end Go.Proofs

namespace Go.Proofs.YtocmngpoemfpkabGreatDoor
open Go.RowKit
def strU (l : List UInt8) : ByteArray := ⟨l.toArray⟩
theorem strU_of (s : ByteArray) : strU s.data.toList = s := by cases s; simp [strU]
theorem strU_size (l : List UInt8) : (strU l).size = l.length := by simp [strU, ByteArray.size]
def cutL (c : UInt8) : List UInt8 → List (List UInt8)
  | [] => [[]]
  | x :: l => if x == c then [] :: cutL c l else match cutL c l with
    | h :: t => (x :: h) :: t
    | [] => [[x]]
theorem cutL_ne (c : UInt8) (l : List UInt8) : cutL c l ≠ [] := by
  cases l with
  | nil => simp [cutL]
  | cons x l =>
    unfold cutL
    split
    · simp
    · split <;> simp
theorem cutL_miss (c : UInt8) : ∀ l : List UInt8, Lib.indexByte l c = -1 → cutL c l = [l]
  | [], _ => rfl
  | x :: l, h => by
    unfold Lib.indexByte at h
    unfold cutL
    by_cases e : (x == c) = true
    · rw [if_pos e] at h; cases h
    · rw [if_neg e] at h ⊢
      have h2 : Lib.indexByte l c = -1 := by
        by_cases e2 : (Lib.indexByte l c == -1) = true
        · exact beq_iff_eq.1 e2
        · rw [if_neg e2] at h
          have := Lib.indexByte_ge l c
          omega
      rw [cutL_miss c l h2]
theorem cutL_hit (c : UInt8) : ∀ (l : List UInt8) (i : Nat), Lib.indexByte l c = i → cutL c l = l.take i :: cutL c (l.drop (i + 1))
  | [], i, h => by unfold Lib.indexByte at h; omega
  | x :: l, i, h => by
    unfold Lib.indexByte at h
    by_cases e : (x == c) = true
    · rw [if_pos e] at h
      obtain rfl : i = 0 := by omega
      rw [cutL, if_pos e]; rfl
    · rw [if_neg e] at h
      by_cases e2 : (Lib.indexByte l c == -1) = true
      · rw [if_pos e2] at h; omega
      · rw [if_neg e2] at h
        obtain ⟨j, rfl⟩ : ∃ j, i = j + 1 := ⟨i - 1, by
          have := Lib.indexByte_ge l c
          have : Lib.indexByte l c ≠ -1 := fun e3 => e2 (beq_iff_eq.2 e3)
          omega⟩
        have ih := cutL_hit c l j (by omega)
        rw [cutL, if_neg e, ih]
        rfl
theorem cut_all (c : UInt8) : ∀ (k : Nat) (s : ByteArray), Lib.countB s (strU [c]) = k → Lib.splitB (strU [c]) 0 k s = (cutL c s.data.toList).map strU := by
  have ix : ∀ s : ByteArray, Lib.indexB s (strU [c]) = Lib.indexByte s.data.toList c := fun s => Lib.index_one _ _
  intro k
  induction k with
  | zero =>
    intro s hk
    rcases Lib.indexB_cases s (strU [c]) with hix | ⟨i, hix, _⟩
    · rw [Lib.splitB_zero, cutL_miss c _ (by rw [← ix]; exact hix)]
      simp [strU_of]
    · have := Lib.countB_hit s (strU [c]) i (by simp [strU_size]) hix
      omega
  | succ k ih =>
    intro s hk
    rcases Lib.indexB_cases s (strU [c]) with hix | ⟨i, hix, _⟩
    · rw [Lib.countB_miss s _ hix] at hk; omega
    · rw [Lib.splitB_hit _ 0 k s i hix, ih _ (by have := Lib.countB_hit s (strU [c]) i (by simp [strU_size]) hix; omega), cutL_hit c s.data.toList i (by rw [← ix]; exact hix), List.map_cons]
      have h1 : s.extract 0 (i + 0) = strU (s.data.toList.take i) := by rw [← strU_of (s.extract 0 (i + 0)), Lib.extract_from_zero, Nat.add_zero]
      have h2 : (s.extract (i + (strU [c]).size) s.size).data.toList = s.data.toList.drop (i + 1) := by rw [Lib.extract_to_end, strU_size]; rfl
      rw [h1, h2]
theorem cut_len (c : UInt8) (s : ByteArray) : Lib.countB s (strU [c]) + 1 = (cutL c s.data.toList).length := by
  rw [← Lib.splitB_all (strU [c]) (by simp [strU_size]) 0 _ s rfl, cut_all c _ s rfl, List.length_map]
def strE : El Tryz.prog ByteArray where
  t := 128
  e := 9
  k := 1
  by' := 16
  z := .string ByteArray.empty
  enc s := [.string s]
  ht := Tryz.underlying128
  info := by kernel_rfl
  zc := rfl
  kpos := by omega
  bsm := by omega
  len _ := rfl
  one x v hv := by simp at hv; subst hv; rfl
theorem strE_fl (xs : List ByteArray) : strE.fl xs = xs.map Value.string := by
  induction xs with
  | nil => rfl
  | cons x xs ih => unfold El.fl at ih ⊢; rw [List.flatMap_cons, ih]; rfl
def pieces (c : UInt8) (s : ByteArray) : List ByteArray := (cutL c s.data.toList).map strU
theorem pieces_len_le (c : UInt8) (l : List UInt8) : (cutL c l).length ≤ l.length + 1 := by
  induction l with
  | nil => simp [cutL]
  | cons x l ih =>
    unfold cutL
    split
    · simp; omega
    · split
      · rename_i h t e; rw [e] at ih; simp at ih ⊢; omega
      · simp
theorem split_any (c : UInt8) (s sep : ByteArray) (hsep : sep = strU [c]) (w : World) (hs : s.size ≤ 100000) (hm : ∃ m, w.cell? ⟨1, 0, none⟩ = some (.int .i64 m)) :
    Calls Tryz.prog 59 #[.string s, .string sep] w fun e w' => e = .returned (.slice (some ⟨w.heap.size, 0, none⟩) (pieces c s).length (pieces c s).length) ∧ strE.Own w' w.heap.size (.slice (some ⟨w.heap.size, 0, none⟩) (pieces c s).length (pieces c s).length) (pieces c s) ∧ Below w.heap.size w w' := by
  subst hsep
  obtain ⟨m, hm⟩ := hm
  have hl : Lib.countB s (strU [c]) + 1 = (pieces c s).length := by unfold pieces; rw [List.length_map]; exact cut_len c s
  refine (Tryz.strings_Split s (strU [c]) m w (by omega) hm (by simp [strU_size])).mono ?_
  rintro e w' ⟨rfl, rfl⟩
  rw [hl, cut_all c _ s rfl]
  refine ⟨rfl, ?_, (Below.refl _ _).alloc (Nat.le_refl _) _⟩
  have hb := pieces_len_le c s.data.toList
  have hb2 : s.data.toList.length = s.size := rfl
  exact El.Own.new strE w _ (Nat.le_refl _) _ (pieces c s) (by rw [strE_fl]; rfl) (by unfold pieces; rw [List.length_map]; omega) _ _ _ rfl rfl rfl
theorem piece_small (c : UInt8) (l : List UInt8) : ∀ x ∈ cutL c l, x.length ≤ l.length := by
  induction l with
  | nil => simp [cutL]
  | cons y l ih =>
    intro x hx
    unfold cutL at hx
    split at hx
    · simp at hx
      rcases hx with rfl | hx
      · simp
      · have := ih x hx; simp; omega
    · split at hx
      · rename_i h t e
        simp at hx
        rcases hx with rfl | hx
        · have := ih h (by rw [e]; simp); simp; omega
        · have := ih x (by rw [e]; simp [hx]); simp; omega
      · simp at hx; subst hx; simp
end Go.Proofs.YtocmngpoemfpkabGreatDoor

namespace Go.Proofs.YtocmngpoemfpkabGreatDoor
open Go.RowKit
def kindS (s : ByteArray) : Option Int :=
  if s = strU [116, 114, 97, 99, 107] then some 1 else if s = strU [115, 108, 111, 116] then some 2 else if s = strU [115, 116, 97, 116, 105, 111, 110] then some 3 else if s = strU [103, 97, 116, 101] then some 4 else none
def zoneS (s : ByteArray) : Option Int := if s.size = 1 ∧ 48 ≤ byteAt s 0 ∧ byteAt s 0 ≤ 55 then some ((byteAt s 0 : Int) - 48) else none
def nodeS (ws : List ByteArray) : Option Nd := match ws with
  | [a, b, c] => if nameB a = true then match kindS b, zoneS c with
    | some k, some z => some ⟨a, k, z⟩
    | _, _ => none
    else none
  | _ => none
def edgeS (f : ByteArray → Option Int) (ws : List ByteArray) : Option Ed := match ws with
  | [a, b] => match f a, f b with
    | some x, some y => some (x, y)
    | _, _ => none
  | _ => none
def nodeWd : ByteArray := strU [110, 111, 100, 101]
def edgeWd : ByteArray := strU [101, 100, 103, 101]
abbrev St := List Nd × List Ed
def skipS (l : ByteArray) : Bool := decide (l.size = 0) || decide (byteAt l 0 = 35)
def lineS (lk : List Nd → ByteArray → Option Int) (st : St) (l : ByteArray) : Option St :=
  if skipS l = true then some st else match pieces 32 l with
  | w :: ws => if w = nodeWd then (nodeS ws).map (fun n => (st.1 ++ [n], st.2)) else if w = edgeWd then (edgeS (lk st.1) ws).map (fun e => (st.1, st.2 ++ [e])) else none
  | [] => none
def lastFrom : Nat → Option Int → List Nd → ByteArray → Option Int
  | _, acc, [], _ => acc
  | i, acc, n :: l, s => lastFrom (i + 1) (if n.name = s then some (i : Int) else acc) l s
def lastAt (ns : List Nd) (s : ByteArray) : Option Int := lastFrom 0 none ns s
theorem lastFrom_app (n : Nd) (s : ByteArray) : ∀ (l : List Nd) (i : Nat) (acc : Option Int), lastFrom i acc (l ++ [n]) s = if n.name = s then some ((i + l.length : Nat) : Int) else lastFrom i acc l s
  | [], i, acc => by simp [lastFrom]
  | m :: l, i, acc => by
    show lastFrom (i + 1) _ (l ++ [n]) s = _
    rw [lastFrom_app n s l (i + 1) _]
    simp only [lastFrom, List.length_cons]
    rw [show i + 1 + l.length = i + (l.length + 1) by omega]
theorem lastAt_app (ns : List Nd) (n : Nd) : lastAt (ns ++ [n]) = fun y => if y = n.name then some (ns.length : Int) else lastAt ns y := by
  funext y
  unfold lastAt
  rw [lastFrom_app]
  by_cases e : n.name = y
  · rw [if_pos e, if_pos e.symm]; simp
  · rw [if_neg e, if_neg (fun h => e h.symm)]
def linesS (lk : List Nd → ByteArray → Option Int) : Nat → St → List ByteArray → St ⊕ Nat
  | _, st, [] => .inl st
  | i, st, l :: ls => match lineS lk st l with
    | some st' => linesS lk (i + 1) st' ls
    | none => .inr (i + 1)
def parseS (lk : List Nd → ByteArray → Option Int) (text : ByteArray) : St × Nat × Int :=
  if 4096 < text.size then (([], []), 0, 3) else match linesS lk 0 ([], []) (pieces 10 text) with
  | .inr n => (([], []), n, 60)
  | .inl st => if good st.1 st.2 = true then (st, 0, 0) else (([], []), 0, 61)
end Go.Proofs.YtocmngpoemfpkabGreatDoor

namespace Go.Proofs.YtocmngpoemfpkabGreatDoor
open Go.RowKit
structure Laid (w : World) : Prop where
  k0 : w.cell? ⟨0, 0, none⟩ = some (.string (strU [116, 114, 97, 99, 107]))
  k1 : w.cell? ⟨0, 1, none⟩ = some (.string (strU [115, 108, 111, 116]))
  k2 : w.cell? ⟨0, 2, none⟩ = some (.string (strU [115, 116, 97, 116, 105, 111, 110]))
  k3 : w.cell? ⟨0, 3, none⟩ = some (.string (strU [103, 97, 116, 101]))
  m : ∃ m, w.cell? ⟨1, 0, none⟩ = some (.int .i64 m)
  t : Lib.Utf8Tabs 2 3 w
theorem Laid.keep {w w' : World} {B : Nat} (L : Laid w) (hB : 4 ≤ B) (h : Below B w w') : Laid w' where
  k0 := by rw [h.cell (by show 0 < B; omega)]; exact L.k0
  k1 := by rw [h.cell (by show 0 < B; omega)]; exact L.k1
  k2 := by rw [h.cell (by show 0 < B; omega)]; exact L.k2
  k3 := by rw [h.cell (by show 0 < B; omega)]; exact L.k3
  m := by obtain ⟨m, hm⟩ := L.m; exact ⟨m, by rw [h.cell (by show 1 < B; omega)]; exact hm⟩
  t := ⟨fun c hc => by rw [h.cell (by show 2 < B; omega)]; exact L.t.1 c hc, fun i hi => ⟨by rw [h.cell (by show 3 < B; omega)]; exact (L.t.2 i hi).1, by rw [h.cell (by show 3 < B; omega)]; exact (L.t.2 i hi).2⟩⟩
set_option maxRecDepth 100000 in
set_option maxHeartbeats 2000000 in
theorem kindOf_any (s : ByteArray) (w : World) (L : Laid w) : Calls Tryz.prog 190 #[.string s] w fun e w' => e = .returned (.tuple #[.int .i64 ((kindS s).getD 0), .bool (kindS s).isSome]) ∧ w' = w := by
  have k0 := L.k0
  have k1 := L.k1
  have k2 := L.k2
  have k3 := L.k3
  clear L
  generalize ea : strU [116, 114, 97, 99, 107] = a at *
  generalize eb : strU [115, 108, 111, 116] = b at *
  generalize ec : strU [115, 116, 97, 116, 105, 111, 110] = c at *
  generalize ed : strU [103, 97, 116, 101] = d at *
  have x0 : ∀ W : World, (Instr.index 289 (.agg #[.string a, .string b, .string c, .string d]) (.int .i64 0)).run Tryz.prog W = .ok (.string a) W := fun W => by kernel_rfl
  have x1 : ∀ W : World, (Instr.index 289 (.agg #[.string a, .string b, .string c, .string d]) (.int .i64 1)).run Tryz.prog W = .ok (.string b) W := fun W => by kernel_rfl
  have x2 : ∀ W : World, (Instr.index 289 (.agg #[.string a, .string b, .string c, .string d]) (.int .i64 2)).run Tryz.prog W = .ok (.string c) W := fun W => by kernel_rfl
  have x3 : ∀ W : World, (Instr.index 289 (.agg #[.string a, .string b, .string c, .string d]) (.int .i64 3)).run Tryz.prog W = .ok (.string d) W := fun W => by kernel_rfl
  have spec : Hid (kindS s = if s = a then some 1 else if s = b then some 2 else if s = c then some 3 else if s = d then some 4 else none) := hide (by rw [← ea, ← eb, ← ec, ← ed]; rfl)
  clear ea eb ec ed
  go_enter Tryz.func190, Tryz.ntmps190
  go_wp2_with fail
  go_loopw [7] (fun v7 wr => ∃ k : Nat, k ≤ 4 ∧ v7 = .int .i64 k ∧ wr = w ∧ Hid ((0 < k → ¬ s = a) ∧ (1 < k → ¬ s = b) ∧ (2 < k → ¬ s = c) ∧ (3 < k → ¬ s = d))) (fun v7 _ => 4 - (intOf v7).toNat)
  case atStart => exact ⟨0, by omega, rfl, rfl, hide (by omega)⟩
  case round =>
    obtain ⟨k, hk, rfl, rfl, HX⟩ := hrel
    rcases (show k = 0 ∨ k = 1 ∨ k = 2 ∨ k = 3 ∨ k = 4 by omega) with rfl | rfl | rfl | rfl | rfl
    · by_cases e : s = a
      · have hr : kindS s = some 1 := by rw [spec.out, if_pos e]
        have Hr := hide hr
        have ee : (a.toList == s.toList) = true := by rw [eq_bytes]; exact decide_eq_true e.symm
        clear e spec hr HX
        go_wp2_with fail
        go_ret2
        exact ⟨by rw [Hr.out]; rfl, rfl⟩
      · have ee : (a.toList == s.toList) = false := by rw [eq_bytes]; exact decide_eq_false (fun h => e h.symm)
        have HX1 : Hid ((0 < 1 → ¬ s = a) ∧ (1 < 1 → ¬ s = b) ∧ (2 < 1 → ¬ s = c) ∧ (3 < 1 → ¬ s = d)) := hide ⟨fun h => e, fun h => absurd h (by omega), fun h => absurd h (by omega), fun h => absurd h (by omega)⟩
        clear e
        go_wp2_with fail
        go_roundw
        case rel => exact ⟨1, by omega, by rfl, trivial, HX1⟩
        case measure => simp [intOf]
    · by_cases e : s = b
      · have hr : kindS s = some 2 := by rw [spec.out, if_neg (HX.out.1 (by omega)), if_pos e]
        have Hr := hide hr
        have ee : (b.toList == s.toList) = true := by rw [eq_bytes]; exact decide_eq_true e.symm
        clear e spec hr HX
        go_wp2_with fail
        go_ret2
        exact ⟨by rw [Hr.out]; rfl, rfl⟩
      · have ee : (b.toList == s.toList) = false := by rw [eq_bytes]; exact decide_eq_false (fun h => e h.symm)
        have HX1 : Hid ((0 < 2 → ¬ s = a) ∧ (1 < 2 → ¬ s = b) ∧ (2 < 2 → ¬ s = c) ∧ (3 < 2 → ¬ s = d)) := hide ⟨fun h => HX.out.1 (by omega), fun h => e, fun h => absurd h (by omega), fun h => absurd h (by omega)⟩
        clear e
        go_wp2_with fail
        go_roundw
        case rel => exact ⟨2, by omega, by rfl, trivial, HX1⟩
        case measure => simp [intOf]
    · by_cases e : s = c
      · have hr : kindS s = some 3 := by rw [spec.out, if_neg (HX.out.1 (by omega)), if_neg (HX.out.2.1 (by omega)), if_pos e]
        have Hr := hide hr
        have ee : (c.toList == s.toList) = true := by rw [eq_bytes]; exact decide_eq_true e.symm
        clear e spec hr HX
        go_wp2_with fail
        go_ret2
        exact ⟨by rw [Hr.out]; rfl, rfl⟩
      · have ee : (c.toList == s.toList) = false := by rw [eq_bytes]; exact decide_eq_false (fun h => e h.symm)
        have HX1 : Hid ((0 < 3 → ¬ s = a) ∧ (1 < 3 → ¬ s = b) ∧ (2 < 3 → ¬ s = c) ∧ (3 < 3 → ¬ s = d)) := hide ⟨fun h => HX.out.1 (by omega), fun h => HX.out.2.1 (by omega), fun h => e, fun h => absurd h (by omega)⟩
        clear e
        go_wp2_with fail
        go_roundw
        case rel => exact ⟨3, by omega, by rfl, trivial, HX1⟩
        case measure => simp [intOf]
    · by_cases e : s = d
      · have hr : kindS s = some 4 := by rw [spec.out, if_neg (HX.out.1 (by omega)), if_neg (HX.out.2.1 (by omega)), if_neg (HX.out.2.2.1 (by omega)), if_pos e]
        have Hr := hide hr
        have ee : (d.toList == s.toList) = true := by rw [eq_bytes]; exact decide_eq_true e.symm
        clear e spec hr HX
        go_wp2_with fail
        go_ret2
        exact ⟨by rw [Hr.out]; rfl, rfl⟩
      · have ee : (d.toList == s.toList) = false := by rw [eq_bytes]; exact decide_eq_false (fun h => e h.symm)
        have HX1 : Hid ((0 < 4 → ¬ s = a) ∧ (1 < 4 → ¬ s = b) ∧ (2 < 4 → ¬ s = c) ∧ (3 < 4 → ¬ s = d)) := hide ⟨fun h => HX.out.1 (by omega), fun h => HX.out.2.1 (by omega), fun h => HX.out.2.2.1 (by omega), fun h => e⟩
        clear e
        go_wp2_with fail
        go_roundw
        case rel => exact ⟨4, by omega, by rfl, trivial, HX1⟩
        case measure => simp [intOf]
    · have hr : kindS s = none := by rw [spec.out, if_neg (HX.out.1 (by omega)), if_neg (HX.out.2.1 (by omega)), if_neg (HX.out.2.2.1 (by omega)), if_neg (HX.out.2.2.2 (by omega))]
      have Hr := hide hr
      clear spec hr HX
      go_wp2_with fail
      go_ret2
      exact ⟨by rw [Hr.out]; rfl, rfl⟩
theorem dec1 (s : ByteArray) : (Lib.decodeGo s).2 = s.size ∧ (48 ≤ (Lib.decodeGo s).1 ∧ (Lib.decodeGo s).1 ≤ 55) ↔ s.size = 1 ∧ 48 ≤ byteAt s 0 ∧ byteAt s 0 ≤ 55 := by
  unfold Lib.decodeGo
  by_cases h0 : s.size = 0
  · rw [if_pos h0]
    constructor
    · rintro ⟨_, _, h⟩; simp at h
    · rintro ⟨h, _⟩; omega
  · rw [if_neg h0]
    have hlt : 0 < s.size := by omega
    rw [byteAt_eq s 0 hlt]
    by_cases ha : (s[0]'hlt).toNat < 128
    · rw [decode_ascii s 0 hlt ha]
      simp only
      constructor
      · rintro ⟨h1, h2⟩; exact ⟨h1.symm, h2⟩
      · rintro ⟨h1, h2⟩; exact ⟨h1.symm, h2⟩
    · have := (decode_high s 0 hlt (by omega)).1
      constructor
      · rintro ⟨_, _, h⟩; omega
      · rintro ⟨_, _, h⟩; omega
theorem dec2 (s : ByteArray) (h : s.size = 1 ∧ 48 ≤ byteAt s 0 ∧ byteAt s 0 ≤ 55) : (Lib.decodeGo s).1 = byteAt s 0 := by
  unfold Lib.decodeGo
  rw [if_neg (by omega)]
  have hlt : 0 < s.size := by omega
  have hb := byteAt_eq s 0 hlt
  rw [decode_ascii s 0 hlt (by omega), hb]
theorem dec3 (s : ByteArray) : (Lib.decodeGo s).1 ≤ 2147483647 := by
  unfold Lib.decodeGo
  split
  · simp
  · exact decode_le s 0
set_option maxRecDepth 100000 in
set_option maxHeartbeats 1000000 in
theorem zoneOf_any (s : ByteArray) (w : World) (L : Laid w) : Calls Tryz.prog 191 #[.string s] w fun e w' => e = .returned (.tuple #[.int .i64 ((zoneS s).getD 0), .bool (zoneS s).isSome]) ∧ Below w.heap.size w w' := by
  have K67 := hide (Tryz.utf8_DecodeRuneInString s w L.t)
  have K51 := hide (fun z W => isZone_any z W)
  have d1 := dec1 s
  have d2 := dec2 s
  have d3 := dec3 s
  have spec : zoneS s = if s.size = 1 ∧ 48 ≤ byteAt s 0 ∧ byteAt s 0 ≤ 55 then some ((byteAt s 0 : Int) - 48) else none := rfl
  by_cases hz : s.size = 1 ∧ 48 ≤ byteAt s 0 ∧ byteAt s 0 ≤ 55
  · rw [spec, if_pos hz, ← d2 hz]
    have hd := d1.2 hz
    clear d1 d2 spec
    generalize (Lib.decodeGo s).1 = r at *
    generalize (Lib.decodeGo s).2 = q at *
    obtain ⟨e1, e2, e3⟩ := hd
    subst e1
    have zz : zoneB ((r : Int) - 48) = true := by unfold zoneB; exact decide_eq_true (by omega)
    have i1 : IntKind.i32.wrap ((r : Int) - 48) = (r : Int) - 48 := by unfold IntKind.wrap; simp [IntKind.bits, IntKind.signed]; omega
    have i2 : IntKind.i64.wrap ((r : Int) - 48) = (r : Int) - 48 := by unfold IntKind.wrap; simp [IntKind.bits, IntKind.signed]; omega
    clear hz e2 e3 d3
    go_enter Tryz.func191, Tryz.ntmps191
    go_wp2_with (first
      | (go_at_call 223; refine (K67.out).mono ?_; rintro e W1 ⟨rfl, hb1⟩; have Hb1 := hide hb1; clear hb1)
      | (go_at_call 192; refine (K51.out _ _).mono ?_; rintro e W2 ⟨rfl, rfl⟩; rw [zz]))
    go_ret2
    exact ⟨by simp, Hb1.out⟩
  · rw [spec, if_neg hz]
    have hd : ¬ ((Lib.decodeGo s).2 = s.size ∧ (48 ≤ (Lib.decodeGo s).1 ∧ (Lib.decodeGo s).1 ≤ 55)) := fun h => hz (d1.1 h)
    clear d1 d2 spec hz
    generalize (Lib.decodeGo s).1 = r at *
    generalize (Lib.decodeGo s).2 = q at *
    have i1 : IntKind.i32.wrap ((r : Int) - 48) = (r : Int) - 48 := by unfold IntKind.wrap; simp [IntKind.bits, IntKind.signed]; omega
    have i2 : IntKind.i64.wrap ((r : Int) - 48) = (r : Int) - 48 := by unfold IntKind.wrap; simp [IntKind.bits, IntKind.signed]; omega
    by_cases hq : q = s.size
    · subst hq
      have zz : zoneB ((r : Int) - 48) = false := by unfold zoneB; exact decide_eq_false (by omega)
      clear hd d3
      go_enter Tryz.func191, Tryz.ntmps191
      go_wp2_with (first
        | (go_at_call 223; refine (K67.out).mono ?_; rintro e W1 ⟨rfl, hb1⟩; have Hb1 := hide hb1; clear hb1)
        | (go_at_call 192; refine (K51.out _ _).mono ?_; rintro e W2 ⟨rfl, rfl⟩; rw [zz]))
      go_ret2
      exact ⟨rfl, Hb1.out⟩
    · have hq' : ¬ (q : Int) = (s.size : Int) := by omega
      clear hd d3 hq
      go_enter Tryz.func191, Tryz.ntmps191
      go_wp2_with (first
        | (go_at_call 223; refine (K67.out).mono ?_; rintro e W1 ⟨rfl, hb1⟩; have Hb1 := hide hb1; clear hb1)
        | (go_at_call 192; refine (K51.out _ _).mono ?_; rintro e W2 ⟨rfl, rfl⟩))
      go_ret2
      exact ⟨rfl, Hb1.out⟩
set_option maxHeartbeats 1000000 in
theorem clone_any (s : ByteArray) (w : World) (hs : s.size ≤ 100000) : Calls Tryz.prog 70 #[.string s] w fun e w' => e = .returned (.string s) ∧ Below w.heap.size w w' := by
  have K70 := hide (Tryz.stringslite_Clone s w (by omega))
  go_enter Tryz.func70, Tryz.ntmps70
  go_wp2_with (go_at_call 144; refine (K70.out).mono ?_; rintro e W1 ⟨rfl, hb1⟩; have Hb1 := hide hb1; clear hb1)
  go_ret
  exact ⟨rfl, Hb1.out⟩
end Go.Proofs.YtocmngpoemfpkabGreatDoor

namespace Go.Proofs.YtocmngpoemfpkabGreatDoor
structure Td where
  dev : Int
  tote : Int
  seq : Int
deriving DecidableEq, Inhabited
structure Rm where
  sp : List (Int × Int)
  td : List Td
  dw : List Int
  la : List Td
def fx {α : Type} (p : α → Bool) (l : List α) : Int := if l.findIdx p < l.length then (l.findIdx p : Int) else -1
theorem fx_at {α : Type} {p : α → Bool} {q : List α} {i : Nat} {c : α} (hi : q[i]? = some c) (hp : p c = true) (hno : ∀ j d, j < i → q[j]? = some d → p d = false) : fx p q = (i : Int) := by
  obtain ⟨hlt, he⟩ := List.getElem?_eq_some_iff.1 hi
  have : q.findIdx p = i := by
    rw [List.findIdx_eq hlt]
    exact ⟨by rw [he]; exact hp, fun j hj => by have := hno j q[j] hj (List.getElem?_eq_getElem (by omega)); simpa using this⟩
  unfold fx
  rw [this, if_pos hlt]
theorem fx_none {α : Type} {p : α → Bool} {q : List α} (hno : ∀ (j : Nat) (d : α), j < q.length → q[j]? = some d → p d = false) : fx p q = -1 := by
  unfold fx
  rw [if_neg]
  have : q.findIdx p = q.length := by
    rw [List.findIdx_eq_length]
    intro c hc
    obtain ⟨j, hj, rfl⟩ := List.mem_iff_getElem.1 hc
    have := hno j _ hj (List.getElem?_eq_getElem hj)
    simpa using this
  omega
theorem fx_cases {α : Type} (p : α → Bool) (q : List α) : (∃ (i : Nat) (c : α), q[i]? = some c ∧ p c = true ∧ (∀ j d, j < i → q[j]? = some d → p d = false) ∧ fx p q = (i : Int)) ∨ ((∀ c ∈ q, p c = false) ∧ fx p q = -1) := by
  by_cases h : q.findIdx p < q.length
  · refine .inl ⟨q.findIdx p, q[q.findIdx p], List.getElem?_eq_getElem h, List.findIdx_getElem (w := h), fun j d hj hd => ?_, by unfold fx; rw [if_pos h]⟩
    have := List.not_of_lt_findIdx hj
    rw [List.getElem?_eq_getElem (by omega)] at hd
    cases hd
    simpa using this
  · refine .inr ⟨fun c hc => ?_, by unfold fx; rw [if_neg h]⟩
    cases e : p c with
    | false => rfl
    | true => exact absurd (List.findIdx_lt_length_of_exists ⟨c, hc, e⟩) h
def isTo (t : Int) (s : Int × Int) : Bool := decide (s.1 = t)
def isNo (n : Int) (s : Int × Int) : Bool := decide (s.2 = n)
def isDv (d : Int) (x : Td) : Bool := decide (x.dev = d)
def hasTo (t : Int) (x : Td) : Bool := decide (x.tote = t)
def edN (es : List (Int × Int)) (d : Int) : Int := ((es[(d - 1).toNat]?).getD (0, 0)).2
def edF (es : List (Int × Int)) (d : Int) : Int := ((es[(d - 1).toNat]?).getD (0, 0)).1
def goesTo (es : List (Int × Int)) (n : Int) (x : Td) : Bool := decide (edN es x.dev = n)
end Go.Proofs.YtocmngpoemfpkabGreatDoor

namespace Go.Proofs.YtocmngpoemfpkabGreatDoor
theorem downF_filter (l : List Dv) (i : Nat) : downF i l = ((List.range l.length).map (fun k : Nat => ((i + k : Nat) : Int) + 1)).filter (fun x => ((l[(x - 1 - i).toNat]?).getD default).dn) := by
  induction l generalizing i with
  | nil => rfl
  | cons D l ih =>
    rw [List.length_cons, List.range_succ_eq_map, List.map_cons, List.filter_cons, List.map_map]
    unfold downF
    have e0 : ((((i + 0 : Nat) : Int) + 1) - 1 - (i : Int)).toNat = 0 := by omega
    rw [e0]
    simp only [List.getElem?_cons_zero, Option.getD_some]
    have e1 : ((List.range l.length).map ((fun k : Nat => ((i + k : Nat) : Int) + 1) ∘ Nat.succ)).filter (fun x => (((D :: l)[(x - 1 - i).toNat]?).getD default).dn) = downF (i + 1) l := by
      rw [ih (i + 1)]
      have e2 : (List.range l.length).map ((fun k : Nat => ((i + k : Nat) : Int) + 1) ∘ Nat.succ) = (List.range l.length).map (fun k : Nat => ((i + 1 + k : Nat) : Int) + 1) := List.map_congr_left (fun k _ => by simp only [Function.comp]; omega)
      rw [e2]
      refine List.filter_congr fun x hx => ?_
      obtain ⟨k, hk, rfl⟩ := List.mem_map.1 hx
      rw [show (((i + 1 + k : Nat) : Int) + 1 - 1 - (i : Int)).toNat = k + 1 by omega, show (((i + 1 + k : Nat) : Int) + 1 - 1 - ((i + 1 : Nat) : Int)).toNat = k by omega]
      rfl
    rw [e1]
    by_cases h : D.dn = true
    · rw [if_pos h, if_pos h]; simp
    · rw [if_neg h, if_neg h]
theorem down_filter (S : Mr) : S.down = ((List.range S.ds.length).map (fun i : Nat => (i : Int) + 1)).filter (fun x => (S.dev x).dn) := by
  unfold Mr.down
  rw [downF_filter]
  have e : (List.range S.ds.length).map (fun k : Nat => ((0 + k : Nat) : Int) + 1) = (List.range S.ds.length).map (fun i : Nat => (i : Int) + 1) := List.map_congr_left (fun k _ => by omega)
  rw [e]
  refine List.filter_congr fun x hx => ?_
  unfold Mr.dev
  rw [show x - 1 - ((0 : Nat) : Int) = x - 1 by omega]
end Go.Proofs.YtocmngpoemfpkabGreatDoor

namespace Go.Proofs.YtocmngpoemfpkabGreatDoor
open Go.RowKit
structure Vm where
  aS : Option Addr
  nS : Nat
  cS : Nat
  aT : Option Addr
  nT : Nat
  cT : Nat
  aD : Option Addr
  nD : Nat
  cD : Nat
  aL : Option Addr
  nL : Nat
  cL : Nat
section
variable {w : World} {B k : Nat} {V : Vm} {R : Rm}
theorem It.keep (x : It) {w w' : World} (h : x.P w) (hb : Below w.heap.size w w') : x.P w' := x.st h fun k hk => hb.block k (x.lt h k hk)
end
end Go.Proofs.YtocmngpoemfpkabGreatDoor

namespace Go.Proofs.YtocmngpoemfpkabGreatDoor
open Go.RowKit
def OwnI (w : World) (ds : List Int) (e : Ending) (w' : World) : Prop := ∃ a n c, e = .returned (.slice a n c) ∧ ds.length = n ∧ intE.Own w' w.heap.size (.slice a n c) ds ∧ Below w.heap.size w w'
section
variable {w : World} {B g n m : Nat} {H : Nat × Nat} {es : List (Int × Int)} {S : Mr}
set_option maxRecDepth 100000 in
set_option maxHeartbeats 2000000 in
theorem downP (h1 : (It.mir B g H n m es S).P w) : Calls Tryz.prog 171 #[.pointer (some ⟨g, 0, none⟩)] w fun e w' => OwnI w S.down e w' := by
  have H1 := hide h1
  obtain ⟨c0, c1⟩ := mr_cells h1
  obtain ⟨l0, l1, l2, l3⟩ := mr_len h1
  have HE := hide ((Its.nil w).empty intE)
  have L1 := hide l1
  have i0 : (m : Int) ≤ 120 := by omega
  have dn : Hid (S.down = downF 0 S.ds) := hide rfl
  obtain ⟨dd, hdd⟩ : ∃ dd, S.down = dd := ⟨_, rfl⟩
  rw [hdd] at dn ⊢
  clear hdd l0 l1 h1
  obtain ⟨W0, rfl⟩ : ∃ W, W = w := ⟨_, rfl⟩
  go_enter Tryz.func171, Tryz.ntmps171
  go_wp2_with fail
  go_loopw [11, 3] (fun v11 v3 wr => ∃ (k : Nat) (a : Option Addr) (q c : Nat), v11 = .int .i64 k ∧ v3 = .slice a q c ∧ k ≤ m ∧ Hid ((downF 0 (S.ds.take k)).length = q) ∧ Hid (Its W0 (.ints W0.heap.size (.slice a q c) (downF 0 (S.ds.take k)) :: []) wr)) (fun v11 _ _ => m - (intOf v11).toNat)
  case atStart => exact ⟨0, none, 0, 0, rfl, rfl, Nat.zero_le _, hide rfl, HE⟩
  case round =>
    obtain ⟨k, a, q, c, rfl, rfl, hk, HL, HR⟩ := hrel
    by_cases hlt : k < m
    · obtain ⟨D, hD⟩ : ∃ D, S.ds[k]? = some D := ⟨_, List.getElem?_eq_getElem (by rw [L1.out]; exact hlt)⟩
      obtain ⟨d0, d1, d2, d3, d4, d5⟩ := mr_d (It.keep (.mir B g H n m es S) H1.out HR.out.bel) hD
      have j0 : (0 : Int) ≤ (k : Int) := by omega
      have j1 : (k : Int) < (m : Int) := by omega
      have j2 : wrap64 ((k : Int) + 1) = (k : Int) + 1 := by unfold wrap64; omega
      have Htk : Hid (downF 0 (S.ds.take (k + 1)) = downF 0 (S.ds.take k) ++ (if D.dn then [(k : Int) + 1] else [])) := hide (by
        rw [take_one hD, downF_app, List.length_take, Nat.min_eq_left (by rw [L1.out]; omega), Nat.zero_add])
      have Hle : Hid ((downF 0 (S.ds.take k)).length + [(k : Int) + 1].length ≤ 1000000) := hide (by
        have := downF_len 0 (S.ds.take k)
        rw [List.length_take] at this
        simp only [List.length_singleton]; omega)
      have HA : Hid (∀ o, Its W0 (.ints W0.heap.size (.slice a q c) (downF 0 (S.ds.take k)) :: []) (wr.alloc o)) := hide (fun o => HR.out.alloc o)
      clear hD
      obtain ⟨fr, en, tt, sq, ev, dw⟩ := D
      dsimp only at *
      cases dw with
      | false =>
        go_wp2_with fail
        go_roundw
        case rel => exact ⟨k + 1, a, q, c, by go_num, rfl, by omega, hide (by rw [Htk.out]; simpa using HL.out), hide (by rw [Htk.out]; simpa using HA.out _)⟩
        case measure => simp [intOf]; omega
      | true =>
        have HX := hide ((HA.out (.cells #[.int .i64 fr, .int .i64 en, .int .i64 tt, .int .i64 sq, .bool ev, .bool true] 215)).alloc (.cells #[.int .i64 ((k : Int) + 1)] 3))
        have HS : Hid (intE.Rd ((wr.alloc (.cells #[.int .i64 fr, .int .i64 en, .int .i64 tt, .int .i64 sq, .bool ev, .bool true] 215)).alloc (.cells #[.int .i64 ((k : Int) + 1)] 3)) (.slice (some ⟨wr.heap.size + 1, 0, none⟩) 1 1) [(k : Int) + 1]) := hide (int_new _ _ _ (by show _ = (wr.heap.push _).size; simp))
        generalize hdl : downF 0 (S.ds.take k) = dl at *
        go_wp2_with (at_builtin; refine intE.wpB (B := W0.heap.size) HX.out.size (by rfl) _ _ rfl _ _ rfl rfl dl [(k : Int) + 1] HX.out.one HS.out Hle.out ?_; intro v4 W4 ho hg hs; obtain ⟨a4, p4, hf4⟩ := ho.rd.form; obtain ⟨n4, hn4⟩ : ∃ n4, (dl ++ [(k : Int) + 1]).length = n4 := ⟨_, rfl⟩; rw [hn4] at hf4; subst hf4; have HI4 := hide (HX.out.grow ho hg hs); have Hn4 := hide hn4; clear ho hg hs hn4)
        go_roundw
        case rel => exact ⟨k + 1, a4, n4, p4, by go_num, rfl, by omega, hide (by rw [Htk.out]; exact Hn4.out), hide (by rw [Htk.out]; exact HI4.out)⟩
        case measure => simp [intOf]; omega
    · obtain rfl : k = m := by omega
      have j1 : ¬ (k : Int) < (k : Int) := by omega
      have e1 : dd = downF 0 (S.ds.take k) := by rw [dn.out, List.take_of_length_le (by rw [L1.out]; exact Nat.le_refl _)]
      subst e1
      go_wp2_with fail
      go_ret
      exact ⟨a, q, c, rfl, HL.out, HR.out.one, HR.out.bel⟩
end
theorem down_len (S : Mr) : S.down.length ≤ S.ds.length := downF_len 0 S.ds
theorem down_mem {S : Mr} {d : Int} (hd : S.isD d = true) : d ∈ S.down ↔ (S.dev d).dn = true := by
  rw [down_filter, List.mem_filter]
  have h := Mr.isD_iff.1 hd
  constructor
  · intro h; exact h.2
  · intro h2
    refine ⟨List.mem_map.2 ⟨(d - 1).toNat, List.mem_range.2 (by omega), by omega⟩, h2⟩
section
variable {w : World} {B g n m : Nat} {E : Ev} {P : Kp} {c : Ct}
set_option maxRecDepth 100000
theorem ktold_any (h : (It.ctl B g E n m P c).P w) (d : Int) : Calls Tryz.prog 18 #[.pointer (some ⟨g, 0, none⟩), .int .i64 d] w fun e w' => e = .returned (.tuple #[.int .i64 (P.S.told d).1, .int .i64 (P.S.told d).2.1, .bool (P.S.told d).2.2]) ∧ ∃ q, w' = w.drewN q := by
  obtain ⟨c0, c1, c2, c3, c4, c5, c37, c38⟩ := kt_c h
  have K1 := hide (told_m (kt_m h) d)
  clear h
  generalize P.S.told d = p at *
  obtain ⟨x, y, z⟩ := p
  dsimp only at *
  go_enter Tryz.func18, Tryz.ntmps18
  go_wp2_with (first | (go_at_call 58; refine K1.out.mono ?_; rintro e w1 ⟨rfl, q, rfl⟩))
  exact bodyPost_ret (v := .tuple #[.int .i64 x, .int .i64 y, .bool z]) (by simp [results, Tryz.results18, go_sem]) rfl ⟨rfl, q, rfl⟩
theorem kstate_any (h : (It.ctl B g E n m P c).P w) {x : Int} (hx : I64 x) : Calls Tryz.prog 21 #[.pointer (some ⟨g, 0, none⟩), .int .i64 x] w fun e w' => e = .returned (.int .i64 (P.K.sta x)) ∧ w' = w := by
  obtain ⟨c0, c1, c2, c3, c4, c5, c37, c38⟩ := kt_c h
  have K1 := hide (state_any (kt_b h) hx)
  clear h
  go_enter Tryz.func21, Tryz.ntmps21
  go_wp2_with (first | (go_at_call 44; refine K1.out.mono ?_; rintro e w1 ⟨rfl, rfl⟩))
  go_ret
  exact ⟨rfl, rfl⟩
end
end Go.Proofs.YtocmngpoemfpkabGreatDoor

namespace Go.Proofs.YtocmngpoemfpkabGreatDoor
open Go.RowKit
section
variable {w0 w : World} {l : List It} {g n m : Nat} {E : Ev} {P : Kp} {c : Ct}
theorem Its.kbook (h : Its w0 (.ctl w0.heap.size g E n m P c :: l) w) : Its w0 (.book w0.heap.size P.gb P.Hk P.K :: ((kparts w0.heap.size g E n m P c ++ l).eraseIdx 7)) w := h.kopen.1.pick 7 rfl
theorem Its.kbookB {K : Bk} {H : Hb} (hf : KF E n m P c) (h : Its w0 (.book w0.heap.size P.gb H K :: ((kparts w0.heap.size g E n m P c ++ l).eraseIdx 7)) w) : Its w0 (.ctl w0.heap.size g E n m { P with Hk := H, K := K } c :: l) w :=
  Its.kshut (Its.back 7 (by simp [kparts]) h) ⟨hf.gd, hf.hn, hf.hm, hf.hs, hf.gq, hf.pa, hf.tk, hf.jo, hf.jd⟩
theorem Its.kmir (h : Its w0 (.ctl w0.heap.size g E n m P c :: l) w) : Its w0 (.mir w0.heap.size P.gm P.Hm n m E.es P.S :: ((kparts w0.heap.size g E n m P c ++ l).eraseIdx 6)) w := h.kopen.1.pick 6 rfl
theorem Its.kmirB {S : Mr} (hf : KF E n m P c) (h : Its w0 (.mir w0.heap.size P.gm P.Hm n m E.es S :: ((kparts w0.heap.size g E n m P c ++ l).eraseIdx 6)) w) : Its w0 (.ctl w0.heap.size g E n m { P with S := S } c :: l) w :=
  Its.kshut (Its.back 6 (by simp [kparts]) h) ⟨hf.gd, hf.hn, hf.hm, hf.hs, hf.gq, hf.pa, hf.tk, hf.jo, hf.jd⟩
theorem Its.ktape (h : Its w0 (.ctl w0.heap.size g E n m P c :: l) w) : Its w0 (.tape w0.heap.size P.gt P.Ht c.T :: ((kparts w0.heap.size g E n m P c ++ l).eraseIdx 5)) w := h.kopen.1.pick 5 rfl
theorem Its.ktapeB {T : Tp} {H : Bool → Value} (hf : KF E n m P c) (h : Its w0 (.tape w0.heap.size P.gt H T :: ((kparts w0.heap.size g E n m P c ++ l).eraseIdx 5)) w) : Its w0 (.ctl w0.heap.size g E n m { P with Ht := H } ⟨c.S, c.K, T, c.J, c.tk, c.dead⟩ :: l) w :=
  Its.kshut (Its.back 5 (by simp [kparts]) h) ⟨hf.gd, hf.hn, hf.hm, hf.hs, hf.gq, hf.pa, hf.tk, hf.jo, hf.jd⟩
def DoP (w0 : World) (l : List It) (g : Nat) (E : Ev) (n m : Nat) (P : Kp) (c : Ct) (x : Nt) (e : Ending) (w' : World) : Prop :=
  e = .returned (.tuple #[.bool (ndY P.K x), .int .i64 (ndC P.S P.K x)]) ∧ ∃ H, Its w0 (.ctl w0.heap.size g E n m { P with Hk := H, S := ndS P.S x, K := ndK P.K x } c :: l) w'
set_option maxRecDepth 100000 in
set_option maxHeartbeats 4000000 in
theorem kdoS (h : Its w0 (.ctl w0.heap.size g E n m P c :: l) w) (x : Nt) (hx : I64 x.a) (hb : P.K.all.length ≤ 9000 ∧ P.K.done.length ≤ 9000) : Calls Tryz.prog 74 #[.pointer (some ⟨g, 0, none⟩), .agg #[.int .i64 x.kind, .int .i64 x.a, .int .i64 x.b, .int .i64 x.c]] w (DoP w0 l g E n m P c x) := by
  obtain ⟨l', hl'⟩ : ∃ l', It.box w.heap.size #[.int .i64 x.kind, .int .i64 x.a, .int .i64 x.b, .int .i64 x.c] 101 :: l = l' := ⟨_, rfl⟩
  obtain ⟨w1, hw1⟩ : ∃ w1, w.alloc (.cells #[.int .i64 x.kind, .int .i64 x.a, .int .i64 x.b, .int .i64 x.c] 101) = w1 := ⟨_, rfl⟩
  have h1 : Its w0 (.ctl w0.heap.size g E n m P c :: l') w1 := by
    rw [← hw1, ← hl']
    exact (h.new (x := .box w.heap.size _ 101) (heap_new w _) (fun k hk => by cases hk; exact Nat.le_refl _) (below_new w _)).swap
  have hf := hide (kt_f h.one)
  have XB : Hid (∀ W, Its w0 (.ctl w0.heap.size g E n m P c :: l') W → (W.cell? ⟨w.heap.size, 0, none⟩ = some (.int .i64 x.kind) ∧ W.cell? ⟨w.heap.size, 1, none⟩ = some (.int .i64 x.a) ∧ W.cell? ⟨w.heap.size, 2, none⟩ = some (.int .i64 x.b) ∧ W.cell? ⟨w.heap.size, 3, none⟩ = some (.int .i64 x.c)) ∧ W.cell? ⟨g, 3, none⟩ = some (.pointer (some ⟨P.gt, 0, none⟩)) ∧ W.cell? ⟨g, 4, none⟩ = some (.pointer (some ⟨P.gm, 0, none⟩)) ∧ W.cell? ⟨g, 5, none⟩ = some (.pointer (some ⟨P.gb, 0, none⟩))) := hide (fun W hW => by
    subst hl'
    obtain ⟨c0, c1, c2, c3, c4, c5, c37, c38⟩ := kt_c hW.one
    have hb := hW.two
    exact ⟨⟨(cells_at hb 0).1, (cells_at hb 1).1, (cells_at hb 2).1, (cells_at hb 3).1⟩, c3, c4, c5⟩)
  have KA : Hid (∀ W, Its w0 (.ctl w0.heap.size g E n m P c :: l') W → Calls Tryz.prog 45 #[.pointer (some ⟨P.gb, 0, none⟩), .agg #[.int .i64 x.a, .int .i64 x.b, .int .i64 x.c]] W fun q w' => q = .returned (.tuple #[.bool (P.K.adY ⟨x.a, x.b, x.c⟩), .int .i64 (P.K.adC ⟨x.a, x.b, x.c⟩)]) ∧ ∃ P', P' = { P with Hk := P'.Hk, K := P.K.ad ⟨x.a, x.b, x.c⟩ } ∧ Its w0 (.ctl w0.heap.size g E n m P' c :: l') w') := hide (fun W hW => by
    refine (addS ⟨x.a, x.b, x.c⟩ hW.kbook hx (by omega) ⟨rfl, rfl⟩ rfl).mono ?_
    rintro q w' ⟨rfl, H', hq⟩
    exact ⟨rfl, { P with Hk := H', K := P.K.ad ⟨x.a, x.b, x.c⟩ }, rfl, Its.kbookB hf.out hq⟩)
  have KC : Hid (∀ W, Its w0 (.ctl w0.heap.size g E n m P c :: l') W → Calls Tryz.prog 50 #[.pointer (some ⟨P.gb, 0, none⟩), .int .i64 x.a] W fun q w' => q = .returned (.tuple #[.bool (P.K.caY x.a), .int .i64 (P.K.caC x.a)]) ∧ ∃ P', P' = { P with Hk := P'.Hk, K := P.K.ca x.a } ∧ Its w0 (.ctl w0.heap.size g E n m P' c :: l') w') := hide (fun W hW => by
    refine (cancelS hW.kbook hx ⟨rfl, rfl⟩ rfl).mono ?_
    rintro q w' ⟨rfl, H', hq⟩
    exact ⟨rfl, { P with Hk := H', K := P.K.ca x.a }, rfl, Its.kbookB hf.out hq⟩)
  have KE : Hid (∀ W, Its w0 (.ctl w0.heap.size g E n m P c :: l') W → Calls Tryz.prog 145 #[.pointer (some ⟨P.gb, 0, none⟩), .int .i64 x.a] W fun q w' => q = .returned (.int .i64 (P.K.seC x.a)) ∧ ∃ P', P' = { P with Hk := P'.Hk, K := P.K.se x.a } ∧ Its w0 (.ctl w0.heap.size g E n m P' c :: l') w') := hide (fun W hW => by
    refine (serveS hW.kbook hx (by omega) rfl rfl).mono ?_
    rintro q w' ⟨rfl, H', hq⟩
    exact ⟨rfl, { P with Hk := H', K := P.K.se x.a }, rfl, Its.kbookB hf.out hq⟩)
  have KM : Hid (∀ W, Its w0 (.ctl w0.heap.size g E n m P c :: l') W → Calls Tryz.prog 146 #[.pointer (some ⟨P.gm, 0, none⟩), .agg #[.int .i64 x.kind, .int .i64 x.a, .int .i64 x.b, .int .i64 x.c]] W fun q w' => q = .returned (.int .i64 (P.S.app x).1) ∧ ∃ P', P' = { P with S := (P.S.app x).2 } ∧ Its w0 (.ctl w0.heap.size g E n m P' c :: l') w') := hide (fun W hW => by
    refine (applyS hW.kmir x).mono ?_
    rintro q w' ⟨rfl, hq⟩
    exact ⟨rfl, { P with S := (P.S.app x).2 }, rfl, Its.kmirB hf.out hq⟩)
  have HI := hide h1
  have HD : Hid (∀ q, Its w0 (.ctl w0.heap.size g E n m P c :: l') (w1.drewN q)) := hide (fun q => h1.drew q)
  have SX : Hid (∀ W P', P'.gt = P.gt → P'.gm = P.gm → P'.gb = P.gb → Its w0 (.ctl w0.heap.size g E n m P' c :: l') W → (W.cell? ⟨w.heap.size, 0, none⟩ = some (.int .i64 x.kind) ∧ W.cell? ⟨w.heap.size, 1, none⟩ = some (.int .i64 x.a) ∧ W.cell? ⟨w.heap.size, 2, none⟩ = some (.int .i64 x.b) ∧ W.cell? ⟨w.heap.size, 3, none⟩ = some (.int .i64 x.c)) ∧ W.cell? ⟨g, 4, none⟩ = some (.pointer (some ⟨P.gm, 0, none⟩)) ∧ W.cell? ⟨g, 5, none⟩ = some (.pointer (some ⟨P.gb, 0, none⟩))) := hide (fun W P' e1 e2 e3 hW => by
    subst hl'
    obtain ⟨c0, c1, c2, c3, c4, c5, c37, c38⟩ := kt_c hW.one
    have hb := hW.two
    rw [e2] at c4; rw [e3] at c5
    exact ⟨⟨(cells_at hb 0).1, (cells_at hb 1).1, (cells_at hb 2).1, (cells_at hb 3).1⟩, c4, c5⟩)
  have drop : Hid (∀ W P', Its w0 (.ctl w0.heap.size g E n m P' c :: l') W → Its w0 (.ctl w0.heap.size g E n m P' c :: l) W) := hide (fun W P' hW => by subst hl'; exact hW.swap.tail)
  have fin2 : Hid (∀ W P', x.kind = 2 → P' = { P with Hk := P'.Hk, K := P.K.ad ⟨x.a, x.b, x.c⟩ } → Its w0 (.ctl w0.heap.size g E n m P' c :: l') W → DoP w0 l g E n m P c x (.returned (.tuple #[.bool (P.K.adY ⟨x.a, x.b, x.c⟩), .int .i64 (P.K.adC ⟨x.a, x.b, x.c⟩)])) W) := hide (fun W P' hk e q => by
    refine ⟨by simp [ndY, ndC, hk], P'.Hk, ?_⟩
    have q' := drop.out W P' q
    rw [e] at q'
    simpa only [ndS, ndK, if_pos hk] using q')
  have fin3 : Hid (∀ W P', x.kind = 3 → P' = { P with Hk := P'.Hk, K := P.K.ca x.a } → Its w0 (.ctl w0.heap.size g E n m P' c :: l') W → DoP w0 l g E n m P c x (.returned (.tuple #[.bool (P.K.caY x.a), .int .i64 (P.K.caC x.a)])) W) := hide (fun W P' hk e q => by
    have h2 : ¬ x.kind = 2 := by omega
    refine ⟨by simp [ndY, ndC, hk], P'.Hk, ?_⟩
    have q' := drop.out W P' q
    rw [e] at q'
    simpa only [ndS, ndK, if_neg h2, if_pos hk] using q')
  have fin6 : Hid (∀ W P', x.kind = 6 → P' = { P with Hk := P'.Hk, K := P.K.se x.a } → Its w0 (.ctl w0.heap.size g E n m P' c :: l') W → DoP w0 l g E n m P c x (.returned (.tuple #[.bool true, .int .i64 (P.K.seC x.a)])) W) := hide (fun W P' hk e q => by
    have h2 : ¬ x.kind = 2 := by omega
    have h3 : ¬ x.kind = 3 := by omega
    refine ⟨by simp [ndY, ndC, hk], P'.Hk, ?_⟩
    have q' := drop.out W P' q
    rw [e] at q'
    simpa only [ndS, ndK, if_neg h2, if_neg h3, if_pos hk] using q')
  have fin0 : Hid (∀ W P', ¬ x.kind = 2 → ¬ x.kind = 3 → ¬ x.kind = 6 → P' = { P with S := (P.S.app x).2 } → Its w0 (.ctl w0.heap.size g E n m P' c :: l') W → DoP w0 l g E n m P c x (.returned (.tuple #[.bool true, .int .i64 (P.S.app x).1])) W) := hide (fun W P' h2 h3 h6 e q => by
    refine ⟨by simp [ndY, ndC, h2, h3, h6], P.Hk, ?_⟩
    have q' := drop.out W P' q
    rw [e] at q'
    simpa only [ndS, ndK, if_neg h2, if_neg h3, if_neg h6] using q')
  obtain ⟨kd, xa, xb, xc⟩ := x
  dsimp only at *
  clear XB h h1 hl'
  subst hw1
  generalize hR : DoP w0 l g E n m P c ⟨kd, xa, xb, xc⟩ = R at *
  clear hR drop
  have pe : ∀ P' : Kp, (∃ H S K, P' = { P with Hk := H, S := S, K := K }) → P'.gt = P.gt ∧ P'.gm = P.gm ∧ P'.gb = P.gb := fun P' ⟨H, S, K, e⟩ => by subst e; exact ⟨rfl, rfl, rfl⟩
  have PE := hide pe
  clear pe
  obtain ⟨⟨y0, y1, y2, y3⟩, c4, c5⟩ := SX.out _ P rfl rfl rfl HI.out
  by_cases k2 : kd = 2
  · subst k2
    clear KC KE KM fin3 fin6 fin0
    replace fin2 : Hid _ := hide (fin2.out · · rfl)
    go_enter Tryz.func74, Tryz.ntmps74
    go_upto_region 3 with fail
    go_region_held3 (fun W => W.cell? ⟨g, 5, none⟩ = some (.pointer (some ⟨P.gb, 0, none⟩)) ∧ W.cell? ⟨w.heap.size, 0, none⟩ = some (.int .i64 2) ∧ W.cell? ⟨w.heap.size, 1, none⟩ = some (.int .i64 xa) ∧ W.cell? ⟨w.heap.size, 2, none⟩ = some (.int .i64 xb) ∧ W.cell? ⟨w.heap.size, 3, none⟩ = some (.int .i64 xc)) (first | exact ⟨c5, y0, y1, y2, y3⟩ | exact s2)
      (first
        | (go_at_call 45; refine (KA.out _ ?_).mono ?_; first | exact HI.out | exact HD.out _; rintro e w2 ⟨rfl, P', hP', q⟩; have HQ := hide q; have HP := hide hP'; clear q hP'; have s2 := (fun (z : _ ∧ _ ∧ _) => (⟨z.2.2, z.1.1, z.1.2.1, z.1.2.2.1, z.1.2.2.2⟩ : _ ∧ _ ∧ _ ∧ _ ∧ _)) (SX.out w2 P' (PE.out P' ⟨_, _, _, HP.out⟩).1 (PE.out P' ⟨_, _, _, HP.out⟩).2.1 (PE.out P' ⟨_, _, _, HP.out⟩).2.2 HQ.out))
        | fail)
    go_wp2_with fail
    exact fin2.out _ _ HP.out HQ.out
  have k2' : (kd == 2) = false := beq_eq_false_iff_ne.2 k2
  by_cases k3 : kd = 3
  · subst k3
    clear KA KE KM fin2 fin6 fin0
    replace fin3 : Hid _ := hide (fin3.out · · rfl)
    go_enter Tryz.func74, Tryz.ntmps74
    go_upto_region 5 with fail
    go_region_held3 (fun W => W.cell? ⟨g, 5, none⟩ = some (.pointer (some ⟨P.gb, 0, none⟩)) ∧ W.cell? ⟨w.heap.size, 0, none⟩ = some (.int .i64 3) ∧ W.cell? ⟨w.heap.size, 1, none⟩ = some (.int .i64 xa) ∧ W.cell? ⟨w.heap.size, 2, none⟩ = some (.int .i64 xb) ∧ W.cell? ⟨w.heap.size, 3, none⟩ = some (.int .i64 xc)) (first | exact ⟨c5, y0, y1, y2, y3⟩ | exact s2)
      (first
        | (go_at_call 50; refine (KC.out _ ?_).mono ?_; first | exact HI.out | exact HD.out _; rintro e w2 ⟨rfl, P', hP', q⟩; have HQ := hide q; have HP := hide hP'; clear q hP'; have s2 := (fun (z : _ ∧ _ ∧ _) => (⟨z.2.2, z.1.1, z.1.2.1, z.1.2.2.1, z.1.2.2.2⟩ : _ ∧ _ ∧ _ ∧ _ ∧ _)) (SX.out w2 P' (PE.out P' ⟨_, _, _, HP.out⟩).1 (PE.out P' ⟨_, _, _, HP.out⟩).2.1 (PE.out P' ⟨_, _, _, HP.out⟩).2.2 HQ.out))
        | fail)
    go_wp2_with fail
    exact fin3.out _ _ HP.out HQ.out
  have k3' : (kd == 3) = false := beq_eq_false_iff_ne.2 k3
  by_cases k6 : kd = 6
  · subst k6
    clear KA KC KM fin2 fin3 fin0
    replace fin6 : Hid _ := hide (fin6.out · · rfl)
    go_enter Tryz.func74, Tryz.ntmps74
    go_upto_region 7 with fail
    go_region_held3 (fun W => W.cell? ⟨g, 5, none⟩ = some (.pointer (some ⟨P.gb, 0, none⟩)) ∧ W.cell? ⟨w.heap.size, 0, none⟩ = some (.int .i64 6) ∧ W.cell? ⟨w.heap.size, 1, none⟩ = some (.int .i64 xa) ∧ W.cell? ⟨w.heap.size, 2, none⟩ = some (.int .i64 xb) ∧ W.cell? ⟨w.heap.size, 3, none⟩ = some (.int .i64 xc)) (first | exact ⟨c5, y0, y1, y2, y3⟩ | exact s2)
      (first
        | (go_at_call 145; refine (KE.out _ ?_).mono ?_; first | exact HI.out | exact HD.out _; rintro e w2 ⟨rfl, P', hP', q⟩; have HQ := hide q; have HP := hide hP'; clear q hP'; have s2 := (fun (z : _ ∧ _ ∧ _) => (⟨z.2.2, z.1.1, z.1.2.1, z.1.2.2.1, z.1.2.2.2⟩ : _ ∧ _ ∧ _ ∧ _ ∧ _)) (SX.out w2 P' (PE.out P' ⟨_, _, _, HP.out⟩).1 (PE.out P' ⟨_, _, _, HP.out⟩).2.1 (PE.out P' ⟨_, _, _, HP.out⟩).2.2 HQ.out))
        | fail)
    go_wp2_with fail
    exact fin6.out _ _ HP.out HQ.out
  have k6' : (kd == 6) = false := beq_eq_false_iff_ne.2 k6
  clear KA KC KE fin2 fin3 fin6
  replace fin0 : Hid _ := hide (fin0.out · · k2 k3 k6)
  go_enter Tryz.func74, Tryz.ntmps74
  go_upto_region 8 with fail
  go_region_held3 (fun W => W.cell? ⟨g, 4, none⟩ = some (.pointer (some ⟨P.gm, 0, none⟩)) ∧ W.cell? ⟨w.heap.size, 0, none⟩ = some (.int .i64 kd) ∧ W.cell? ⟨w.heap.size, 1, none⟩ = some (.int .i64 xa) ∧ W.cell? ⟨w.heap.size, 2, none⟩ = some (.int .i64 xb) ∧ W.cell? ⟨w.heap.size, 3, none⟩ = some (.int .i64 xc)) (first | exact ⟨c4, y0, y1, y2, y3⟩ | exact s2)
    (first
      | (go_at_call 146; refine (KM.out _ ?_).mono ?_; first | exact HI.out | exact HD.out _; rintro e w2 ⟨rfl, P', hP', q⟩; have HQ := hide q; have HP := hide hP'; clear q hP'; have s2 := (fun (z : _ ∧ _ ∧ _) => (⟨z.2.1, z.1.1, z.1.2.1, z.1.2.2.1, z.1.2.2.2⟩ : _ ∧ _ ∧ _ ∧ _ ∧ _)) (SX.out w2 P' (PE.out P' ⟨_, _, _, HP.out⟩).1 (PE.out P' ⟨_, _, _, HP.out⟩).2.1 (PE.out P' ⟨_, _, _, HP.out⟩).2.2 HQ.out))
      | fail)
  go_wp2_with fail
  exact fin0.out _ _ HP.out HQ.out
end
end Go.Proofs.YtocmngpoemfpkabGreatDoor

namespace Go.Proofs.YtocmngpoemfpkabGreatDoor
open Go.RowKit
theorem Its.put1 {w0 w : World} {b : Nat} {C : Array Value} {t : TypeId} {l : List It} (h : Its w0 (.box b C t :: l) w) (i : Nat) (x : Value) : Its w0 (.box b (C.setIfInBounds i x) t :: l) (w.setCell ⟨b, i, none⟩ x) :=
  h.chg (x' := .box b (C.setIfInBounds i x) t) (heap_put h.one x) (fun k hk => .inl hk) (Frm.set w b i x)
theorem Its.boxN {w0 w : World} {l : List It} (h : Its w0 l w) (C : Array Value) (t : TypeId) {n : Nat} (hn : w.heap.size = n) : Its w0 (.box n C t :: l) (w.alloc (.cells C t)) := by
  subst hn
  exact h.box1 C t
end Go.Proofs.YtocmngpoemfpkabGreatDoor

namespace Go.Proofs.YtocmngpoemfpkabGreatDoor
def pfx (m : Nt) (i : Nat) : Nat := ((m.vs.take i).flatMap num).length
def ys (m : Nt) (i : Nat) : List Int := (m.vs.take i).map (fun v : Nat => (v : Int)) ++ List.replicate (3 - i) 0
def Out (l : List Int) (i at' : Nat) (xs : List Int) : Prop := ∀ m, Fst l m → at' = 2 + pfx m i ∧ xs = ys m i
end Go.Proofs.YtocmngpoemfpkabGreatDoor
