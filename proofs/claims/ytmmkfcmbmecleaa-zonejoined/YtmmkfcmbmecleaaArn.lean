/- A path around full nodes; a path. -/
import Derived.Test.YtmmkfcmbmecleaaPat
namespace Go.Proofs.Ytmmkfcmbmecleaa
open Go.RowKit
set_option linter.unusedVariables false

theorem int_new2 (w : World) (x y : Int) (g : Nat) (hg : g = w.heap.size) : intE.Rd (w.alloc (.cells #[.int .i64 x, .int .i64 y] 3)) (.slice (some ⟨g, 0, none⟩) 2 2) [x, y] :=
  (El.Own.new intE w w.heap.size (Nat.le_refl _) _ [x, y] rfl (by simp) _ _ _ hg rfl rfl).rd
theorem mk_of {w : World} {v : Value} {xs : List Int} {B : Nat} (h : intE.Own w B v xs) (hl : xs.length ≤ 100000) : ∃ aC cC, v = .slice aC xs.length cC ∧ Mk w aC cC xs.length xs := by
  obtain ⟨aC, cC, rfl⟩ := h.rd.form
  exact ⟨aC, cC, rfl, rfl, h.rd, hl⟩
theorem shut_nil (es : List Ed) (b : Int) : shut es b [] = [] := by
  apply List.eq_nil_iff_forall_not_mem.2
  intro d hd
  obtain ⟨i, e, _, _, _, h⟩ := (dvs_mem es _ d _).1 hd
  simp at h

/-- a box of ways that was made and is written -/
theorem box_put {W0 W : World} {q : Nat} {z0 z1 z2 z3 z4 : Value} (hq : W.heap[q]? = some (.cells #[z0, z1, z2, z3, z4] 80)) (hg : W0.heap.size ≤ q) (hb : Below W0.heap.size W0 W) (v0 v1 v2 v3 v4 : Value) :
    Below W0.heap.size W0 (((((W.setCell ⟨q, 0, none⟩ v0).setCell ⟨q, 1, none⟩ v1).setCell ⟨q, 2, none⟩ v2).setCell ⟨q, 3, none⟩ v3).setCell ⟨q, 4, none⟩ v4) ∧
    (((((W.setCell ⟨q, 0, none⟩ v0).setCell ⟨q, 1, none⟩ v1).setCell ⟨q, 2, none⟩ v2).setCell ⟨q, 3, none⟩ v3).setCell ⟨q, 4, none⟩ v4).heap[q]? = some (.cells #[v0, v1, v2, v3, v4] 80) ∧
    ∀ (B : Nat) (v : Value) (xs : List Int), intE.Own W B v xs → intE.Own (((((W.setCell ⟨q, 0, none⟩ v0).setCell ⟨q, 1, none⟩ v1).setCell ⟨q, 2, none⟩ v2).setCell ⟨q, 3, none⟩ v3).setCell ⟨q, 4, none⟩ v4) B v xs := by
  refine ⟨((((hb.setCell (p := ⟨q, 0, none⟩) hg _).setCell (p := ⟨q, 1, none⟩) hg _).setCell (p := ⟨q, 2, none⟩) hg _).setCell (p := ⟨q, 3, none⟩) hg _).setCell (p := ⟨q, 4, none⟩) hg _, heap_put (heap_put (heap_put (heap_put (heap_put hq v0) v1) v2) v3) v4, fun B v xs ho => ?_⟩
  have hne : v.ownBlock ≠ some q := fun e => by
    rcases ho.2 with ⟨hx, _⟩ | ⟨q', cap, cur, hx, h2, h3, _⟩
    · rw [hx] at e; cases e
    · rw [hx] at e
      obtain rfl := Option.some.inj e
      rw [hq] at h3
      simp only [Option.some.injEq, Obj.cells.injEq] at h3
      exact absurd h3.2.1 (by decide)
  exact own_set_other (own_set_other (own_set_other (own_set_other (own_set_other ho hne) hne) hne) hne) hne

set_option maxRecDepth 100000 in
theorem around_no (a a' aM : Option Addr) (c c' cM n m k0 : Nat) (x y : Int) (vF : Value) (w : World) (hx : ¬ ((0 ≤ x ∧ x < (n : Int)) ∧ 0 ≤ y ∧ y < (n : Int))) :
    Calls Try.prog 33 #[.agg #[.slice a n c, .slice a' m c'], .slice aM k0 cM, .int .i64 x, .int .i64 y, vF] w fun e w' => e = .returned (.tuple #[.slice none 0 0, .int .i64 1]) ∧ Below w.heap.size w w' := by
  obtain ⟨W0, hW0⟩ : ∃ W0, w.alloc (.cells #[.slice a n c, .slice a' m c'] 25) = W0 := ⟨_, rfl⟩
  have bA : Below w.heap.size w W0 := by rw [← hW0]; exact (Below.refl _ _).alloc (Nat.le_refl _) _
  have hbox : W0.heap[w.heap.size]? = some (.cells #[.slice a n c, .slice a' m c'] 25) := by rw [← hW0]; exact heap_new _ _
  have HA := hide bA
  have HW0 := hide hW0
  have d0 := (cells_at hbox 0).1
  have d1 := (cells_at hbox 1).1
  simp at d0 d1
  have b1 : Below W0.heap.size W0 (W0.alloc (.cells #[.int .i64 x, .int .i64 y] 3)) := (Below.refl _ _).alloc (Nat.le_refl _) _
  have Hb1 := hide b1
  have K28 : Hid (∀ W, Below W0.heap.size W0 W → intE.Rd W (.slice (some ⟨W0.heap.size, 0, none⟩) 2 2) [x, y] → Calls Try.prog 39 #[.agg #[.slice a n c, .slice a' m c'], .slice (some ⟨W0.heap.size, 0, none⟩) 2 2] W fun e w' => e = .returned (.bool false) ∧ Below W.heap.size W w') := hide (fun W h hr => by
    have := places_any a a' (some ⟨W0.heap.size, 0, none⟩) n c m c' 2 2 [x, y] W rfl hr (by omega)
    rwa [place2, decide_eq_false hx] at this)
  clear b1 hx hbox bA hW0
  go_enter Try.func33, Try.ntmps33
  go_upto_region 1 with fail
  rw [HW0.out]
  clear HW0
  go_wp2_with (go_at_call 39; refine (K28.out _ Hb1.out (int_new2 _ _ _ _ rfl)).mono ?_; rintro e W2 ⟨rfl, hb2⟩; have Hb2 : Hid (Below W0.heap.size W0 W2) := hide (Hb1.out.trans (hb2.mono Hb1.out.size)); clear hb2 d0 d1)
  refine bodyPost_ret (v := .tuple #[.slice none 0 0, .int .i64 1]) (by simp [results, Try.results33, go_sem]) rfl ⟨rfl, HA.out.trans (Hb2.out.mono HA.out.size)⟩

set_option maxRecDepth 100000 in
set_option maxHeartbeats 4000000 in
theorem around_ok (a a' aM aX : Option Addr) (c c' cM cX n m k0 kX u t : Nat) (ns : List Nd) (es : List Ed) (ms fs : List Int) (w : World) (hL : Ly w a a' c c' n m ns es) (hM : Mk w aM cM k0 ms) (hF : Mk w aX cX kX fs) (hk : k0 ≤ 1000) (hu : u < n) (ht : t < n) :
    Calls Try.prog 33 #[.agg #[.slice a n c, .slice a' m c'], .slice aM k0 cM, .int .i64 (u : Int), .int .i64 (t : Int), .slice aX kX cX] w fun e w' => (∃ l, Gr ns es (ms ++ shut es (t : Int) fs) l t n ∧ ((va l u = -1 ∧ e = .returned (.tuple #[.slice none 0 0, .int .i64 80])) ∨ ∃ (k : Nat) (v : Value), va l u = (k : Int) ∧ e = .returned (.tuple #[v, .int .i64 0]) ∧ intE.Own w' w.heap.size v (pth ns es (ms ++ shut es (t : Int) fs) l t k u))) ∧ Below w.heap.size w w' := by
  obtain ⟨W0, hW0⟩ : ∃ W0, w.alloc (.cells #[.slice a n c, .slice a' m c'] 25) = W0 := ⟨_, rfl⟩
  have bA : Below w.heap.size w W0 := by rw [← hW0]; exact (Below.refl _ _).alloc (Nat.le_refl _) _
  have hbox : W0.heap[w.heap.size]? = some (.cells #[.slice a n c, .slice a' m c'] 25) := by rw [← hW0]; exact heap_new _ _
  have HBOX := hide hbox
  have HA := hide bA
  have HW0 := hide hW0
  have d0 := (cells_at hbox 0).1
  have d1 := (cells_at hbox 1).1
  simp at d0 d1
  have HLW : Hid (∀ W, Below W0.heap.size W0 W → Ly W a a' c c' n m ns es ∧ Mk W aM cM k0 ms ∧ Mk W aX cX kX fs) := hide (fun W h => ⟨hL.keep (bA.trans (h.mono bA.size)), hM.keep (bA.trans (h.mono bA.size)), hF.keep (bA.trans (h.mono bA.size))⟩)
  have b1 : Below W0.heap.size W0 (W0.alloc (.cells #[.int .i64 (u : Int), .int .i64 (t : Int)] 3)) := (Below.refl _ _).alloc (Nat.le_refl _) _
  have Hb1 := hide b1
  have K28 : Hid (∀ W, Below W0.heap.size W0 W → intE.Rd W (.slice (some ⟨W0.heap.size, 0, none⟩) 2 2) [(u : Int), (t : Int)] → Calls Try.prog 39 #[.agg #[.slice a n c, .slice a' m c'], .slice (some ⟨W0.heap.size, 0, none⟩) 2 2] W fun e w' => e = .returned (.bool true) ∧ Below W.heap.size W w') := hide (fun W h hr => by
    have := places_any a a' (some ⟨W0.heap.size, 0, none⟩) n c m c' 2 2 [(u : Int), (t : Int)] W rfl hr (by omega)
    rwa [place2, decide_eq_true ⟨⟨by omega, by omega⟩, by omega, by omega⟩] at this)
  have Hshl : Hid ((shut es (t : Int) fs).length ≤ 1000) := hide (by
    have h1 : (shut es (t : Int) fs).length ≤ es.length := dvs_len es _ _
    have h2 := hL.hm; have h3 := hL.m4; omega)
  have K32 : Hid (∀ W, Below W0.heap.size W0 W → Calls Try.prog 42 #[.agg #[.slice a n c, .slice a' m c'], .int .i64 (t : Int), .slice aX kX cX] W fun e w' => (∃ v, e = .returned v ∧ intE.Own w' W.heap.size v (shut es (t : Int) fs)) ∧ Below W.heap.size W w') := hide (fun W h => shut_any a a' aX c c' n m kX cX es (t : Int) fs W hL.hm (HLW.out W h).1.hu (by have := hL.m4; omega) hF.hk (HLW.out W h).2.2.hM hF.k4)
  obtain ⟨sh, hsh⟩ : ∃ sh, shut es (t : Int) fs = sh := ⟨_, rfl⟩
  rw [hsh] at Hshl K32
  rw [hsh]
  have K31 : Hid (∀ (W : World) (q : Nat) (aD : Option Addr) (nD cD : Nat), Below W0.heap.size W0 W → W.cell? ⟨q, 0, none⟩ = some (.slice aM k0 cM) → W.cell? ⟨q, 1, none⟩ = some (.slice aD nD cD) → sh.length = nD → intE.Rd W (.slice aD nD cD) sh → Calls Try.prog 41 #[.slice (some ⟨q, 0, none⟩) 2 2] W fun e w' => (∃ aC cC, e = .returned (.slice aC (ms ++ sh).length cC) ∧ intE.Own w' W.heap.size (.slice aC (ms ++ sh).length cC) (ms ++ sh)) ∧ Below W.heap.size W w') := hide (fun W q aD nD cD h h0 h1 h2 h3 => (concat_any q aM aD k0 cM nD cD ms sh W hM.hk h2 h0 h1 (HLW.out W h).2.1.hM h3 (by omega) (by have := Hshl.out; omega)).mono (by
    rintro e w' ⟨⟨v, rfl, ho⟩, hb⟩
    obtain ⟨aC, cC, rfl⟩ := ho.rd.form
    exact ⟨⟨aC, cC, rfl, ho⟩, hb⟩))
  have HkC : Hid ((ms ++ sh).length ≤ 100000) := hide (by rw [List.length_append, hM.hk]; have := Hshl.out; omega)
  obtain ⟨kC, hkC⟩ : ∃ kC, (ms ++ sh).length = kC := ⟨_, rfl⟩
  rw [hkC] at K31 HkC
  obtain ⟨cs, hcs⟩ : ∃ cs, ms ++ sh = cs := ⟨_, rfl⟩
  rw [hcs] at K31
  rw [hcs]
  have HkCe : Hid (cs.length = kC) := hide (by rw [← hcs]; exact hkC)
  have K29 : Hid (∀ (W : World) (aC : Option Addr) (cC : Nat), Below W0.heap.size W0 W → intE.Rd W (.slice aC kC cC) cs → Calls Try.prog 40 #[.agg #[.slice a n c, .slice a' m c'], .slice aC kC cC, .int .i64 (t : Int)] W fun e w' => (∃ g l, e = .returned (.agg #[.slice a n c, .slice a' m c', .slice aC kC cC, .int .i64 (t : Int), .slice (some ⟨g, 0, none⟩) n n]) ∧ intE.Own w' W.heap.size (.slice (some ⟨g, 0, none⟩) n n) l ∧ Gr ns es cs l t n) ∧ Below W.heap.size W w') := hide (fun W aC cC h hC => (waysTo_any a a' aC c c' cC n m kC t ns es cs W (HLW.out W h).1 ⟨HkCe.out, hC, HkC.out⟩ ht).mono (by
    rintro e w' ⟨⟨g, l, rfl, ho, hf⟩, hb⟩
    refine ⟨⟨g, l, rfl, ho, hL.hE, ?_, ht⟩, hb⟩
    rw [hL.hm]; exact hf))
  have K33 : Hid (∀ (W : World) (aC : Option Addr) (cC g : Nat) (l : List Int) (k : Nat), Wy W a a' aC c c' cC n m kC t g ns es cs l → va l u = (k : Int) → Calls Try.prog 43 #[.agg #[.slice a n c, .slice a' m c', .slice aC kC cC, .int .i64 (t : Int), .slice (some ⟨g, 0, none⟩) n n], .int .i64 (u : Int)] W fun e w' => (∃ v, e = .returned v ∧ intE.Own w' W.heap.size v (pth ns es cs l t k u)) ∧ Below W.heap.size W w') := hide (fun W aC cC g l k h hk => path_any a a' aC c c' cC n m kC t g u k ns es cs l W h hk)
  have j0 : (0 : Int) ≤ (u : Int) := by omega
  have j1 : (u : Int) < (n : Int) := by omega
  have Hun := hide hu
  obtain ⟨SS, hSS⟩ : ∃ SS : World → Prop, SS = fun W' => Below W0.heap.size W0 W' := ⟨_, rfl⟩
  have s9 : Hid (∀ W', SS W' → Below W0.heap.size W0 W') := hide (fun W' h => by rw [hSS] at h; exact h)
  have s8 : Hid (∀ W', Below W0.heap.size W0 W' → SS W') := hide (fun W' h => by rw [hSS]; exact h)
  have sb : Hid (∀ W', SS W' → W'.cell? ⟨w.heap.size, 0, none⟩ = some (.slice a n c) ∧ W'.cell? ⟨w.heap.size, 1, none⟩ = some (.slice a' m c')) := hide (fun W' h => layc HBOX.out (s9.out W' h))
  clear hL hM hF hk hu ht b1 hbox bA hW0 hSS hsh hkC hcs
  go_enter Try.func33, Try.ntmps33
  go_upto_region 1 with fail
  rw [HW0.out]
  clear HW0
  go_upto_region 3 with (go_at_call 39; refine (K28.out _ Hb1.out (int_new2 _ _ _ _ rfl)).mono ?_; rintro e W2 ⟨rfl, hb2⟩; have Hb2 : Hid (Below W0.heap.size W0 W2) := hide (Hb1.out.trans (hb2.mono Hb1.out.size)); clear hb2 d0 d1)
  clear K28
  obtain ⟨wA, rfl⟩ : ∃ W, W = W2 := ⟨_, rfl⟩
  go_cut [12] (fun v12 wx => ∃ q aC cC g l, v12 = .pointer (some ⟨q, 0, none⟩) ∧ Hid (wx.heap[q]? = some (.cells #[.slice a n c, .slice a' m c', .slice aC kC cC, .int .i64 (t : Int), .slice (some ⟨g, 0, none⟩) n n] 80)) ∧ Hid (Wy wx a a' aC c c' cC n m kC t g ns es cs l) ∧ Hid (Below W0.heap.size W0 wx))
  case first =>
    refine wp_region_held_drew (S := SS) (by kernel_rfl) (s8.out _ (below_heap Hb2.out rfl rfl rfl rfl)) (fun hS0 => ?_)
    obtain ⟨V0, hV0⟩ : ∃ V0, wA.drew = V0 := ⟨_, rfl⟩
    rw [hV0] at hS0 ⊢
    clear hV0
    refine wpAnyH_take (i := 0) (v := .agg #[.slice a n c, .slice a' m c']) rfl (by kernel_rfl) (by kernel_rfl) (by kernel_rfl) (fun _ _ _ h => h) (Or.inl ⟨by rfl, fun W' hW => by obtain ⟨z0, z1⟩ := sb.out W' hW; go_simp⟩) hS0 ?_
    refine wpAnyH_take (i := 1) (v := .slice aM k0 cM) rfl (by kernel_rfl) (by kernel_rfl) (by kernel_rfl) (fun _ _ _ h => h) (Or.inl ⟨by rfl, fun W' hW => by go_simp⟩) hS0 ?_
    refine wpAnyH_take (i := 2) (v := .agg #[.slice a n c, .slice a' m c']) rfl (by kernel_rfl) (by kernel_rfl) (by kernel_rfl) (fun _ _ _ h => h) (Or.inl ⟨by rfl, fun W' hW => by obtain ⟨z0, z1⟩ := sb.out W' hW; go_simp⟩) hS0 ?_
    refine wpAnyH_take (i := 3) (v := .int .i64 (t : Int)) rfl (by kernel_rfl) (by kernel_rfl) (by kernel_rfl) (fun _ _ _ h => h) (Or.inl ⟨by rfl, fun W' hW => by go_simp⟩) hS0 ?_
    refine wpAnyH_take (i := 4) (v := .slice aX kX cX) rfl (by kernel_rfl) (by kernel_rfl) (by kernel_rfl) (fun _ _ _ h => h) (Or.inl ⟨by rfl, fun W' hW => by go_simp⟩) hS0 ?_
    refine wpAnyH_take (i := 8) (v := .int .i64 (t : Int)) rfl (by kernel_rfl) (by kernel_rfl) (by kernel_rfl) (fun _ _ _ h => h) (Or.inl ⟨by rfl, fun W' hW => by go_simp⟩) hS0 ?_
    refine wpAnyH_ready (rs := [5, 10]) (by kernel_rfl) (by simp) ?_
    refine AllReadyH.cons rfl (fun K hK => ?_) (AllReadyH.cons rfl (fun K hK => ?_) AllReadyH.nil)
    · go_simp
      refine (K32.out _ (s9.out _ hS0)).mono ?_
      rintro e V2 ⟨⟨vD, rfl, ho3⟩, hb3⟩
      refine hK.out _ _ (s8.out _ ((s9.out _ hS0).trans (hb3.mono (s9.out _ hS0).size))) (fun hS1 => ?_)
      clear hK K
      obtain ⟨aD, cD, rfl⟩ := ho3.rd.form
      obtain ⟨nD, hnD⟩ : ∃ nD, sh.length = nD := ⟨_, rfl⟩
      rw [hnD] at ho3
      rw [hnD]
      have Hnd := hide hnD
      clear hnD
      have HRd : Hid (intE.Rd V2 (.slice aD nD cD) sh) := hide ho3.rd
      clear ho3
      refine wpAnyH_ready (rs := [6, 10]) (by kernel_rfl) (by simp) ?_
      refine AllReadyH.cons rfl (fun K hK => ?_) (AllReadyH.cons rfl (fun K hK => ?_) AllReadyH.nil)
      · go_simp
        refine hK.out _ _ (s8.out _ ((s9.out _ hS1).alloc (s9.out _ hS1).size _)) (fun hS4 => ?_)
        clear hK K
        have hb6 : Below V2.heap.size V2 (V2.alloc (.cells #[.slice aM k0 cM, .slice aD nD cD] 26)) := (Below.refl _ _).alloc (Nat.le_refl _) _
        have HRd := hide (HRd.out.keep hb6)
        have HRr := hide (heap_new V2 (.cells #[.slice aM k0 cM, .slice aD nD cD] 26))
        have HRrg : Hid (W0.heap.size ≤ V2.heap.size) := hide (s9.out _ hS1).size
        obtain ⟨V5, hV5⟩ : ∃ V5, V2.alloc (.cells #[.slice aM k0 cM, .slice aD nD cD] 26) = V5 := ⟨_, rfl⟩
        obtain ⟨r, hr⟩ : ∃ r, V2.heap.size = r := ⟨_, rfl⟩
        rw [hV5] at HRr hS4 HRd
        rw [hr] at HRr HRrg
        rw [hV5, hr]
        clear hr hb6
        clear hV5
        refine wpAnyH_ready (rs := [7, 10]) (by kernel_rfl) (by simp) ?_
        refine AllReadyH.cons rfl (fun K hK => ?_) (AllReadyH.cons rfl (fun K hK => ?_) AllReadyH.nil)
        · go_simp
          refine (K31.out _ r aD nD cD (s9.out _ hS4) (cells_at HRr.out 0).1 (cells_at HRr.out 1).1 Hnd.out HRd.out).mono ?_
          rintro e V8 ⟨⟨aC, cC, rfl, hm5⟩, hb9⟩
          refine hK.out _ _ (s8.out _ ((s9.out _ hS4).trans (hb9.mono (s9.out _ hS4).size))) (fun hS7 => ?_)
          clear hK K
          clear HRr HRd
          have HMk := hide hm5
          clear hm5
          refine wpAnyH_ready (rs := [9, 10]) (by kernel_rfl) (by simp) ?_
          refine AllReadyH.cons rfl (fun K hK => ?_) (AllReadyH.cons rfl (fun K hK => ?_) AllReadyH.nil)
          · go_simp
            refine (K29.out _ aC cC (s9.out _ hS7) HMk.out.rd).mono ?_
            rintro e V11 ⟨⟨g, l, rfl, hW6, hg6⟩, hb12⟩
            refine hK.out _ _ (s8.out _ ((s9.out _ hS7).trans (hb12.mono (s9.out _ hS7).size))) (fun hS10 => ?_)
            clear hK K
            have HGr := hide hg6
            clear hg6
            have HMk := hide (HMk.out.keep hb12)
            have HFr := hide hW6
            clear hW6
            refine wpAnyH_ready (rs := [10]) (by kernel_rfl) (by simp) ?_
            refine AllReadyH.cons rfl (fun K hK => ?_) AllReadyH.nil
            go_simp
            refine hK.out _ _ (s8.out _ ((s9.out _ hS10).alloc (s9.out _ hS10).size _)) (fun hS13 => ?_)
            clear hK K
            have hb15 : Below V11.heap.size V11 (V11.alloc (.cells #[.slice none 0 0, .slice none 0 0, .slice none 0 0, .int .i64 0, .slice none 0 0] 80)) := (Below.refl _ _).alloc (Nat.le_refl _) _
            have HMk := hide (HMk.out.keep hb15)
            have HFr := hide (HFr.out.keep hb15)
            have HQ := hide (heap_new V11 (.cells #[.slice none 0 0, .slice none 0 0, .slice none 0 0, .int .i64 0, .slice none 0 0] 80))
            have HQg : Hid (W0.heap.size ≤ V11.heap.size) := hide (s9.out _ hS10).size
            obtain ⟨V14, hV14⟩ : ∃ V14, V11.alloc (.cells #[.slice none 0 0, .slice none 0 0, .slice none 0 0, .int .i64 0, .slice none 0 0] 80) = V14 := ⟨_, rfl⟩
            obtain ⟨q, hq⟩ : ∃ q, V11.heap.size = q := ⟨_, rfl⟩
            rw [hV14] at HQ hS13 HMk HFr
            rw [hq] at HQ HQg
            rw [hV14, hq]
            clear hq hb15
            clear hV14
            obtain ⟨y0, f0⟩ := cells_at HQ.out 0
            obtain ⟨y1, f1⟩ := cells_at HQ.out 1
            obtain ⟨y2, f2⟩ := cells_at HQ.out 2
            obtain ⟨y3, f3⟩ := cells_at HQ.out 3
            obtain ⟨y4, f4⟩ := cells_at HQ.out 4
            simp at y0 y1 y2 y3 y4
            have HF := hide (box_put HQ.out HQg.out (s9.out _ hS13))
            refine wpAnyH_ready (rs := [11]) (by kernel_rfl) (by simp) ?_
            refine AllReadyH.cons rfl (fun K hK => ?_) AllReadyH.nil
            go_simp
            refine hK.out _ _ (s8.out _ (HF.out _ _ _ _ _).1) (fun hS16 => ?_)
            clear hK K
            refine wpAnyH_done (by kernel_rfl) ?_ _
            have HB8 : Hid (Below W0.heap.size W0 _) := hide (s9.out _ hS16)
            go_wp2_with fail
            go_meet
            exact ⟨_, aC, cC, g, l, rfl, hide (HF.out _ _ _ _ _).2.1, hide ⟨(HLW.out _ HB8.out).1, ⟨HkCe.out, ((HF.out _ _ _ _ _).2.2 _ _ _ HMk.out).rd, HkC.out⟩, ((HF.out _ _ _ _ _).2.2 _ _ _ HFr.out).rd, HGr.out⟩, HB8⟩
          · go_simp
            refine hK.out _ _ (s8.out _ ((s9.out _ hS7).alloc (s9.out _ hS7).size _)) (fun hS17 => ?_)
            clear hK K
            have hb19 : Below V8.heap.size V8 (V8.alloc (.cells #[.slice none 0 0, .slice none 0 0, .slice none 0 0, .int .i64 0, .slice none 0 0] 80)) := (Below.refl _ _).alloc (Nat.le_refl _) _
            have HMk := hide (HMk.out.keep hb19)
            have HQ := hide (heap_new V8 (.cells #[.slice none 0 0, .slice none 0 0, .slice none 0 0, .int .i64 0, .slice none 0 0] 80))
            have HQg : Hid (W0.heap.size ≤ V8.heap.size) := hide (s9.out _ hS7).size
            obtain ⟨V18, hV18⟩ : ∃ V18, V8.alloc (.cells #[.slice none 0 0, .slice none 0 0, .slice none 0 0, .int .i64 0, .slice none 0 0] 80) = V18 := ⟨_, rfl⟩
            obtain ⟨q, hq⟩ : ∃ q, V8.heap.size = q := ⟨_, rfl⟩
            rw [hV18] at HQ hS17 HMk
            rw [hq] at HQ HQg
            rw [hV18, hq]
            clear hq hb19
            clear hV18
            refine wpAnyH_ready (rs := [9]) (by kernel_rfl) (by simp) ?_
            refine AllReadyH.cons rfl (fun K hK => ?_) AllReadyH.nil
            go_simp
            refine (K29.out _ aC cC (s9.out _ hS17) HMk.out.rd).mono ?_
            rintro e V21 ⟨⟨g, l, rfl, hW6, hg6⟩, hb22⟩
            refine hK.out _ _ (s8.out _ ((s9.out _ hS17).trans (hb22.mono (s9.out _ hS17).size))) (fun hS20 => ?_)
            clear hK K
            have HGr := hide hg6
            clear hg6
            have HMk := hide (HMk.out.keep hb22)
            have HQ := hide ((hb22.block _ (heap_lt HQ.out)).trans HQ.out)
            have HFr := hide hW6
            clear hW6
            obtain ⟨y0, f0⟩ := cells_at HQ.out 0
            obtain ⟨y1, f1⟩ := cells_at HQ.out 1
            obtain ⟨y2, f2⟩ := cells_at HQ.out 2
            obtain ⟨y3, f3⟩ := cells_at HQ.out 3
            obtain ⟨y4, f4⟩ := cells_at HQ.out 4
            simp at y0 y1 y2 y3 y4
            have HF := hide (box_put HQ.out HQg.out (s9.out _ hS20))
            refine wpAnyH_ready (rs := [11]) (by kernel_rfl) (by simp) ?_
            refine AllReadyH.cons rfl (fun K hK => ?_) AllReadyH.nil
            go_simp
            refine hK.out _ _ (s8.out _ (HF.out _ _ _ _ _).1) (fun hS23 => ?_)
            clear hK K
            refine wpAnyH_done (by kernel_rfl) ?_ _
            have HB8 : Hid (Below W0.heap.size W0 _) := hide (s9.out _ hS23)
            go_wp2_with fail
            go_meet
            exact ⟨_, aC, cC, g, l, rfl, hide (HF.out _ _ _ _ _).2.1, hide ⟨(HLW.out _ HB8.out).1, ⟨HkCe.out, ((HF.out _ _ _ _ _).2.2 _ _ _ HMk.out).rd, HkC.out⟩, ((HF.out _ _ _ _ _).2.2 _ _ _ HFr.out).rd, HGr.out⟩, HB8⟩
        · go_simp
          refine hK.out _ _ (s8.out _ ((s9.out _ hS4).alloc (s9.out _ hS4).size _)) (fun hS24 => ?_)
          clear hK K
          have hb26 : Below V5.heap.size V5 (V5.alloc (.cells #[.slice none 0 0, .slice none 0 0, .slice none 0 0, .int .i64 0, .slice none 0 0] 80)) := (Below.refl _ _).alloc (Nat.le_refl _) _
          have HRd := hide (HRd.out.keep hb26)
          have HRr := hide ((hb26.block _ (heap_lt HRr.out)).trans HRr.out)
          have HQ := hide (heap_new V5 (.cells #[.slice none 0 0, .slice none 0 0, .slice none 0 0, .int .i64 0, .slice none 0 0] 80))
          have HQg : Hid (W0.heap.size ≤ V5.heap.size) := hide (s9.out _ hS4).size
          obtain ⟨V25, hV25⟩ : ∃ V25, V5.alloc (.cells #[.slice none 0 0, .slice none 0 0, .slice none 0 0, .int .i64 0, .slice none 0 0] 80) = V25 := ⟨_, rfl⟩
          obtain ⟨q, hq⟩ : ∃ q, V5.heap.size = q := ⟨_, rfl⟩
          rw [hV25] at HQ hS24 HRd HRr
          rw [hq] at HQ HQg
          rw [hV25, hq]
          clear hq hb26
          clear hV25
          refine wpAnyH_ready (rs := [7]) (by kernel_rfl) (by simp) ?_
          refine AllReadyH.cons rfl (fun K hK => ?_) AllReadyH.nil
          go_simp
          refine (K31.out _ r aD nD cD (s9.out _ hS24) (cells_at HRr.out 0).1 (cells_at HRr.out 1).1 Hnd.out HRd.out).mono ?_
          rintro e V28 ⟨⟨aC, cC, rfl, hm5⟩, hb29⟩
          refine hK.out _ _ (s8.out _ ((s9.out _ hS24).trans (hb29.mono (s9.out _ hS24).size))) (fun hS27 => ?_)
          clear hK K
          clear HRr HRd
          have HQ := hide ((hb29.block _ (heap_lt HQ.out)).trans HQ.out)
          have HMk := hide hm5
          clear hm5
          refine wpAnyH_ready (rs := [9]) (by kernel_rfl) (by simp) ?_
          refine AllReadyH.cons rfl (fun K hK => ?_) AllReadyH.nil
          go_simp
          refine (K29.out _ aC cC (s9.out _ hS27) HMk.out.rd).mono ?_
          rintro e V31 ⟨⟨g, l, rfl, hW6, hg6⟩, hb32⟩
          refine hK.out _ _ (s8.out _ ((s9.out _ hS27).trans (hb32.mono (s9.out _ hS27).size))) (fun hS30 => ?_)
          clear hK K
          have HGr := hide hg6
          clear hg6
          have HQ := hide ((hb32.block _ (heap_lt HQ.out)).trans HQ.out)
          have HMk := hide (HMk.out.keep hb32)
          have HFr := hide hW6
          clear hW6
          obtain ⟨y0, f0⟩ := cells_at HQ.out 0
          obtain ⟨y1, f1⟩ := cells_at HQ.out 1
          obtain ⟨y2, f2⟩ := cells_at HQ.out 2
          obtain ⟨y3, f3⟩ := cells_at HQ.out 3
          obtain ⟨y4, f4⟩ := cells_at HQ.out 4
          simp at y0 y1 y2 y3 y4
          have HF := hide (box_put HQ.out HQg.out (s9.out _ hS30))
          refine wpAnyH_ready (rs := [11]) (by kernel_rfl) (by simp) ?_
          refine AllReadyH.cons rfl (fun K hK => ?_) AllReadyH.nil
          go_simp
          refine hK.out _ _ (s8.out _ (HF.out _ _ _ _ _).1) (fun hS33 => ?_)
          clear hK K
          refine wpAnyH_done (by kernel_rfl) ?_ _
          have HB8 : Hid (Below W0.heap.size W0 _) := hide (s9.out _ hS33)
          go_wp2_with fail
          go_meet
          exact ⟨_, aC, cC, g, l, rfl, hide (HF.out _ _ _ _ _).2.1, hide ⟨(HLW.out _ HB8.out).1, ⟨HkCe.out, ((HF.out _ _ _ _ _).2.2 _ _ _ HMk.out).rd, HkC.out⟩, ((HF.out _ _ _ _ _).2.2 _ _ _ HFr.out).rd, HGr.out⟩, HB8⟩
      · go_simp
        refine hK.out _ _ (s8.out _ ((s9.out _ hS1).alloc (s9.out _ hS1).size _)) (fun hS34 => ?_)
        clear hK K
        have hb36 : Below V2.heap.size V2 (V2.alloc (.cells #[.slice none 0 0, .slice none 0 0, .slice none 0 0, .int .i64 0, .slice none 0 0] 80)) := (Below.refl _ _).alloc (Nat.le_refl _) _
        have HRd := hide (HRd.out.keep hb36)
        have HQ := hide (heap_new V2 (.cells #[.slice none 0 0, .slice none 0 0, .slice none 0 0, .int .i64 0, .slice none 0 0] 80))
        have HQg : Hid (W0.heap.size ≤ V2.heap.size) := hide (s9.out _ hS1).size
        obtain ⟨V35, hV35⟩ : ∃ V35, V2.alloc (.cells #[.slice none 0 0, .slice none 0 0, .slice none 0 0, .int .i64 0, .slice none 0 0] 80) = V35 := ⟨_, rfl⟩
        obtain ⟨q, hq⟩ : ∃ q, V2.heap.size = q := ⟨_, rfl⟩
        rw [hV35] at HQ hS34 HRd
        rw [hq] at HQ HQg
        rw [hV35, hq]
        clear hq hb36
        clear hV35
        refine wpAnyH_ready (rs := [6]) (by kernel_rfl) (by simp) ?_
        refine AllReadyH.cons rfl (fun K hK => ?_) AllReadyH.nil
        go_simp
        refine hK.out _ _ (s8.out _ ((s9.out _ hS34).alloc (s9.out _ hS34).size _)) (fun hS37 => ?_)
        clear hK K
        have hb39 : Below V35.heap.size V35 (V35.alloc (.cells #[.slice aM k0 cM, .slice aD nD cD] 26)) := (Below.refl _ _).alloc (Nat.le_refl _) _
        have HRd := hide (HRd.out.keep hb39)
        have HQ := hide ((hb39.block _ (heap_lt HQ.out)).trans HQ.out)
        have HRr := hide (heap_new V35 (.cells #[.slice aM k0 cM, .slice aD nD cD] 26))
        have HRrg : Hid (W0.heap.size ≤ V35.heap.size) := hide (s9.out _ hS34).size
        obtain ⟨V38, hV38⟩ : ∃ V38, V35.alloc (.cells #[.slice aM k0 cM, .slice aD nD cD] 26) = V38 := ⟨_, rfl⟩
        obtain ⟨r, hr⟩ : ∃ r, V35.heap.size = r := ⟨_, rfl⟩
        rw [hV38] at HRr hS37 HRd HQ
        rw [hr] at HRr HRrg
        rw [hV38, hr]
        clear hr hb39
        clear hV38
        refine wpAnyH_ready (rs := [7]) (by kernel_rfl) (by simp) ?_
        refine AllReadyH.cons rfl (fun K hK => ?_) AllReadyH.nil
        go_simp
        refine (K31.out _ r aD nD cD (s9.out _ hS37) (cells_at HRr.out 0).1 (cells_at HRr.out 1).1 Hnd.out HRd.out).mono ?_
        rintro e V41 ⟨⟨aC, cC, rfl, hm5⟩, hb42⟩
        refine hK.out _ _ (s8.out _ ((s9.out _ hS37).trans (hb42.mono (s9.out _ hS37).size))) (fun hS40 => ?_)
        clear hK K
        clear HRr HRd
        have HQ := hide ((hb42.block _ (heap_lt HQ.out)).trans HQ.out)
        have HMk := hide hm5
        clear hm5
        refine wpAnyH_ready (rs := [9]) (by kernel_rfl) (by simp) ?_
        refine AllReadyH.cons rfl (fun K hK => ?_) AllReadyH.nil
        go_simp
        refine (K29.out _ aC cC (s9.out _ hS40) HMk.out.rd).mono ?_
        rintro e V44 ⟨⟨g, l, rfl, hW6, hg6⟩, hb45⟩
        refine hK.out _ _ (s8.out _ ((s9.out _ hS40).trans (hb45.mono (s9.out _ hS40).size))) (fun hS43 => ?_)
        clear hK K
        have HGr := hide hg6
        clear hg6
        have HQ := hide ((hb45.block _ (heap_lt HQ.out)).trans HQ.out)
        have HMk := hide (HMk.out.keep hb45)
        have HFr := hide hW6
        clear hW6
        obtain ⟨y0, f0⟩ := cells_at HQ.out 0
        obtain ⟨y1, f1⟩ := cells_at HQ.out 1
        obtain ⟨y2, f2⟩ := cells_at HQ.out 2
        obtain ⟨y3, f3⟩ := cells_at HQ.out 3
        obtain ⟨y4, f4⟩ := cells_at HQ.out 4
        simp at y0 y1 y2 y3 y4
        have HF := hide (box_put HQ.out HQg.out (s9.out _ hS43))
        refine wpAnyH_ready (rs := [11]) (by kernel_rfl) (by simp) ?_
        refine AllReadyH.cons rfl (fun K hK => ?_) AllReadyH.nil
        go_simp
        refine hK.out _ _ (s8.out _ (HF.out _ _ _ _ _).1) (fun hS46 => ?_)
        clear hK K
        refine wpAnyH_done (by kernel_rfl) ?_ _
        have HB8 : Hid (Below W0.heap.size W0 _) := hide (s9.out _ hS46)
        go_wp2_with fail
        go_meet
        exact ⟨_, aC, cC, g, l, rfl, hide (HF.out _ _ _ _ _).2.1, hide ⟨(HLW.out _ HB8.out).1, ⟨HkCe.out, ((HF.out _ _ _ _ _).2.2 _ _ _ HMk.out).rd, HkC.out⟩, ((HF.out _ _ _ _ _).2.2 _ _ _ HFr.out).rd, HGr.out⟩, HB8⟩
    · go_simp
      refine hK.out _ _ (s8.out _ ((s9.out _ hS0).alloc (s9.out _ hS0).size _)) (fun hS47 => ?_)
      clear hK K
      have hb49 : Below V0.heap.size V0 (V0.alloc (.cells #[.slice none 0 0, .slice none 0 0, .slice none 0 0, .int .i64 0, .slice none 0 0] 80)) := (Below.refl _ _).alloc (Nat.le_refl _) _
      have HQ := hide (heap_new V0 (.cells #[.slice none 0 0, .slice none 0 0, .slice none 0 0, .int .i64 0, .slice none 0 0] 80))
      have HQg : Hid (W0.heap.size ≤ V0.heap.size) := hide (s9.out _ hS0).size
      obtain ⟨V48, hV48⟩ : ∃ V48, V0.alloc (.cells #[.slice none 0 0, .slice none 0 0, .slice none 0 0, .int .i64 0, .slice none 0 0] 80) = V48 := ⟨_, rfl⟩
      obtain ⟨q, hq⟩ : ∃ q, V0.heap.size = q := ⟨_, rfl⟩
      rw [hV48] at HQ hS47 
      rw [hq] at HQ HQg
      rw [hV48, hq]
      clear hq hb49
      clear hV48
      refine wpAnyH_ready (rs := [5]) (by kernel_rfl) (by simp) ?_
      refine AllReadyH.cons rfl (fun K hK => ?_) AllReadyH.nil
      go_simp
      refine (K32.out _ (s9.out _ hS47)).mono ?_
      rintro e V51 ⟨⟨vD, rfl, ho3⟩, hb52⟩
      refine hK.out _ _ (s8.out _ ((s9.out _ hS47).trans (hb52.mono (s9.out _ hS47).size))) (fun hS50 => ?_)
      clear hK K
      obtain ⟨aD, cD, rfl⟩ := ho3.rd.form
      obtain ⟨nD, hnD⟩ : ∃ nD, sh.length = nD := ⟨_, rfl⟩
      rw [hnD] at ho3
      rw [hnD]
      have Hnd := hide hnD
      clear hnD
      have HQ := hide ((hb52.block _ (heap_lt HQ.out)).trans HQ.out)
      have HRd : Hid (intE.Rd V51 (.slice aD nD cD) sh) := hide ho3.rd
      clear ho3
      refine wpAnyH_ready (rs := [6]) (by kernel_rfl) (by simp) ?_
      refine AllReadyH.cons rfl (fun K hK => ?_) AllReadyH.nil
      go_simp
      refine hK.out _ _ (s8.out _ ((s9.out _ hS50).alloc (s9.out _ hS50).size _)) (fun hS53 => ?_)
      clear hK K
      have hb55 : Below V51.heap.size V51 (V51.alloc (.cells #[.slice aM k0 cM, .slice aD nD cD] 26)) := (Below.refl _ _).alloc (Nat.le_refl _) _
      have HQ := hide ((hb55.block _ (heap_lt HQ.out)).trans HQ.out)
      have HRd := hide (HRd.out.keep hb55)
      have HRr := hide (heap_new V51 (.cells #[.slice aM k0 cM, .slice aD nD cD] 26))
      have HRrg : Hid (W0.heap.size ≤ V51.heap.size) := hide (s9.out _ hS50).size
      obtain ⟨V54, hV54⟩ : ∃ V54, V51.alloc (.cells #[.slice aM k0 cM, .slice aD nD cD] 26) = V54 := ⟨_, rfl⟩
      obtain ⟨r, hr⟩ : ∃ r, V51.heap.size = r := ⟨_, rfl⟩
      rw [hV54] at HRr hS53 HQ HRd
      rw [hr] at HRr HRrg
      rw [hV54, hr]
      clear hr hb55
      clear hV54
      refine wpAnyH_ready (rs := [7]) (by kernel_rfl) (by simp) ?_
      refine AllReadyH.cons rfl (fun K hK => ?_) AllReadyH.nil
      go_simp
      refine (K31.out _ r aD nD cD (s9.out _ hS53) (cells_at HRr.out 0).1 (cells_at HRr.out 1).1 Hnd.out HRd.out).mono ?_
      rintro e V57 ⟨⟨aC, cC, rfl, hm5⟩, hb58⟩
      refine hK.out _ _ (s8.out _ ((s9.out _ hS53).trans (hb58.mono (s9.out _ hS53).size))) (fun hS56 => ?_)
      clear hK K
      clear HRr HRd
      have HQ := hide ((hb58.block _ (heap_lt HQ.out)).trans HQ.out)
      have HMk := hide hm5
      clear hm5
      refine wpAnyH_ready (rs := [9]) (by kernel_rfl) (by simp) ?_
      refine AllReadyH.cons rfl (fun K hK => ?_) AllReadyH.nil
      go_simp
      refine (K29.out _ aC cC (s9.out _ hS56) HMk.out.rd).mono ?_
      rintro e V60 ⟨⟨g, l, rfl, hW6, hg6⟩, hb61⟩
      refine hK.out _ _ (s8.out _ ((s9.out _ hS56).trans (hb61.mono (s9.out _ hS56).size))) (fun hS59 => ?_)
      clear hK K
      have HGr := hide hg6
      clear hg6
      have HQ := hide ((hb61.block _ (heap_lt HQ.out)).trans HQ.out)
      have HMk := hide (HMk.out.keep hb61)
      have HFr := hide hW6
      clear hW6
      obtain ⟨y0, f0⟩ := cells_at HQ.out 0
      obtain ⟨y1, f1⟩ := cells_at HQ.out 1
      obtain ⟨y2, f2⟩ := cells_at HQ.out 2
      obtain ⟨y3, f3⟩ := cells_at HQ.out 3
      obtain ⟨y4, f4⟩ := cells_at HQ.out 4
      simp at y0 y1 y2 y3 y4
      have HF := hide (box_put HQ.out HQg.out (s9.out _ hS59))
      refine wpAnyH_ready (rs := [11]) (by kernel_rfl) (by simp) ?_
      refine AllReadyH.cons rfl (fun K hK => ?_) AllReadyH.nil
      go_simp
      refine hK.out _ _ (s8.out _ (HF.out _ _ _ _ _).1) (fun hS62 => ?_)
      clear hK K
      refine wpAnyH_done (by kernel_rfl) ?_ _
      have HB8 : Hid (Below W0.heap.size W0 _) := hide (s9.out _ hS62)
      go_wp2_with fail
      go_meet
      exact ⟨_, aC, cC, g, l, rfl, hide (HF.out _ _ _ _ _).2.1, hide ⟨(HLW.out _ HB8.out).1, ⟨HkCe.out, ((HF.out _ _ _ _ _).2.2 _ _ _ HMk.out).rd, HkC.out⟩, ((HF.out _ _ _ _ _).2.2 _ _ _ HFr.out).rd, HGr.out⟩, HB8⟩
  case rest =>
  obtain ⟨q, aC, cC, g, l, rfl, HQ, HW8, HB8⟩ := hcut
  rename_i W8
  have Hg : Hid (va l u = -1 ∨ ∃ k : Nat, va l u = (k : Int)) := hide (by
    have := HW8.out.gr.low u
    rcases Int.lt_or_le (va l u) 0 with h | h
    · exact .inl (by omega)
    · exact .inr (Int.eq_ofNat_of_zero_le h))
  have Hgr := hide HW8.out.gr
  have Hsz : Hid (w.heap.size ≤ wc.heap.size) := hide (Nat.le_trans HA.out.size HB8.out.size)
  obtain ⟨y0, y1, y2, y3, y4⟩ := box5 HQ.out (Below.refl _ _)
  have y5 := HW8.out.at u Hun.out

  rcases Hg.out with h1 | ⟨k, h1⟩
  · rw [h1] at y5
    go_wp2_with fail
    refine bodyPost_ret (v := .tuple #[.slice none 0 0, .int .i64 80]) (by simp [results, Try.results33, go_sem]) rfl ⟨⟨l, Hgr.out, .inl ⟨h1, rfl⟩⟩, HA.out.trans (HB8.out.mono HA.out.size)⟩
  · rw [h1] at y5
    have h2 : ¬ ((k : Int) < 0) := by omega
    have H1 := hide h1
    clear h1
    go_wp2_with (go_at_call 43; refine (K33.out _ aC cC g l k HW8.out H1.out).mono ?_; rintro e W9 ⟨⟨v, rfl, ho9⟩, hb9⟩; have HO9 := hide (ho9.mono Hsz.out); have HB9 : Hid (Below W0.heap.size W0 W9) := hide (HB8.out.trans (hb9.mono HB8.out.size)); clear ho9 hb9)
    refine bodyPost_ret (v := .tuple #[v, .int .i64 0]) (by simp [results, Try.results33, go_sem]) rfl ⟨⟨l, Hgr.out, .inr ⟨k, v, H1.out, rfl, HO9.out⟩⟩, HA.out.trans (HB9.out.mono HA.out.size)⟩

set_option maxRecDepth 100000 in
theorem path_no (a a' aM : Option Addr) (c c' cM n m k0 : Nat) (x y : Int) (w : World) (hx : ¬ ((0 ≤ x ∧ x < (n : Int)) ∧ 0 ≤ y ∧ y < (n : Int))) :
    Calls Try.prog 20 #[.agg #[.slice a n c, .slice a' m c'], .slice aM k0 cM, .int .i64 x, .int .i64 y] w fun e w' => e = .returned (.tuple #[.slice none 0 0, .int .i64 1]) ∧ Below w.heap.size w w' := by
  obtain ⟨W0, hW0⟩ : ∃ W0, w.alloc (.cells #[.slice a n c, .slice a' m c'] 25) = W0 := ⟨_, rfl⟩
  have bA : Below w.heap.size w W0 := by rw [← hW0]; exact (Below.refl _ _).alloc (Nat.le_refl _) _
  have hbox : W0.heap[w.heap.size]? = some (.cells #[.slice a n c, .slice a' m c'] 25) := by rw [← hW0]; exact heap_new _ _
  have HA := hide bA
  have HW0 := hide hW0
  have d0 := (cells_at hbox 0).1
  have d1 := (cells_at hbox 1).1
  simp at d0 d1
  have K18 := hide (around_no a a' aM c c' cM n m k0 x y (.slice none 0 0) W0 hx)
  clear hx hbox bA hW0
  go_enter Try.func20, Try.ntmps20
  go_upto_region 1 with fail
  rw [HW0.out]
  clear HW0
  go_wp2_with (go_at_call 33; refine (K18.out).mono ?_; rintro e W2 ⟨rfl, hb2⟩; have Hb2 := hide hb2; clear hb2 d0 d1)
  refine bodyPost_ret (v := .tuple #[.slice none 0 0, .int .i64 1]) (by simp [results, Try.results20, go_sem]) rfl ⟨rfl, HA.out.trans (Hb2.out.mono HA.out.size)⟩

set_option maxRecDepth 100000 in
set_option maxHeartbeats 4000000 in
theorem path_ok (a a' aM : Option Addr) (c c' cM n m k0 u t : Nat) (ns : List Nd) (es : List Ed) (ms : List Int) (w : World) (hL : Ly w a a' c c' n m ns es) (hM : Mk w aM cM k0 ms) (hk : k0 ≤ 1000) (hu : u < n) (ht : t < n) :
    Calls Try.prog 20 #[.agg #[.slice a n c, .slice a' m c'], .slice aM k0 cM, .int .i64 (u : Int), .int .i64 (t : Int)] w fun e w' => (∃ l, Gr ns es ms l t n ∧ ((va l u = -1 ∧ e = .returned (.tuple #[.slice none 0 0, .int .i64 80])) ∨ ∃ (k : Nat) (v : Value), va l u = (k : Int) ∧ e = .returned (.tuple #[v, .int .i64 0]) ∧ intE.Own w' w.heap.size v (pth ns es ms l t k u))) ∧ Below w.heap.size w w' := by
  obtain ⟨W0, hW0⟩ : ∃ W0, w.alloc (.cells #[.slice a n c, .slice a' m c'] 25) = W0 := ⟨_, rfl⟩
  have bA : Below w.heap.size w W0 := by rw [← hW0]; exact (Below.refl _ _).alloc (Nat.le_refl _) _
  have hbox : W0.heap[w.heap.size]? = some (.cells #[.slice a n c, .slice a' m c'] 25) := by rw [← hW0]; exact heap_new _ _
  have HA := hide bA
  have HW0 := hide hW0
  have d0 := (cells_at hbox 0).1
  have d1 := (cells_at hbox 1).1
  simp at d0 d1
  have K18 := around_ok a a' aM none c c' cM 0 n m k0 0 u t ns es ms [] W0 (hL.keep bA) (hM.keep bA) ⟨rfl, .inl ⟨rfl, rfl⟩, by omega⟩ hk hu ht
  rw [shut_nil, List.append_nil] at K18
  have K18 := hide K18
  clear hL hM hk hu ht hbox bA hW0
  go_enter Try.func20, Try.ntmps20
  go_upto_region 1 with fail
  rw [HW0.out]
  clear HW0
  go_wp2_with (go_at_call 33; refine (K18.out).mono ?_; rintro e W2 ⟨⟨l, hg, hres⟩, hb2⟩; have Hb2 := hide hb2; have Hg := hide hg; obtain ⟨v, cd, rfl, hq⟩ : ∃ v cd, e = .returned (.tuple #[v, .int .i64 cd]) ∧ ((va l u = -1 ∧ v = .slice none 0 0 ∧ cd = 80) ∨ ∃ k : Nat, va l u = (k : Int) ∧ cd = 0 ∧ intE.Own W2 W0.heap.size v (pth ns es ms l t k u)) := (by
    rcases hres with ⟨h1, h2⟩ | ⟨k, v, h1, h2, h3⟩
    · exact ⟨_, _, h2, .inl ⟨h1, rfl, rfl⟩⟩
    · exact ⟨_, _, h2, .inr ⟨k, h1, rfl, h3⟩⟩); have Hq := hide hq; clear hb2 d0 d1 hg hq hres)
  refine bodyPost_ret (v := .tuple #[v, .int .i64 cd]) (by simp [results, Try.results20, go_sem]) rfl ⟨⟨l, Hg.out, ?_⟩, HA.out.trans (Hb2.out.mono HA.out.size)⟩
  rcases Hq.out with ⟨h1, rfl, rfl⟩ | ⟨k, h1, rfl, h3⟩
  · exact .inl ⟨h1, rfl⟩
  · exact .inr ⟨k, v, h1, rfl, h3.mono HA.out.size⟩
end Go.Proofs.Ytmmkfcmbmecleaa
