/- The document's Cut. -/
import Derived.Test.YthimeobnfkoefaaArgs
namespace Go.Proofs.Ythimeobnfkoefaa
open Go.RowKit
set_option linter.unusedVariables false

/-- append in a region whose operation is guarded -/
theorem stepW {P : Program} {α : Type} (E : El P α) {B : Nat} {w : World} (hB : B ≤ w.heap.size) {ops : Array Oper} {o : Oper} {a : Act} {K : Act → World → Prop} {Q : Exit → Act → World → Prop} {F : Prop} (hw : Region.wanted o (yielded ops a.tmps) = true) (s x : Operand)
    (ho : o.op = .call { callee := .builtin .append, args := #[s, x], argTypes := #[E.t, E.t] }) (v u : Value) (hs : a.eval s = v) (hx : a.eval x = u)
    (xs ys : List α) (hown : E.Own w B v xs) (hu : E.Rd w u ys) (hn : xs.length + ys.length ≤ 1000000)
    (h : ∀ v' w', E.Own w' B v' (xs ++ ys) → w.grownBy w' v.ownBlock → (v'.ownBlock = v.ownBlock ∨ v'.ownBlock = some w.heap.size) → K (a.put o.dst v') w') :
    if Region.wanted o (yielded ops a.tmps) = true then Oper.wp P o a w K Q else F := by
  rw [if_pos hw]
  obtain ⟨v', w', hr, h2, h3, h4⟩ := E.run hown hB hu hn o.type
  unfold Oper.wp execOp
  simp only [ho, resolve, invoke, builtin, Sem.run_bind, Sem.run_pure, Result.andThen_ok, List.map_toArray, List.map_cons, List.map_nil, hs, hx, hr]
  exact h v' w' h2 h3 h4
theorem El.Own.alloc {α : Type} {E : El Try.prog α} {w : World} {B : Nat} {v : Value} {xs : List α} (h : E.Own w B v xs) (o : Obj) : E.Own (w.alloc o) B v xs := World.ownsRow.alloc h o
/-- a list that lies beside what was appended to -/
theorem rd_beside {w w' : World} {B : Nat} {v u : Value} {xs ys : List Int} (hv : intE.Own w B v xs) (hu : intE.Own w B u ys) (hs : Sep v u) (hg : w.grownBy w' v.ownBlock) : intE.Own w' B u ys := El.Own.kept hs hu hg

set_option maxRecDepth 100000 in
set_option maxHeartbeats 4000000 in
theorem rcut_any (a a' aM : Option Addr) (c c' cM n m k0 s t : Nat) (ns : List Nd) (es : List Ed) (ms : List Int) (w : World) (hL : Ly w a a' c c' n m ns es) (hM : Mk w aM cM k0 ms) (hk5 : k0 ≤ 1000) (hs : s < n) (ht : t < n) :
    Calls Try.prog 19 #[.agg #[.slice a n c, .slice a' m c'], .slice aM k0 cM, .int .i64 (s : Int), .int .i64 (t : Int)] w fun e w' => (∃ v l, e = .returned v ∧ intE.Own w' w.heap.size v l ∧ Cuts ns es (clo m ms) s t l) ∧ Below w.heap.size w w' := by
  obtain ⟨W0, hW0⟩ : ∃ W0, w.alloc (.cells #[.slice a n c, .slice a' m c'] 25) = W0 := ⟨_, rfl⟩
  have bA : Below w.heap.size w W0 := by rw [← hW0]; exact (Below.refl _ _).alloc (Nat.le_refl _) _
  have hbox : W0.heap[w.heap.size]? = some (.cells #[.slice a n c, .slice a' m c'] 25) := by rw [← hW0]; exact heap_new _ _
  have d0 := (cells_at hbox 0).1
  have d1 := (cells_at hbox 1).1
  simp at d0 d1
  have HBOX := hide hbox
  have HA := hide bA
  have HLW : Hid (∀ W, Below W0.heap.size W0 W → Ly W a a' c c' n m ns es) := hide (fun W h => hL.keep (bA.trans (h.mono bA.size)))
  have HMW : Hid (∀ W, Below W0.heap.size W0 W → Mk W aM cM k0 ms) := hide (fun W h => hM.keep (bA.trans (h.mono bA.size)))
  have HK15 : Hid (∀ (W : World) (aX : Option Addr) (cX kX : Nat) (mX : List Int), Below W0.heap.size W0 W → Mk W aX cX kX mX → Calls Try.prog 15 #[.agg #[.slice a n c, .slice a' m c'], .slice aX kX cX, .int .i64 (s : Int)] W fun e w' => ∃ g d, e = .returned (.slice (some ⟨g, 0, none⟩) n n) ∧ w'.cell? ⟨g, t, none⟩ = some (.int .i64 d) ∧ Dst (Eg es (clo m mX) 0) (Tk ns) s t d ∧ Below W.heap.size W w') := hide (fun W aX cX kX mX h hX => (between_ly (HLW.out W h) hX hs).mono (by
    rintro e w' ⟨⟨g, l, h1, h2, h3⟩, h4⟩
    exact ⟨g, va l t, h1, (h2.at1 (Value.int .i64) (fun _ => rfl) rfl t _ (va_at l t (by rw [h3.1]; exact ht))).1, h3.2 t ht, h4⟩))
  have HW0 := hide hW0
  have Hm : Hid (es.length = m) := hide hL.hm
  have i1 : (m : Int) ≤ 1000 := by have := hL.m4; omega
  have Hk0 := hide hM.hk
  have Hk4 := hide hk5
  have t0 : (0 : Int) ≤ (t : Int) := by omega
  have t1 : (t : Int) < (n : Int) := by omega
  have K0 := hide (HK15.out W0 aM cM k0 ms (Below.refl _ _) (HMW.out _ (Below.refl _ _)))
  clear hL hM hk5 hs ht hW0 hbox bA
  go_enter Try.func19, Try.ntmps19
  go_upto_region 1 with fail
  rw [HW0.out]
  clear HW0
  go_upto_if 18 with (go_at_call 15; refine K0.out.mono ?_; rintro e W1 ⟨g1, dd, rfl, y0, hD, hb1⟩; have HD := hide hD; have Hb1 := hide hb1; clear hD hb1)
  by_cases hneg : dd < 0
  · have hno : Hid (¬ Has ns es (clo m ms) s t) := hide (fun h => by have := HD.out.has; have h1 := this.1.2 h; have h2 := bne_iff_ne.1 h1; omega)
    go_wp2_with fail
    go_ret
    first
      | exact ⟨⟨_, [], rfl, El.Own.nil _ _ _, .inl ⟨hno.out, rfl⟩⟩, HA.out.trans (Hb1.out.mono HA.out.size)⟩
      | exact ⟨⟨_, rfl, [], El.Own.nil _ _ _, .inl ⟨hno.out, rfl⟩⟩, HA.out.trans (Hb1.out.mono HA.out.size)⟩
  · have hyes : Hid (Has ns es (clo m ms) s t) := hide (HD.out.has.1.1 (bne_iff_ne.2 (by omega)))
    go_wp2_with fail
    clear d0 d1 y0 K0
    go_loopw [9, 10] (fun v9 v10 wr => ∃ (d : Nat) (out : List Int), 1 ≤ d ∧ d ≤ m + 1 ∧ v10 = .int .i64 d ∧ Hid (intE.Own wr W0.heap.size v9 out) ∧ Hid (Below W0.heap.size W0 wr) ∧ Hid (Cts (Ct ns es (clo m ms) s t) (d - 1) out)) (fun _ v10 _ => m + 1 - (intOf v10).toNat)
    case atStart => exact ⟨1, [], by omega, by omega, rfl, hide (El.Own.nil _ _ _), Hb1, hide rfl⟩
    case round =>
      clear Hb1
      obtain ⟨d, out, hd1, hd2, rfl, HO, HB, HX⟩ := hrel
      obtain ⟨x0, x1⟩ := layc HBOX.out HB.out
      by_cases hlt : d ≤ m
      · have j1 : (d : Int) ≤ (m : Int) := by omega
        obtain ⟨SS, hSS⟩ : ∃ SS : World → Prop, SS = fun W' => Below wr.heap.size wr W' := ⟨_, rfl⟩
        have s9 : Hid (∀ W', SS W' → Below wr.heap.size wr W') := hide (fun W' h => by rw [hSS] at h; exact h)
        have s8 : Hid (∀ W', Below wr.heap.size wr W' → SS W') := hide (fun W' h => by rw [hSS]; exact h)
        have s7 : Hid (∀ W', Below wr.heap.size wr W' → Below W0.heap.size W0 W') := hide (fun W' h => HB.out.trans (h.mono HB.out.size))
        have s1 : ∀ W', SS W' → W'.cell? ⟨w.heap.size, 0, none⟩ = some (.slice a n c) := fun W' h => (layc HBOX.out (s7.out _ (s9.out W' h))).1
        have s2 : ∀ W', SS W' → W'.cell? ⟨w.heap.size, 1, none⟩ = some (.slice a' m c') := fun W' h => (layc HBOX.out (s7.out _ (s9.out W' h))).2
        have HRM : Hid (∀ W', Below wr.heap.size wr W' → intE.Rd W' (.slice aM k0 cM) ms) := hide (fun W' h => (HMW.out _ (s7.out _ h)).hM)
        have K22 : Hid (∀ W', Below wr.heap.size wr W' → Calls Try.prog 22 #[.slice aM k0 cM, .int .i64 (d : Int)] W' fun e w' => e = .returned (.bool (decide ((d : Int) ∉ ms))) ∧ w' = W') := hide (fun W' h => open_any aM cM k0 ms d W' Hk0.out (HRM.out _ h) (by have := Hk4.out; omega))
        have hci := clo_at m ms (d - 1) (by omega)
        rw [show ((d - 1 + 1 : Nat) : Int) = (d : Int) by omega] at hci
        have FINL : Hid (∀ (W : World) (b : Bool), Below wr.heap.size wr W → (b = true ↔ Ct ns es (clo m ms) s t (d - 1)) → (b = true ↔ Ct ns es (clo m ms) s t (d - 1)) ∧ intE.Own W W0.heap.size u9 out ∧ Below W0.heap.size W0 W) := hide (fun W b h hb => ⟨hb, HO.out.keep h, s7.out _ h⟩)
        clear hSS
        go_upto_region 7 with fail
        go_cut [44] (fun v44 wx => ∃ (b : Bool) (W : World), wx = W ∧ v44 = .bool b ∧ Hid ((b = true ↔ Ct ns es (clo m ms) s t (d - 1)) ∧ intE.Own W W0.heap.size u9 out ∧ Below W0.heap.size W0 W))
        case first =>
          by_cases hop : (d : Int) ∈ ms
          · have top : decide ((d : Int) ∉ ms) = false := decide_eq_false (fun h => h hop)
            have Hno : Hid (¬ Ct ns es (clo m ms) s t (d - 1)) := hide (fun h => by
              have := h.1
              rw [hci, decide_eq_true hop] at this
              cases this)
            clear hop hci
            refine wp_region_held_drew (S := SS) (by kernel_rfl) (s8.out _ (below_heap (Below.refl _ _) rfl rfl rfl rfl)) (fun hS0 => ?_)
            refine wpAnyH_take (i := 0) (v := .slice aM k0 cM) rfl (by kernel_rfl) (by kernel_rfl) (by kernel_rfl) (fun _ _ _ h => h) (Or.inl ⟨by rfl, fun W' hW => by go_simp⟩) hS0 ?_
            refine wpAnyH_take (i := 1) (v := .int .i64 (d : Int)) rfl (by kernel_rfl) (by kernel_rfl) (by kernel_rfl) (fun _ _ _ h => h) (Or.inl ⟨by rfl, fun W' hW => by go_simp⟩) hS0 ?_
            refine wpAnyH_ready (rs := [2]) (by kernel_rfl) (by simp) ?_
            refine AllReadyH.cons rfl (fun K hK => ?_) AllReadyH.nil
            go_simp
            refine (K22.out _ (s9.out _ hS0)).mono ?_
            rintro e W3 ⟨rfl, rfl⟩
            rw [top]
            refine hK.out _ _ hS0 (fun _ => ?_)
            clear hK K
            refine wpAnyH_take (i := 3) (v := .bool false) rfl (by kernel_rfl) (by kernel_rfl) (by kernel_rfl) (fun _ _ _ h => h) (Or.inl ⟨by rfl, fun W' hW => by go_simp⟩) hS0 ?_
            refine wpAnyH_take (i := 4) (v := undef) rfl (by kernel_rfl) (by kernel_rfl) (by kernel_rfl) (fun _ _ _ h => h) (Or.inr ⟨by kernel_rfl, rfl⟩) hS0 ?_
            refine wpAnyH_take (i := 5) (v := undef) rfl (by kernel_rfl) (by kernel_rfl) (by kernel_rfl) (fun _ _ _ h => h) (Or.inr ⟨by kernel_rfl, rfl⟩) hS0 ?_
            refine wpAnyH_take (i := 6) (v := undef) rfl (by kernel_rfl) (by kernel_rfl) (by kernel_rfl) (fun _ _ _ h => h) (Or.inr ⟨by kernel_rfl, rfl⟩) hS0 ?_
            refine wpAnyH_take (i := 7) (v := undef) rfl (by kernel_rfl) (by kernel_rfl) (by kernel_rfl) (fun _ _ _ h => h) (Or.inr ⟨by kernel_rfl, rfl⟩) hS0 ?_
            refine wpAnyH_take (i := 8) (v := undef) rfl (by kernel_rfl) (by kernel_rfl) (by kernel_rfl) (fun _ _ _ h => h) (Or.inr ⟨by kernel_rfl, rfl⟩) hS0 ?_
            refine wpAnyH_take (i := 9) (v := undef) rfl (by kernel_rfl) (by kernel_rfl) (by kernel_rfl) (fun _ _ _ h => h) (Or.inr ⟨by kernel_rfl, rfl⟩) hS0 ?_
            refine wpAnyH_take (i := 10) (v := undef) rfl (by kernel_rfl) (by kernel_rfl) (by kernel_rfl) (fun _ _ _ h => h) (Or.inr ⟨by kernel_rfl, rfl⟩) hS0 ?_
            refine wpAnyH_take (i := 11) (v := undef) rfl (by kernel_rfl) (by kernel_rfl) (by kernel_rfl) (fun _ _ _ h => h) (Or.inr ⟨by kernel_rfl, rfl⟩) hS0 ?_
            refine wpAnyH_take (i := 12) (v := undef) rfl (by kernel_rfl) (by kernel_rfl) (by kernel_rfl) (fun _ _ _ h => h) (Or.inr ⟨by kernel_rfl, rfl⟩) hS0 ?_
            refine wpAnyH_take (i := 13) (v := undef) rfl (by kernel_rfl) (by kernel_rfl) (by kernel_rfl) (fun _ _ _ h => h) (Or.inr ⟨by kernel_rfl, rfl⟩) hS0 ?_
            refine wpAnyH_take (i := 14) (v := undef) rfl (by kernel_rfl) (by kernel_rfl) (by kernel_rfl) (fun _ _ _ h => h) (Or.inr ⟨by kernel_rfl, rfl⟩) hS0 ?_
            refine wpAnyH_take (i := 15) (v := undef) rfl (by kernel_rfl) (by kernel_rfl) (by kernel_rfl) (fun _ _ _ h => h) (Or.inr ⟨by kernel_rfl, rfl⟩) hS0 ?_
            refine wpAnyH_take (i := 16) (v := undef) rfl (by kernel_rfl) (by kernel_rfl) (by kernel_rfl) (fun _ _ _ h => h) (Or.inr ⟨by kernel_rfl, rfl⟩) hS0 ?_
            refine wpAnyH_ready (rs := [17]) (by kernel_rfl) (by simp) ?_
            refine AllReadyH.cons rfl (fun K hK => ?_) AllReadyH.nil
            go_simp
            refine hK.out _ _ hS0 (fun _ => ?_)
            clear hK K
            refine wpAnyH_done (by kernel_rfl) ?_ _
            have FIN := hide (FINL.out _ false (s9.out _ hS0) ⟨fun h => (by cases h), fun h => absurd h Hno.out⟩)
            go_wp2_with fail
            go_meet
            exact ⟨false, _, rfl, by first | rfl | trivial, FIN⟩
          · have top : decide ((d : Int) ∉ ms) = true := decide_eq_true hop
            have K15 : Hid (∀ (W : World) (aX : Option Addr) (cX : Nat), Below wr.heap.size wr W → Mk W aX cX (k0 + 1) (ms ++ [(d : Int)]) → _) := hide (fun W aX cX h hX => HK15.out W aX cX (k0 + 1) (ms ++ [(d : Int)]) (s7.out _ h) hX)
            have FINL : Hid (∀ (W : World) (x : Int), Below wr.heap.size wr W → Dst (Eg es (clo m (ms ++ [(d : Int)])) 0) (Tk ns) s t x → (decide (x < 0) = true ↔ Ct ns es (clo m ms) s t (d - 1)) ∧ intE.Own W W0.heap.size u9 out ∧ Below W0.heap.size W0 W) := hide (fun W x h hx => FINL.out W _ h (by
              rw [clo_in m ms (d : Int) (by omega) (by omega), show ((d : Int) - 1).toNat = d - 1 by omega] at hx
              have hh := hx.has
              unfold Ct
              rw [hci, decide_eq_false hop, ← hh.1]
              simp only [decide_eq_true_eq, true_and, bne_iff_ne, ne_eq, Decidable.not_not]
              have := hh.2
              omega))
            clear hop hci
            refine wp_region_held_drew (S := SS) (by kernel_rfl) (s8.out _ (below_heap (Below.refl _ _) rfl rfl rfl rfl)) (fun hS0 => ?_)
            refine wpAnyH_take (i := 0) (v := .slice aM k0 cM) rfl (by kernel_rfl) (by kernel_rfl) (by kernel_rfl) (fun _ _ _ h => h) (Or.inl ⟨by rfl, fun W' hW => by go_simp⟩) hS0 ?_
            refine wpAnyH_take (i := 1) (v := .int .i64 (d : Int)) rfl (by kernel_rfl) (by kernel_rfl) (by kernel_rfl) (fun _ _ _ h => h) (Or.inl ⟨by rfl, fun W' hW => by go_simp⟩) hS0 ?_
            refine wpAnyH_ready (rs := [2]) (by kernel_rfl) (by simp) ?_
            refine AllReadyH.cons rfl (fun K hK => ?_) AllReadyH.nil
            go_simp
            refine (K22.out _ (s9.out _ hS0)).mono ?_
            rintro e W3 ⟨rfl, rfl⟩
            rw [top]
            refine hK.out _ _ hS0 (fun _ => ?_)
            clear hK K
            refine wpAnyH_take (i := 3) (v := .bool true) rfl (by kernel_rfl) (by kernel_rfl) (by kernel_rfl) (fun _ _ _ h => h) (Or.inl ⟨by rfl, fun W' hW => by go_simp⟩) hS0 ?_
            refine wpAnyH_take (i := 4) (v := .agg #[.slice a n c, .slice a' m c']) rfl (by kernel_rfl) (by kernel_rfl) (by kernel_rfl) (fun _ _ _ h => h) (Or.inl ⟨by rfl, fun W' hW => by have x0 := s1 W' hW; have x1 := s2 W' hW; go_simp⟩) hS0 ?_
            refine wpAnyH_take (i := 6) (v := .slice aM k0 cM) rfl (by kernel_rfl) (by kernel_rfl) (by kernel_rfl) (fun _ _ _ h => h) (Or.inl ⟨by rfl, fun W' hW => by go_simp⟩) hS0 ?_
            refine wpAnyH_take (i := 8) (v := .int .i64 (d : Int)) rfl (by kernel_rfl) (by kernel_rfl) (by kernel_rfl) (fun _ _ _ h => h) (Or.inl ⟨by rfl, fun W' hW => by go_simp⟩) hS0 ?_
            refine wpAnyH_take (i := 11) (v := .int .i64 (s : Int)) rfl (by kernel_rfl) (by kernel_rfl) (by kernel_rfl) (fun _ _ _ h => h) (Or.inl ⟨by rfl, fun W' hW => by go_simp⟩) hS0 ?_
            refine wpAnyH_take (i := 13) (v := .int .i64 (t : Int)) rfl (by kernel_rfl) (by kernel_rfl) (by kernel_rfl) (fun _ _ _ h => h) (Or.inl ⟨by rfl, fun W' hW => by go_simp⟩) hS0 ?_
            refine wpAnyH_ready (rs := [5, 9]) (by kernel_rfl) (by simp) ?_
            refine AllReadyH.cons rfl (fun K hK => ?_) (AllReadyH.cons rfl (fun K hK => ?_) AllReadyH.nil)
            · go_simp
              have S1 := s8.out _ ((s9.out _ hS0).alloc (s9.out _ hS0).size (.cells #[] 3))
              have O2 : Hid (intE.Own (wr.drew.alloc (.cells #[] 3)) wr.heap.size (.slice (some ⟨wr.heap.size, 0, none⟩) 0 0) []) := hide (El.Own.new intE wr.drew _ (s9.out _ hS0).size #[] [] rfl (by simp) _ _ _ (by simp) rfl rfl)
              refine hK.out _ _ S1 (fun _ => ?_)
              clear hK K
              refine wpAnyH_ready (rs := [7, 9]) (by kernel_rfl) (by simp) ?_
              refine AllReadyH.cons rfl (fun K hK => ?_) (AllReadyH.cons rfl (fun K hK => ?_) AllReadyH.nil)
              · refine stepW intE (B := wr.heap.size) (s9.out _ S1).size (by rfl) (.tmp 32) (.tmp 33) rfl _ _ rfl rfl [] ms O2.out (HRM.out _ (s9.out _ S1)) (by rw [Hk0.out]; have := Hk4.out; simp; omega) ?_
                intro v6 W3 ho hg hvb
                rw [List.nil_append] at ho
                have S4 := s8.out _ ((s9.out _ S1).grown hg (s9.out _ S1).size (fun q hq => O2.out.ge q hq))
                have O5 := hide ho
                clear ho hg hvb
                refine hK.out _ _ S4 (fun _ => ?_)
                clear hK K
                refine wpAnyH_ready (rs := [9]) (by kernel_rfl) (by simp) ?_
                refine AllReadyH.cons rfl (fun K hK => ?_) AllReadyH.nil
                go_simp
                have S7 := s8.out _ ((s9.out _ S4).alloc (s9.out _ S4).size (.cells #[.int .i64 (d : Int)] 3))
                have R8 : Hid (intE.Own (W3.alloc (.cells #[.int .i64 (d : Int)] 3)) wr.heap.size (.slice (some ⟨W3.heap.size, 0, none⟩) 1 1) [(d : Int)]) := hide (El.Own.new intE W3 _ (s9.out _ S4).size _ [(d : Int)] rfl (by simp) _ _ _ (by simp) rfl rfl)
                have O9 := hide (O5.out.alloc (.cells #[.int .i64 (d : Int)] 3))
                refine hK.out _ _ S7 (fun _ => ?_)
                clear hK K
                refine wpAnyH_ready (rs := [10]) (by kernel_rfl) (by simp) ?_
                refine AllReadyH.cons rfl (fun K hK => ?_) AllReadyH.nil
                refine stepW intE (B := wr.heap.size) (s9.out _ S7).size (by rfl) (.tmp 34) (.tmp 36) rfl _ _ rfl rfl ms [(d : Int)] O9.out R8.out.rd (by rw [Hk0.out]; have := Hk4.out; simp; omega) ?_
                intro v10 W10 ho10 hg10 _
                have S10 := s8.out _ ((s9.out _ S7).grown hg10 (s9.out _ S7).size (fun q hq => O9.out.ge q hq))
                obtain ⟨aX, cX, hvX⟩ := ho10.rd.form
                have hlX : (ms ++ [(d : Int)]).length = k0 + 1 := by rw [List.length_append, Hk0.out]; rfl
                rw [hlX] at hvX
                subst hvX
                have HMX : Hid (Mk W10 aX cX (k0 + 1) (ms ++ [(d : Int)])) := hide ⟨hlX, ho10.rd, by have := Hk4.out; omega⟩
                clear ho10 hg10 hlX
                refine hK.out _ _ S10 (fun _ => ?_)
                clear hK K
                refine wpAnyH_ready (rs := [12]) (by kernel_rfl) (by simp) ?_
                refine AllReadyH.cons rfl (fun K hK => ?_) AllReadyH.nil
                go_simp
                refine (K15.out _ aX cX (s9.out _ S10) HMX.out).mono ?_
                rintro e W12 ⟨gX, dX, rfl, y0, hX, hb12⟩
                have S12 := s8.out _ ((s9.out _ S10).trans (hb12.mono (s9.out _ S10).size))
                have HX12 := hide hX
                clear hX hb12
                refine hK.out _ _ S12 (fun _ => ?_)
                clear hK K
                refine wpAnyH_ready (rs := [14]) (by kernel_rfl) (by simp) ?_
                refine AllReadyH.cons rfl (fun K hK => ?_) AllReadyH.nil
                go_simp
                refine hK.out _ _ S12 (fun _ => ?_)
                clear hK K
                refine wpAnyH_ready (rs := [15]) (by kernel_rfl) (by simp) ?_
                refine AllReadyH.cons rfl (fun K hK => ?_) AllReadyH.nil
                go_simp
                refine hK.out _ _ S12 (fun _ => ?_)
                clear hK K
                refine wpAnyH_ready (rs := [16]) (by kernel_rfl) (by simp) ?_
                refine AllReadyH.cons rfl (fun K hK => ?_) AllReadyH.nil
                go_simp
                refine hK.out _ _ S12 (fun _ => ?_)
                clear hK K
                refine wpAnyH_ready (rs := [17]) (by kernel_rfl) (by simp) ?_
                refine AllReadyH.cons rfl (fun K hK => ?_) AllReadyH.nil
                go_simp
                refine hK.out _ _ S12 (fun _ => ?_)
                clear hK K
                refine wpAnyH_done (by kernel_rfl) ?_ _
                have FIN := hide (FINL.out _ _ (s9.out _ S12) HX12.out)
                go_wp2_with fail
                go_meet
                exact ⟨decide (dX < 0), W12, rfl, by first | rfl | trivial, FIN⟩
              · go_simp
                have S11 := s8.out _ ((s9.out _ S1).alloc (s9.out _ S1).size (.cells #[.int .i64 (d : Int)] 3))
                have R12 : Hid (intE.Own ((wr.drew.alloc (.cells #[] 3)).alloc (.cells #[.int .i64 (d : Int)] 3)) wr.heap.size (.slice (some ⟨wr.heap.size + 1, 0, none⟩) 1 1) [(d : Int)]) := hide (El.Own.new intE (wr.drew.alloc (.cells #[] 3)) _ (s9.out _ S1).size _ [(d : Int)] rfl (by simp) _ _ _ (by simp) rfl rfl)
                have O13 := hide (O2.out.alloc (.cells #[.int .i64 (d : Int)] 3))
                have Q14 : Hid (Sep (.slice (some ⟨wr.heap.size, 0, none⟩) 0 0) (.slice (some ⟨wr.heap.size + 1, 0, none⟩) 1 1)) := hide (by intro q h1 h2; simp [Value.ownBlock] at h1 h2; omega)
                refine hK.out _ _ S11 (fun _ => ?_)
                clear hK K
                refine wpAnyH_ready (rs := [7]) (by kernel_rfl) (by simp) ?_
                refine AllReadyH.cons rfl (fun K hK => ?_) AllReadyH.nil
                refine stepW intE (B := wr.heap.size) (s9.out _ S11).size (by rfl) (.tmp 32) (.tmp 33) rfl _ _ rfl rfl [] ms O13.out (HRM.out _ (s9.out _ S11)) (by rw [Hk0.out]; have := Hk4.out; simp; omega) ?_
                intro v18 W15 ho hg hvb
                rw [List.nil_append] at ho
                have S16 := s8.out _ ((s9.out _ S11).grown hg (s9.out _ S11).size (fun q hq => O13.out.ge q hq))
                have O17 := hide ho
                have R19 := hide (rd_beside O13.out R12.out Q14.out hg)
                clear ho hg hvb
                refine hK.out _ _ S16 (fun _ => ?_)
                clear hK K
                refine wpAnyH_ready (rs := [10]) (by kernel_rfl) (by simp) ?_
                refine AllReadyH.cons rfl (fun K hK => ?_) AllReadyH.nil
                refine stepW intE (B := wr.heap.size) (s9.out _ S16).size (by rfl) (.tmp 34) (.tmp 36) rfl _ _ rfl rfl ms [(d : Int)] O17.out R19.out.rd (by rw [Hk0.out]; have := Hk4.out; simp; omega) ?_
                intro v10 W20 ho10 hg10 _
                have S10 := s8.out _ ((s9.out _ S16).grown hg10 (s9.out _ S16).size (fun q hq => O17.out.ge q hq))
                obtain ⟨aX, cX, hvX⟩ := ho10.rd.form
                have hlX : (ms ++ [(d : Int)]).length = k0 + 1 := by rw [List.length_append, Hk0.out]; rfl
                rw [hlX] at hvX
                subst hvX
                have HMX : Hid (Mk W20 aX cX (k0 + 1) (ms ++ [(d : Int)])) := hide ⟨hlX, ho10.rd, by have := Hk4.out; omega⟩
                clear ho10 hg10 hlX
                refine hK.out _ _ S10 (fun _ => ?_)
                clear hK K
                refine wpAnyH_ready (rs := [12]) (by kernel_rfl) (by simp) ?_
                refine AllReadyH.cons rfl (fun K hK => ?_) AllReadyH.nil
                go_simp
                refine (K15.out _ aX cX (s9.out _ S10) HMX.out).mono ?_
                rintro e W12 ⟨gX, dX, rfl, y0, hX, hb12⟩
                have S12 := s8.out _ ((s9.out _ S10).trans (hb12.mono (s9.out _ S10).size))
                have HX12 := hide hX
                clear hX hb12
                refine hK.out _ _ S12 (fun _ => ?_)
                clear hK K
                refine wpAnyH_ready (rs := [14]) (by kernel_rfl) (by simp) ?_
                refine AllReadyH.cons rfl (fun K hK => ?_) AllReadyH.nil
                go_simp
                refine hK.out _ _ S12 (fun _ => ?_)
                clear hK K
                refine wpAnyH_ready (rs := [15]) (by kernel_rfl) (by simp) ?_
                refine AllReadyH.cons rfl (fun K hK => ?_) AllReadyH.nil
                go_simp
                refine hK.out _ _ S12 (fun _ => ?_)
                clear hK K
                refine wpAnyH_ready (rs := [16]) (by kernel_rfl) (by simp) ?_
                refine AllReadyH.cons rfl (fun K hK => ?_) AllReadyH.nil
                go_simp
                refine hK.out _ _ S12 (fun _ => ?_)
                clear hK K
                refine wpAnyH_ready (rs := [17]) (by kernel_rfl) (by simp) ?_
                refine AllReadyH.cons rfl (fun K hK => ?_) AllReadyH.nil
                go_simp
                refine hK.out _ _ S12 (fun _ => ?_)
                clear hK K
                refine wpAnyH_done (by kernel_rfl) ?_ _
                have FIN := hide (FINL.out _ _ (s9.out _ S12) HX12.out)
                go_wp2_with fail
                go_meet
                exact ⟨decide (dX < 0), W12, rfl, by first | rfl | trivial, FIN⟩
            · go_simp
              have S21 := s8.out _ ((s9.out _ hS0).alloc (s9.out _ hS0).size (.cells #[.int .i64 (d : Int)] 3))
              have R22 : Hid (intE.Own (wr.drew.alloc (.cells #[.int .i64 (d : Int)] 3)) wr.heap.size (.slice (some ⟨wr.heap.size, 0, none⟩) 1 1) [(d : Int)]) := hide (El.Own.new intE wr.drew _ (s9.out _ hS0).size _ [(d : Int)] rfl (by simp) _ _ _ (by simp) rfl rfl)
              refine hK.out _ _ S21 (fun _ => ?_)
              clear hK K
              refine wpAnyH_ready (rs := [5]) (by kernel_rfl) (by simp) ?_
              refine AllReadyH.cons rfl (fun K hK => ?_) AllReadyH.nil
              go_simp
              have S23 := s8.out _ ((s9.out _ S21).alloc (s9.out _ S21).size (.cells #[] 3))
              have O24 : Hid (intE.Own ((wr.drew.alloc (.cells #[.int .i64 (d : Int)] 3)).alloc (.cells #[] 3)) wr.heap.size (.slice (some ⟨wr.heap.size + 1, 0, none⟩) 0 0) []) := hide (El.Own.new intE (wr.drew.alloc (.cells #[.int .i64 (d : Int)] 3)) _ (s9.out _ S21).size #[] [] rfl (by simp) _ _ _ (by simp) rfl rfl)
              have R25 := hide (R22.out.alloc (.cells #[] 3))
              have Q26 : Hid (Sep (.slice (some ⟨wr.heap.size + 1, 0, none⟩) 0 0) (.slice (some ⟨wr.heap.size, 0, none⟩) 1 1)) := hide (by intro q h1 h2; simp [Value.ownBlock] at h1 h2; omega)
              refine hK.out _ _ S23 (fun _ => ?_)
              clear hK K
              refine wpAnyH_ready (rs := [7]) (by kernel_rfl) (by simp) ?_
              refine AllReadyH.cons rfl (fun K hK => ?_) AllReadyH.nil
              refine stepW intE (B := wr.heap.size) (s9.out _ S23).size (by rfl) (.tmp 32) (.tmp 33) rfl _ _ rfl rfl [] ms O24.out (HRM.out _ (s9.out _ S23)) (by rw [Hk0.out]; have := Hk4.out; simp; omega) ?_
              intro v30 W27 ho hg hvb
              rw [List.nil_append] at ho
              have S28 := s8.out _ ((s9.out _ S23).grown hg (s9.out _ S23).size (fun q hq => O24.out.ge q hq))
              have O29 := hide ho
              have R31 := hide (rd_beside O24.out R25.out Q26.out hg)
              clear ho hg hvb
              refine hK.out _ _ S28 (fun _ => ?_)
              clear hK K
              refine wpAnyH_ready (rs := [10]) (by kernel_rfl) (by simp) ?_
              refine AllReadyH.cons rfl (fun K hK => ?_) AllReadyH.nil
              refine stepW intE (B := wr.heap.size) (s9.out _ S28).size (by rfl) (.tmp 34) (.tmp 36) rfl _ _ rfl rfl ms [(d : Int)] O29.out R31.out.rd (by rw [Hk0.out]; have := Hk4.out; simp; omega) ?_
              intro v10 W32 ho10 hg10 _
              have S10 := s8.out _ ((s9.out _ S28).grown hg10 (s9.out _ S28).size (fun q hq => O29.out.ge q hq))
              obtain ⟨aX, cX, hvX⟩ := ho10.rd.form
              have hlX : (ms ++ [(d : Int)]).length = k0 + 1 := by rw [List.length_append, Hk0.out]; rfl
              rw [hlX] at hvX
              subst hvX
              have HMX : Hid (Mk W32 aX cX (k0 + 1) (ms ++ [(d : Int)])) := hide ⟨hlX, ho10.rd, by have := Hk4.out; omega⟩
              clear ho10 hg10 hlX
              refine hK.out _ _ S10 (fun _ => ?_)
              clear hK K
              refine wpAnyH_ready (rs := [12]) (by kernel_rfl) (by simp) ?_
              refine AllReadyH.cons rfl (fun K hK => ?_) AllReadyH.nil
              go_simp
              refine (K15.out _ aX cX (s9.out _ S10) HMX.out).mono ?_
              rintro e W12 ⟨gX, dX, rfl, y0, hX, hb12⟩
              have S12 := s8.out _ ((s9.out _ S10).trans (hb12.mono (s9.out _ S10).size))
              have HX12 := hide hX
              clear hX hb12
              refine hK.out _ _ S12 (fun _ => ?_)
              clear hK K
              refine wpAnyH_ready (rs := [14]) (by kernel_rfl) (by simp) ?_
              refine AllReadyH.cons rfl (fun K hK => ?_) AllReadyH.nil
              go_simp
              refine hK.out _ _ S12 (fun _ => ?_)
              clear hK K
              refine wpAnyH_ready (rs := [15]) (by kernel_rfl) (by simp) ?_
              refine AllReadyH.cons rfl (fun K hK => ?_) AllReadyH.nil
              go_simp
              refine hK.out _ _ S12 (fun _ => ?_)
              clear hK K
              refine wpAnyH_ready (rs := [16]) (by kernel_rfl) (by simp) ?_
              refine AllReadyH.cons rfl (fun K hK => ?_) AllReadyH.nil
              go_simp
              refine hK.out _ _ S12 (fun _ => ?_)
              clear hK K
              refine wpAnyH_ready (rs := [17]) (by kernel_rfl) (by simp) ?_
              refine AllReadyH.cons rfl (fun K hK => ?_) AllReadyH.nil
              go_simp
              refine hK.out _ _ S12 (fun _ => ?_)
              clear hK K
              refine wpAnyH_done (by kernel_rfl) ?_ _
              have FIN := hide (FINL.out _ _ (s9.out _ S12) HX12.out)
              go_wp2_with fail
              go_meet
              exact ⟨decide (dX < 0), W12, rfl, by first | rfl | trivial, FIN⟩
        case rest =>
        obtain ⟨b, W, rfl, rfl, HH⟩ := hcut
        cases b with
        | false =>
          have HX1 : Hid (Cts (Ct ns es (clo m ms) s t) (d + 1 - 1) out) := hide (by
            rw [show d + 1 - 1 = d - 1 + 1 by omega]
            exact ⟨out, HX.out, .inr ⟨fun h => (by have := HH.out.1.2 h; cases this), rfl⟩⟩)
          go_wp2_with fail
          go_roundw
          case rel => exact ⟨d + 1, out, by omega, by omega, by go_num, hide HH.out.2.1, hide HH.out.2.2, HX1⟩
          case measure => simp [intOf]; omega
        | true =>
          have HX1 : Hid (Cts (Ct ns es (clo m ms) s t) (d + 1 - 1) (out ++ [(d : Int)])) := hide (by
            rw [show d + 1 - 1 = d - 1 + 1 by omega]
            refine ⟨out, HX.out, .inl ⟨HH.out.1.1 rfl, ?_⟩⟩
            rw [show ((d - 1 + 1 : Nat) : Int) = (d : Int) by omega])
          have Hln := hide HX.out.len
          have HA7 : Hid (Below W0.heap.size W0 (wc.alloc (.cells #[.int .i64 (d : Int)] 3))) := hide (HH.out.2.2.alloc HH.out.2.2.size _)
          have HOA : Hid (intE.Own (wc.alloc (.cells #[.int .i64 (d : Int)] 3)) W0.heap.size u9 out) := hide (World.ownsRow.alloc HH.out.2.1 _)
          go_wp2_with (at_builtin; refine intE.wp (w0 := W0) HA7.out (by rfl) _ _ rfl _ _ rfl rfl out [(d : Int)] HOA.out (int_new _ _ _ (by simp)) (by have := Hln.out; simp; omega) ?_; intro v8 W8 ho8 hg8 hv8 hb8
                       have HO8 := hide ho8
                       have HB8 := hide hb8
                       clear ho8 hg8 hv8 hb8)
          go_roundw
          case rel => exact ⟨d + 1, _, by omega, by omega, by go_num, HO8, HB8, HX1⟩
          case measure => simp [intOf]; omega
      · obtain rfl : d = m + 1 := by omega
        have j1 : ¬ ((m + 1 : Nat) : Int) ≤ (m : Int) := by omega
        have HX1 : Hid (Cts (Ct ns es (clo m ms) s t) es.length out) := hide (by rw [Hm.out]; exact HX.out)
        go_wp2_with fail
        go_ret
        first
          | exact ⟨⟨_, rfl, out, HO.out.mono HA.out.size, .inr ⟨hyes.out, HX1.out⟩⟩, HA.out.trans (HB.out.mono HA.out.size)⟩
          | exact ⟨⟨_, out, rfl, HO.out.mono HA.out.size, .inr ⟨hyes.out, HX1.out⟩⟩, HA.out.trans (HB.out.mono HA.out.size)⟩
end Go.Proofs.Ythimeobnfkoefaa
