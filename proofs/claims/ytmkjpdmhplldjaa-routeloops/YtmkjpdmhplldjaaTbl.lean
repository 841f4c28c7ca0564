/- Each node's next device: Table. -/
import Derived.Test.YtmkjpdmhplldjaaArn
import Derived.Test.YtmkjpdmhplldjaaOwn
namespace Go.Proofs.Ytmkjpdmhplldjaa
open Go.RowKit
set_option linter.unusedVariables false

/-- the table of a target -/
def tbl (ns : List Nd) (es : List Ed) (ms l : List Int) (t n : Nat) : List Int := (List.range n).map (fun i => stp ns es ms l t ((i : Nat) : Int) (va l i - 1))
theorem tbl_len (ns : List Nd) (es : List Ed) (ms l : List Int) (t n : Nat) : (tbl ns es ms l t n).length = n := by simp [tbl]
theorem tbl_at (ns : List Nd) (es : List Ed) (ms l : List Int) (t n i : Nat) (h : i < n) : (tbl ns es ms l t n)[i]? = some (stp ns es ms l t (i : Int) (va l i - 1)) := by simp [tbl, h]
/-- waysTo, with what lies there behind it -/
theorem waysTo_wy (a a' aM : Option Addr) (c c' cM n m k0 t : Nat) (ns : List Nd) (es : List Ed) (ms : List Int) (w : World) (hL : Ly w a a' c c' n m ns es) (hM : Mk w aM cM k0 ms) (hs : t < n) :
    Calls Try.prog 29 #[.agg #[.slice a n c, .slice a' m c'], .slice aM k0 cM, .int .i64 (t : Int)] w fun e w' => (∃ g l, e = .returned (.agg #[.slice a n c, .slice a' m c', .slice aM k0 cM, .int .i64 (t : Int), .slice (some ⟨g, 0, none⟩) n n]) ∧ intE.Own w' w.heap.size (.slice (some ⟨g, 0, none⟩) n n) l ∧ Gr ns es ms l t n) ∧ Below w.heap.size w w' :=
  (waysTo_any a a' aM c c' cM n m k0 t ns es ms w hL hM hs).mono (by
    rintro e w' ⟨⟨g, l, rfl, ho, hf⟩, hb⟩
    refine ⟨⟨g, l, rfl, ho, hL.hE, ?_, hs⟩, hb⟩
    rw [hL.hm]; exact hf)

set_option maxRecDepth 100000 in
theorem table_no (a a' aM : Option Addr) (c c' cM n m k0 : Nat) (x : Int) (w : World) (hx : ¬ (0 ≤ x ∧ x < (n : Int))) :
    Calls Try.prog 12 #[.agg #[.slice a n c, .slice a' m c'], .slice aM k0 cM, .int .i64 x] w fun e w' => e = .returned (.tuple #[.slice none 0 0, .int .i64 1]) ∧ Below w.heap.size w w' := by
  obtain ⟨W0, hW0⟩ : ∃ W0, w.alloc (.cells #[.slice a n c, .slice a' m c'] 25) = W0 := ⟨_, rfl⟩
  have bA : Below w.heap.size w W0 := by rw [← hW0]; exact (Below.refl _ _).alloc (Nat.le_refl _) _
  have hbox : W0.heap[w.heap.size]? = some (.cells #[.slice a n c, .slice a' m c'] 25) := by rw [← hW0]; exact heap_new _ _
  have HA := hide bA
  have HW0 := hide hW0
  have d0 := (cells_at hbox 0).1
  have d1 := (cells_at hbox 1).1
  simp at d0 d1
  have b1 : Below W0.heap.size W0 (W0.alloc (.cells #[.int .i64 x] 3)) := (Below.refl _ _).alloc (Nat.le_refl _) _
  have Hb1 := hide b1
  have K28 : Hid (∀ W, Below W0.heap.size W0 W → intE.Rd W (.slice (some ⟨W0.heap.size, 0, none⟩) 1 1) [x] → Calls Try.prog 28 #[.agg #[.slice a n c, .slice a' m c'], .slice (some ⟨W0.heap.size, 0, none⟩) 1 1] W fun e w' => e = .returned (.bool false) ∧ Below W.heap.size W w') := hide (fun W h hr => by
    have := places_any a a' (some ⟨W0.heap.size, 0, none⟩) n c m c' 1 1 [x] W rfl hr (by omega)
    rwa [place1, decide_eq_false hx] at this)
  clear b1 hx hbox bA hW0
  go_enter Try.func12, Try.ntmps12
  go_upto_region 1 with fail
  rw [HW0.out]
  clear HW0
  go_wp2_with (go_at_call 28; refine (K28.out _ Hb1.out (int_new _ _ _ rfl)).mono ?_; rintro e W2 ⟨rfl, hb2⟩; have Hb2 : Hid (Below W0.heap.size W0 W2) := hide (Hb1.out.trans (hb2.mono Hb1.out.size)); clear hb2 d0 d1)
  refine bodyPost_ret (v := .tuple #[.slice none 0 0, .int .i64 1]) (by simp [results, Try.results12, go_sem]) rfl ⟨rfl, HA.out.trans (Hb2.out.mono HA.out.size)⟩

set_option maxRecDepth 100000 in
theorem loop_no (a a' aM : Option Addr) (c c' cM n m k0 : Nat) (x : Int) (w : World) (hx : ¬ (0 ≤ x ∧ x < (n : Int))) :
    Calls Try.prog 19 #[.agg #[.slice a n c, .slice a' m c'], .slice aM k0 cM, .int .i64 x] w fun e w' => e = .returned (.tuple #[.slice none 0 0, .int .i64 1]) ∧ Below w.heap.size w w' := by
  obtain ⟨W0, hW0⟩ : ∃ W0, w.alloc (.cells #[.slice a n c, .slice a' m c'] 25) = W0 := ⟨_, rfl⟩
  have bA : Below w.heap.size w W0 := by rw [← hW0]; exact (Below.refl _ _).alloc (Nat.le_refl _) _
  have hbox : W0.heap[w.heap.size]? = some (.cells #[.slice a n c, .slice a' m c'] 25) := by rw [← hW0]; exact heap_new _ _
  have HA := hide bA
  have HW0 := hide hW0
  have d0 := (cells_at hbox 0).1
  have d1 := (cells_at hbox 1).1
  simp at d0 d1
  have b1 : Below W0.heap.size W0 (W0.alloc (.cells #[.int .i64 x] 3)) := (Below.refl _ _).alloc (Nat.le_refl _) _
  have Hb1 := hide b1
  have K28 : Hid (∀ W, Below W0.heap.size W0 W → intE.Rd W (.slice (some ⟨W0.heap.size, 0, none⟩) 1 1) [x] → Calls Try.prog 28 #[.agg #[.slice a n c, .slice a' m c'], .slice (some ⟨W0.heap.size, 0, none⟩) 1 1] W fun e w' => e = .returned (.bool false) ∧ Below W.heap.size W w') := hide (fun W h hr => by
    have := places_any a a' (some ⟨W0.heap.size, 0, none⟩) n c m c' 1 1 [x] W rfl hr (by omega)
    rwa [place1, decide_eq_false hx] at this)
  clear b1 hx hbox bA hW0
  go_enter Try.func19, Try.ntmps19
  go_upto_region 1 with fail
  rw [HW0.out]
  clear HW0
  go_wp2_with (go_at_call 28; refine (K28.out _ Hb1.out (int_new _ _ _ rfl)).mono ?_; rintro e W2 ⟨rfl, hb2⟩; have Hb2 : Hid (Below W0.heap.size W0 W2) := hide (Hb1.out.trans (hb2.mono Hb1.out.size)); clear hb2 d0 d1)
  refine bodyPost_ret (v := .tuple #[.slice none 0 0, .int .i64 1]) (by simp [results, Try.results19, go_sem]) rfl ⟨rfl, HA.out.trans (Hb2.out.mono HA.out.size)⟩

set_option maxRecDepth 100000 in
set_option maxHeartbeats 4000000 in
theorem table_ok (a a' aM : Option Addr) (c c' cM n m k0 t : Nat) (ns : List Nd) (es : List Ed) (ms : List Int) (w : World) (hL : Ly w a a' c c' n m ns es) (hM : Mk w aM cM k0 ms) (ht : t < n) :
    Calls Try.prog 12 #[.agg #[.slice a n c, .slice a' m c'], .slice aM k0 cM, .int .i64 (t : Int)] w fun e w' => (∃ gN l, Gr ns es ms l t n ∧ e = .returned (.tuple #[.slice (some ⟨gN, 0, none⟩) n n, .int .i64 0]) ∧ intE.Own w' w.heap.size (.slice (some ⟨gN, 0, none⟩) n n) (tbl ns es ms l t n)) ∧ Below w.heap.size w w' := by
  obtain ⟨W0, hW0⟩ : ∃ W0, w.alloc (.cells #[.slice a n c, .slice a' m c'] 25) = W0 := ⟨_, rfl⟩
  have bA : Below w.heap.size w W0 := by rw [← hW0]; exact (Below.refl _ _).alloc (Nat.le_refl _) _
  have hbox : W0.heap[w.heap.size]? = some (.cells #[.slice a n c, .slice a' m c'] 25) := by rw [← hW0]; exact heap_new _ _
  have HBOX := hide hbox
  have HA := hide bA
  have HW0 := hide hW0
  have d0 := (cells_at hbox 0).1
  have d1 := (cells_at hbox 1).1
  simp at d0 d1
  have HLW : Hid (∀ W, Below W0.heap.size W0 W → Ly W a a' c c' n m ns es ∧ Mk W aM cM k0 ms) := hide (fun W h => ⟨hL.keep (bA.trans (h.mono bA.size)), hM.keep (bA.trans (h.mono bA.size))⟩)
  have b1 : Below W0.heap.size W0 (W0.alloc (.cells #[.int .i64 (t : Int)] 3)) := (Below.refl _ _).alloc (Nat.le_refl _) _
  have Hb1 := hide b1
  have K28 : Hid (∀ W, Below W0.heap.size W0 W → intE.Rd W (.slice (some ⟨W0.heap.size, 0, none⟩) 1 1) [(t : Int)] → Calls Try.prog 28 #[.agg #[.slice a n c, .slice a' m c'], .slice (some ⟨W0.heap.size, 0, none⟩) 1 1] W fun e w' => e = .returned (.bool true) ∧ Below W.heap.size W w') := hide (fun W h hr => by
    have := places_any a a' (some ⟨W0.heap.size, 0, none⟩) n c m c' 1 1 [(t : Int)] W rfl hr (by omega)
    rwa [place1, decide_eq_true ⟨by omega, by omega⟩] at this)
  have K29 : Hid (∀ (W : World), Below W0.heap.size W0 W → Calls Try.prog 29 #[.agg #[.slice a n c, .slice a' m c'], .slice aM k0 cM, .int .i64 (t : Int)] W fun e w' => (∃ g l, e = .returned (.agg #[.slice a n c, .slice a' m c', .slice aM k0 cM, .int .i64 (t : Int), .slice (some ⟨g, 0, none⟩) n n]) ∧ intE.Own w' W.heap.size (.slice (some ⟨g, 0, none⟩) n n) l ∧ Gr ns es ms l t n) ∧ Below W.heap.size W w') := hide (fun W h => waysTo_wy a a' aM c c' cM n m k0 t ns es ms W (HLW.out W h).1 (HLW.out W h).2 ht)
  have Hn4 := hide hL.n4
  have Ht := hide ht
  clear hL hM ht b1 hbox bA hW0
  go_enter Try.func12, Try.ntmps12
  go_upto_region 1 with fail
  rw [HW0.out]
  clear HW0
  go_upto_region 3 with (go_at_call 28; refine (K28.out _ Hb1.out (int_new _ _ _ rfl)).mono ?_; rintro e W2 ⟨rfl, hb2⟩; have Hb2 : Hid (Below W0.heap.size W0 W2) := hide (Hb1.out.trans (hb2.mono Hb1.out.size)); obtain ⟨x5, x6⟩ := layc HBOX.out Hb2.out; clear hb2 d0 d1)
  go_upto_region 4 with (go_at_call 29; refine (K29.out _ Hb2.out).mono ?_; rintro e V3 ⟨⟨g, l, rfl, ho3, hgr⟩, hb3⟩; have HBV : Hid (Below W0.heap.size W0 V3) := hide (Hb2.out.trans (hb3.mono Hb2.out.size)); have HOV : Hid (intE.Own V3 W0.heap.size (.slice (some ⟨g, 0, none⟩) n n) l) := hide (ho3.mono Hb2.out.size); clear hb3 ho3 x5 x6)
  clear K28 K29 Hb1
  have bX : Below V3.heap.size V3 (V3.alloc (.cells #[.slice a n c, .slice a' m c', .slice aM k0 cM, .int .i64 (t : Int), .slice (some ⟨g, 0, none⟩) n n] 56)) := (Below.refl _ _).alloc (Nat.le_refl _) _
  have HQ := hide (heap_new V3 (.cells #[.slice a n c, .slice a' m c', .slice aM k0 cM, .int .i64 (t : Int), .slice (some ⟨g, 0, none⟩) n n] 56))
  have HQg : Hid (W0.heap.size ≤ V3.heap.size) := hide HBV.out.size
  have HF := hide (HOV.out.keep bX)
  have HB3 := hide (HBV.out.trans (bX.mono HBV.out.size))
  obtain ⟨W3, hW3⟩ : ∃ W3, V3.alloc (.cells #[.slice a n c, .slice a' m c', .slice aM k0 cM, .int .i64 (t : Int), .slice (some ⟨g, 0, none⟩) n n] 56) = W3 := ⟨_, rfl⟩
  obtain ⟨q, hq⟩ : ∃ q, V3.heap.size = q := ⟨_, rfl⟩
  rw [hW3] at HQ HF HB3
  rw [hq] at HQ HQg
  rw [hW3, hq]
  clear hW3 hq bX HBV HOV
  obtain ⟨x5, x6⟩ := layc HBOX.out HB3.out
  obtain ⟨SS, hSS⟩ : ∃ SS : World → Prop, SS = fun W' => W'.heap[q]? = some (.cells #[.slice a n c, .slice a' m c', .slice aM k0 cM, .int .i64 (t : Int), .slice (some ⟨g, 0, none⟩) n n] 56) ∧ intE.Own W' W0.heap.size (.slice (some ⟨g, 0, none⟩) n n) l ∧ Below W0.heap.size W0 W' := ⟨_, rfl⟩
  have s9 : Hid (∀ W', SS W' → Below W0.heap.size W0 W') := hide (fun W' h => by rw [hSS] at h; exact h.2.2)
  have s8 : Hid (∀ W', W'.heap[q]? = some (.cells #[.slice a n c, .slice a' m c', .slice aM k0 cM, .int .i64 (t : Int), .slice (some ⟨g, 0, none⟩) n n] 56) → intE.Own W' W0.heap.size (.slice (some ⟨g, 0, none⟩) n n) l → Below W0.heap.size W0 W' → SS W') := hide (fun W' h1 h2 h3 => by rw [hSS]; exact ⟨h1, h2, h3⟩)
  have s8b : Hid (∀ W W', SS W → Below W.heap.size W W' → SS W') := hide (fun W W' h hb => by rw [hSS] at h ⊢; exact ⟨(hb.block _ (heap_lt h.1)).trans h.1, h.2.1.keep hb, h.2.2.trans (hb.mono h.2.2.size)⟩)
  have s8d : Hid (∀ W, SS W → SS W.drew) := hide (fun W h => s8b.out W _ h (Below.refl _ _).drew)
  have HWy : Hid (∀ W', SS W' → Wy W' a a' aM c c' cM n m k0 t g ns es ms l) := hide (fun W' h => by rw [hSS] at h; exact ⟨(HLW.out _ h.2.2).1, (HLW.out _ h.2.2).2, h.2.1.rd, hgr⟩)
  have sb : Hid (∀ W', SS W' → W'.cell? ⟨q, 0, none⟩ = some (.slice a n c) ∧ W'.cell? ⟨q, 1, none⟩ = some (.slice a' m c') ∧ W'.cell? ⟨q, 2, none⟩ = some (.slice aM k0 cM) ∧ W'.cell? ⟨q, 3, none⟩ = some (.int .i64 (t : Int)) ∧ W'.cell? ⟨q, 4, none⟩ = some (.slice (some ⟨g, 0, none⟩) n n)) := hide (fun W' h => by rw [hSS] at h; exact box5 h.1 (Below.refl _ _))
  have s8z : Hid (∀ W', SS W' → g < W'.heap.size ∧ q < W'.heap.size) := hide (fun W' h => by rw [hSS] at h; exact ⟨h.2.1.lt g rfl, heap_lt h.1⟩)
  have s8p : Hid (∀ W gN k v, SS W → g ≠ gN → q ≠ gN → W0.heap.size ≤ gN → SS (W.setCell ⟨gN, k, none⟩ v)) := hide (fun W gN k v h h1 h2 h3 => by
    rw [hSS] at h ⊢
    refine ⟨?_, own_set_other h.2.1 (fun e => h1 (Option.some.inj e)), h.2.2.setCell (p := ⟨gN, k, none⟩) h3 _⟩
    rw [← h.1]
    simp only [World.setCell, Array.getElem?_modify, if_neg (fun e => h2 (Eq.symm e))])
  have s8g : Hid (∀ W W' gN, SS W → g ≠ gN → q ≠ gN → W0.heap.size ≤ gN → W.grownBy W' (some gN) → SS W') := hide (fun W W' gN h h1 h2 h3 hg => by
    rw [hSS] at h ⊢
    refine ⟨(hg.block q (heap_lt h.1) (fun e => h2 (Option.some.inj e))).trans h.1, own_chg h.2.1 (fun k cur hk hc => hg.block k (heap_lt hc) (fun e => h1 (Option.some.inj (hk.trans e)))), h.2.2.grown hg h.2.2.size (fun k hk => by obtain rfl := Option.some.inj hk; exact h3)⟩)
  have K30 : Hid (∀ W (u : Nat) (left : Int), SS W → u < n → Calls Try.prog 30 #[.agg #[.slice a n c, .slice a' m c', .slice aM k0 cM, .int .i64 (t : Int), .slice (some ⟨g, 0, none⟩) n n], .int .i64 (u : Int), .int .i64 left] W fun e w' => e = .returned (.int .i64 (stp ns es ms l t (u : Int) left)) ∧ Below W.heap.size W w') := hide (fun W u left h hu => step_any a a' aM c c' cM n m k0 t g u ns es ms l left W (HWy.out W h) hu)
  clear hSS
  have hn4 := Hn4.out
  obtain ⟨W4, hmk, ho4, hb4, _⟩ := made_ints W3 n (by omega)
  have i0 : (n : Int) ≤ 1000 := by omega
  have HgN : Hid (¬ g = W3.heap.size) := hide (fun e => by have := HF.out.lt g rfl; omega)
  have HqN : Hid (q < W3.heap.size) := hide (heap_lt HQ.out)
  have HO : Hid (intE.Own W4 W0.heap.size (.slice (some ⟨W3.heap.size, 0, none⟩) n n) (List.replicate n 0)) := hide (ho4.mono HB3.out.size)
  have HS4 : Hid (SS W4) := hide (s8.out _ ((hb4.block _ (heap_lt HQ.out)).trans HQ.out) (HF.out.keep hb4) (HB3.out.trans (hb4.mono HB3.out.size)))
  have s8s : Hid (∀ W k v, SS W → SS (W.setCell ⟨W3.heap.size, k, none⟩ v)) := hide (fun W k v h => s8p.out W _ k v h HgN.out (Nat.ne_of_lt HqN.out) HB3.out.size)
  generalize W3.heap.size = gN at *
  have Hgr := hide hgr
  clear ho4 hb4 hn4 hgr
  go_wp2_with fail
  clear hmk
  go_loopw [26] (fun v26 wr => ∃ (k : Nat) (lst : List Int), k ≤ n ∧ v26 = .int .i64 k ∧ Hid (intE.Own wr W0.heap.size (.slice (some ⟨gN, 0, none⟩) n n) lst) ∧ Hid (SS wr) ∧ Hid (lst.length = n ∧ ∀ i, i < k → lst[i]? = some (stp ns es ms l t ((i : Nat) : Int) (va l i - 1)))) (fun v26 _ => n - (intOf v26).toNat)
  case atStart => exact ⟨0, _, by omega, rfl, HO, HS4, hide ⟨by simp, fun i hi => by omega⟩⟩
  case round =>
    obtain ⟨k, lst, hk, rfl, HO, HS, HX⟩ := hrel
    by_cases hlt : k < n
    · have j0 : (0 : Int) ≤ (k : Int) := by omega
      have j1 : (k : Int) < (n : Int) := by omega
      obtain ⟨v, hv⟩ : ∃ v, va l k = v := ⟨_, rfl⟩
      have hv1 : -1 ≤ v := by rw [← hv]; exact Hgr.out.low k
      have hv2 : v < (n : Int) := by rw [← hv]; exact Hgr.out.high k
      have hwr : IntKind.i64.wrap (v - 1) = v - 1 := by unfold IntKind.wrap; simp [IntKind.bits, IntKind.signed]; omega
      have sc : Hid (∀ W', SS W' → W'.cell? ⟨g, k, none⟩ = some (.int .i64 v)) := hide (fun W' h => by
        have h1 := (HWy.out W' h).at k hlt
        rwa [hv] at h1)
      obtain ⟨d, hd⟩ : ∃ d, stp ns es ms l t (k : Int) (v - 1) = d := ⟨_, rfl⟩
      have K30' : Hid (∀ W, SS W → Calls Try.prog 30 #[.agg #[.slice a n c, .slice a' m c', .slice aM k0 cM, .int .i64 (t : Int), .slice (some ⟨g, 0, none⟩) n n], .int .i64 (k : Int), .int .i64 (v - 1)] W fun e w' => e = .returned (.int .i64 d) ∧ Below W.heap.size W w') := hide (fun W h => by rw [← hd]; exact K30.out W k (v - 1) h hlt)
      have HX1 : Hid ((lst.set k d).length = n ∧ ∀ i, i < k + 1 → (lst.set k d)[i]? = some (stp ns es ms l t ((i : Nat) : Int) (va l i - 1))) := hide ⟨by rw [List.length_set]; exact HX.out.1, fun i hi => by
        rw [List.getElem?_set]
        by_cases e : k = i
        · subst e; rw [if_pos rfl, if_pos (by rw [HX.out.1]; exact hlt), hv, hd]
        · rw [if_neg e]; exact HX.out.2 i (by omega)⟩
      obtain ⟨old, hold⟩ : ∃ old, lst[k]? = some old := ⟨_, List.getElem?_eq_getElem (by rw [HX.out.1]; exact hlt)⟩
      have Hold := hide hold
      clear hv hd hold
      go_upto_region 8 with fail
      refine wp_region_held_drew (S := SS) (by kernel_rfl) (s8d.out _ HS.out) (fun hS0 => ?_)
      obtain ⟨V0, hV0⟩ : ∃ V0, wr.drew = V0 := ⟨_, rfl⟩
      have HO0 : Hid (intE.Own V0 W0.heap.size (.slice (some ⟨gN, 0, none⟩) n n) lst) := hide (by rw [← hV0]; exact HO.out.keep (Below.refl _ _).drew)
      rw [hV0] at hS0 ⊢
      clear hV0
      refine wpAnyH_take (i := 0) (v := .slice (some ⟨gN, 0, none⟩) n n) rfl (by kernel_rfl) (by kernel_rfl) (by kernel_rfl) (fun _ _ _ h => h) (Or.inl ⟨by rfl, fun W' hW => by go_simp⟩) hS0 ?_
      refine wpAnyH_take (i := 1) (v := .int .i64 (k : Int)) rfl (by kernel_rfl) (by kernel_rfl) (by kernel_rfl) (fun _ _ _ h => h) (Or.inl ⟨by rfl, fun W' hW => by go_simp⟩) hS0 ?_
      refine wpAnyH_take (i := 3) (v := .int .i64 (k : Int)) rfl (by kernel_rfl) (by kernel_rfl) (by kernel_rfl) (fun _ _ _ h => h) (Or.inl ⟨by rfl, fun W' hW => by go_simp⟩) hS0 ?_
      refine wpAnyH_take (i := 6) (v := .int .i64 (k : Int)) rfl (by kernel_rfl) (by kernel_rfl) (by kernel_rfl) (fun _ _ _ h => h) (Or.inl ⟨by rfl, fun W' hW => by go_simp⟩) hS0 ?_
      refine wpAnyH_take (i := 2) (v := .agg #[.slice a n c, .slice a' m c', .slice aM k0 cM, .int .i64 (t : Int), .slice (some ⟨g, 0, none⟩) n n]) rfl (by kernel_rfl) (by kernel_rfl) (by kernel_rfl) (fun _ _ _ h => h) (Or.inl ⟨by rfl, fun W' hW => by obtain ⟨z0, z1, z2, z3, z4⟩ := sb.out W' hW; go_simp⟩) hS0 ?_
      refine wpAnyH_take (i := 4) (v := .pointer (some ⟨q, 4, none⟩)) rfl (by kernel_rfl) (by kernel_rfl) (by kernel_rfl) (fun _ _ _ h => h) (Or.inl ⟨by rfl, fun W' hW => by go_simp⟩) hS0 ?_
      refine wpAnyH_take (i := 5) (v := .slice (some ⟨g, 0, none⟩) n n) rfl (by kernel_rfl) (by kernel_rfl) (by kernel_rfl) (fun _ _ _ h => h) (Or.inl ⟨by rfl, fun W' hW => by obtain ⟨z0, z1, z2, z3, z4⟩ := sb.out W' hW; go_simp⟩) hS0 ?_
      refine wpAnyH_take (i := 7) (v := .pointer (some ⟨g, k, none⟩)) rfl (by kernel_rfl) (by kernel_rfl) (by kernel_rfl) (fun _ _ _ h => h) (Or.inl ⟨by rfl, fun W' hW => by go_simp⟩) hS0 ?_
      refine wpAnyH_take (i := 8) (v := .int .i64 v) rfl (by kernel_rfl) (by kernel_rfl) (by kernel_rfl) (fun _ _ _ h => h) (Or.inl ⟨by rfl, fun W' hW => by have z5 := sc.out W' hW; go_simp⟩) hS0 ?_
      refine wpAnyH_take (i := 9) (v := .int .i64 (v - 1)) rfl (by kernel_rfl) (by kernel_rfl) (by kernel_rfl) (fun _ _ _ h => h) (Or.inl ⟨by rfl, fun W' hW => by go_simp⟩) hS0 ?_
      refine wpAnyH_ready (rs := [10]) (by kernel_rfl) (by simp) ?_
      refine AllReadyH.cons rfl (fun K hK => ?_) AllReadyH.nil
      go_simp
      refine (K30'.out _ hS0).mono ?_
      rintro e W5 ⟨rfl, hb5⟩
      refine hK.out _ _ (s8b.out _ _ hS0 hb5) (fun hS5 => ?_)
      clear hK K
      have HO5 := hide (HO0.out.keep hb5)
      obtain ⟨y1, f1⟩ := HO5.out.at1 (Value.int .i64) (fun _ => rfl) rfl k _ Hold.out
      have HO6 : Hid (intE.Own (W5.setCell ⟨gN, k, none⟩ (.int .i64 d)) W0.heap.size (.slice (some ⟨gN, 0, none⟩) n n) (lst.set k d)) := hide (HO5.out.set (Value.int .i64) (fun _ => rfl) rfl k d)
      have HS6 : Hid (SS (W5.setCell ⟨gN, k, none⟩ (.int .i64 d))) := hide (s8s.out _ k _ hS5)
      refine wpAnyH_ready (rs := [11]) (by kernel_rfl) (by simp) ?_
      refine AllReadyH.cons rfl (fun K hK => ?_) AllReadyH.nil
      go_simp
      refine hK.out _ _ hS5 (fun hS6 => ?_)
      clear hK K
      refine wpAnyH_ready (rs := [12]) (by kernel_rfl) (by simp) ?_
      refine AllReadyH.cons rfl (fun K hK => ?_) AllReadyH.nil
      go_simp
      refine hK.out _ _ HS6.out (fun hS7 => ?_)
      clear hK K
      refine wpAnyH_done (by kernel_rfl) ?_ _
      clear hb5 hS0 hS5 hS6 hS7 y1 f1
      go_wp2_with fail
      go_roundw
      case rel => exact ⟨k + 1, _, by omega, by go_num, HO6, HS6, HX1⟩
      case measure => simp [intOf]; omega
    · obtain rfl : k = n := by omega
      have j1 : ¬ (k : Int) < (k : Int) := by omega
      have HR : Hid (lst = tbl ns es ms l t k) := hide (by
        apply List.ext_getElem?
        intro i
        rcases Nat.lt_or_ge i k with hi | hi
        · rw [HX.out.2 i hi, tbl_at _ _ _ _ _ _ _ hi]
        · rw [List.getElem?_eq_none (by rw [HX.out.1]; exact hi), List.getElem?_eq_none (by rw [tbl_len]; exact hi)])
      go_wp2_with fail
      refine bodyPost_ret (v := .tuple #[.slice (some ⟨gN, 0, none⟩) k k, .int .i64 0]) (by simp [results, Try.results12, go_sem]) rfl ⟨⟨gN, l, Hgr.out, rfl, by rw [← HR.out]; exact HO.out.mono HA.out.size⟩, HA.out.trans ((s9.out _ HS.out).mono HA.out.size)⟩
end Go.Proofs.Ytmkjpdmhplldjaa
