/- Where devices lead: Walk, the program's and the document's. -/
import Derived.Test.YtmkjpdmhplldjaaPlc
import Derived.Test.YtmkjpdmhplldjaaRmt
namespace Go.Proofs.Ytmkjpdmhplldjaa
open Go.RowKit
set_option linter.unusedVariables false

/-- the node and the error -/
def wres : Option Int → Int × Int
  | some y => (y, 0)
  | none => (0, 80)
theorem wlk_low {es : List Ed} {u d : Int} {p : List Int} (h : ¬ (1 ≤ d ∧ d ≤ es.length)) : wlk es u (d :: p) = none := by
  show (if _ then _ else _) = _
  rw [if_neg h]
theorem wlk_on {es : List Ed} {u x y d : Int} {p : List Int} (h : 1 ≤ d ∧ d ≤ es.length) (he : es[(d - 1).toNat]? = some (x, y)) : wlk es u (d :: p) = if x = u then wlk es y p else none := by
  show (if _ then _ else _) = _
  rw [if_pos h, he]
theorem drop_cons {ps : List Int} {i : Nat} {d : Int} (h : ps[i]? = some d) : ps.drop i = d :: ps.drop (i + 1) := by
  have hi : i < ps.length := by
    rcases Nat.lt_or_ge i ps.length with g | g
    · exact g
    · rw [List.getElem?_eq_none g] at h; cases h
  rw [List.getElem?_eq_getElem hi] at h
  rw [← List.getElem_cons_drop hi, Option.some.inj h]

set_option maxRecDepth 100000 in
theorem walk_no (a a' : Option Addr) (c c' n m : Nat) (x0 : Int) (v : Value) (w : World) (hx : ¬ (0 ≤ x0 ∧ x0 < (n : Int))) :
    Calls Try.prog 23 #[.agg #[.slice a n c, .slice a' m c'], .int .i64 x0, v] w fun e w' => e = .returned (.tuple #[.int .i64 0, .int .i64 1]) ∧ Below w.heap.size w w' := by
  obtain ⟨W0, hW0⟩ : ∃ W0, w.alloc (.cells #[.slice a n c, .slice a' m c'] 25) = W0 := ⟨_, rfl⟩
  have bA : Below w.heap.size w W0 := by rw [← hW0]; exact (Below.refl _ _).alloc (Nat.le_refl _) _
  have hbox : W0.heap[w.heap.size]? = some (.cells #[.slice a n c, .slice a' m c'] 25) := by rw [← hW0]; exact heap_new _ _
  have HA := hide bA
  have HW0 := hide hW0
  have d0 := (cells_at hbox 0).1
  have d1 := (cells_at hbox 1).1
  simp at d0 d1
  have b1 : Below W0.heap.size W0 (W0.alloc (.cells #[.int .i64 x0] 3)) := (Below.refl _ _).alloc (Nat.le_refl _) _
  have Hb1 := hide b1
  have K28 : Hid (∀ W, Below W0.heap.size W0 W → intE.Rd W (.slice (some ⟨W0.heap.size, 0, none⟩) 1 1) [x0] → Calls Try.prog 28 #[.agg #[.slice a n c, .slice a' m c'], .slice (some ⟨W0.heap.size, 0, none⟩) 1 1] W fun e w' => e = .returned (.bool false) ∧ Below W.heap.size W w') := hide (fun W h hr => by
    have := places_any a a' (some ⟨W0.heap.size, 0, none⟩) n c m c' 1 1 [x0] W rfl hr (by omega)
    rwa [place1, decide_eq_false hx] at this)
  clear b1 hx hbox bA hW0
  go_enter Try.func23, Try.ntmps23
  go_upto_region 1 with fail
  rw [HW0.out]
  clear HW0
  go_wp2_with (go_at_call 28; refine (K28.out _ Hb1.out (int_new _ _ _ rfl)).mono ?_; rintro e W2 ⟨rfl, hb2⟩; have Hb2 : Hid (Below W0.heap.size W0 W2) := hide (Hb1.out.trans (hb2.mono Hb1.out.size)); clear hb2 d0 d1)
  refine bodyPost_ret (v := .tuple #[.int .i64 0, .int .i64 1]) (by simp [results, Try.results23, go_sem]) rfl ⟨rfl, HA.out.trans (Hb2.out.mono HA.out.size)⟩

set_option maxRecDepth 100000 in
set_option maxHeartbeats 4000000 in
theorem walk_ok (a a' aX : Option Addr) (c c' n m k cX : Nat) (es : List Ed) (x0 : Int) (ps : List Int) (w : World) (hm : es.length = m) (hu : edE.Rd w (.slice a' m c') es) (hl : m ≤ 1000) (hk : ps.length = k) (hv : intE.Rd w (.slice aX k cX) ps) (hl' : k ≤ 100000) (hx : 0 ≤ x0 ∧ x0 < (n : Int)) :
    Calls Try.prog 23 #[.agg #[.slice a n c, .slice a' m c'], .int .i64 x0, .slice aX k cX] w fun e w' => e = .returned (.tuple #[.int .i64 (wres (wlk es x0 ps)).1, .int .i64 (wres (wlk es x0 ps)).2]) ∧ Below w.heap.size w w' := by
  obtain ⟨W0, hW0⟩ : ∃ W0, w.alloc (.cells #[.slice a n c, .slice a' m c'] 25) = W0 := ⟨_, rfl⟩
  have bA : Below w.heap.size w W0 := by rw [← hW0]; exact (Below.refl _ _).alloc (Nat.le_refl _) _
  have hbox : W0.heap[w.heap.size]? = some (.cells #[.slice a n c, .slice a' m c'] 25) := by rw [← hW0]; exact heap_new _ _
  have HBOX := hide hbox
  have HA := hide bA
  have HW0 := hide hW0
  have d0 := (cells_at hbox 0).1
  have d1 := (cells_at hbox 1).1
  simp at d0 d1
  have HuW : Hid (∀ W, Below W0.heap.size W0 W → edE.Rd W (.slice a' m c') es ∧ intE.Rd W (.slice aX k cX) ps) := hide (fun W h => ⟨hu.keep (bA.trans (h.mono bA.size)), hv.keep (bA.trans (h.mono bA.size))⟩)
  have Hm := hide hm
  have Hk := hide hk
  obtain ⟨R, hR⟩ : ∃ R, wlk es x0 ps = R := ⟨_, rfl⟩
  rw [hR]
  have HR := hide hR
  have i0 : (m : Int) ≤ 1000 := by omega
  have i1 : (k : Int) ≤ 100000 := by omega
  have b1 : Below W0.heap.size W0 (W0.alloc (.cells #[.int .i64 x0] 3)) := (Below.refl _ _).alloc (Nat.le_refl _) _
  have Hb1 := hide b1
  have K28 : Hid (∀ W, Below W0.heap.size W0 W → intE.Rd W (.slice (some ⟨W0.heap.size, 0, none⟩) 1 1) [x0] → Calls Try.prog 28 #[.agg #[.slice a n c, .slice a' m c'], .slice (some ⟨W0.heap.size, 0, none⟩) 1 1] W fun e w' => e = .returned (.bool true) ∧ Below W.heap.size W w') := hide (fun W h hr => by
    have := places_any a a' (some ⟨W0.heap.size, 0, none⟩) n c m c' 1 1 [x0] W rfl hr (by omega)
    rwa [place1, decide_eq_true hx] at this)
  clear b1 hx
  clear hm hk hu hv hl hl' hbox bA hW0 hR
  go_enter Try.func23, Try.ntmps23
  go_upto_region 1 with fail
  rw [HW0.out]
  clear HW0
  go_upto_region 4 with (go_at_call 28; refine (K28.out _ Hb1.out (int_new _ _ _ rfl)).mono ?_; rintro e W2 ⟨rfl, hb2⟩; have Hb2 : Hid (Below W0.heap.size W0 W2) := hide (Hb1.out.trans (hb2.mono Hb1.out.size)); obtain ⟨x5, x6⟩ := layc HBOX.out Hb2.out; clear hb2 d0 d1)
  clear K28 Hb1
  have HE : Hid (edE.Rd W2 (.slice a' m c') es) := hide (HuW.out W2 Hb2.out).1
  have HP : Hid (intE.Rd W2 (.slice aX k cX) ps) := hide (HuW.out W2 Hb2.out).2
  go_loopw [1, 17] (fun v1 vi wr => ∃ (i : Nat) (x : Int), wr = W2 ∧ v1 = .int .i64 x ∧ vi = .int .i64 i ∧ i ≤ k ∧ Hid (wlk es x (ps.drop i) = R)) (fun _ vi _ => k - (intOf vi).toNat)
  case atStart => exact ⟨0, x0, rfl, rfl, rfl, Nat.zero_le _, by rw [List.drop_zero]; exact HR⟩
  case round =>
    obtain ⟨i, x, hw, rfl, rfl, hi, HX⟩ := hrel
    have hw' := hw.symm
    clear hw
    subst hw'
    by_cases hlt : i < k
    · obtain ⟨d, hd⟩ : ∃ d, ps[i]? = some d := ⟨_, List.getElem?_eq_getElem (by rw [Hk.out]; exact hlt)⟩
      obtain ⟨b, off, rfl, c0⟩ := int_at HP.out i d hd
      have j0 : (0 : Int) ≤ (i : Int) := by omega
      have j1 : (i : Int) < (k : Int) := by omega
      have HX : Hid (wlk es x (d :: ps.drop (i + 1)) = R) := hide (by rw [← drop_cons hd]; exact HX.out)
      clear hd
      by_cases h1 : d < 1
      · have HRN : Hid (R = none) := hide (by rw [← HX.out, wlk_low (fun h => by omega)])
        go_wp2_with fail
        refine bodyPost_ret (v := .tuple #[.int .i64 0, .int .i64 80]) (by simp [results, Try.results23, go_sem]) rfl ⟨by rw [HRN.out]; rfl, HA.out.trans (Hb2.out.mono HA.out.size)⟩
      · by_cases h2 : d > (m : Int)
        · have HRN : Hid (R = none) := hide (by rw [← HX.out, wlk_low (fun h => by have := Hm.out; omega)])
          go_wp2_with fail
          refine bodyPost_ret (v := .tuple #[.int .i64 0, .int .i64 80]) (by simp [results, Try.results23, go_sem]) rfl ⟨by rw [HRN.out]; rfl, HA.out.trans (Hb2.out.mono HA.out.size)⟩
        · obtain ⟨q, hq⟩ := Int.eq_ofNat_of_zero_le (show 0 ≤ d - 1 by omega)
          obtain rfl : d = (q : Int) + 1 := by omega
          have q1 : (q : Int) < (m : Int) := by omega
          have q0 : (0 : Int) ≤ (q : Int) := by omega
          obtain ⟨p, hp⟩ : ∃ p, es[q]? = some p := ⟨_, List.getElem?_eq_getElem (by rw [Hm.out]; omega)⟩
          obtain ⟨x1, y1⟩ := p
          obtain ⟨b', off', rfl, c3, c4⟩ := ed_at HE.out q (x1, y1) hp
          simp only at c3 c4
          have HX : Hid ((if x1 = x then wlk es y1 (ps.drop (i + 1)) else none) = R) := hide (by
            rw [← HX.out, wlk_on (es := es) (d := (q : Int) + 1) (x := x1) (y := y1) ⟨by omega, by have := Hm.out; omega⟩ (by rw [show ((q : Int) + 1 - 1).toNat = q by omega]; exact hp)])
          clear hp hq
          by_cases h3 : x1 = x
          · have HX1 : Hid (wlk es y1 (ps.drop (i + 1)) = R) := hide (by rw [← HX.out, if_pos h3])
            have q3 : (x1 != x) = false := by rw [h3]; exact bne_self_eq_false _
            clear HX h3
            go_wp2_with fail
            go_roundw
            case rel => exact ⟨i + 1, y1, trivial, rfl, by go_num, by omega, HX1⟩
            case measure => simp [intOf]; omega
          · have HRN : Hid (R = none) := hide (by rw [← HX.out, if_neg h3])
            have q3 : (x1 != x) = true := bne_iff_ne.2 h3
            clear HX h3
            go_wp2_with fail
            refine bodyPost_ret (v := .tuple #[.int .i64 0, .int .i64 80]) (by simp [results, Try.results23, go_sem]) rfl ⟨by rw [HRN.out]; rfl, HA.out.trans (Hb2.out.mono HA.out.size)⟩
    · obtain rfl : i = k := by omega
      have j1 : ¬ (i : Int) < (i : Int) := by omega
      have HRS : Hid (R = some x) := hide (by rw [← HX.out, List.drop_of_length_le (by rw [Hk.out]; omega)]; rfl)
      go_wp2_with fail
      refine bodyPost_ret (v := .tuple #[.int .i64 x, .int .i64 0]) (by simp [results, Try.results23, go_sem]) rfl ⟨by rw [HRS.out]; rfl, HA.out.trans (Hb2.out.mono HA.out.size)⟩

set_option maxRecDepth 100000 in
set_option maxHeartbeats 4000000 in
theorem rwalk_any (a a' aX : Option Addr) (c c' n m k cX : Nat) (es : List Ed) (x0 : Int) (ps : List Int) (w : World) (hm : es.length = m) (hu : edE.Rd w (.slice a' m c') es) (hl : m ≤ 1000) (hk : ps.length = k) (hv : intE.Rd w (.slice aX k cX) ps) (hl' : k ≤ 100000) :
    Calls Try.prog 24 #[.agg #[.slice a n c, .slice a' m c'], .int .i64 x0, .slice aX k cX] w fun e w' => e = .returned (.tuple #[.int .i64 (wres (wlk es x0 ps)).1, .int .i64 (wres (wlk es x0 ps)).2]) ∧ Below w.heap.size w w' := by
  obtain ⟨W0, hW0⟩ : ∃ W0, w.alloc (.cells #[.slice a n c, .slice a' m c'] 25) = W0 := ⟨_, rfl⟩
  have bA : Below w.heap.size w W0 := by rw [← hW0]; exact (Below.refl _ _).alloc (Nat.le_refl _) _
  have hbox : W0.heap[w.heap.size]? = some (.cells #[.slice a n c, .slice a' m c'] 25) := by rw [← hW0]; exact heap_new _ _
  have HBOX := hide hbox
  have HA := hide bA
  have HW0 := hide hW0
  have d0 := (cells_at hbox 0).1
  have d1 := (cells_at hbox 1).1
  simp at d0 d1
  have HuW : Hid (∀ W, Below W0.heap.size W0 W → edE.Rd W (.slice a' m c') es ∧ intE.Rd W (.slice aX k cX) ps) := hide (fun W h => ⟨hu.keep (bA.trans (h.mono bA.size)), hv.keep (bA.trans (h.mono bA.size))⟩)
  have Hm := hide hm
  have Hk := hide hk
  obtain ⟨R, hR⟩ : ∃ R, wlk es x0 ps = R := ⟨_, rfl⟩
  rw [hR]
  have HR := hide hR
  have i0 : (m : Int) ≤ 1000 := by omega
  have i1 : (k : Int) ≤ 100000 := by omega
  clear hm hk hu hv hl hl' hbox bA hW0 hR
  go_enter Try.func24, Try.ntmps24
  go_upto_region 1 with fail
  rw [HW0.out]
  clear HW0
  have Hb2 : Hid (Below W0.heap.size W0 W0) := hide (Below.refl _ _)
  obtain ⟨W2, hW2⟩ : ∃ W2, W2 = W0 := ⟨_, rfl⟩
  have x5 := d0
  have x6 := d1
  clear d0 d1
  rw [← hW2] at x5 x6
  have Hb2 : Hid (Below W0.heap.size W0 W2) := hide (by rw [hW2]; exact Below.refl _ _)
  rw [← hW2]
  clear hW2
  go_wp2_with fail
  have HE : Hid (edE.Rd W2 (.slice a' m c') es) := hide (HuW.out W2 Hb2.out).1
  have HP : Hid (intE.Rd W2 (.slice aX k cX) ps) := hide (HuW.out W2 Hb2.out).2
  go_loopw [1, 12] (fun v1 vi wr => ∃ (i : Nat) (x : Int), wr = W2 ∧ v1 = .int .i64 x ∧ vi = .int .i64 i ∧ i ≤ k ∧ Hid (wlk es x (ps.drop i) = R)) (fun _ vi _ => k - (intOf vi).toNat)
  case atStart => exact ⟨0, x0, rfl, rfl, rfl, Nat.zero_le _, by rw [List.drop_zero]; exact HR⟩
  case round =>
    obtain ⟨i, x, hw, rfl, rfl, hi, HX⟩ := hrel
    have hw' := hw.symm
    clear hw
    subst hw'
    by_cases hlt : i < k
    · obtain ⟨d, hd⟩ : ∃ d, ps[i]? = some d := ⟨_, List.getElem?_eq_getElem (by rw [Hk.out]; exact hlt)⟩
      obtain ⟨b, off, rfl, c0⟩ := int_at HP.out i d hd
      have j0 : (0 : Int) ≤ (i : Int) := by omega
      have j1 : (i : Int) < (k : Int) := by omega
      have HX : Hid (wlk es x (d :: ps.drop (i + 1)) = R) := hide (by rw [← drop_cons hd]; exact HX.out)
      clear hd
      by_cases h1 : d < 1
      · have HRN : Hid (R = none) := hide (by rw [← HX.out, wlk_low (fun h => by omega)])
        go_wp2_with fail
        refine bodyPost_ret (v := .tuple #[.int .i64 0, .int .i64 80]) (by simp [results, Try.results24, go_sem]) rfl ⟨by rw [HRN.out]; rfl, HA.out.trans (Hb2.out.mono HA.out.size)⟩
      · by_cases h2 : d > (m : Int)
        · have HRN : Hid (R = none) := hide (by rw [← HX.out, wlk_low (fun h => by have := Hm.out; omega)])
          go_wp2_with fail
          refine bodyPost_ret (v := .tuple #[.int .i64 0, .int .i64 80]) (by simp [results, Try.results24, go_sem]) rfl ⟨by rw [HRN.out]; rfl, HA.out.trans (Hb2.out.mono HA.out.size)⟩
        · obtain ⟨q, hq⟩ := Int.eq_ofNat_of_zero_le (show 0 ≤ d - 1 by omega)
          obtain rfl : d = (q : Int) + 1 := by omega
          have q1 : (q : Int) < (m : Int) := by omega
          have q0 : (0 : Int) ≤ (q : Int) := by omega
          obtain ⟨p, hp⟩ : ∃ p, es[q]? = some p := ⟨_, List.getElem?_eq_getElem (by rw [Hm.out]; omega)⟩
          obtain ⟨x1, y1⟩ := p
          obtain ⟨b', off', rfl, c3, c4⟩ := ed_at HE.out q (x1, y1) hp
          simp only at c3 c4
          have HX : Hid ((if x1 = x then wlk es y1 (ps.drop (i + 1)) else none) = R) := hide (by
            rw [← HX.out, wlk_on (es := es) (d := (q : Int) + 1) (x := x1) (y := y1) ⟨by omega, by have := Hm.out; omega⟩ (by rw [show ((q : Int) + 1 - 1).toNat = q by omega]; exact hp)])
          clear hp hq
          by_cases h3 : x1 = x
          · have HX1 : Hid (wlk es y1 (ps.drop (i + 1)) = R) := hide (by rw [← HX.out, if_pos h3])
            have q3 : (x1 != x) = false := by rw [h3]; exact bne_self_eq_false _
            clear HX h3
            go_wp2_with fail
            go_roundw
            case rel => exact ⟨i + 1, y1, trivial, rfl, by go_num, by omega, HX1⟩
            case measure => simp [intOf]; omega
          · have HRN : Hid (R = none) := hide (by rw [← HX.out, if_neg h3])
            have q3 : (x1 != x) = true := bne_iff_ne.2 h3
            clear HX h3
            go_wp2_with fail
            refine bodyPost_ret (v := .tuple #[.int .i64 0, .int .i64 80]) (by simp [results, Try.results24, go_sem]) rfl ⟨by rw [HRN.out]; rfl, HA.out.trans (Hb2.out.mono HA.out.size)⟩
    · obtain rfl : i = k := by omega
      have j1 : ¬ (i : Int) < (i : Int) := by omega
      have HRS : Hid (R = some x) := hide (by rw [← HX.out, List.drop_of_length_le (by rw [Hk.out]; omega)]; rfl)
      go_wp2_with fail
      refine bodyPost_ret (v := .tuple #[.int .i64 x, .int .i64 0]) (by simp [results, Try.results24, go_sem]) rfl ⟨by rw [HRS.out]; rfl, HA.out.trans (Hb2.out.mono HA.out.size)⟩
end Go.Proofs.Ytmkjpdmhplldjaa
