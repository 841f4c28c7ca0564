/- The document: is a number in a list; is there a row of so many edges, or fewer. -/
import Derived.Test.YtmkjpdmhplldjaaTbl
namespace Go.Proofs.Ytmkjpdmhplldjaa
open Go.RowKit
set_option linter.unusedVariables false

set_option maxRecDepth 100000 in
set_option maxHeartbeats 2000000 in
theorem has_any (a : Option Addr) (c n : Nat) (ms : List Int) (d : Int) (w : World) (hn : ms.length = n) (hv : intE.Rd w (.slice a n c) ms) (hl : n ≤ 100000) :
    Calls Try.prog 46 #[.slice a n c, .int .i64 d] w fun e w' => e = .returned (.bool (decide (d ∈ ms))) ∧ w' = w := by
  have Hn := hide hn
  have Hv := hide hv
  have i0 : (n : Int) ≤ 100000 := by omega
  have yes : Hid (∀ k : Nat, ms[k]? = some d → decide (d ∈ ms) = true) := hide (fun k h => decide_eq_true (List.mem_of_getElem? h))
  have no : Hid ((∀ k : Nat, k < n → ms[k]? ≠ some d) → decide (d ∈ ms) = false) := hide (fun h => decide_eq_false (fun h' => by
    obtain ⟨k, hk⟩ := List.getElem?_of_mem h'
    refine h k ?_ hk
    rcases Nat.lt_or_ge k ms.length with g | g
    · omega
    · rw [List.getElem?_eq_none g] at hk; cases hk))
  generalize decide (d ∈ ms) = res at *
  clear hn hv hl
  go_enter Try.func46, Try.ntmps46
  go_wp2_with fail
  go_loopw [8] (fun v8 wr => ∃ k : Nat, wr = w ∧ v8 = .int .i64 k ∧ k ≤ n ∧ Hid (∀ i : Nat, i < k → ms[i]? ≠ some d)) (fun v8 _ => n - (intOf v8).toNat)
  case atStart => exact ⟨0, rfl, rfl, Nat.zero_le _, hide (fun i hi => by omega)⟩
  case round =>
    obtain ⟨k, rfl, rfl, hk, HX⟩ := hrel
    by_cases hlt : k < n
    · obtain ⟨p, hp⟩ : ∃ p, ms[k]? = some p := ⟨_, List.getElem?_eq_getElem (by rw [Hn.out]; exact hlt)⟩
      obtain ⟨b, off, rfl, c0⟩ := int_at Hv.out k p hp
      have j0 : (0 : Int) ≤ (k : Int) := by omega
      have j1 : (k : Int) < (n : Int) := by omega
      have Hp := hide hp
      clear hp
      by_cases he : p = d
      · subst he
        have e1 := yes.out k Hp.out
        subst e1
        go_wp2_with fail
        go_ret
        exact ⟨rfl, rfl⟩
      · have hbe : (p == d) = false := beq_eq_false_iff_ne.2 he
        have HX1 : Hid (∀ i : Nat, i < k + 1 → ms[i]? ≠ some d) := hide (fun i hi h => by
          rcases Nat.lt_or_ge i k with g | g
          · exact HX.out i g h
          · obtain rfl : i = k := by omega
            rw [Hp.out] at h; exact he (Option.some.inj h))
        go_wp2_with fail
        go_roundw
        case rel => exact ⟨k + 1, trivial, by go_num, by omega, HX1⟩
        case measure => simp [intOf]; omega
    · obtain rfl : k = n := by omega
      have j1 : ¬ (k : Int) < (k : Int) := by omega
      have e1 := no.out HX.out
      subst e1
      go_wp2_with fail
      go_ret
      exact ⟨rfl, rfl⟩

set_option maxRecDepth 100000 in
set_option maxHeartbeats 4000000 in
theorem reached_any (a a' aM aX : Option Addr) (c c' cM cX n m k0 kX u t q : Nat) (ns : List Nd) (es : List Ed) (ms fs l : List Int) (w : World) (hL : Ly w a a' c c' n m ns es) (hM : Mk w aM cM k0 ms) (hF : Mk w aX cX kX fs) (hk : k0 ≤ 1000) (hG : Gr ns es (ms ++ shut es (t : Int) fs) l t n) (hu : u < n) :
    Calls Try.prog 47 #[.agg #[.slice a n c, .slice a' m c'], .slice aM k0 cM, .int .i64 (u : Int), .int .i64 (t : Int), .int .i64 (q : Int), .slice aX kX cX] w fun e w' => e = .returned (.bool (decide (0 ≤ va l u) && decide (va l u ≤ (q : Int)))) ∧ Below w.heap.size w w' := by
  obtain ⟨W0, hW0⟩ : ∃ W0, w.alloc (.cells #[.slice a n c, .slice a' m c'] 25) = W0 := ⟨_, rfl⟩
  have bA : Below w.heap.size w W0 := by rw [← hW0]; exact (Below.refl _ _).alloc (Nat.le_refl _) _
  have hbox : W0.heap[w.heap.size]? = some (.cells #[.slice a n c, .slice a' m c'] 25) := by rw [← hW0]; exact heap_new _ _
  have HBOX := hide hbox
  have HA := hide bA
  have HW0 := hide hW0
  have HLW : Hid (∀ W, Below W0.heap.size W0 W → Ly W a a' c c' n m ns es ∧ Mk W aM cM k0 ms ∧ Mk W aX cX kX fs) := hide (fun W h => ⟨hL.keep (bA.trans (h.mono bA.size)), hM.keep (bA.trans (h.mono bA.size)), hF.keep (bA.trans (h.mono bA.size))⟩)
  have K46 : Hid (∀ W x, Below W0.heap.size W0 W → Calls Try.prog 46 #[.slice aX kX cX, .int .i64 x] W fun e w' => e = .returned (.bool (decide (x ∈ fs))) ∧ w' = W) := hide (fun W x h => has_any aX cX kX fs x W hF.hk (HLW.out W h).2.2.hM hF.k4)
  have Hm := hide hL.hm
  have HMk := hide hM.hk
  have Hm4 := hide hL.m4
  have Hk4 := hide hk
  have i0 : (m : Int) ≤ 1000 := by have := hL.m4; omega
  obtain ⟨P, hP⟩ : ∃ P : Nat → List Int, P = dvs es (fun e => e.2 ≠ (t : Int) ∧ e.2 ∈ fs) := ⟨_, rfl⟩
  have HP0 : Hid (P 0 = []) := hide (by rw [hP]; rfl)
  have HPn : Hid (∀ (k : Nat) (y z : Int), es[k]? = some (y, z) → P (k + 1) = P k ++ (if z ≠ (t : Int) ∧ z ∈ fs then [((k + 1 : Nat) : Int)] else [])) := hide (fun k y z h => by rw [hP]; show dvs es _ k ++ _ = _; rw [h])
  have HPl : Hid (∀ k, (P k).length ≤ k) := hide (fun k => by rw [hP]; exact dvs_len _ _ _)
  have HE : Hid (shut es (t : Int) fs = P m) := hide (by rw [hP, ← hL.hm]; rfl)
  have K50 : Hid (∀ (W : World) (aC : Option Addr) (cC kC : Nat), Below W0.heap.size W0 W → intE.Rd W (.slice aC kC cC) (ms ++ P m) → (ms ++ P m).length = kC → Calls Try.prog 50 #[.agg #[.slice a n c, .slice a' m c'], .slice aC kC cC, .int .i64 (u : Int)] W fun e w' => ∃ g, e = .returned (.slice (some ⟨g, 0, none⟩) n n) ∧ w'.cell? ⟨g, t, none⟩ = some (.int .i64 (va l u)) ∧ Below W.heap.size W w') := hide (fun W aC cC kC h hr hlen => by
    have hcs : kC ≤ 100000 := by rw [← hlen, List.length_append, hM.hk]; have := HPl.out m; have := hL.m4; omega
    refine (between_any a a' aC c c' cC n m kC u ns es (ms ++ P m) W (HLW.out W h).1.hn (HLW.out W h).1.hm hlen (HLW.out W h).1.hv (HLW.out W h).1.hu hr hL.n4 hL.m4 hcs hu hL.hE).mono ?_
    rintro e w' ⟨⟨g, l', rfl, ho, hf⟩, hb⟩
    have h1 : va l u = va l' t := far_both hf (by have := hG.far; rw [HE.out, hL.hm] at this; exact this) hu hG.lt
    exact ⟨g, rfl, by rw [h1]; exact (ho.at1 (Value.int .i64) (fun _ => rfl) rfl t _ (va_at l' t (by rw [hf.1]; exact hG.lt))).1, hb⟩)
  have t0 : (0 : Int) ≤ (t : Int) := by omega
  have t1 : (t : Int) < (n : Int) := by have := hG.lt; omega
  obtain ⟨vl, hvl⟩ : ∃ vl, va l u = vl := ⟨_, rfl⟩
  rw [hvl] at K50
  rw [hvl]
  obtain ⟨res, hres⟩ : ∃ res, (decide (0 ≤ vl) && decide (vl ≤ (q : Int))) = res := ⟨_, rfl⟩
  rw [hres]
  have HRes := hide hres
  clear hres
  have b1 : Below W0.heap.size W0 (W0.alloc (.cells #[] 3)) := (Below.refl _ _).alloc (Nat.le_refl _) _
  have HB1 := hide b1
  have HO1 : Hid (intE.Own (W0.alloc (.cells #[] 3)) W0.heap.size (.slice (some ⟨W0.heap.size, 0, none⟩) 0 0) []) := hide (El.Own.new intE W0 _ (Nat.le_refl _) #[] [] rfl (by simp) _ _ _ rfl rfl rfl)
  clear hL hM hF hG hu hbox bA hW0 hP hk hvl b1
  go_enter Try.func47, Try.ntmps47
  go_upto_region 1 with fail
  rw [HW0.out]
  clear HW0
  go_upto_region 3 with (at_builtin; refine intE.wp (w0 := W0) HB1.out (by rfl) _ _ rfl _ _ rfl rfl [] ms HO1.out (HLW.out _ HB1.out).2.1.hM (by rw [HMk.out]; have := Hk4.out; simp; omega) ?_; intro v4 W4 ho4 hg4 hv4 hb4; rw [List.nil_append] at ho4; have HO4 := hide ho4; have HB4 := hide hb4; clear ho4 hg4 hv4 hb4)
  go_loopw [13, 14] (fun v13 v14 wr => ∃ k : Nat, k ≤ m ∧ v14 = .int .i64 ((k : Int) + 1) ∧ Hid (intE.Own wr W0.heap.size v13 (ms ++ P k)) ∧ Hid (Below W0.heap.size W0 wr)) (fun _ v14 _ => m + 1 - (intOf v14).toNat)
  case atStart => exact ⟨0, by omega, rfl, hide (by rw [HP0.out, List.append_nil]; exact HO4.out), HB4⟩
  case round =>
    obtain ⟨k, hk, rfl, HO, HB⟩ := hrel
    obtain ⟨x0, x1⟩ := layc HBOX.out HB.out
    by_cases hlt : k < m
    · obtain ⟨p, hp⟩ : ∃ p, es[k]? = some p := ⟨_, List.getElem?_eq_getElem (by rw [Hm.out]; exact hlt)⟩
      obtain ⟨y, z⟩ := p
      obtain ⟨bb, off, rfl, c0, c1⟩ := ed_at (HLW.out wr HB.out).1.hu k (y, z) hp
      simp only at c0 c1
      have j0 : (0 : Int) ≤ (k : Int) := by omega
      have j1 : (k : Int) < (m : Int) := by omega
      have j2 : (k : Int) + 1 ≤ (m : Int) := by omega
      have Hnx := hide (HPn.out k y z hp)
      have Hln : Hid ((ms ++ P k).length + 1 ≤ 1000000) := hide (by rw [List.length_append, HMk.out]; have := HPl.out k; have := Hk4.out; have := Hm4.out; omega)
      clear hp
      by_cases he : z = (t : Int)
      · have Hnx : Hid (P (k + 1) = P k) := hide (by rw [Hnx.out, if_neg (fun h => h.1 he), List.append_nil])
        have hbe : (z != (t : Int)) = false := by rw [he]; exact bne_self_eq_false _
        clear he
        go_wp2_with fail
        go_roundw
        case rel => exact ⟨k + 1, by omega, by go_num, by rw [Hnx.out]; exact HO, HB⟩
        case measure => simp [intOf]; omega
      · have hbe : (z != (t : Int)) = true := bne_iff_ne.2 he
        by_cases hf : z ∈ fs
        · have Hnx : Hid (P (k + 1) = P k ++ [(k : Int) + 1]) := hide (by rw [Hnx.out, if_pos ⟨he, hf⟩, show ((k + 1 : Nat) : Int) = (k : Int) + 1 by omega])
          have tf : decide (z ∈ fs) = true := decide_eq_true hf
          have Hb2 := hide (HB.out.alloc HB.out.size (.cells #[.int .i64 ((k : Int) + 1)] 3))
          have Ho2 : Hid (intE.Own (wr.alloc (.cells #[.int .i64 ((k : Int) + 1)] 3)) W0.heap.size u13 (ms ++ P k)) := hide (World.ownsRow.alloc HO.out _)
          clear he hf
          go_upto_region 6 with (go_at_call 46; refine (K46.out _ _ HB.out).mono ?_; rintro e W1 ⟨rfl, rfl⟩; rw [tf])
          go_wp2_with (at_builtin; refine intE.wp (w0 := W0) Hb2.out (by rfl) _ _ rfl _ _ rfl rfl (ms ++ P k) [(k : Int) + 1] Ho2.out (int_new _ _ _ (by simp)) (by simpa using Hln.out) ?_; intro v1 w2 ho2 _ _ hb2; refine Hid.out ?_)
          refine hide ?_
          have HO3 := hide ho2
          have HB3 := hide hb2
          clear ho2 hb2
          go_wp2_with fail
          go_roundw
          case rel => exact ⟨k + 1, by omega, by go_num, by rw [Hnx.out, ← List.append_assoc]; exact HO3, HB3⟩
          case measure => simp [intOf]; omega
        · have Hnx : Hid (P (k + 1) = P k) := hide (by rw [Hnx.out, if_neg (fun h => hf h.2), List.append_nil])
          have tf : decide (z ∈ fs) = false := decide_eq_false hf
          clear he hf
          go_wp2_with (go_at_call 46; refine (K46.out _ _ HB.out).mono ?_; rintro e W1 ⟨rfl, rfl⟩; rw [tf])
          go_roundw
          case rel => exact ⟨k + 1, by omega, by go_num, by rw [Hnx.out]; exact HO, HB⟩
          case measure => simp [intOf]; omega
    · obtain rfl : k = m := by omega
      have j1 : ¬ (k : Int) + 1 ≤ (k : Int) := by omega
      obtain ⟨aC, cC, hv⟩ := HO.out.rd.form
      obtain ⟨kC, hkC⟩ : ∃ kC, (ms ++ P k).length = kC := ⟨_, rfl⟩
      rw [hkC] at hv
      subst hv
      have HkC := hide hkC
      clear hkC
      by_cases h1 : 0 ≤ vl
      · have h1' : vl ≥ 0 := h1
        have Hbr : Hid (decide (vl ≤ (q : Int)) = res) := hide (by rw [← HRes.out, decide_eq_true h1, Bool.true_and])
        go_wp2_with (go_at_call 50; refine (K50.out _ _ _ _ HB.out HO.out.rd HkC.out).mono ?_; rintro e W5 ⟨g, rfl, y0, hb5⟩; have HB5 : Hid (Below W0.heap.size W0 W5) := hide (HB.out.trans (hb5.mono HB.out.size)); clear hb5)
        go_ret
        exact ⟨by rw [← Hbr.out]; rfl, HA.out.trans (HB5.out.mono HA.out.size)⟩
      · have h1' : ¬ vl ≥ 0 := h1
        have e1 : res = false := by rw [← HRes.out, decide_eq_false h1, Bool.false_and]
        subst e1
        go_wp2_with (go_at_call 50; refine (K50.out _ _ _ _ HB.out HO.out.rd HkC.out).mono ?_; rintro e W5 ⟨g, rfl, y0, hb5⟩; have HB5 : Hid (Below W0.heap.size W0 W5) := hide (HB.out.trans (hb5.mono HB.out.size)); clear hb5)
        go_ret
        exact ⟨rfl, HA.out.trans (HB5.out.mono HA.out.size)⟩
end Go.Proofs.Ytmkjpdmhplldjaa
