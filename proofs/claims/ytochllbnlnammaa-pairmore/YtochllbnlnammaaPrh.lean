/- Cost. -/
import Derived.Test.YtochllbnlnammaaPrg
namespace Go.Proofs.Ytochllbnlnammaa
open Go.RowKit
set_option linter.unusedVariables false

/-- within the retrievals -/
def Rg (m : Nat) (ps : List Int) : Prop := ∀ x ∈ ps, -1 ≤ x ∧ x < (m : Int)
instance (m : Nat) (ps : List Int) : Decidable (Rg m ps) := by unfold Rg; infer_instance
/-- none twice -/
def NoD : List Int → List Int → Prop
  | _, [] => True
  | pre, x :: l => (x = -1 ∨ x ∉ pre) ∧ NoD (pre ++ [x]) l
instance decNoD : (pre l : List Int) → Decidable (NoD pre l)
  | _, [] => isTrue trivial
  | pre, x :: l => @instDecidableAnd _ _ _ (decNoD (pre ++ [x]) l)
theorem NoD.app {pre l l' : List Int} : NoD pre (l ++ l') ↔ NoD pre l ∧ NoD (pre ++ l) l' := by
  induction l generalizing pre with
  | nil => simp [NoD]
  | cons x l ih => rw [List.cons_append, NoD, NoD, ih, List.append_assoc, and_assoc]; rfl
theorem NoD.step {ps : List Int} {k : Nat} {x : Int} (h : ps[k]? = some x) : NoD [] (ps.take (k + 1)) ↔ NoD [] (ps.take k) ∧ (x = -1 ∨ x ∉ ps.take k) := by
  rw [List.take_add_one, h]
  show NoD [] (ps.take k ++ [x]) ↔ _
  rw [NoD.app]
  simp [NoD]
theorem NoD.take {ps : List Int} (h : NoD [] ps) (k : Nat) : NoD [] (ps.take k) := by
  have : NoD [] (ps.take k ++ ps.drop k) := by rw [List.take_append_drop]; exact h
  exact (NoD.app.1 this).1

/-- what Cost tells -/
def cstC (L M : List (Int × Int)) (ps : List Int) : Int := if ¬ (Alw L ∧ Alw M ∧ ps.length = L.length) then 1 else if ¬ Rg M.length ps then 1 else if ¬ NoD [] ps then 2 else 0
def cstN (L M : List (Int × Int)) (ps : List Int) : Int := if cstC L M ps = 0 then cst L M ps else 0
theorem cstC_bad {L M : List (Int × Int)} {ps : List Int} (h : ¬ (Alw L ∧ Alw M ∧ ps.length = L.length)) : cstC L M ps = 1 ∧ cstN L M ps = 0 := by
  have e : cstC L M ps = 1 := if_pos h
  exact ⟨e, by unfold cstN; rw [e]; rfl⟩
theorem cstC_rg {L M : List (Int × Int)} {ps : List Int} (h : Alw L ∧ Alw M ∧ ps.length = L.length) (h2 : ¬ Rg M.length ps) : cstC L M ps = 1 ∧ cstN L M ps = 0 := by
  have e : cstC L M ps = 1 := by unfold cstC; rw [if_neg (by simpa using h), if_pos h2]
  exact ⟨e, by unfold cstN; rw [e]; rfl⟩
theorem cstC_two {L M : List (Int × Int)} {ps : List Int} (h : Alw L ∧ Alw M ∧ ps.length = L.length) (h2 : Rg M.length ps) (h3 : ¬ NoD [] ps) : cstC L M ps = 2 ∧ cstN L M ps = 0 := by
  have e : cstC L M ps = 2 := by unfold cstC; rw [if_neg (by simpa using h), if_neg (by simpa using h2), if_pos h3]
  exact ⟨e, by unfold cstN; rw [e]; rfl⟩
theorem cstC_ok {L M : List (Int × Int)} {ps : List Int} (h : Alw L ∧ Alw M ∧ ps.length = L.length) (h2 : Rg M.length ps) (h3 : NoD [] ps) : cstC L M ps = 0 ∧ cstN L M ps = cst L M ps := by
  have e : cstC L M ps = 0 := by unfold cstC; rw [if_neg (by simpa using h), if_neg (by simpa using h2), if_neg (by simpa using h3)]
  exact ⟨e, by unfold cstN; rw [e]; rfl⟩

/-- what Cost answers -/
def CostP (L M : List (Int × Int)) (ps : List Int) (w : World) (e : Ending) (w' : World) : Prop := e = .returned (.tuple #[.int .i64 (cstN L M ps), .int .i64 (cstC L M ps)]) ∧ Below w.heap.size w w'
section
variable (a b p : Option Addr) (n c m d k c' : Nat) (L M : List (Int × Int)) (ps : List Int)

set_option maxRecDepth 100000 in
set_option maxHeartbeats 2000000 in
theorem cost_bad (w : World) (hn : L.length = n) (hm : M.length = m) (hk : ps.length = k) (hv : spE.Rd w (.slice a n c) L) (hu : spE.Rd w (.slice b m d) M) (hk3 : k ≤ 1000000) (hbad : ¬ (Alw L ∧ Alw M ∧ ps.length = L.length)) :
    Calls Try.prog 12 #[.slice a n c, .slice b m d, .slice p k c'] w (CostP L M ps w) := by
  obtain ⟨w0, rfl⟩ : ∃ w0, w0 = w := ⟨_, rfl⟩
  have K1 : Hid (∀ W, Below w0.heap.size w0 W → Calls Try.prog 22 #[.slice a n c] W fun e w' => e = .returned (.bool (decide (Alw L))) ∧ Below W.heap.size W w') := hide (fun W h => allowed_any a n c L W hn (hv.keep h))
  have K2 : Hid (∀ W, Below w0.heap.size w0 W → Calls Try.prog 22 #[.slice b m d] W fun e w' => e = .returned (.bool (decide (Alw M))) ∧ Below W.heap.size W w') := hide (fun W h => allowed_any b m d M W hm (hu.keep h))
  have HP : Hid (∀ W, Below w0.heap.size w0 W → CostP L M ps w0 (.returned (.tuple #[.int .i64 0, .int .i64 1])) W) := hide (fun W h => ⟨by rw [(cstC_bad hbad).1, (cstC_bad hbad).2], h⟩)
  rw [hk, hn] at hbad
  by_cases h1 : Alw L
  · rw [decide_eq_true h1] at K1
    by_cases h2 : Alw M
    · rw [decide_eq_true h2] at K2
      have h6 : n ≤ 6 := by rw [← hn]; exact h1.1
      have hne : ((k : Int) != (n : Int)) = true := bne_iff_ne.2 (fun e => hbad ⟨h1, h2, by omega⟩)
      clear hn hm hk hv hu h1 h2 hbad
      go_enter Try.func12, Try.ntmps12
      go_wp2_with (first
        | (go_at_call_of 22 (Value.slice a n c); refine (K1.out _ (Below.refl _ _)).mono ?_; rintro e W1 ⟨rfl, hb⟩; have HB1 := hide hb; clear hb)
        | (go_at_call 22; refine (K2.out _ HB1.out).mono ?_; rintro e W2 ⟨rfl, hb⟩; have HB2 := hide (HB1.out.trans (hb.mono HB1.out.size)); clear hb))
      exact bodyPost_ret (v := .tuple #[.int .i64 0, .int .i64 1]) (by simp [results, Try.results12, go_sem]) rfl (HP.out _ HB2.out)
    · rw [decide_eq_false h2] at K2
      clear hn hm hk hv hu h1 h2 hbad
      go_enter Try.func12, Try.ntmps12
      go_wp2_with (first
        | (go_at_call_of 22 (Value.slice a n c); refine (K1.out _ (Below.refl _ _)).mono ?_; rintro e W1 ⟨rfl, hb⟩; have HB1 := hide hb; clear hb)
        | (go_at_call 22; refine (K2.out _ HB1.out).mono ?_; rintro e W2 ⟨rfl, hb⟩; have HB2 := hide (HB1.out.trans (hb.mono HB1.out.size)); clear hb))
      exact bodyPost_ret (v := .tuple #[.int .i64 0, .int .i64 1]) (by simp [results, Try.results12, go_sem]) rfl (HP.out _ HB2.out)
  · rw [decide_eq_false h1] at K1
    clear hn hm hk hv hu h1 hbad
    go_enter Try.func12, Try.ntmps12
    go_wp2_with (go_at_call_of 22 (Value.slice a n c); refine (K1.out _ (Below.refl _ _)).mono ?_; rintro e W1 ⟨rfl, hb⟩; have HB1 := hide hb; clear hb)
    exact bodyPost_ret (v := .tuple #[.int .i64 0, .int .i64 1]) (by simp [results, Try.results12, go_sem]) rfl (HP.out _ HB1.out)

set_option maxRecDepth 100000 in
set_option maxHeartbeats 4000000 in
theorem cost_good (w : World) (hn : L.length = n) (hm : M.length = m) (hk : ps.length = n) (hv : spE.Rd w (.slice a n c) L) (hu : spE.Rd w (.slice b m d) M) (hq : intE.Rd w (.slice p n c') ps) (hc : n ≤ c') (h1 : Alw L) (h2 : Alw M) :
    Calls Try.prog 12 #[.slice a n c, .slice b m d, .slice p n c'] w (CostP L M ps w) := by
  obtain ⟨w0, rfl⟩ : ∃ w0, w0 = w := ⟨_, rfl⟩
  have hA : Alw L ∧ Alw M ∧ ps.length = L.length := ⟨h1, h2, by rw [hk, hn]⟩
  have n6 : n ≤ 6 := by rw [← hn]; exact h1.1
  have m6 : m ≤ 6 := by rw [← hm]; exact h2.1
  have K1 : Hid (∀ W, Below w0.heap.size w0 W → Calls Try.prog 22 #[.slice a n c] W fun e w' => e = .returned (.bool true) ∧ Below W.heap.size W w') := hide (fun W h => by have := allowed_any a n c L W hn (hv.keep h); rw [decide_eq_true h1] at this; exact this)
  have K2 : Hid (∀ W, Below w0.heap.size w0 W → Calls Try.prog 22 #[.slice b m d] W fun e w' => e = .returned (.bool true) ∧ Below W.heap.size W w') := hide (fun W h => by have := allowed_any b m d M W hm (hu.keep h); rw [decide_eq_true h2] at this; exact this)
  have K24 : Hid (Rg m ps → ∀ W, Below w0.heap.size w0 W → Calls Try.prog 24 #[.slice a n c, .slice b m d, .slice p n c'] W fun e w' => e = .returned (.int .i64 (cst L M ps)) ∧ Below W.heap.size W w') := hide (fun hr W h => drives_any a b p n c m d c' L M ps W hn hm (hv.keep h) (hu.keep h) (hq.keep h) h1 h2 ⟨hk, hr⟩)
  have HP1 : Hid (∀ W, ¬ Rg m ps → Below w0.heap.size w0 W → CostP L M ps w0 (.returned (.tuple #[.int .i64 0, .int .i64 1])) W) := hide (fun W hr h => ⟨by rw [← hm] at hr; rw [(cstC_rg hA hr).1, (cstC_rg hA hr).2], h⟩)
  have HP2 : Hid (∀ W, Rg m ps → ¬ NoD [] ps → Below w0.heap.size w0 W → CostP L M ps w0 (.returned (.tuple #[.int .i64 0, .int .i64 2])) W) := hide (fun W hr hd h => ⟨by rw [← hm] at hr; rw [(cstC_two hA hr hd).1, (cstC_two hA hr hd).2], h⟩)
  have HP3 : Hid (∀ W, Rg m ps → NoD [] ps → Below w0.heap.size w0 W → CostP L M ps w0 (.returned (.tuple #[.int .i64 (cst L M ps), .int .i64 0])) W) := hide (fun W hr hd h => ⟨by rw [← hm] at hr; rw [(cstC_ok hA hr hd).1, (cstC_ok hA hr hd).2], h⟩)
  have HQ := hide hq
  have Hk := hide hk
  have K23 : Hid (∀ W t x, t ≤ n → Below w0.heap.size w0 W → Calls Try.prog 23 #[.slice p t c', .int .i64 x] W fun e w' => e = .returned (.bool (decide (x ∈ ps.take t))) ∧ w' = W) := hide (fun W t x ht h => contains_any p c' t (ps.take t) x W (by rw [List.length_take, hk]; omega) ((hq.keep h).take t (by rw [hk]; exact ht)) (by omega))
  have i0 : (n : Int) ≤ 6 := by omega
  have i1 : (m : Int) ≤ 6 := by omega
  have i2 : (n : Int) ≤ (c' : Int) := by omega
  generalize cst L M ps = cc at *
  clear hn hm hk hv hu hq h1 h2 hA hc
  go_enter Try.func12, Try.ntmps12
  go_upto_region 4 with (first
    | (go_at_call_of 22 (Value.slice a n c); refine (K1.out _ (Below.refl _ _)).mono ?_; rintro e W1 ⟨rfl, hb⟩; have HB1 := hide hb; clear hb)
    | (go_at_call 22; refine (K2.out _ HB1.out).mono ?_; rintro e W2 ⟨rfl, hb⟩; have HB2 := hide (HB1.out.trans (hb.mono HB1.out.size)); clear hb))
  go_loopw [29] (fun v29 wr => ∃ t : Nat, v29 = .int .i64 t ∧ t ≤ n ∧ wr = W2 ∧ Hid (∀ x ∈ ps.take t, -1 ≤ x ∧ x < (m : Int))) (fun v29 _ => n - (intOf v29).toNat)
  case atStart => exact ⟨0, rfl, Nat.zero_le _, rfl, hide (by simp)⟩
  case round =>
    obtain ⟨t, rfl, ht, hw, HR⟩ := hrel
    subst hw
    obtain ⟨wB, rfl⟩ : ∃ W, W = wr := ⟨_, rfl⟩
    by_cases hlt : t < n
    · obtain ⟨x, hx⟩ : ∃ x, ps[t]? = some x := ⟨_, List.getElem?_eq_getElem (by rw [Hk.out]; exact hlt)⟩
      obtain ⟨b1, off1, rfl, c0⟩ := int_at (HQ.out.keep HB2.out) t x hx
      have t0 : (0 : Int) ≤ (t : Int) := by omega
      have t1 : (t : Int) < (n : Int) := by omega
      by_cases hr : -1 ≤ x ∧ x < (m : Int)
      · have HR1 : Hid (∀ x ∈ ps.take (t + 1), -1 ≤ x ∧ x < (m : Int)) := hide (fun y hy => by
          rw [List.take_add_one, hx] at hy
          rcases List.mem_append.1 hy with h | h
          · exact HR.out y h
          · simp at h; subst h; exact hr)
        obtain ⟨r0, r1⟩ := hr
        clear hx
        go_wp2_with fail
        go_roundw
        case rel => exact ⟨t + 1, by go_num, by omega, trivial, HR1⟩
        case measure => simp [intOf] <;> omega
      · have hnr : ¬ Rg m ps := fun h => hr (h x (List.mem_of_getElem? hx))
        have HPn := hide (HP1.out _ hnr HB2.out)
        have hr' : x < -1 ∨ (-1 ≤ x ∧ x ≥ (m : Int)) := by omega
        clear hx hr hnr
        rcases hr' with hr' | ⟨hr', hr''⟩
        all_goals
          go_wp2_with fail
          exact bodyPost_ret (v := .tuple #[.int .i64 0, .int .i64 1]) (by simp [results, Try.results12, go_sem]) rfl HPn.out
    · obtain rfl : t = n := by omega
      have t1 : ¬ (t : Int) < (t : Int) := by omega
      have HRg : Hid (Rg m ps) := hide (by have := HR.out; rw [← Hk.out, List.take_length] at this; exact this)
      go_upto_region 10 with fail
      go_loopw [44] (fun v44 wr => ∃ s : Nat, v44 = .int .i64 s ∧ s ≤ t ∧ wr = wB ∧ Hid (NoD [] (ps.take s))) (fun v44 _ => t - (intOf v44).toNat)
      case atStart => exact ⟨0, rfl, Nat.zero_le _, rfl, hide (by simp [NoD])⟩
      case round =>
        obtain ⟨s, rfl, hs, hw, HD⟩ := hrel
        subst hw
        by_cases hlt' : s < t
        · obtain ⟨x, hx⟩ : ∃ x, ps[s]? = some x := ⟨_, List.getElem?_eq_getElem (by rw [Hk.out]; exact hlt')⟩
          obtain ⟨b1, off1, rfl, c0⟩ := int_at (HQ.out.keep HB2.out) s x hx
          have s0 : (0 : Int) ≤ (s : Int) := by omega
          have s1 : (s : Int) < (t : Int) := by omega
          have s2 : (s : Int) ≤ (c' : Int) := by omega
          have K := hide (K23.out _ s x (by omega) HB2.out)
          have hst := NoD.step hx
          by_cases hx1 : x = -1
          · have hne : (x != -1) = false := by rw [hx1]; rfl
            have HD1 : Hid (NoD [] (ps.take (s + 1))) := hide (hst.2 ⟨HD.out, .inl hx1⟩)
            clear hx hst hx1
            go_wp2_with fail
            go_roundw
            case rel => exact ⟨s + 1, by go_num, by omega, trivial, HD1⟩
            case measure => simp [intOf] <;> omega
          · have hne : (x != -1) = true := bne_iff_ne.2 hx1
            by_cases hin : x ∈ ps.take s
            · rw [decide_eq_true hin] at K
              have hnd : ¬ NoD [] ps := fun h => by
                rcases (hst.1 (h.take _)).2 with h | h
                · exact hx1 h
                · exact h hin
              have HPn := hide (HP2.out _ HRg.out hnd HB2.out)
              clear hx hst hx1 hin hnd
              go_wp2_with (go_at_call 23; refine (K.out).mono ?_; rintro e W3 ⟨rfl, rfl⟩)
              exact bodyPost_ret (v := .tuple #[.int .i64 0, .int .i64 2]) (by simp [results, Try.results12, go_sem]) rfl HPn.out
            · rw [decide_eq_false hin] at K
              have HD1 : Hid (NoD [] (ps.take (s + 1))) := hide (hst.2 ⟨HD.out, .inr hin⟩)
              clear hx hst hx1 hin
              go_wp2_with (go_at_call 23; refine (K.out).mono ?_; rintro e W3 ⟨rfl, hw⟩; subst hw)
              go_roundw
              case rel => exact ⟨s + 1, by go_num, by omega, trivial, HD1⟩
              case measure => simp [intOf] <;> omega
        · obtain rfl : s = t := by omega
          have s1 : ¬ (s : Int) < (s : Int) := by omega
          have HDa : Hid (NoD [] ps) := hide (by have := HD.out; rw [← Hk.out, List.take_length] at this; exact this)
          have K := hide (K24.out HRg.out _ HB2.out)
          go_wp2_with (go_at_call 24; refine (K.out).mono ?_; rintro e W4 ⟨rfl, hb⟩; have HB4 := hide (HB2.out.trans (hb.mono HB2.out.size)); clear hb)
          exact bodyPost_ret (v := .tuple #[.int .i64 cc, .int .i64 0]) (by simp [results, Try.results12, go_sem]) rfl (HP3.out _ HRg.out HDa.out HB4.out)
end

theorem cost_any (a b p : Option Addr) (n c m d k c' : Nat) (L M : List (Int × Int)) (ps : List Int) (w : World) (hn : L.length = n) (hm : M.length = m) (hk : ps.length = k) (hv : spE.Rd w (.slice a n c) L) (hu : spE.Rd w (.slice b m d) M) (hq : intE.Rd w (.slice p k c') ps) (hc : k ≤ c') (hk3 : k ≤ 1000000) :
    Calls Try.prog 12 #[.slice a n c, .slice b m d, .slice p k c'] w (CostP L M ps w) := by
  by_cases h : Alw L ∧ Alw M ∧ ps.length = L.length
  · obtain ⟨h1, h2, h3⟩ := h
    obtain rfl : k = n := by omega
    exact cost_good a b p k c m d c' L M ps w hn hm hk hv hu hq hc h1 h2
  · exact cost_bad a b p n c m d k c' L M ps w hn hm hk hv hu hk3 h
end Go.Proofs.Ytochllbnlnammaa
