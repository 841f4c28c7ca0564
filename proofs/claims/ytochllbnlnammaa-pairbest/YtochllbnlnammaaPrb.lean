/- Lists of spots: whether they are allowed, one's own, two put together. -/
import Derived.Test.YtochllbnlnammaaPra
namespace Go.Proofs.Ytochllbnlnammaa
open Go.RowKit
set_option linter.unusedVariables false

/-- a spot that may be -/
def In (p : Int × Int) : Prop := 0 ≤ p.1 ∧ p.1 ≤ 1000 ∧ 0 ≤ p.2 ∧ p.2 ≤ 1000
instance (p : Int × Int) : Decidable (In p) := by unfold In; infer_instance
/-- spots that may be, and not too many -/
def Alw (L : List (Int × Int)) : Prop := L.length ≤ 6 ∧ ∀ p ∈ L, In p
instance (L : List (Int × Int)) : Decidable (Alw L) := by unfold Alw; infer_instance
theorem In.not {p : Int × Int} (h : ¬ In p) : p.1 < 0 ∨ (0 ≤ p.1 ∧ p.1 > 1000) ∨ (0 ≤ p.1 ∧ p.1 ≤ 1000 ∧ p.2 < 0) ∨ (0 ≤ p.1 ∧ p.1 ≤ 1000 ∧ 0 ≤ p.2 ∧ p.2 > 1000) := by unfold In at h; omega

set_option maxRecDepth 100000 in
set_option maxHeartbeats 2000000 in
theorem allowed_any (a : Option Addr) (n c : Nat) (L : List (Int × Int)) (w : World) (hn : L.length = n) (hv : spE.Rd w (.slice a n c) L) :
    Calls Try.prog 22 #[.slice a n c] w fun e w' => e = .returned (.bool (decide (Alw L))) ∧ Below w.heap.size w w' := by
  have Hn := hide hn
  have HV := hide hv
  have HA : Hid (decide (Alw L) = (decide (n ≤ 6 ∧ ∀ p ∈ L, In p))) := hide (by rw [← hn]; rfl)
  generalize decide (Alw L) = res at *
  by_cases h6 : (n : Int) > 6
  · have e : res = false := by rw [HA.out]; exact decide_eq_false (fun h => by omega)
    subst e
    clear hv hn
    go_enter Try.func22, Try.ntmps22
    go_wp2_with fail
    go_ret
    exact ⟨rfl, Below.refl _ _⟩
  have i0 : (n : Int) ≤ 6 := by omega
  clear hv hn h6
  go_enter Try.func22, Try.ntmps22
  go_wp2_with fail
  go_loopw [10] (fun v10 wr => ∃ k : Nat, v10 = .int .i64 k ∧ k ≤ n ∧ Hid (Below w.heap.size w wr) ∧ Hid (∀ p ∈ L.take k, In p)) (fun v10 _ => n - (intOf v10).toNat)
  case atStart => exact ⟨0, rfl, Nat.zero_le _, hide (Below.refl _ _), hide (by simp)⟩
  case round =>
    obtain ⟨k, rfl, hk, HB, HI⟩ := hrel
    by_cases hlt : k < n
    · obtain ⟨⟨x, y⟩, hp⟩ : ∃ p, L[k]? = some p := ⟨_, List.getElem?_eq_getElem (by rw [Hn.out]; exact hlt)⟩
      obtain ⟨b, off, rfl, c0, c1⟩ := sp_at (HV.out.keep HB.out) k _ hp
      have j0 : (0 : Int) ≤ (k : Int) := by omega
      have j1 : (k : Int) < (n : Int) := by omega
      have HB1 : Hid (Below w.heap.size w (wr.alloc (.cells #[.int .i64 x, .int .i64 y] 23))) := hide (HB.out.alloc HB.out.size _)
      by_cases hi : In (x, y)
      · have HI1 : Hid (∀ p ∈ L.take (k + 1), In p) := hide (fun p h => by
          rw [List.take_add_one, hp] at h
          rcases List.mem_append.1 h with h | h
          · exact HI.out p h
          · simp at h; subst h; exact hi)
        obtain ⟨h1, h2, h3, h4⟩ := hi
        simp only at h1 h2 h3 h4
        clear hp
        go_wp2_with fail
        go_roundw
        case rel => exact ⟨k + 1, by go_num, by omega, HB1, HI1⟩
        case measure => simp [intOf]; omega
      · have e : res = false := by rw [HA.out]; exact decide_eq_false (fun h => hi (h.2 _ (List.mem_of_getElem? hp)))
        subst e
        have h := In.not hi
        simp only at h
        clear hp hi
        rcases h with h | ⟨h, h'⟩ | ⟨h, h', h''⟩ | ⟨h, h', h'', hq⟩
        all_goals
          go_wp2_with fail
          go_ret
          exact ⟨rfl, HB1.out⟩
    · obtain rfl : k = n := by omega
      have j1 : ¬ (k : Int) < (k : Int) := by omega
      have e : res = true := by rw [HA.out]; exact decide_eq_true ⟨by omega, by have := HI.out; rwa [← Hn.out, List.take_length] at this⟩
      subst e
      go_wp2_with fail
      go_ret
      exact ⟨rfl, HB.out⟩

set_option maxRecDepth 100000 in
theorem own_any (a : Option Addr) (n c : Nat) (L : List (Int × Int)) (w : World) (hn : L.length = n) (hl : n ≤ 1000) (hv : spE.Rd w (.slice a n c) L) :
    Calls Try.prog 13 #[.slice a n c] w fun e w' => ∃ g c', e = .returned (.slice g n c') ∧ spE.Own w' w.heap.size (.slice g n c') L ∧ Below w.heap.size w w' := by
  have Hn := hide hn
  have HB : Hid (Below w.heap.size w (w.alloc (.cells #[] 23))) := hide ((Below.refl _ _).alloc (Nat.le_refl _) _)
  have HO : Hid (spE.Own (w.alloc (.cells #[] 23)) w.heap.size (.slice (some ⟨w.heap.size, 0, none⟩) 0 0) []) := hide (El.Own.new spE w w.heap.size (Nat.le_refl _) #[] [] rfl (by simp) _ _ _ rfl rfl rfl)
  have HR : Hid (spE.Rd (w.alloc (.cells #[] 23)) (.slice a n c) L) := hide (hv.keep HB.out)
  have HL : Hid (([] : List (Int × Int)).length + L.length ≤ 1000000) := hide (by rw [hn]; simp; omega)
  clear hn hl hv
  go_enter Try.func13, Try.ntmps13
  go_wp2_with (at_builtin; refine spE.wp (w0 := w) HB.out (by rfl) _ _ rfl _ _ rfl rfl [] L HO.out HR.out HL.out ?_; intro v' w' ho _ _ hb; have HO2 := hide ho; have HB2 := hide hb; clear ho hb)
  obtain ⟨a', c', e⟩ := HO2.out.rd.form
  rw [List.nil_append, Hn.out] at e
  subst e
  go_ret
  exact ⟨_, _, rfl, HO2.out, HB2.out⟩

set_option maxRecDepth 100000 in
set_option maxHeartbeats 2000000 in
theorem idx_any (a : Option Addr) (c n : Nat) (ms : List Int) (d : Int) (w : World) (hn : ms.length = n) (hv : intE.Rd w (.slice a n c) ms) (hl : n ≤ 100000) :
    Calls Try.prog 28 #[.slice a n c, .int .i64 d] w fun e w' => (∃ i : Int, e = .returned (.int .i64 i) ∧ decide (0 ≤ i) = decide (d ∈ ms)) ∧ w' = w := by
  have Hn := hide hn
  have Hv := hide hv
  have i0 : (n : Int) ≤ 100000 := by omega
  have yes : Hid (∀ k : Nat, ms[k]? = some d → decide (d ∈ ms) = true) := hide (fun k h => decide_eq_true (List.mem_of_getElem? h))
  have no : Hid ((∀ k : Nat, k < n → ms[k]? ≠ some d) → decide (d ∈ ms) = false) := hide (fun h => decide_eq_false (fun h' => by
    obtain ⟨k, hk⟩ := List.getElem?_of_mem h'
    refine h k ?_ hk
    rcases Nat.lt_or_ge k ms.length with g | g
    · omega
    · rw [List.getElem?_eq_none g] at hk; cases hk))
  generalize decide (d ∈ ms) = res at *
  clear hn hv hl
  go_enter Try.func28, Try.ntmps28
  go_wp2_with fail
  go_loopw [8] (fun v8 wr => ∃ k : Nat, wr = w ∧ v8 = .int .i64 k ∧ k ≤ n ∧ Hid (∀ i : Nat, i < k → ms[i]? ≠ some d)) (fun v8 _ => n - (intOf v8).toNat)
  case atStart => exact ⟨0, rfl, rfl, Nat.zero_le _, hide (fun i hi => by omega)⟩
  case round =>
    obtain ⟨k, rfl, rfl, hk, HX⟩ := hrel
    by_cases hlt : k < n
    · obtain ⟨p, hp⟩ : ∃ p, ms[k]? = some p := ⟨_, List.getElem?_eq_getElem (by rw [Hn.out]; exact hlt)⟩
      obtain ⟨b, off, rfl, c0⟩ := int_at Hv.out k p hp
      have j0 : (0 : Int) ≤ (k : Int) := by omega
      have j1 : (k : Int) < (n : Int) := by omega
      have Hp := hide hp
      clear hp
      by_cases he : d = p
      · subst he
        have e1 := yes.out k Hp.out
        subst e1
        go_wp2_with fail
        go_ret
        exact ⟨⟨_, rfl, by omega⟩, rfl⟩
      · have hbe : (d == p) = false := beq_eq_false_iff_ne.2 he
        have HX1 : Hid (∀ i : Nat, i < k + 1 → ms[i]? ≠ some d) := hide (fun i hi h => by
          rcases Nat.lt_or_ge i k with g | g
          · exact HX.out i g h
          · obtain rfl : i = k := by omega
            rw [Hp.out] at h; exact he (Option.some.inj h).symm)
        go_wp2_with fail
        go_roundw
        case rel => exact ⟨k + 1, trivial, by go_num, by omega, HX1⟩
        case measure => simp [intOf]; omega
    · obtain rfl : k = n := by omega
      have j1 : ¬ (k : Int) < (k : Int) := by omega
      have e1 := no.out HX.out
      subst e1
      go_wp2_with fail
      go_ret
      exact ⟨⟨_, rfl, by decide⟩, rfl⟩

set_option maxRecDepth 100000 in
theorem contains_any (a : Option Addr) (c n : Nat) (ms : List Int) (d : Int) (w : World) (hn : ms.length = n) (hv : intE.Rd w (.slice a n c) ms) (hl : n ≤ 100000) :
    Calls Try.prog 23 #[.slice a n c, .int .i64 d] w fun e w' => e = .returned (.bool (decide (d ∈ ms))) ∧ w' = w := by
  have K49 := hide (idx_any a c n ms d w hn hv hl)
  clear hn hv hl
  generalize decide (d ∈ ms) = res at *
  go_enter Try.func23, Try.ntmps23
  go_wp2_with (go_at_call 28; refine (K49.out).mono ?_; rintro e W1 ⟨⟨r, rfl, hr⟩, rfl⟩; have Hr := hide hr; clear hr)
  go_ret
  exact ⟨by rw [← Hr.out]; rfl, rfl⟩

/-- room of the call's own, with nothing in it -/
theorem own_room (w : World) (B G : Nat) (hB : B ≤ w.heap.size) (hG : G ≤ maxLen) (zs : Array Value) (hz : zs.size = G * 2) : spE.Own (w.alloc (.cells zs 23)) B (.slice (some ⟨w.heap.size, 0, none⟩) 0 G) [] :=
  ⟨by simp [El.fl], .inr ⟨w.heap.size, G, zs, rfl, hB, heap_new _ _, Nat.zero_le _, hG, hz, by simp [El.fl]⟩⟩

set_option maxRecDepth 100000 in
set_option maxHeartbeats 2000000 in
theorem grow_nil (n : Nat) (w : World) (hn : n ≤ 1000000) :
    Calls Try.prog 32 #[.slice none 0 0, .int .i64 (n : Int)] w fun e w' => (∃ v, e = .returned v ∧ spE.Own w' w.heap.size v []) ∧ Below w.heap.size w w' := by
  have h1 : ¬ ((n : Int) < 0) := by omega
  have h5 : (n : Int) ≤ 1000000 := by omega
  by_cases h0 : n = 0
  · subst h0
    go_enter Try.func32, Try.ntmps32
    go_wp2_with fail
    go_ret
    exact ⟨⟨_, rfl, El.Own.nil _ _ _⟩, Below.refl _ _⟩
  obtain ⟨i, hi, he⟩ := Option.map_eq_some_iff.1 spE.info
  have e1 : i.zero = some (.agg #[.int .i64 0, .int .i64 0]) := congrArg Prod.fst he
  have e2 : i.size = 2 := congrArg (fun p => p.2.1) he
  have e3 : i.bytes = 16 := congrArg (fun p => p.2.2) he
  have hr := fun ty => Lib.run_append_nil_zeros (P := Try.prog) w 30 3 ty 23 i (.agg #[.int .i64 0, .int .i64 0]) .i64 .i64 Try.underlying30 Try.underlying3 hi e1 n (by omega) (by rw [e2]; omega) (by omega) (by rw [e3]; omega)
  obtain ⟨G, hG⟩ : ∃ G, grownCap w n 0 23 = G := ⟨_, rfl⟩
  have hGn : n ≤ G := by rw [← hG]; exact grownCap_ge w _ _ _
  have hGm : G ≤ maxLen := by rw [← hG]; exact grownCap_le_maxLen w _ _ _ (by unfold maxLen; omega)
  rw [hG] at hr
  have Hb : Hid (∀ zs : Array Value, Below w.heap.size w (w.drew.alloc (.cells zs 23))) := hide (fun zs => ((Below.refl _ _).drew).alloc (Nat.le_refl _) _)
  have Ho : Hid (∀ zs : Array Value, zs.size = G * 2 → spE.Own (w.drew.alloc (.cells zs 23)) w.heap.size (.slice (some ⟨w.heap.size, 0, none⟩) 0 G) []) := hide (fun zs hz => own_room w.drew w.heap.size G (Nat.le_refl _) hGm zs hz)
  have Hz : Hid ((Builtin.zeroCells (Value.agg #[.int .i64 0, .int .i64 0]).cells n ++ Builtin.zeroCells (Value.agg #[.int .i64 0, .int .i64 0]).cells (G - n)).size = G * 2) := hide (by
    rw [Array.size_append, size_zeroCells, size_zeroCells]; show n * 2 + (G - n) * 2 = G * 2; omega)
  obtain ⟨zs, hzs⟩ : ∃ zs, Builtin.zeroCells (Value.agg #[.int .i64 0, .int .i64 0]).cells n ++ Builtin.zeroCells (Value.agg #[.int .i64 0, .int .i64 0]).cells (G - n) = zs := ⟨_, rfl⟩
  rw [hzs] at Hz hr
  have h2 : (n : Int) > 0 := by omega
  have hG6 : (G : Int) ≤ 9223372036854775807 := by unfold maxLen at hGm; omega
  have hGn' : (n : Int) ≤ (G : Int) := by omega
  have Hr := hide hr
  clear hi he e1 e2 e3 hG hGm hzs hr h0 hn hGn
  go_enter Try.func32, Try.ntmps32
  go_wp2_with (at_builtin; refine Lib.wpList_append_run _ rfl _ _ _ _ rfl _ _ rfl rfl _ _ (Hr.out _) ?_; have Hr := True.intro)
  go_ret
  exact ⟨⟨_, rfl, Ho.out _ Hz.out⟩, Hb.out _⟩

set_option maxRecDepth 100000 in
set_option maxHeartbeats 4000000 in
theorem concat_any (g : Nat) (a b : Option Addr) (n c m d : Nat) (xs ys : List (Int × Int)) (w : World) (hn : xs.length = n) (hm : ys.length = m) (c0 : w.cell? ⟨g, 0, none⟩ = some (.slice a n c)) (c1 : w.cell? ⟨g, 1, none⟩ = some (.slice b m d))
    (hv : spE.Rd w (.slice a n c) xs) (hu : spE.Rd w (.slice b m d) ys) (hl : n ≤ 100000) (hl' : m ≤ 100000) :
    Calls Try.prog 29 #[.slice (some ⟨g, 0, none⟩) 2 2] w fun e w' => (∃ v, e = .returned v ∧ spE.Own w' w.heap.size v (xs ++ ys)) ∧ Below w.heap.size w w' := by
  have HC : Hid (∀ W, Below w.heap.size w W → W.cell? ⟨g, 0, none⟩ = some (.slice a n c) ∧ W.cell? ⟨g, 1, none⟩ = some (.slice b m d)) := hide (fun W h => by
    rw [h.cell (p := ⟨g, 0, none⟩) (cell_lt c0), h.cell (p := ⟨g, 1, none⟩) (cell_lt c1)]; exact ⟨c0, c1⟩)
  have HR : Hid (∀ W, Below w.heap.size w W → spE.Rd W (.slice a n c) xs ∧ spE.Rd W (.slice b m d) ys) := hide (fun W h => ⟨hv.keep h, hu.keep h⟩)
  have K44 := hide (grow_nil (n + m) w (by omega))
  rw [show ((n + m : Nat) : Int) = (n : Int) + (m : Int) by omega] at K44
  have Hn := hide hn
  have Hm := hide hm
  have i0 : (n : Int) ≤ 100000 := by omega
  have i1 : (m : Int) ≤ 100000 := by omega
  have i2 : (0 : Int) ≤ (n : Int) := by omega
  have i3 : (0 : Int) ≤ (m : Int) := by omega
  clear hv hu hn hm hl hl'
  go_enter Try.func29, Try.ntmps29
  go_upto_region 3 with fail
  go_loopw [3, 11] (fun v3 v11 wr => ∃ k : Nat, k ≤ 2 ∧ v11 = .int .i64 k ∧ wr = w ∧ v3 = .int .i64 (if k = 0 then 0 else if k = 1 then (n : Int) else (n : Int) + (m : Int))) (fun _ v11 _ => 2 - (intOf v11).toNat)
  case atStart => exact ⟨0, by omega, rfl, rfl, rfl⟩
  case round =>
    obtain ⟨k, hk, rfl, hw, rfl⟩ := hrel
    have hw' := hw.symm
    clear hw
    subst hw'
    rcases k with _ | _ | _ | k
    · go_wp2_with fail
      go_roundw
      case rel => exact ⟨1, by omega, rfl, trivial, by simp⟩
      case measure => simp [intOf]
    · have q1 : ¬ ((n : Int) + (m : Int) < 0) := by omega
      go_wp2_with fail
      go_roundw
      case rel => exact ⟨2, by omega, rfl, trivial, by simp⟩
      case measure => simp [intOf]
    · go_upto_region 11 with (go_at_call 32; refine (K44.out).mono ?_; rintro e W1 ⟨⟨v6, rfl, ho⟩, hb⟩; have Ho := hide ho; have Hb := hide hb; clear ho hb)
      go_loopw [6, 27] (fun v6 v27 wr => ∃ k : Nat, k ≤ 2 ∧ v27 = .int .i64 k ∧ Hid (Below w.heap.size w wr) ∧ Hid (spE.Own wr w.heap.size v6 (if k = 0 then [] else if k = 1 then xs else xs ++ ys))) (fun _ v27 _ => 2 - (intOf v27).toNat)
      case atStart => exact ⟨0, by omega, rfl, Hb, Ho⟩
      case round =>
        obtain ⟨k, hk, rfl, HB, HO⟩ := hrel
        obtain ⟨x0, x1⟩ := HC.out _ HB.out
        rcases k with _ | _ | _ | k
        · go_wp2_with (at_builtin; refine spE.wp (w0 := w) HB.out (by rfl) _ _ rfl _ _ rfl rfl [] xs HO.out (HR.out _ HB.out).1 (by rw [Hn.out]; simp; omega) ?_; intro v1 w2 ho2 _ _ hb2; refine Hid.out ?_)
          refine hide ?_
          have HO3 := hide ho2
          have HB3 := hide hb2
          clear ho2 hb2
          go_wp2_with fail
          go_roundw
          case rel => exact ⟨1, by omega, rfl, HB3, HO3⟩
          case measure => simp [intOf]
        · go_wp2_with (at_builtin; refine spE.wp (w0 := w) HB.out (by rfl) _ _ rfl _ _ rfl rfl xs ys HO.out (HR.out _ HB.out).2 (by rw [Hn.out, Hm.out]; omega) ?_; intro v1 w2 ho2 _ _ hb2; refine Hid.out ?_)
          refine hide ?_
          have HO3 := hide ho2
          have HB3 := hide hb2
          clear ho2 hb2
          go_wp2_with fail
          go_roundw
          case rel => exact ⟨2, by omega, rfl, HB3, HO3⟩
          case measure => simp [intOf]
        · go_wp2_with fail
          go_ret
          exact ⟨⟨_, rfl, HO.out⟩, HB.out⟩
        · omega
    · omega
end Go.Proofs.Ytochllbnlnammaa
