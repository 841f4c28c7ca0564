/- Places; the edges that go from a node; the devices that go to some. -/
import Derived.Test.YtmmkfcmbmecleaaSlb
import Derived.Test.YtmmkfcmbmecleaaLyb
namespace Go.Proofs.Ytmmkfcmbmecleaa
open Go.RowKit
set_option linter.unusedVariables false

set_option maxRecDepth 100000 in
set_option maxHeartbeats 2000000 in
theorem places_any (a a' aX : Option Addr) (n c m c' k cX : Nat) (xs : List Int) (w : World) (hk : xs.length = k) (hv : intE.Rd w (.slice aX k cX) xs) (hl : k ≤ 100000) :
    Calls Try.prog 39 #[.agg #[.slice a n c, .slice a' m c'], .slice aX k cX] w fun e w' => e = .returned (.bool (decide (∀ x ∈ xs, 0 ≤ x ∧ x < (n : Int)))) ∧ Below w.heap.size w w' := by
  obtain ⟨W0, hW0⟩ : ∃ W0, w.alloc (.cells #[.slice a n c, .slice a' m c'] 25) = W0 := ⟨_, rfl⟩
  have bA : Below w.heap.size w W0 := by rw [← hW0]; exact (Below.refl _ _).alloc (Nat.le_refl _) _
  have hbox : W0.heap[w.heap.size]? = some (.cells #[.slice a n c, .slice a' m c'] 25) := by rw [← hW0]; exact heap_new _ _
  have d0 := (cells_at hbox 0).1
  simp at d0
  have HA := hide bA
  have Hv := hide (hv.keep bA)
  have Hk := hide hk
  have HW0 := hide hW0
  have i0 : (k : Int) ≤ 100000 := by omega
  have no : Hid (∀ (j : Nat) (x : Int), xs[j]? = some x → ¬ (0 ≤ x ∧ x < (n : Int)) → decide (∀ x ∈ xs, 0 ≤ x ∧ x < (n : Int)) = false) := hide (fun j x h h' => decide_eq_false (fun g => h' (g x (List.mem_of_getElem? h))))
  have yes : Hid ((∀ (j : Nat), j < k → ∀ x, xs[j]? = some x → 0 ≤ x ∧ x < (n : Int)) → decide (∀ x ∈ xs, 0 ≤ x ∧ x < (n : Int)) = true) := hide (fun h => decide_eq_true (fun x hx => by
    obtain ⟨j, hj⟩ := List.getElem?_of_mem hx
    refine h j ?_ x hj
    rcases Nat.lt_or_ge j xs.length with g | g
    · omega
    · rw [List.getElem?_eq_none g] at hj; cases hj))
  generalize decide (∀ x ∈ xs, 0 ≤ x ∧ x < (n : Int)) = res at *
  clear hk hv hl hbox bA hW0
  go_enter Try.func39, Try.ntmps39
  go_upto_region 1 with fail
  rw [HW0.out]
  clear HW0
  go_wp2_with fail
  go_loopw [9] (fun v9 wr => ∃ i : Nat, wr = W0 ∧ v9 = .int .i64 i ∧ i ≤ k ∧ Hid (∀ j : Nat, j < i → ∀ x, xs[j]? = some x → 0 ≤ x ∧ x < (n : Int))) (fun v9 _ => k - (intOf v9).toNat)
  case atStart => exact ⟨0, rfl, rfl, Nat.zero_le _, hide (fun i hi => by omega)⟩
  case round =>
    obtain ⟨i, rfl, rfl, hi, HX⟩ := hrel
    by_cases hlt : i < k
    · obtain ⟨p, hp⟩ : ∃ p, xs[i]? = some p := ⟨_, List.getElem?_eq_getElem (by rw [Hk.out]; exact hlt)⟩
      obtain ⟨b, off, rfl, c0⟩ := int_at Hv.out i p hp
      have j0 : (0 : Int) ≤ (i : Int) := by omega
      have j1 : (i : Int) < (k : Int) := by omega
      have Hp := hide hp
      clear hp
      by_cases h1 : p < 0
      · have e1 := no.out i p Hp.out (fun h => by omega)
        subst e1
        go_wp2_with fail
        go_ret
        exact ⟨rfl, HA.out⟩
      · by_cases h2 : p ≥ (n : Int)
        · have e1 := no.out i p Hp.out (fun h => by omega)
          subst e1
          go_wp2_with fail
          go_ret
          exact ⟨rfl, HA.out⟩
        · have HX1 : Hid (∀ j : Nat, j < i + 1 → ∀ x, xs[j]? = some x → 0 ≤ x ∧ x < (n : Int)) := hide (fun j hj x h => by
            rcases Nat.lt_or_ge j i with g | g
            · exact HX.out j g x h
            · obtain rfl : j = i := by omega
              rw [Hp.out] at h; obtain rfl := Option.some.inj h; omega)
          go_wp2_with fail
          go_roundw
          case rel => exact ⟨i + 1, trivial, by go_num, by omega, HX1⟩
          case measure => simp [intOf]; omega
    · obtain rfl : i = k := by omega
      have j1 : ¬ (i : Int) < (i : Int) := by omega
      have e1 := yes.out HX.out
      subst e1
      go_wp2_with fail
      go_ret
      exact ⟨rfl, HA.out⟩

theorem place1 (x : Int) (n : Nat) : decide (∀ y ∈ [x], 0 ≤ y ∧ y < (n : Int)) = decide (0 ≤ x ∧ x < (n : Int)) := by simp
theorem place2 (x y : Int) (n : Nat) : decide (∀ z ∈ [x, y], 0 ≤ z ∧ z < (n : Int)) = decide ((0 ≤ x ∧ x < (n : Int)) ∧ 0 ≤ y ∧ y < (n : Int)) := by simp

set_option maxRecDepth 100000 in
theorem lplace_any (a : Option Addr) (n c : Nat) (i : Int) (w : World) : Calls Try.prog 62 #[.slice a n c, .int .i64 i] w fun e w' => e = .returned (.bool (decide (0 ≤ i ∧ i < (n : Int)))) ∧ w' = w := by
  by_cases h1 : 0 ≤ i
  · by_cases h2 : i < (n : Int)
    · rw [decide_eq_true ⟨h1, h2⟩]
      go_enter Try.func62, Try.ntmps62
      go_wp2_with fail
      go_ret
      exact ⟨rfl, rfl⟩
    · rw [decide_eq_false (fun h => h2 h.2)]
      go_enter Try.func62, Try.ntmps62
      go_wp2_with fail
      go_ret
      exact ⟨rfl, rfl⟩
  · rw [decide_eq_false (fun h => h1 h.1)]
    go_enter Try.func62, Try.ntmps62
    go_wp2_with fail
    go_ret
    exact ⟨rfl, rfl⟩

/-- the devices whose edges are such, of the first k -/
def dvs (es : List Ed) (p : Ed → Prop) [DecidablePred p] : Nat → List Int
  | 0 => []
  | k + 1 => dvs es p k ++ (match es[k]? with
    | some e => if p e then [((k + 1 : Nat) : Int)] else []
    | none => [])
theorem dvs_len (es : List Ed) (p : Ed → Prop) [DecidablePred p] : ∀ k, (dvs es p k).length ≤ k
  | 0 => by simp [dvs]
  | k + 1 => by
    have := dvs_len es p k
    unfold dvs
    split
    · split <;> simp <;> omega
    · simp; omega
theorem dvs_mem (es : List Ed) (p : Ed → Prop) [DecidablePred p] (d : Int) : ∀ k, d ∈ dvs es p k ↔ ∃ (i : Nat) (e : Ed), i < k ∧ d = ((i + 1 : Nat) : Int) ∧ es[i]? = some e ∧ p e
  | 0 => by simp [dvs]
  | k + 1 => by
    have ih := dvs_mem es p d k
    have hs : d ∈ dvs es p (k + 1) ↔ d ∈ dvs es p k ∨ ∃ e, d = ((k + 1 : Nat) : Int) ∧ es[k]? = some e ∧ p e := by
      show d ∈ dvs es p k ++ _ ↔ _
      rw [List.mem_append]
      cases h : es[k]? with
      | none => simp
      | some e => by_cases hp : p e <;> simp [hp]
    rw [hs, ih]
    constructor
    · rintro (⟨i, e, h1, h2⟩ | ⟨e, h1, h2⟩)
      · exact ⟨i, e, by omega, h2⟩
      · exact ⟨k, e, by omega, h1, h2⟩
    · rintro ⟨i, e, h1, h2, h3⟩
      rcases Nat.lt_or_ge i k with g | g
      · exact .inl ⟨i, e, g, h2, h3⟩
      · obtain rfl : i = k := by omega
        exact .inr ⟨e, h2, h3⟩
def outs (es : List Ed) (x : Int) : List Int := dvs es (fun e => e.1 = x) es.length
def shut (es : List Ed) (b : Int) (full : List Int) : List Int := dvs es (fun e => e.2 ≠ b ∧ e.2 ∈ full) es.length

set_option maxRecDepth 100000 in
set_option maxHeartbeats 2000000 in
theorem out_any (a a' : Option Addr) (c c' n m : Nat) (es : List Ed) (x : Int) (w : World) (hm : es.length = m) (hu : edE.Rd w (.slice a' m c') es) (hl : m ≤ 100000) (hx : 0 ≤ x ∧ x < (n : Int)) :
    Calls Try.prog 60 #[.agg #[.slice a n c, .slice a' m c'], .int .i64 x] w fun e w' => (∃ v, e = .returned v ∧ intE.Own w' w.heap.size v (outs es x)) ∧ Below w.heap.size w w' := by
  obtain ⟨W0, hW0⟩ : ∃ W0, w.alloc (.cells #[.slice a n c, .slice a' m c'] 25) = W0 := ⟨_, rfl⟩
  have bA : Below w.heap.size w W0 := by rw [← hW0]; exact (Below.refl _ _).alloc (Nat.le_refl _) _
  have K33 := hide (fun i W => lplace_any a n c i W)
  have HA := hide bA
  have HE : Hid (outs es x = dvs es (fun e => e.1 = x) m) := hide (by rw [← hm]; rfl)
  have tx : decide (0 ≤ x ∧ x < (n : Int)) = true := decide_eq_true hx
  have Hu := hide (hu.keep bA)
  have HuW : Hid (∀ W, Below w.heap.size w W → edE.Rd W (.slice a' m c') es) := hide (fun W h => hu.keep h)
  have Hm := hide hm
  have HW0 := hide hW0
  have i0 : (m : Int) ≤ 100000 := by omega
  have i1 : (0 : Int) ≤ (m : Int) := by omega
  clear hx hu hm hl hW0 bA
  generalize outs es x = oes at *
  go_enter Try.func60, Try.ntmps60
  go_wp2_with (go_at_call 62; refine (K33.out _ _).mono ?_; rintro e W1 ⟨rfl, rfl⟩; rw [tx])
  rw [HW0.out]
  clear HW0 tx K33
  go_loopw [5, 16] (fun v5 v16 wr => ∃ k : Nat, k ≤ m ∧ v16 = .int .i64 k ∧ Hid (intE.Own wr w.heap.size v5 (dvs es (fun e => e.1 = x) k)) ∧ Hid (Below w.heap.size w wr)) (fun _ v16 _ => m - (intOf v16).toNat)
  case atStart => exact ⟨0, by omega, rfl, hide (El.Own.nil _ _ _), HA⟩
  case round =>
    obtain ⟨k, hk, rfl, HO, HB⟩ := hrel
    by_cases hlt : k < m
    · obtain ⟨p, hp⟩ : ∃ p, es[k]? = some p := ⟨_, List.getElem?_eq_getElem (by rw [Hm.out]; exact hlt)⟩
      obtain ⟨y, z⟩ := p
      obtain ⟨b, off, rfl, c0, c1⟩ := ed_at (HuW.out wr HB.out) k (y, z) hp
      simp only at c0 c1
      have j0 : (0 : Int) ≤ (k : Int) := by omega
      have j1 : (k : Int) < (m : Int) := by omega
      have Hno : Hid (¬ y = x → dvs es (fun e => e.1 = x) (k + 1) = dvs es (fun e => e.1 = x) k) := hide (fun h => by show dvs es (fun e => e.1 = x) k ++ _ = _; rw [hp]; simp [h])
      have Hye : Hid (y = x → dvs es (fun e => e.1 = x) (k + 1) = dvs es (fun e => e.1 = x) k ++ [((k + 1 : Nat) : Int)]) := hide (fun h => by show dvs es (fun e => e.1 = x) k ++ _ = _; rw [hp]; simp [h])
      have Hln := hide (dvs_len es (fun e => e.1 = x) k)
      have Hm2 := hide (And.intro hlt i0)
      clear hp
      by_cases he : y = x
      · have Hnx := hide (Hye.out he)
        subst he
        have b1 := HB.out.alloc HB.out.size (.cells #[.int .i64 y, .int .i64 z] 43)
        have Hb2 := hide (b1.alloc b1.size (.cells #[.int .i64 ((k : Int) + 1)] 3))
        have Ho2 : Hid (intE.Own ((wr.alloc (.cells #[.int .i64 y, .int .i64 z] 43)).alloc (.cells #[.int .i64 ((k : Int) + 1)] 3)) w.heap.size u5 (dvs es (fun e => e.1 = y) k)) := hide (World.ownsRow.alloc (World.ownsRow.alloc HO.out _) _)
        clear b1 Hno Hye
        generalize dvs es (fun e => e.1 = y) k = xs at *
        go_wp2_with (at_builtin; refine intE.wp (w0 := w) Hb2.out (by rfl) _ _ rfl _ _ rfl rfl xs [(k : Int) + 1] Ho2.out (int_new _ _ _ (by simp)) (by have := Hln.out; have := Hm2.out; simp; omega) ?_; intro v1 w2 ho2 _ _ hb2; refine Hid.out ?_)
        refine hide ?_
        have HO3 := hide ho2
        have HB3 := hide hb2
        clear ho2 hb2
        go_wp2_with fail
        go_roundw
        case rel => exact ⟨k + 1, by omega, by go_num, by rw [Hnx.out]; exact HO3, HB3⟩
        case measure => simp [intOf]; omega
      · have Hnx := hide (Hno.out he)
        have hbe : (y == x) = false := beq_eq_false_iff_ne.2 he
        have HO2 : Hid (intE.Own (wr.alloc (.cells #[.int .i64 y, .int .i64 z] 43)) w.heap.size u5 (dvs es (fun e => e.1 = x) k)) := hide (World.ownsRow.alloc HO.out _)
        have HB2 : Hid (Below w.heap.size w (wr.alloc (.cells #[.int .i64 y, .int .i64 z] 43))) := hide (HB.out.alloc HB.out.size _)
        clear Hno Hye
        go_wp2_with fail
        go_roundw
        case rel => exact ⟨k + 1, by omega, by go_num, by rw [Hnx.out]; exact HO2, HB2⟩
        case measure => simp [intOf]; omega
    · obtain rfl : k = m := by omega
      have j1 : ¬ (k : Int) < (k : Int) := by omega
      go_wp2_with fail
      go_ret
      exact ⟨⟨_, rfl, by rw [HE.out]; exact HO.out⟩, HB.out⟩

set_option maxRecDepth 100000 in
set_option maxHeartbeats 2000000 in
theorem shut_any (a a' aX : Option Addr) (c c' n m kX cX : Nat) (es : List Ed) (b : Int) (fs : List Int) (w : World) (hm : es.length = m) (hu : edE.Rd w (.slice a' m c') es) (hl : m ≤ 100000) (hk : fs.length = kX) (hv : intE.Rd w (.slice aX kX cX) fs) (hl' : kX ≤ 100000) :
    Calls Try.prog 42 #[.agg #[.slice a n c, .slice a' m c'], .int .i64 b, .slice aX kX cX] w fun e w' => (∃ v, e = .returned v ∧ intE.Own w' w.heap.size v (shut es b fs)) ∧ Below w.heap.size w w' := by
  obtain ⟨W0, hW0⟩ : ∃ W0, w.alloc (.cells #[.slice a n c, .slice a' m c'] 25) = W0 := ⟨_, rfl⟩
  have bA : Below w.heap.size w W0 := by rw [← hW0]; exact (Below.refl _ _).alloc (Nat.le_refl _) _
  have hbox : W0.heap[w.heap.size]? = some (.cells #[.slice a n c, .slice a' m c'] 25) := by rw [← hW0]; exact heap_new _ _
  have d1 := (cells_at hbox 1).1
  simp at d1
  have HA := hide bA
  have HE : Hid (shut es b fs = dvs es (fun e => e.2 ≠ b ∧ e.2 ∈ fs) m) := hide (by rw [← hm]; rfl)
  have HuW : Hid (∀ W, Below w.heap.size w W → edE.Rd W (.slice a' m c') es) := hide (fun W h => hu.keep h)
  have K42 : Hid (∀ W x, Below w.heap.size w W → Calls Try.prog 53 #[.slice aX kX cX, .int .i64 x] W fun e w' => e = .returned (.bool (decide (x ∈ fs))) ∧ w' = W) := hide (fun W x h => contains_any aX cX kX fs x W hk (hv.keep h) hl')
  have Hm := hide hm
  have HW0 := hide hW0
  have i0 : (m : Int) ≤ 100000 := by omega
  have i1 : (0 : Int) ≤ (m : Int) := by omega
  clear hu hm hl hW0 bA hbox hk hv hl'
  generalize shut es b fs = oes at *
  obtain ⟨P, hP⟩ : ∃ P : Nat → List Int, P = dvs es (fun e => e.2 ≠ b ∧ e.2 ∈ fs) := ⟨_, rfl⟩
  have HP0 : Hid (P 0 = []) := hide (by rw [hP]; rfl)
  have HPn : Hid (∀ (k : Nat) (y z : Int), es[k]? = some (y, z) → P (k + 1) = P k ++ (if z ≠ b ∧ z ∈ fs then [((k + 1 : Nat) : Int)] else [])) := hide (fun k y z h => by rw [hP]; show dvs es _ k ++ _ = _; rw [h])
  have HPl : Hid (∀ k, (P k).length ≤ k) := hide (fun k => by rw [hP]; exact dvs_len _ _ _)
  have HE : Hid (oes = P m) := hide (by rw [hP]; exact HE.out)
  clear hP
  go_enter Try.func42, Try.ntmps42
  go_upto_region 1 with fail
  rw [HW0.out]
  clear HW0
  go_wp2_with fail
  go_loopw [7, 13] (fun v7 v13 wr => ∃ k : Nat, k ≤ m ∧ v13 = .int .i64 k ∧ Hid (intE.Own wr w.heap.size v7 (P k)) ∧ Hid (Below w.heap.size w wr)) (fun _ v13 _ => m - (intOf v13).toNat)
  case atStart => exact ⟨0, by omega, rfl, hide (by rw [HP0.out]; exact El.Own.nil _ _ _), HA⟩
  case round =>
    obtain ⟨k, hk, rfl, HO, HB⟩ := hrel
    by_cases hlt : k < m
    · obtain ⟨p, hp⟩ : ∃ p, es[k]? = some p := ⟨_, List.getElem?_eq_getElem (by rw [Hm.out]; exact hlt)⟩
      obtain ⟨y, z⟩ := p
      obtain ⟨bb, off, rfl, c0, c1⟩ := ed_at (HuW.out wr HB.out) k (y, z) hp
      simp only at c0 c1
      have j0 : (0 : Int) ≤ (k : Int) := by omega
      have j1 : (k : Int) < (m : Int) := by omega
      have Hnx := hide (HPn.out k y z hp)
      have Hln := hide (HPl.out k)
      have Hm2 := hide (And.intro hlt i0)
      have b1 := hide (HB.out.alloc HB.out.size (.cells #[.int .i64 y, .int .i64 z] 43))
      have HO2 : Hid (intE.Own (wr.alloc (.cells #[.int .i64 y, .int .i64 z] 43)) w.heap.size u7 (P k)) := hide (World.ownsRow.alloc HO.out _)
      clear hp
      by_cases he : z = b
      · have Hnx : Hid (P (k + 1) = P k) := hide (by rw [Hnx.out, if_neg (fun h => h.1 he), List.append_nil])
        have hbe : (z != b) = false := by rw [he]; exact bne_self_eq_false _
        clear he
        go_wp2_with fail
        go_roundw
        case rel => exact ⟨k + 1, by omega, by go_num, by rw [Hnx.out]; exact HO2, b1⟩
        case measure => simp [intOf]; omega
      · have hbe : (z != b) = true := bne_iff_ne.2 he
        by_cases hf : z ∈ fs
        · have Hnx : Hid (P (k + 1) = P k ++ [((k + 1 : Nat) : Int)]) := hide (by rw [Hnx.out, if_pos ⟨he, hf⟩])
          have tf : decide (z ∈ fs) = true := decide_eq_true hf
          have Hb2 := hide (b1.out.alloc b1.out.size (.cells #[.int .i64 ((k : Int) + 1)] 3))
          have Ho2 : Hid (intE.Own ((wr.alloc (.cells #[.int .i64 y, .int .i64 z] 43)).alloc (.cells #[.int .i64 ((k : Int) + 1)] 3)) w.heap.size u7 (P k)) := hide (World.ownsRow.alloc HO2.out _)
          clear he hf
          go_upto_region 6 with (go_at_call 53; refine (K42.out _ _ b1.out).mono ?_; rintro e W1 ⟨rfl, rfl⟩; rw [tf])
          go_wp2_with (at_builtin; refine intE.wp (w0 := w) Hb2.out (by rfl) _ _ rfl _ _ rfl rfl (P k) [(k : Int) + 1] Ho2.out (int_new _ _ _ (by simp)) (by have := Hln.out; have := Hm2.out; simp; omega) ?_; intro v1 w2 ho2 _ _ hb2; refine Hid.out ?_)
          refine hide ?_
          have HO3 := hide ho2
          have HB3 := hide hb2
          clear ho2 hb2
          go_wp2_with fail
          go_roundw
          case rel => exact ⟨k + 1, by omega, by go_num, by rw [Hnx.out]; exact HO3, HB3⟩
          case measure => simp [intOf]; omega
        · have Hnx : Hid (P (k + 1) = P k) := hide (by rw [Hnx.out, if_neg (fun h => hf h.2), List.append_nil])
          have tf : decide (z ∈ fs) = false := decide_eq_false hf
          clear he hf
          go_wp2_with (go_at_call 53; refine (K42.out _ _ b1.out).mono ?_; rintro e W1 ⟨rfl, rfl⟩; rw [tf])
          go_roundw
          case rel => exact ⟨k + 1, by omega, by go_num, by rw [Hnx.out]; exact HO2, b1⟩
          case measure => simp [intOf]; omega
    · obtain rfl : k = m := by omega
      have j1 : ¬ (k : Int) < (k : Int) := by omega
      go_wp2_with fail
      go_ret
      exact ⟨⟨_, rfl, by rw [HE.out]; exact HO.out⟩, HB.out⟩
end Go.Proofs.Ytmmkfcmbmecleaa
