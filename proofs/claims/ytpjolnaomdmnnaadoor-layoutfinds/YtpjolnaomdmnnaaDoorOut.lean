/- Out; the document's Kind. -/
import Derived.Test.YtpjolnaomdmnnaaDoorFnd
namespace Go.Proofs.YtpjolnaomdmnnaaDoor
open Go.RowKit
set_option linter.unusedVariables false

def intE : El Tryd.prog Int where
  t := 45
  e := 3
  k := 1
  by' := 8
  z := .int .i64 0
  enc x := [.int .i64 x]
  ht := Tryd.underlying45
  info := by kernel_rfl
  zc := rfl
  kpos := by omega
  bsm := by omega
  len _ := rfl
  one x v hv := by simp at hv; subst hv; rfl
theorem int_new (w : World) (x : Int) (g : Nat) (hg : g = w.heap.size) : intE.Rd (w.alloc (.cells #[.int .i64 x] 3)) (.slice (some ⟨g, 0, none⟩) 1 1) [x] :=
  (El.Own.new intE w w.heap.size (Nat.le_refl _) _ [x] rfl (by simp) _ _ _ hg rfl rfl).rd
/-- the devices that go from a node, of the first k edges -/
def outs (es : List Ed) (x : Int) : Nat → List Int
  | 0 => []
  | k + 1 => outs es x k ++ (match es[k]? with
    | some e => if e.1 = x then [((k + 1 : Nat) : Int)] else []
    | none => [])
theorem outs_len (es : List Ed) (x : Int) : ∀ k, (outs es x k).length ≤ k
  | 0 => by simp [outs]
  | k + 1 => by
    have := outs_len es x k
    unfold outs
    split
    · split <;> simp <;> omega
    · simp; omega

set_option maxRecDepth 100000 in
set_option maxHeartbeats 2000000 in
theorem out_any (a a' : Option Addr) (c c' n : Nat) (es : List Ed) (x : Int) (w : World) (hu : edE.Rd w (.slice a' es.length c') es) (hl : es.length ≤ 100000) :
    Calls Tryd.prog 19 #[.agg #[.slice a n c, .slice a' es.length c'], .int .i64 x] w fun e w' => (∃ v, e = .returned v ∧ intE.Own w' w.heap.size v (if 0 ≤ x ∧ x < (n : Int) then outs es x es.length else [])) ∧ Below w.heap.size w w' := by
  obtain ⟨m, hm⟩ : ∃ m, es.length = m := ⟨_, rfl⟩
  rw [hm] at hu hl ⊢
  obtain ⟨W0, hW0⟩ : ∃ W0, w.alloc (.cells #[.slice a n c, .slice a' m c'] 25) = W0 := ⟨_, rfl⟩
  have bA : Below w.heap.size w W0 := by rw [← hW0]; exact (Below.refl _ _).alloc (Nat.le_refl _) _
  have K33 := hide (fun i W => isPlace_any a n c i W)
  have HA := hide bA
  by_cases hx : 0 ≤ x ∧ x < (n : Int)
  · rw [if_pos hx]
    have tx : decide (0 ≤ x ∧ x < (n : Int)) = true := decide_eq_true hx
    have Hu := hide (hu.keep bA)
    have HuW : Hid (∀ W, Below w.heap.size w W → edE.Rd W (.slice a' m c') es) := hide (fun W h => hu.keep h)
    have Hm := hide hm
    have HW0 := hide hW0
    have i0 : (m : Int) ≤ 100000 := by omega
    have i1 : (0 : Int) ≤ (m : Int) := by omega
    clear hx hu hm hl hW0 bA
    go_enter Tryd.func19, Tryd.ntmps19
    go_wp2_with (go_at_call 33; refine (K33.out _ _).mono ?_; rintro e W1 ⟨rfl, rfl⟩; rw [tx])
    rw [HW0.out]
    clear HW0 tx K33
    go_loopw [5, 16] (fun v5 v16 wr => ∃ k : Nat, k ≤ m ∧ v16 = .int .i64 k ∧ Hid (intE.Own wr w.heap.size v5 (outs es x k)) ∧ Hid (Below w.heap.size w wr)) (fun _ v16 _ => m - (intOf v16).toNat)
    case atStart => exact ⟨0, by omega, rfl, hide (El.Own.nil _ _ _), HA⟩
    case round =>
      obtain ⟨k, hk, rfl, HO, HB⟩ := hrel
      by_cases hlt : k < m
      · obtain ⟨p, hp⟩ : ∃ p, es[k]? = some p := ⟨_, List.getElem?_eq_getElem (by rw [Hm.out]; exact hlt)⟩
        obtain ⟨y, z⟩ := p
        have hub := Hu.out.keep (show Below W0.heap.size W0 W0 from Below.refl _ _)
        obtain ⟨b, off, rfl, c0, c1⟩ := ed_at (HuW.out wr HB.out) k (y, z) hp
        simp only at c0 c1
        have j0 : (0 : Int) ≤ (k : Int) := by omega
        have j1 : (k : Int) < (m : Int) := by omega
        have Hno : Hid (¬ y = x → outs es x (k + 1) = outs es x k) := hide (fun h => by show outs es x k ++ _ = _; rw [hp]; simp [h])
        have Hye : Hid (y = x → outs es x (k + 1) = outs es x k ++ [((k + 1 : Nat) : Int)]) := hide (fun h => by show outs es x k ++ _ = _; rw [hp]; simp [h])
        have Hln := hide (outs_len es x k)
        have Hm2 := hide (And.intro hlt i0)
        clear hp hub
        by_cases he : y = x
        · have Hnx := hide (Hye.out he)
          subst he
          have b1 := HB.out.alloc HB.out.size (.cells #[.int .i64 y, .int .i64 z] 47)
          have Hb2 := hide (b1.alloc b1.size (.cells #[.int .i64 ((k : Int) + 1)] 3))
          have Ho2 : Hid (intE.Own ((wr.alloc (.cells #[.int .i64 y, .int .i64 z] 47)).alloc (.cells #[.int .i64 ((k : Int) + 1)] 3)) w.heap.size u5 (outs es y k)) := hide (World.ownsRow.alloc (World.ownsRow.alloc HO.out _) _)
          have Hsz : Hid (w.heap.size ≤ ((wr.alloc (.cells #[.int .i64 y, .int .i64 z] 47)).alloc (.cells #[.int .i64 ((k : Int) + 1)] 3)).heap.size) := hide Hb2.out.size
          clear b1 Hno Hye
          generalize outs es y k = xs at *
          go_wp2_with (at_builtin; refine intE.wp (w0 := w) Hb2.out (by rfl) _ _ rfl _ _ rfl rfl xs [(k : Int) + 1] Ho2.out (int_new _ _ _ (by simp)) (by have := Hln.out; have := Hm2.out; simp; omega) ?_; intro v1 w2 ho2 _ _ hb2; refine Hid.out ?_)
          refine hide ?_
          have HO3 := hide ho2
          have HB3 := hide hb2
          clear ho2 hb2
          go_wp2_with fail
          go_roundw
          case rel => exact ⟨k + 1, by omega, by go_num, by rw [Hnx.out]; exact HO3, HB3⟩
          case measure => simp [intOf]; omega
        · have Hnx := hide (Hno.out he)
          have hbe : (y == x) = false := beq_eq_false_iff_ne.2 he
          have HO2 : Hid (intE.Own (wr.alloc (.cells #[.int .i64 y, .int .i64 z] 47)) w.heap.size u5 (outs es x k)) := hide (World.ownsRow.alloc HO.out _)
          have HB2 : Hid (Below w.heap.size w (wr.alloc (.cells #[.int .i64 y, .int .i64 z] 47))) := hide (HB.out.alloc HB.out.size _)
          clear Hno Hye
          go_wp2_with fail
          go_roundw
          case rel => exact ⟨k + 1, by omega, by go_num, by rw [Hnx.out]; exact HO2, HB2⟩
          case measure => simp [intOf]; omega
      · obtain rfl : k = m := by omega
        have j1 : ¬ (k : Int) < (k : Int) := by omega
        go_wp2_with fail
        go_ret
        exact ⟨⟨_, rfl, HO.out⟩, HB.out⟩
  · rw [if_neg hx]
    have tx : decide (0 ≤ x ∧ x < (n : Int)) = false := decide_eq_false hx
    clear hx hu hm hl bA
    subst hW0
    go_enter Tryd.func19, Tryd.ntmps19
    go_wp2_with (go_at_call 33; refine (K33.out _ _).mono ?_; rintro e W1 ⟨rfl, rfl⟩; rw [tx])
    go_ret
    exact ⟨⟨_, rfl, El.Own.nil _ _ _⟩, HA.out⟩
end Go.Proofs.YtpjolnaomdmnnaaDoor
