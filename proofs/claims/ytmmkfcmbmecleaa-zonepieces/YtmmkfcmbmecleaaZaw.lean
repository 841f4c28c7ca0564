/- awake: the document's examples. -/
import Derived.Test.YtmmkfcmbmecleaaZrg
import Derived.Test.YtmmkfcmbmecleaaZor
namespace Go.Proofs.Ytmmkfcmbmecleaa
open Go.RowKit
set_option linter.unusedVariables false

/-- two holders of one zone each, as they are written out -/
def two (W : World) (x y x' y' : Int) : World := ((W.alloc (.cells #[.int .i64 x] 3)).alloc (.cells #[.int .i64 x'] 3)).alloc (.cells #[.slice (some ⟨W.heap.size, 0, none⟩) 1 1, .int .i64 y, .slice (some ⟨W.heap.size + 1, 0, none⟩) 1 1, .int .i64 y'] 62)
theorem two_below (W : World) (x y x' y' : Int) : Below W.heap.size W (two W x y x' y') :=
  (((Below.refl _ _).alloc (Nat.le_refl _) _).alloc (by rw [sz]; omega) _).alloc (by rw [sz, sz]; omega) _
theorem two_hds (W : World) (x y x' y' : Int) : Hds hvE (two W x y x' y') (.slice (some ⟨W.heap.size + 1 + 1, 0, none⟩) 2 2) [⟨[x], y⟩, ⟨[x'], y'⟩] := by
  have e1 := sz W (.cells #[.int .i64 x] 3)
  have e2 := sz (W.alloc (.cells #[.int .i64 x] 3)) (.cells #[.int .i64 x'] 3)
  have b3 : ∀ o, Below (W.alloc (.cells #[.int .i64 x] 3)).heap.size (W.alloc (.cells #[.int .i64 x] 3)) (((W.alloc (.cells #[.int .i64 x] 3)).alloc (.cells #[.int .i64 x'] 3)).alloc o) := fun o => ((Below.refl _ _).alloc (Nat.le_refl _) _).alloc (by omega) _
  have b4 : ∀ o, Below ((W.alloc (.cells #[.int .i64 x] 3)).alloc (.cells #[.int .i64 x'] 3)).heap.size ((W.alloc (.cells #[.int .i64 x] 3)).alloc (.cells #[.int .i64 x'] 3)) (((W.alloc (.cells #[.int .i64 x] 3)).alloc (.cells #[.int .i64 x'] 3)).alloc o) := fun o => (Below.refl _ _).alloc (Nat.le_refl _) _
  have r1 := (int_new W x _ rfl).keep (b3 (.cells #[.slice (some ⟨W.heap.size, 0, none⟩) 1 1, .int .i64 y, .slice (some ⟨W.heap.size + 1, 0, none⟩) 1 1, .int .i64 y'] 62))
  have r2 := (int_new (W.alloc (.cells #[.int .i64 x] 3)) x' (W.heap.size + 1) e1.symm).keep (b4 (.cells #[.slice (some ⟨W.heap.size, 0, none⟩) 1 1, .int .i64 y, .slice (some ⟨W.heap.size + 1, 0, none⟩) 1 1, .int .i64 y'] 62))
  refine ⟨[⟨some ⟨W.heap.size, 0, none⟩, 1, 1, y⟩, ⟨some ⟨W.heap.size + 1, 0, none⟩, 1, 1, y'⟩], ?_, rfl, ?_⟩
  · refine (El.Own.new hvE ((W.alloc (.cells #[.int .i64 x] 3)).alloc (.cells #[.int .i64 x'] 3)) 0 (Nat.zero_le _) _ [⟨some ⟨W.heap.size, 0, none⟩, 1, 1, y⟩, ⟨some ⟨W.heap.size + 1, 0, none⟩, 1, 1, y'⟩] rfl (by simp) _ _ _ (by omega) rfl rfl).rd
  · intro i v p hv hp
    rcases i with _ | _ | i
    · simp at hv hp; subst hv hp; exact ⟨rfl, r1⟩
    · simp at hv hp; subst hv hp; exact ⟨rfl, r2⟩
    · simp at hv

theorem ring_two : IsRing [⟨[0], 1⟩, ⟨[1], 0⟩] [0, 1] where
  ne := by simp
  nd := by simp
  lt := by simp
  wt := fun j a b ha hb => by
    rcases j with _ | _ | j
    · simp at ha hb; subst ha hb; exact ⟨_, _, rfl, rfl, by decide, by decide⟩
    · simp at ha hb; subst ha hb; exact ⟨_, _, rfl, rfl, by decide, by decide⟩
    · simp at ha
theorem ring_two_len {l : List Nat} (h : IsRing [⟨[0], 1⟩, ⟨[1], 0⟩] l) : l.length = 2 := by
  have h1 : l ⊆ List.range 2 := fun x hx => List.mem_range.2 (h.lt x hx)
  have h2 := List.Nodup.length_le_of_subset h.nd h1
  simp at h2
  have h3 := h.pos
  rcases Nat.lt_or_ge 1 l.length with g | g
  · omega
  · have e : l.length = 1 := by omega
    obtain ⟨x, rfl⟩ := List.length_eq_one_iff.1 e
    have hw := h.wt 0 x x rfl (by simp)
    have hx := h.lt x (by simp)
    obtain ⟨p, q, hp, hq, _, hin⟩ := hw
    rcases x with _ | _ | x
    · simp at hp hq; subst hp hq; simp at hin
    · simp at hp hq; subst hp hq; simp at hin
    · simp at hx; omega
theorem free_two : Free [⟨[0], 1⟩, ⟨[1], -1⟩] := by
  have s1 : Safe [⟨[0], 1⟩, ⟨[1], -1⟩] 1 := safe_none (p := ⟨[1], -1⟩) rfl (by decide)
  intro i hi
  rcases i with _ | _ | i
  · refine safe_all fun k hk => ?_
    obtain ⟨p, q, hp, hq, _, hin⟩ := hk
    simp at hp
    subst hp
    rcases k with _ | _ | k
    · simp at hq; subst hq; simp at hin
    · exact s1
    · simp at hq
  · exact s1
  · simp at hi; omega

theorem stuck_yes (W : World) : Calls Try.prog 24 #[.slice (some ⟨W.heap.size + 1 + 1, 0, none⟩) 2 2] (two W 0 1 1 0) fun e w' => (∃ a c, e = .returned (.tuple #[.slice a 2 c, .int .i64 0])) ∧ Below W.heap.size W w' := by
  refine (stuck_any _ 2 2 _ _ rfl (two_hds W 0 1 1 0) (by omega) (by simp)).mono ?_
  rintro e w' ⟨⟨u, x, rfl, h⟩, hb⟩
  refine ⟨?_, (two_below W 0 1 1 0).trans (hb.mono (two_below W 0 1 1 0).size)⟩
  unfold SP at h
  rw [if_pos ⟨by simp, by decide⟩] at h
  obtain ⟨rfl, h⟩ := h
  rcases h with ⟨_, h⟩ | ⟨y, m, k, l, rfl, ho, hr⟩
  · exact absurd h ring_two.stuck
  · obtain ⟨a, c, h⟩ := own_form ho
    rw [ring_two_len hr] at h
    exact ⟨a, c, by rw [h]⟩
theorem stuck_no (W : World) : Calls Try.prog 24 #[.slice (some ⟨W.heap.size + 1 + 1, 0, none⟩) 2 2] (two W 0 1 1 (-1)) fun e w' => e = .returned (.tuple #[.slice none 0 0, .int .i64 0]) ∧ Below W.heap.size W w' := by
  refine (stuck_any _ 2 2 _ _ rfl (two_hds W 0 1 1 (-1)) (by omega) (by simp)).mono ?_
  rintro e w' ⟨⟨u, x, rfl, h⟩, hb⟩
  refine ⟨?_, (two_below W 0 1 1 (-1)).trans (hb.mono (two_below W 0 1 1 (-1)).size)⟩
  unfold SP at h
  rw [if_pos ⟨by simp, by decide⟩] at h
  obtain ⟨rfl, h⟩ := h
  rcases h with ⟨rfl, _⟩ | ⟨y, m, k, l, rfl, ho, hr⟩
  · rfl
  · exact absurd free_two hr.stuck

theorem three_rd (W : World) : intE.Rd (W.alloc (.cells #[.int .i64 3, .int .i64 1, .int .i64 3] 3)) (.slice (some ⟨W.heap.size, 0, none⟩) 3 3) [3, 1, 3] :=
  (El.Own.new intE W 0 (Nat.zero_le _) _ [3, 1, 3] rfl (by simp) _ _ _ rfl rfl rfl).rd
theorem order_ok (W : World) : Calls Try.prog 21 #[.slice (some ⟨W.heap.size, 0, none⟩) 3 3] (W.alloc (.cells #[.int .i64 3, .int .i64 1, .int .i64 3] 3)) fun e w' => (∃ a c, e = .returned (.tuple #[.slice a 2 c, .int .i64 0]) ∧ intE.Rd w' (.slice a 2 c) [1, 3]) ∧ Below W.heap.size W w' := by
  have hb0 : Below W.heap.size W (W.alloc (.cells #[.int .i64 3, .int .i64 1, .int .i64 3] 3)) := (Below.refl _ _).alloc (Nat.le_refl _) _
  refine (order_any _ 3 3 _ _ rfl (three_rd W) (by omega)).mono ?_
  rintro e w' ⟨⟨u, x, rfl, h⟩, hb⟩
  refine ⟨?_, hb0.trans (hb.mono hb0.size)⟩
  rcases h with ⟨_, rfl, ho⟩ | ⟨h, _⟩
  · rw [show ints (ordK [3, 1, 3] 8) = [1, 3] by decide] at ho
    obtain ⟨a, c, rfl⟩ := ho.rd.form
    exact ⟨a, c, rfl, ho.rd⟩
  · exact absurd h (by decide)

set_option maxRecDepth 100000 in
set_option maxHeartbeats 4000000 in
theorem awake_any (w : World) : Calls Try.prog 9 #[] w fun e w' => e = .returned (.bool true) ∧ Below w.heap.size w w' := by
  obtain ⟨w0, rfl⟩ : ∃ w0, w0 = w := ⟨_, rfl⟩
  have K1 := hide (stuck_yes w0)
  have K2 : Hid (∀ W, Calls Try.prog 24 #[.slice (some ⟨W.heap.size + 1 + 1, 0, none⟩) 2 2] (two W 0 1 1 (-1)) fun e w' => e = .returned (.tuple #[.slice none 0 0, .int .i64 0]) ∧ Below W.heap.size W w') := hide stuck_no
  have K3 := hide order_ok
  have K4 : Hid (∀ (W : World) (a : Option Addr) (c : Nat), intE.Rd W (.slice a 2 c) [1, 3] → Calls Try.prog 18 #[.slice a 2 c, .slice (some ⟨W.heap.size, 0, none⟩) 2 2] (W.alloc (.cells #[.int .i64 1, .int .i64 3] 3)) fun e w' => e = .returned (.bool true) ∧ Below W.heap.size W w') := hide (fun W a c h => by
    have hb0 : Below W.heap.size W (W.alloc (.cells #[.int .i64 1, .int .i64 3] 3)) := (Below.refl _ _).alloc (Nat.le_refl _) _
    have hn := (El.Own.new intE W 0 (Nat.zero_le _) _ [1, 3] rfl (by simp) _ _ _ rfl rfl rfl).rd
    refine (ints_any a _ c 2 2 2 [1, 3] [1, 3] _ rfl rfl (h.keep hb0) hn (by omega)).mono ?_
    rintro e w' ⟨rfl, q, rfl⟩
    refine ⟨by simp, ?_⟩
    exact ⟨hb0.os, hb0.tape, hb0.output, hb0.size, hb0.block⟩)
  unfold two at K1 K2
  go_enter Try.func9, Try.ntmps9
  go_upto_region 2 with (go_at_call 24; refine (K1.out).mono ?_; rintro e W2 ⟨⟨a1, c1, rfl⟩, hb2⟩; have HB2 := hide hb2; clear hb2)
  go_upto_region 3 with (go_at_call 24; refine (K2.out _).mono ?_; rintro e W3 ⟨rfl, hb3⟩; have HB3 := hide (HB2.out.trans (hb3.mono HB2.out.size)); clear hb3)
  go_upto_region 4 with (go_at_call 21; refine (K3.out _).mono ?_; rintro e W4 ⟨⟨a2, c2, rfl, hr⟩, hb4⟩; have HB4 := hide (HB3.out.trans (hb4.mono HB3.out.size)); have HR := hide hr; clear hb4 hr)
  go_wp2_with (go_at_call 18; refine (K4.out _ _ _ HR.out).mono ?_; rintro e W5 ⟨rfl, hb5⟩; have HB5 := hide (HB4.out.trans (hb5.mono HB4.out.size)); clear hb5)
  go_ret
  exact ⟨rfl, HB5.out⟩
end Go.Proofs.Ytmmkfcmbmecleaa
