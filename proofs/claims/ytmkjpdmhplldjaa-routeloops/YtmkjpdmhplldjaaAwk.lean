/- The document's examples; a layout that is small; what is no place. -/
import Derived.Test.YtmkjpdmhplldjaaLop
import Derived.Test.YtmkjpdmhplldjaaWak
import Derived.Test.YtmkjpdmhplldjaaArgs
namespace Go.Proofs.Ytmkjpdmhplldjaa
open Go.RowKit
set_option linter.unusedVariables false

theorem ring_far2 : Far (Eg ringE (clo 3 []) 1) (Tk ringN) 2 3 [2, 1, 0] := by
  have w1 : Way (Eg ringE (clo 3 []) 1) (Tk ringN) 2 1 1 := .step .here (.inl rfl) ⟨1, rfl, rfl⟩
  have w2 : Way (Eg ringE (clo 3 []) 1) (Tk ringN) 2 2 0 := .step w1 (.inr (ring_t 1 (by omega))) ⟨0, rfl, rfl⟩
  refine Fnd.far ⟨rfl, by omega, rfl, fun v => ?_, fun v k hv => ?_⟩ (fun u v hE _ hu => ?_)
  · rcases v with _ | _ | _ | v <;> simp [va]
  · rcases v with _ | _ | _ | v
    · have : k = 2 := by simp [va] at hv; omega
      subst this; exact w2
    · have : k = 1 := by simp [va] at hv; omega
      subst this; exact w1
    · have : k = 0 := by simp [va] at hv; omega
      subst this; exact .here
    · simp [va] at hv
  · rw [eg_back] at hE
    rcases ring_eg hE with ⟨_, rfl, rfl⟩ | ⟨h, rfl, rfl⟩ | ⟨_, rfl, rfl⟩ <;> simp [Don, va]
theorem ring_far0 : Far (Eg ringE (clo 3 []) 1) (Tk ringN) 0 3 [0, 2, 1] := by
  have w1 : Way (Eg ringE (clo 3 []) 1) (Tk ringN) 0 1 2 := .step .here (.inl rfl) ⟨2, rfl, rfl⟩
  have w2 : Way (Eg ringE (clo 3 []) 1) (Tk ringN) 0 2 1 := .step w1 (.inr (ring_t 2 (by omega))) ⟨1, rfl, rfl⟩
  refine Fnd.far ⟨rfl, by omega, rfl, fun v => ?_, fun v k hv => ?_⟩ (fun u v hE _ hu => ?_)
  · rcases v with _ | _ | _ | v <;> simp [va]
  · rcases v with _ | _ | _ | v
    · have : k = 0 := by simp [va] at hv; omega
      subst this; exact .here
    · have : k = 2 := by simp [va] at hv; omega
      subst this; exact w2
    · have : k = 1 := by simp [va] at hv; omega
      subst this; exact w1
    · simp [va] at hv
  · rw [eg_back] at hE
    rcases ring_eg hE with ⟨_, rfl, rfl⟩ | ⟨h, rfl, rfl⟩ | ⟨_, rfl, rfl⟩ <;> simp [Don, va]
theorem ring_farX : Far (Eg ringE (clo 3 [1]) 1) (Tk ringN) 2 3 [-1, 1, 0] := by
  have w1 : Way (Eg ringE (clo 3 [1]) 1) (Tk ringN) 2 1 1 := .step .here (.inl rfl) ⟨1, rfl, rfl⟩
  have c0 : (clo 3 [1])[0]? = some true := rfl
  refine Fnd.far ⟨rfl, by omega, rfl, fun v => ?_, fun v k hv => ?_⟩ (fun u v hE _ hu => ?_)
  · rcases v with _ | _ | _ | v <;> simp [va]
  · rcases v with _ | _ | _ | v
    · simp [va] at hv
    · have : k = 1 := by simp [va] at hv; omega
      subst this; exact w1
    · have : k = 0 := by simp [va] at hv; omega
      subst this; exact .here
    · simp [va] at hv
  · rw [eg_back] at hE
    rcases ring_eg hE with ⟨h, rfl, rfl⟩ | ⟨_, rfl, rfl⟩ | ⟨_, rfl, rfl⟩
    · rw [c0] at h; cases h
    · simp [Don, va]
    · simp [va] at hu
theorem ring_loop {r : Option (List Int)} (h : Lp ringN ringE [] [0, 2, 1] 0 3 r) : r = some [1, 2, 3] := by
  rcases h with ⟨_, h⟩ | ⟨j, h1, h2, h3, h4, h5⟩
  · exact absurd (h 2 (by omega) (by omega)) (by decide)
  · rcases j with _ | _ | _ | j
    · omega
    · exact absurd h4 (by decide)
    · rw [h5]; decide
    · omega
theorem ring_inb : inB 3 ringE := by
  intro e he
  simp only [ringE, List.mem_cons, List.not_mem_nil, or_false] at he
  rcases he with rfl | rfl | rfl <;> decide

set_option maxRecDepth 100000 in
set_option maxHeartbeats 2000000 in
theorem awake_any (w : World) : Calls Try.prog 9 #[] w fun e w' => e = .returned (.bool true) ∧ Below w.heap.size w w' := by
  have K12 : Hid (∀ (W : World) aN aE, Ly W aN aE 3 3 3 3 ringN ringE → Calls Try.prog 12 #[.agg #[.slice aN 3 3, .slice aE 3 3], .slice none 0 0, .int .i64 2] W fun e w' => ∃ g, e = .returned (.tuple #[.slice (some ⟨g, 0, none⟩) 3 3, .int .i64 0]) ∧ intE.Rd w' (.slice (some ⟨g, 0, none⟩) 3 3) [1, 2, 0] ∧ Below W.heap.size W w') := hide (fun W aN aE hL => (table_ok aN aE none 3 3 0 3 3 0 2 ringN ringE [] W hL ⟨rfl, .inl ⟨rfl, rfl⟩, by omega⟩ (by omega)).mono (by
    rintro e w' ⟨⟨g, l, h1, h2, h3⟩, h4⟩
    have := h1.far.uniq ring_far2
    subst this
    exact ⟨g, h2, h3.rd, h4⟩))
  have K19 : Hid (∀ (W : World) aN aE, Ly W aN aE 3 3 3 3 ringN ringE → Calls Try.prog 19 #[.agg #[.slice aN 3 3, .slice aE 3 3], .slice none 0 0, .int .i64 0] W fun e w' => ∃ b d, e = .returned (.tuple #[.slice b 3 d, .int .i64 0]) ∧ intE.Rd w' (.slice b 3 d) [1, 2, 3] ∧ Below W.heap.size W w') := hide (fun W aN aE hL => (loop_ok aN aE none 3 3 0 3 3 0 0 ringN ringE [] W hL ⟨rfl, .inl ⟨rfl, rfl⟩, by omega⟩ (by omega)).mono (by
    rintro e w' ⟨⟨l, h1, h2⟩, h4⟩
    have := h1.far.uniq ring_far0
    subst this
    rcases h2 with ⟨h2, _⟩ | ⟨v, xs, h2, rfl, h3⟩
    · cases ring_loop h2
    · obtain rfl := Option.some.inj (ring_loop h2)
      obtain ⟨b, d, rfl⟩ := h3.rd.form
      exact ⟨b, d, rfl, h3.rd, h4⟩))
  have K18 : Hid (∀ (W : World) aN aE aX, Ly W aN aE 3 3 3 3 ringN ringE → intE.Rd W (.slice aX 1 1) [1] → Calls Try.prog 18 #[.agg #[.slice aN 3 3, .slice aE 3 3], .slice none 0 0, .int .i64 0, .int .i64 2, .slice aX 1 1] W fun e w' => e = .returned (.tuple #[.slice none 0 0, .int .i64 80]) ∧ Below W.heap.size W w') := hide (fun W aN aE aX hL hX => (around_ok aN aE none aX 3 3 0 1 3 3 0 1 0 2 ringN ringE [] [1] W hL ⟨rfl, .inl ⟨rfl, rfl⟩, by omega⟩ ⟨rfl, hX, by omega⟩ (by omega) (by omega) (by omega)).mono (by
    rintro e w' ⟨⟨l, h1, h2⟩, h4⟩
    have := h1.far.uniq ring_farX
    subst this
    rcases h2 with ⟨_, h2⟩ | ⟨k, v, h2, _⟩
    · exact ⟨h2, h4⟩
    · exact absurd h2 (by simp [va])))
  have K14 : Hid (∀ (W : World) a b n c d xs ys, xs.length = n → ys.length = n → intE.Rd W (.slice a n c) xs → intE.Rd W (.slice b n d) ys → n ≤ 100 → xs = ys → Calls Try.prog 14 #[.slice a n c, .slice b n d] W fun e w' => e = .returned (.bool true) ∧ Below W.heap.size W w') := hide (fun W a b n c d xs ys h1 h2 h3 h4 h5 h6 => (ints_any a b c d n n xs ys W h1 h2 h3 h4 (by omega)).mono (by
    rintro e w' ⟨h7, q, rfl⟩
    rw [decide_eq_true h6] at h7
    exact ⟨h7, below_heap (Below.refl _ _) rfl rfl rfl rfl⟩))
  obtain ⟨W1, hW1⟩ : ∃ W1, ((w.alloc (.cells #[.string ⟨#[97]⟩, .int .i64 1, .int .i64 0, .string ⟨#[98]⟩, .int .i64 1, .int .i64 0, .string ⟨#[99]⟩, .int .i64 1, .int .i64 0] 52)).alloc (.cells #[.int .i64 0, .int .i64 1, .int .i64 1, .int .i64 2, .int .i64 2, .int .i64 0] 38)).alloc (.cells #[.slice (some ⟨w.heap.size, 0, none⟩) 3 3, .slice (some ⟨w.heap.size + 1, 0, none⟩) 3 3] 25) = W1 := ⟨_, rfl⟩
  have b1 : Below w.heap.size w W1 := by rw [← hW1]; exact (((Below.refl _ _).alloc (Nat.le_refl _) _).alloc (by simp) _).alloc (by simp; omega) _
  have hL : Ly W1 (some ⟨w.heap.size, 0, none⟩) (some ⟨w.heap.size + 1, 0, none⟩) 3 3 3 3 ringN ringE := by
    rw [← hW1]
    refine ⟨rfl, rfl, ?_, ?_, by omega, by omega, ring_inb⟩
    · exact (((El.Own.new ndE w 0 (by omega) _ ringN rfl (by simp [ringN]) _ _ _ rfl rfl rfl).rd).keep ((Below.refl _ _).alloc (Nat.le_refl _) _)).keep ((Below.refl _ _).alloc (Nat.le_refl _) _)
    · exact ((El.Own.new edE (w.alloc (.cells #[.string ⟨#[97]⟩, .int .i64 1, .int .i64 0, .string ⟨#[98]⟩, .int .i64 1, .int .i64 0, .string ⟨#[99]⟩, .int .i64 1, .int .i64 0] 52)) 0 (by omega) _ ringE rfl (by simp [ringE]) _ _ _ (by simp) rfl rfl).rd).keep ((Below.refl _ _).alloc (Nat.le_refl _) _)
  have hbox : W1.heap[w.heap.size + 1 + 1]? = some (.cells #[.slice (some ⟨w.heap.size, 0, none⟩) 3 3, .slice (some ⟨w.heap.size + 1, 0, none⟩) 3 3] 25) := by
    rw [← hW1]
    have := heap_new ((w.alloc (.cells #[.string ⟨#[97]⟩, .int .i64 1, .int .i64 0, .string ⟨#[98]⟩, .int .i64 1, .int .i64 0, .string ⟨#[99]⟩, .int .i64 1, .int .i64 0] 52)).alloc (.cells #[.int .i64 0, .int .i64 1, .int .i64 1, .int .i64 2, .int .i64 2, .int .i64 0] 38)) (.cells #[.slice (some ⟨w.heap.size, 0, none⟩) 3 3, .slice (some ⟨w.heap.size + 1, 0, none⟩) 3 3] 25)
    rwa [show ((w.alloc (.cells #[.string ⟨#[97]⟩, .int .i64 1, .int .i64 0, .string ⟨#[98]⟩, .int .i64 1, .int .i64 0, .string ⟨#[99]⟩, .int .i64 1, .int .i64 0] 52)).alloc (.cells #[.int .i64 0, .int .i64 1, .int .i64 1, .int .i64 2, .int .i64 2, .int .i64 0] 38)).heap.size = w.heap.size + 1 + 1 by simp] at this
  have HBOX := hide hbox
  have HW1 := hide hW1
  have Hb1 := hide b1
  have HL := hide hL
  obtain ⟨x0, x1⟩ := layg hbox (Below.refl _ _)
  clear hW1 b1 hL hbox
  go_enter Try.func9, Try.ntmps9
  go_upto_region 2 with fail
  rw [HW1.out]
  clear HW1
  generalize w.heap.size + 1 + 1 = q at *
  generalize (some ⟨w.heap.size, 0, none⟩ : Option Addr) = aN at *
  generalize (some ⟨w.heap.size + 1, 0, none⟩ : Option Addr) = aE at *
  have HBB : Hid (Below W1.heap.size W1 W1) := hide (Below.refl _ _)
  go_upto_region 3 with (go_at_call 12; refine (K12.out _ _ _ HL.out).mono ?_; rintro e W2 ⟨g, rfl, hR, hb2⟩; have HR := hide hR; have HB2 := hide hb2; obtain ⟨x0, x1⟩ := layg HBOX.out hb2; have HL2 := hide (HL.out.keep hb2); clear hR hb2)
  go_upto_region 4 with (go_at_call 19; refine (K19.out _ _ _ HL2.out).mono ?_; rintro e W3 ⟨b, d, rfl, hR, hb3⟩; have HS := hide hR; have HR3 := hide (HR.out.keep hb3); have HB3 := hide (HB2.out.trans (hb3.mono HB2.out.size)); obtain ⟨x0, x1⟩ := layg HBOX.out HB3.out; have HL3 := hide (HL2.out.keep hb3); clear hR hb3)
  have b4 : Below W3.heap.size W3 (W3.alloc (.cells #[.int .i64 1] 3)) := (Below.refl _ _).alloc (Nat.le_refl _) _
  have HL4 := hide (HL3.out.keep b4)
  have HX4 := hide (int_new W3 1 _ rfl)
  have HR4 := hide (HR3.out.keep b4)
  have HS4 := hide (HS.out.keep b4)
  have HB4 := hide (HB3.out.trans (b4.mono HB3.out.size))
  clear b4
  go_upto_region 5 with (go_at_call 18; refine (K18.out _ _ _ _ HL4.out HX4.out).mono ?_; rintro e W5 ⟨rfl, hb5⟩; have HR5 := hide (HR4.out.keep hb5); have HS5 := hide (HS4.out.keep hb5); have HB5 := hide (HB4.out.trans (hb5.mono HB4.out.size)); clear hb5)
  have b6 : Below W5.heap.size W5 (W5.alloc (.cells #[.int .i64 1, .int .i64 2, .int .i64 0] 3)) := (Below.refl _ _).alloc (Nat.le_refl _) _
  have HN6 : Hid (intE.Rd (W5.alloc (.cells #[.int .i64 1, .int .i64 2, .int .i64 0] 3)) (.slice (some ⟨W5.heap.size, 0, none⟩) 3 3) [1, 2, 0]) := hide (El.Own.new intE W5 0 (by omega) _ [1, 2, 0] rfl (by simp) _ _ _ rfl rfl rfl).rd
  have HR6 := hide (HR5.out.keep b6)
  have HS6 := hide (HS5.out.keep b6)
  have HB6 := hide (HB5.out.trans (b6.mono HB5.out.size))
  clear b6
  go_wp2_with (first
    | (go_at_call_of 14 (Value.slice (some ⟨g, 0, none⟩) 3 3); refine (K14.out _ _ _ 3 _ _ [1, 2, 0] [1, 2, 0] rfl rfl HR6.out HN6.out (by omega) rfl).mono ?_; rintro e W7 ⟨rfl, hb7⟩
       have HS7 := hide ((HS6.out.keep hb7).keep ((Below.refl _ _).alloc (Nat.le_refl _) (.cells #[.int .i64 1, .int .i64 2, .int .i64 3] 3)))
       have HN7 : Hid (intE.Rd (W7.alloc (.cells #[.int .i64 1, .int .i64 2, .int .i64 3] 3)) (.slice (some ⟨W7.heap.size, 0, none⟩) 3 3) [1, 2, 3]) := hide (El.Own.new intE W7 0 (by omega) _ [1, 2, 3] rfl (by simp) _ _ _ rfl rfl rfl).rd
       have HB7 := hide (HB6.out.trans (hb7.mono HB6.out.size))
       have HB7 : Hid (Below W1.heap.size W1 (W7.alloc (.cells #[.int .i64 1, .int .i64 2, .int .i64 3] 3))) := hide (HB7.out.alloc HB7.out.size _)
       clear hb7)
    | (go_at_call_of 14 (Value.slice b 3 d); refine (K14.out _ _ _ 3 _ _ [1, 2, 3] [1, 2, 3] rfl rfl HS7.out HN7.out (by omega) rfl).mono ?_; rintro e W8 ⟨rfl, hb8⟩
       have HB8 := hide (HB7.out.trans (hb8.mono HB7.out.size))
       clear hb8))
  go_ret
  exact ⟨rfl, Hb1.out.trans (HB8.out.mono Hb1.out.size)⟩

set_option maxRecDepth 100000 in
theorem outside_any (a a' : Option Addr) (n c m c' : Nat) (i : Int) (w : World) : Calls Try.prog 13 #[.agg #[.slice a n c, .slice a' m c'], .int .i64 i] w fun e w' => e = .returned (.bool (!decide (0 ≤ i ∧ i < (n : Int)))) ∧ Below w.heap.size w w' := by
  have hB : Hid (Below w.heap.size w (w.alloc (.cells #[.slice a n c, .slice a' m c'] 25))) := hide ((Below.refl _ _).alloc (Nat.le_refl _) _)
  by_cases h1 : i < 0
  · rw [decide_eq_false (fun h => by omega)]
    go_enter Try.func13, Try.ntmps13
    go_wp2_with fail
    go_ret
    exact ⟨rfl, hB.out⟩
  · by_cases h2 : i ≥ (n : Int)
    · rw [decide_eq_false (fun h => by omega)]
      go_enter Try.func13, Try.ntmps13
      go_wp2_with fail
      go_ret
      exact ⟨rfl, hB.out⟩
    · rw [decide_eq_true ⟨by omega, by omega⟩]
      go_enter Try.func13, Try.ntmps13
      go_wp2_with fail
      go_ret
      exact ⟨rfl, hB.out⟩

set_option maxRecDepth 100000 in
set_option maxHeartbeats 1000000 in
theorem small_any (a a' aM : Option Addr) (c c' cM n m k0 : Nat) (ns : List Nd) (es : List Ed) (w : World) (hn : ns.length = n) (hm : es.length = m) (hv : ndE.Rd w (.slice a n c) ns) (hu : edE.Rd w (.slice a' m c') es) (hs : ∀ p ∈ ns, p.name.size ≤ maxLen) :
    Calls Try.prog 10 #[.agg #[.slice a n c, .slice a' m c'], .slice aM k0 cM] w fun e w' => e = .returned (.bool ((decide (k0 ≤ 200) && good ns es) && (decide (n ≤ 16) && decide (m ≤ 40)))) ∧ Below w.heap.size w w' := by
  obtain ⟨W0, hW0⟩ : ∃ W0, w.alloc (.cells #[.slice a n c, .slice a' m c'] 25) = W0 := ⟨_, rfl⟩
  have bA : Below w.heap.size w W0 := by rw [← hW0]; exact (Below.refl _ _).alloc (Nat.le_refl _) _
  have hbox : W0.heap[w.heap.size]? = some (.cells #[.slice a n c, .slice a' m c'] 25) := by rw [← hW0]; exact heap_new _ _
  have HBOX := hide hbox
  have HA := hide bA
  have HW0 := hide hW0
  obtain ⟨d0, d1⟩ := layc hbox (Below.refl _ _)
  have K25 := hide (fits_any a a' aM c c' cM n m k0 ns es W0 hn hm (hv.keep bA) (hu.keep bA) hs)
  clear hn hm hv hu hs hbox bA hW0
  generalize (decide (k0 ≤ 200) && good ns es) = gd at *
  cases gd with
  | false =>
    rw [Bool.false_and]
    go_enter Try.func10, Try.ntmps10
    go_upto_region 1 with fail
    rw [HW0.out]
    clear HW0
    go_wp2_with (go_at_call 25; refine (K25.out).mono ?_; rintro e W2 ⟨rfl, hb2⟩; have Hb2 := hide hb2; clear hb2)
    go_ret
    exact ⟨rfl, HA.out.trans (Hb2.out.mono HA.out.size)⟩
  | true =>
    rw [Bool.true_and]
    by_cases h1 : n ≤ 16
    · have h1' : (n : Int) ≤ 16 := by omega
      rw [decide_eq_true h1, Bool.true_and]
      by_cases h2 : m ≤ 40
      · have h2' : (m : Int) ≤ 40 := by omega
        rw [decide_eq_true h2]
        clear h1 h2
        go_enter Try.func10, Try.ntmps10
        go_upto_region 1 with fail
        rw [HW0.out]
        clear HW0
        go_wp2_with (go_at_call 25; refine (K25.out).mono ?_; rintro e W2 ⟨rfl, hb2⟩; have Hb2 := hide hb2; obtain ⟨x0, x1⟩ := layc HBOX.out hb2; clear hb2 d0 d1)
        go_ret
        exact ⟨rfl, HA.out.trans (Hb2.out.mono HA.out.size)⟩
      · have h2' : ¬ (m : Int) ≤ 40 := by omega
        rw [decide_eq_false h2]
        clear h1 h2
        go_enter Try.func10, Try.ntmps10
        go_upto_region 1 with fail
        rw [HW0.out]
        clear HW0
        go_wp2_with (go_at_call 25; refine (K25.out).mono ?_; rintro e W2 ⟨rfl, hb2⟩; have Hb2 := hide hb2; obtain ⟨x0, x1⟩ := layc HBOX.out hb2; clear hb2 d0 d1)
        go_ret
        exact ⟨by show Ending.returned (Value.bool (decide ((m : Int) ≤ 40))) = _; rw [decide_eq_false (p := ((m : Int) ≤ 40)) (fun h => by omega)], HA.out.trans (Hb2.out.mono HA.out.size)⟩
    · have h1' : ¬ (n : Int) ≤ 16 := by omega
      rw [decide_eq_false h1, Bool.false_and]
      clear h1
      go_enter Try.func10, Try.ntmps10
      go_upto_region 1 with fail
      rw [HW0.out]
      clear HW0
      go_wp2_with (go_at_call 25; refine (K25.out).mono ?_; rintro e W2 ⟨rfl, hb2⟩; have Hb2 := hide hb2; obtain ⟨x0, x1⟩ := layc HBOX.out hb2; clear hb2 d0 d1)
      go_ret
      exact ⟨rfl, HA.out.trans (Hb2.out.mono HA.out.size)⟩
end Go.Proofs.Ytmkjpdmhplldjaa
