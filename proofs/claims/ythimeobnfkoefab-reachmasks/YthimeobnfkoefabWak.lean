/- The ring, what the document tells of it; a layout and a mask that fit. -/
import Derived.Test.YthimeobnfkoefabCut
import Derived.Test.YthimeobnfkoefabRgd
namespace Go.Proofs.Ythimeobnfkoefab
open Go.RowKit
set_option linter.unusedVariables false

def ringN : List Nd := [⟨⟨#[97]⟩, 1, 0⟩, ⟨⟨#[98]⟩, 1, 0⟩, ⟨⟨#[99]⟩, 1, 0⟩]
def ringE : List Ed := [(0, 1), (1, 2), (2, 0)]
theorem ring_eg {cl : List Bool} {u v : Nat} (h : Eg ringE cl 0 u v) : (cl[0]? = some false ∧ u = 0 ∧ v = 1) ∨ (cl[1]? = some false ∧ u = 1 ∧ v = 2) ∨ (cl[2]? = some false ∧ u = 2 ∧ v = 0) := by
  obtain ⟨i, h1, h2⟩ := h
  rcases i with _ | _ | _ | i
  · simp [ringE] at h2; exact .inl ⟨h1, by omega, by omega⟩
  · simp [ringE] at h2; exact .inr (.inl ⟨h1, by omega, by omega⟩)
  · simp [ringE] at h2; exact .inr (.inr ⟨h1, by omega, by omega⟩)
  · simp [ringE] at h2
theorem no_way {E : Nat → Nat → Prop} {T : Nat → Prop} {s : Nat} (S : Nat → Prop) (h0 : S s) (hS : ∀ u v, E u v → S u → S v) {k t : Nat} (h : Way E T s k t) : S t := by
  induction h with
  | here => exact h0
  | step _ _ h3 ih => exact hS _ _ h3 ih
theorem ring_t (u : Nat) (h : u < 3) : Tk ringN u := by
  rcases u with _ | _ | _ | u
  · rfl
  · rfl
  · rfl
  · omega
theorem ring_far : Far (Eg ringE (clo 3 [2]) 0) (Tk ringN) 0 3 [0, 1, -1] := by
  have c0 : (clo 3 [2])[0]? = some false := rfl
  have c1 : (clo 3 [2])[1]? = some true := rfl
  have w1 : Way (Eg ringE (clo 3 [2]) 0) (Tk ringN) 0 1 1 := .step .here (.inl rfl) ⟨0, rfl, rfl⟩
  refine Fnd.far ⟨rfl, by omega, rfl, fun v => ?_, fun v k hv => ?_⟩ (fun u v hE _ hu => ?_)
  · rcases v with _ | _ | _ | v <;> simp [va]
  · rcases v with _ | _ | _ | v
    · have : k = 0 := by simp [va] at hv; omega
      subst this; exact .here
    · have : k = 1 := by simp [va] at hv; omega
      subst this; exact w1
    · simp [va] at hv
    · simp [va] at hv
  · rcases ring_eg hE with ⟨_, rfl, rfl⟩ | ⟨h, rfl, rfl⟩ | ⟨_, rfl, rfl⟩
    · simp [Don, va]
    · rw [c1] at h; cases h
    · simp [va] at hu
theorem ring_cut {l : List Int} (h : Cuts ringN ringE (clo 3 []) 0 2 l) : l = [1, 2] := by
  have hw : ∀ cl : List Bool, cl[0]? = some false → cl[1]? = some false → Has ringN ringE cl 0 2 := fun cl h0 h1 =>
    ⟨2, .step (.step .here (.inl rfl) ⟨0, h0, rfl⟩) (.inr (ring_t 1 (by omega))) ⟨1, h1, rfl⟩⟩
  have n0 : Ct ringN ringE (clo 3 []) 0 2 0 := ⟨rfl, fun ⟨k, hk⟩ => by
    have := no_way (fun x => x = 0) rfl (fun u v hE hu => by
      rcases ring_eg hE with ⟨h, _, _⟩ | ⟨h, h1, _⟩ | ⟨h, h1, _⟩
      · exact absurd (show some true = some false from h) (by simp)
      · omega
      · omega) hk
    omega⟩
  have n1 : Ct ringN ringE (clo 3 []) 0 2 1 := ⟨rfl, fun ⟨k, hk⟩ => by
    have := no_way (fun x => x = 0 ∨ x = 1) (.inl rfl) (fun u v hE hu => by
      rcases ring_eg hE with ⟨h, _, _⟩ | ⟨h, h1, _⟩ | ⟨h, h1, _⟩
      · omega
      · exact absurd (show some true = some false from h) (by simp)
      · omega) hk
    omega⟩
  have n2 : ¬ Ct ringN ringE (clo 3 []) 0 2 2 := fun h => h.2 (hw _ rfl rfl)
  refine h.uniq (.inr ⟨hw _ rfl rfl, ?_⟩)
  show Cts _ 3 _
  exact ⟨[1, 2], ⟨[1], ⟨[], rfl, .inl ⟨n0, rfl⟩⟩, .inl ⟨n1, rfl⟩⟩, .inr ⟨n2, rfl⟩⟩

set_option maxRecDepth 100000 in
set_option maxHeartbeats 1000000 in
theorem ring_any (w : World) : Calls Try.prog 10 #[] w fun e w' => ∃ aN aE, e = .returned (.agg #[.slice aN 3 3, .slice aE 3 3]) ∧ Ly w' aN aE 3 3 3 3 ringN ringE ∧ Below w.heap.size w w' := by
  go_enter Try.func10, Try.ntmps10
  go_wp2_with fail
  have bA : Below w.heap.size w (((w.alloc (.cells #[.slice (some ⟨w.heap.size + 1, 0, none⟩) 3 3, .slice (some ⟨w.heap.size + 1 + 1, 0, none⟩) 3 3] 25)).alloc (.cells #[.string ⟨#[97]⟩, .int .i64 1, .int .i64 0, .string ⟨#[98]⟩, .int .i64 1, .int .i64 0, .string ⟨#[99]⟩, .int .i64 1, .int .i64 0] 43)).alloc (.cells #[.int .i64 0, .int .i64 1, .int .i64 1, .int .i64 2, .int .i64 2, .int .i64 0] 45)) := (((Below.refl _ _).alloc (Nat.le_refl _) _).alloc (by simp) _).alloc (by simp; omega) _
  refine bodyPost_ret (v := .agg #[.slice (some ⟨w.heap.size + 1, 0, none⟩) 3 3, .slice (some ⟨w.heap.size + 1 + 1, 0, none⟩) 3 3]) (by simp [results, Try.results10, go_sem]) rfl ?_
  refine ⟨_, _, rfl, ⟨rfl, rfl, ?_, ?_, by omega, by omega, ?_⟩, bA⟩
  · exact ((El.Own.new ndE (w.alloc (.cells #[.slice (some ⟨w.heap.size + 1, 0, none⟩) 3 3, .slice (some ⟨w.heap.size + 1 + 1, 0, none⟩) 3 3] 25)) 0 (by omega) _ ringN rfl (by simp [ringN]) _ _ _ (by simp) rfl rfl).rd).keep ((Below.refl _ _).alloc (Nat.le_refl _) _)
  · exact (El.Own.new edE ((w.alloc (.cells #[.slice (some ⟨w.heap.size + 1, 0, none⟩) 3 3, .slice (some ⟨w.heap.size + 1 + 1, 0, none⟩) 3 3] 25)).alloc (.cells #[.string ⟨#[97]⟩, .int .i64 1, .int .i64 0, .string ⟨#[98]⟩, .int .i64 1, .int .i64 0, .string ⟨#[99]⟩, .int .i64 1, .int .i64 0] 43)) 0 (by omega) _ ringE rfl (by simp [ringE]) _ _ _ (by simp) rfl rfl).rd
  · intro e he
    simp only [ringE, List.mem_cons, List.not_mem_nil, or_false] at he
    rcases he with rfl | rfl | rfl <;> decide

set_option maxRecDepth 100000 in
set_option maxHeartbeats 1000000 in
theorem awake_any (w : World) : Calls Try.prog 4 #[] w fun e w' => e = .returned (.bool true) ∧ Below w.heap.size w w' := by
  have K23 : Hid (∀ W, Below w.heap.size w W → Calls Try.prog 10 #[] W fun e w' => ∃ aN aE, e = .returned (.agg #[.slice aN 3 3, .slice aE 3 3]) ∧ Ly w' aN aE 3 3 3 3 ringN ringE ∧ Below W.heap.size W w') := hide (fun W h => ring_any W)
  have K12 : Hid (∀ (W : World) aN aE aM, Below w.heap.size w W → Ly W aN aE 3 3 3 3 ringN ringE → Mk W aM 1 1 [2] → Calls Try.prog 6 #[.agg #[.slice aN 3 3, .slice aE 3 3], .slice aM 1 1, .int .i64 0] W fun e w' => ∃ g, e = .returned (.tuple #[.slice (some ⟨g, 0, none⟩) 3 3, .int .i64 0]) ∧ intE.Rd w' (.slice (some ⟨g, 0, none⟩) 3 3) [0, 1, -1] ∧ Below W.heap.size W w') := hide (fun W aN aE aM h hL hM => (from_ok aN aE aM 3 3 1 3 3 1 0 ringN ringE [2] W hL hM (by omega)).mono (by
    rintro e w' ⟨⟨g, l, h1, h2, h3⟩, h4⟩
    have := h3.uniq ring_far
    subst this
    exact ⟨g, h1, h2.rd, h4⟩))
  have K18 : Hid (∀ (W : World) aN aE, Ly W aN aE 3 3 3 3 ringN ringE → Calls Try.prog 11 #[.agg #[.slice aN 3 3, .slice aE 3 3], .slice none 0 0, .int .i64 0, .int .i64 2] W fun e w' => ∃ b d, e = .returned (.tuple #[.slice b 2 d, .int .i64 0]) ∧ intE.Rd w' (.slice b 2 d) [1, 2] ∧ Below W.heap.size W w') := hide (fun W aN aE hL => (cut_ok aN aE none 3 3 0 3 3 0 0 2 ringN ringE [] W hL ⟨rfl, .inl ⟨rfl, rfl⟩, by omega⟩ (by omega) (by omega)).mono (by
    rintro e w' ⟨⟨v, l, h1, h2, h3⟩, h4⟩
    have := ring_cut h3
    subst this
    obtain ⟨b, d, rfl⟩ := h2.rd.form
    exact ⟨b, d, h1, h2.rd, h4⟩))
  have K14 : Hid (∀ (W : World) a b n c d xs ys, xs.length = n → ys.length = n → intE.Rd W (.slice a n c) xs → intE.Rd W (.slice b n d) ys → n ≤ 100 → xs = ys → Calls Try.prog 8 #[.slice a n c, .slice b n d] W fun e w' => e = .returned (.bool true) ∧ Below W.heap.size W w') := hide (fun W a b n c d xs ys h1 h2 h3 h4 h5 h6 => (ints_any a b c d n n xs ys W h1 h2 h3 h4 (by omega)).mono (by
    rintro e w' ⟨h7, q, rfl⟩
    rw [decide_eq_true h6] at h7
    exact ⟨h7, below_heap (Below.refl _ _) rfl rfl rfl rfl⟩))
  have Hb : Hid (Below w.heap.size w w) := hide (Below.refl _ _)
  go_enter Try.func4, Try.ntmps4
  go_upto_region 2 with (first
    | (go_at_call 10; refine (K23.out _ Hb.out).mono ?_; rintro e W1 ⟨aN, aE, rfl, hL, hb1⟩
       have HL := hide (hL.keep ((Below.refl _ _).alloc (Nat.le_refl _) (.cells #[.int .i64 2] 3)))
       have HM : Hid (Mk (W1.alloc (.cells #[.int .i64 2] 3)) (some ⟨W1.heap.size, 0, none⟩) 1 1 [2]) := hide ⟨rfl, int_new W1 2 _ rfl, by omega⟩
       have Hb : Hid (Below w.heap.size w (W1.alloc (.cells #[.int .i64 2] 3))) := hide ((Hb.out.trans (hb1.mono Hb.out.size)).alloc (by have := Hb.out.size; have := hb1.size; omega) _)
       clear hL hb1)
    | (go_at_call 6; refine (K12.out _ _ _ _ Hb.out HL.out HM.out).mono ?_; rintro e W2 ⟨g, rfl, hR, hb2⟩
       have HR := hide hR
       have Hb2 : Hid (Below w.heap.size w W2) := hide (Hb.out.trans (hb2.mono Hb.out.size))
       clear hR hb2))
  go_upto_region 3 with (first
    | (go_at_call 10; refine (K23.out _ Hb2.out).mono ?_; rintro e W3 ⟨aN', aE', rfl, hL, hb3⟩
       have HL3 := hide hL
       have HR3 := hide (HR.out.keep hb3)
       have Hb3 : Hid (Below w.heap.size w W3) := hide (Hb2.out.trans (hb3.mono Hb2.out.size))
       clear hL hb3)
    | (go_at_call 11; refine (K18.out _ _ _ HL3.out).mono ?_; rintro e W4 ⟨b, d, rfl, hR, hb4⟩
       have HR4 := hide ((HR3.out.keep hb4).keep ((Below.refl _ _).alloc (Nat.le_refl _) (.cells #[.int .i64 0, .int .i64 1, .int .i64 (-1)] 3)))
       have HC4 := hide (hR.keep ((Below.refl _ _).alloc (Nat.le_refl _) (.cells #[.int .i64 0, .int .i64 1, .int .i64 (-1)] 3)))
       have HN4 : Hid (intE.Rd (W4.alloc (.cells #[.int .i64 0, .int .i64 1, .int .i64 (-1)] 3)) (.slice (some ⟨W4.heap.size, 0, none⟩) 3 3) [0, 1, -1]) := hide (El.Own.new intE W4 0 (by omega) _ [0, 1, -1] rfl (by simp) _ _ _ rfl rfl rfl).rd
       have Hb4 : Hid (Below w.heap.size w (W4.alloc (.cells #[.int .i64 0, .int .i64 1, .int .i64 (-1)] 3))) := hide ((Hb3.out.trans (hb4.mono Hb3.out.size)).alloc (by have := Hb3.out.size; have := hb4.size; omega) _)
       clear hR hb4))
  go_wp2_with (first
    | (go_at_call_of 8 (Value.slice (some ⟨g, 0, none⟩) 3 3); refine (K14.out _ _ _ 3 _ _ [0, 1, -1] [0, 1, -1] rfl rfl HR4.out HN4.out (by omega) rfl).mono ?_; rintro e W5 ⟨rfl, hb5⟩
       have HC5 := hide ((HC4.out.keep hb5).keep ((Below.refl _ _).alloc (Nat.le_refl _) (.cells #[.int .i64 1, .int .i64 2] 3)))
       have HN5 : Hid (intE.Rd (W5.alloc (.cells #[.int .i64 1, .int .i64 2] 3)) (.slice (some ⟨W5.heap.size, 0, none⟩) 2 2) [1, 2]) := hide (El.Own.new intE W5 0 (by omega) _ [1, 2] rfl (by simp) _ _ _ rfl rfl rfl).rd
       have Hb5 : Hid (Below w.heap.size w (W5.alloc (.cells #[.int .i64 1, .int .i64 2] 3))) := hide ((Hb4.out.trans (hb5.mono Hb4.out.size)).alloc (by have := Hb4.out.size; have := hb5.size; omega) _)
       clear hb5)
    | (go_at_call_of 8 (Value.slice b 2 d); refine (K14.out _ _ _ 2 _ _ [1, 2] [1, 2] rfl rfl HC5.out HN5.out (by omega) rfl).mono ?_; rintro e W6 ⟨rfl, hb6⟩
       have Hb6 : Hid (Below w.heap.size w W6) := hide (Hb5.out.trans (hb6.mono Hb5.out.size))
       clear hb6))
  go_ret
  exact ⟨rfl, Hb6.out⟩

set_option maxRecDepth 100000 in
set_option maxHeartbeats 1000000 in
theorem fits_any (a a' aM : Option Addr) (c c' cM n m k0 : Nat) (ns : List Nd) (es : List Ed) (w : World) (hn : ns.length = n) (hm : es.length = m) (hv : ndE.Rd w (.slice a n c) ns) (hu : edE.Rd w (.slice a' m c') es) (hs : ∀ p ∈ ns, p.name.size ≤ maxLen) :
    Calls Try.prog 5 #[.agg #[.slice a n c, .slice a' m c'], .slice aM k0 cM] w fun e w' => e = .returned (.bool (decide (k0 ≤ 200) && good ns es)) ∧ Below w.heap.size w w' := by
  have bA : Below w.heap.size w (w.alloc (.cells #[.slice a n c, .slice a' m c'] 25)) := (Below.refl _ _).alloc (Nat.le_refl _) _
  have HA := hide bA
  subst hn
  subst hm
  have K24 := hide (rgood_any a a' c c' ns es _ (hv.keep bA) (hu.keep bA))
  generalize good ns es = gd at *
  clear hv hu hs bA
  by_cases h : k0 ≤ 200
  · rw [decide_eq_true h, Bool.true_and]
    have h' : (k0 : Int) ≤ 200 := by omega
    clear h
    go_enter Try.func5, Try.ntmps5
    go_wp2_with (go_at_call 12; refine K24.out.mono ?_; rintro e W2 ⟨rfl, hb2⟩; have Hb2 := hide hb2; clear hb2)
    go_ret
    exact ⟨rfl, HA.out.trans (Hb2.out.mono HA.out.size)⟩
  · rw [decide_eq_false h, Bool.false_and]
    have h' : ¬ (k0 : Int) ≤ 200 := by omega
    clear h
    go_enter Try.func5, Try.ntmps5
    go_wp2_with fail
    go_ret
    exact ⟨rfl, HA.out⟩
/-- what is good is small, and its edges lead to nodes -/
theorem good_ly {w : World} {a a' : Option Addr} {c c' n m : Nat} {ns : List Nd} {es : List Ed} (h : good ns es = true) (hn : ns.length = n) (hm : es.length = m) (hv : ndE.Rd w (.slice a n c) ns) (hu : edE.Rd w (.slice a' m c') es) : Ly w a a' c c' n m ns es ∧ 1 ≤ n ∧ n ≤ 40 ∧ m ≤ 120 := by
  unfold good goodN goodE at h
  simp only [Bool.and_eq_true, decide_eq_true_eq] at h
  obtain ⟨⟨h1, h2, _, _⟩, h3, h4, _⟩ := h
  refine ⟨⟨hn, hm, hv, hu, by omega, by omega, fun e he => ?_⟩, by omega, by omega, by omega⟩
  have := h4 e he
  unfold edB placeB at this
  simp only [Bool.and_eq_true, decide_eq_true_eq] at this
  rw [← hn]
  exact ⟨this.1.1.1.1, this.1.1.1.2, this.1.1.2.1, this.1.1.2.2⟩
end Go.Proofs.Ythimeobnfkoefab
