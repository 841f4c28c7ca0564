/- The ring, what the document tells of it; a layout and a mask that fit. -/
import Derived.Test.YtmmkfcmbmecleaaCut
import Derived.Test.YtmmkfcmbmecleaaRgd
namespace Go.Proofs.Ytmmkfcmbmecleaa
open Go.RowKit
set_option linter.unusedVariables false

def ringN : List Nd := [⟨⟨#[97]⟩, 1, 0⟩, ⟨⟨#[98]⟩, 1, 0⟩, ⟨⟨#[99]⟩, 1, 0⟩]
def ringE : List Ed := [(0, 1), (1, 2), (2, 0)]
theorem ring_eg {cl : List Bool} {u v : Nat} (h : Eg ringE cl 0 u v) : (cl[0]? = some false ∧ u = 0 ∧ v = 1) ∨ (cl[1]? = some false ∧ u = 1 ∧ v = 2) ∨ (cl[2]? = some false ∧ u = 2 ∧ v = 0) := by
  obtain ⟨i, h1, h2⟩ := h
  rcases i with _ | _ | _ | i
  · simp [ringE] at h2; exact .inl ⟨h1, by omega, by omega⟩
  · simp [ringE] at h2; exact .inr (.inl ⟨h1, by omega, by omega⟩)
  · simp [ringE] at h2; exact .inr (.inr ⟨h1, by omega, by omega⟩)
  · simp [ringE] at h2
theorem no_way {E : Nat → Nat → Prop} {T : Nat → Prop} {s : Nat} (S : Nat → Prop) (h0 : S s) (hS : ∀ u v, E u v → S u → S v) {k t : Nat} (h : Way E T s k t) : S t := by
  induction h with
  | here => exact h0
  | step _ _ h3 ih => exact hS _ _ h3 ih
theorem ring_t (u : Nat) (h : u < 3) : Tk ringN u := by
  rcases u with _ | _ | _ | u
  · rfl
  · rfl
  · rfl
  · omega
theorem ring_far : Far (Eg ringE (clo 3 [2]) 0) (Tk ringN) 0 3 [0, 1, -1] := by
  have c0 : (clo 3 [2])[0]? = some false := rfl
  have c1 : (clo 3 [2])[1]? = some true := rfl
  have w1 : Way (Eg ringE (clo 3 [2]) 0) (Tk ringN) 0 1 1 := .step .here (.inl rfl) ⟨0, rfl, rfl⟩
  refine Fnd.far ⟨rfl, by omega, rfl, fun v => ?_, fun v k hv => ?_⟩ (fun u v hE _ hu => ?_)
  · rcases v with _ | _ | _ | v <;> simp [va]
  · rcases v with _ | _ | _ | v
    · have : k = 0 := by simp [va] at hv; omega
      subst this; exact .here
    · have : k = 1 := by simp [va] at hv; omega
      subst this; exact w1
    · simp [va] at hv
    · simp [va] at hv
  · rcases ring_eg hE with ⟨_, rfl, rfl⟩ | ⟨h, rfl, rfl⟩ | ⟨_, rfl, rfl⟩
    · simp [Don, va]
    · rw [c1] at h; cases h
    · simp [va] at hu
theorem ring_cut {l : List Int} (h : Cuts ringN ringE (clo 3 []) 0 2 l) : l = [1, 2] := by
  have hw : ∀ cl : List Bool, cl[0]? = some false → cl[1]? = some false → Has ringN ringE cl 0 2 := fun cl h0 h1 =>
    ⟨2, .step (.step .here (.inl rfl) ⟨0, h0, rfl⟩) (.inr (ring_t 1 (by omega))) ⟨1, h1, rfl⟩⟩
  have n0 : Ct ringN ringE (clo 3 []) 0 2 0 := ⟨rfl, fun ⟨k, hk⟩ => by
    have := no_way (fun x => x = 0) rfl (fun u v hE hu => by
      rcases ring_eg hE with ⟨h, _, _⟩ | ⟨h, h1, _⟩ | ⟨h, h1, _⟩
      · exact absurd (show some true = some false from h) (by simp)
      · omega
      · omega) hk
    omega⟩
  have n1 : Ct ringN ringE (clo 3 []) 0 2 1 := ⟨rfl, fun ⟨k, hk⟩ => by
    have := no_way (fun x => x = 0 ∨ x = 1) (.inl rfl) (fun u v hE hu => by
      rcases ring_eg hE with ⟨h, _, _⟩ | ⟨h, h1, _⟩ | ⟨h, h1, _⟩
      · omega
      · exact absurd (show some true = some false from h) (by simp)
      · omega) hk
    omega⟩
  have n2 : ¬ Ct ringN ringE (clo 3 []) 0 2 2 := fun h => h.2 (hw _ rfl rfl)
  refine h.uniq (.inr ⟨hw _ rfl rfl, ?_⟩)
  show Cts _ 3 _
  exact ⟨[1, 2], ⟨[1], ⟨[], rfl, .inl ⟨n0, rfl⟩⟩, .inl ⟨n1, rfl⟩⟩, .inr ⟨n2, rfl⟩⟩

set_option maxRecDepth 100000 in
set_option maxHeartbeats 1000000 in
set_option maxRecDepth 100000 in
set_option maxHeartbeats 1000000 in
set_option maxRecDepth 100000 in
set_option maxHeartbeats 1000000 in
theorem fits_any (a a' aM : Option Addr) (c c' cM n m k0 : Nat) (ns : List Nd) (es : List Ed) (w : World) (hn : ns.length = n) (hm : es.length = m) (hv : ndE.Rd w (.slice a n c) ns) (hu : edE.Rd w (.slice a' m c') es) (hs : ∀ p ∈ ns, p.name.size ≤ maxLen) :
    Calls Try.prog 19 #[.agg #[.slice a n c, .slice a' m c'], .slice aM k0 cM] w fun e w' => e = .returned (.bool (decide (k0 ≤ 200) && good ns es)) ∧ Below w.heap.size w w' := by
  have bA : Below w.heap.size w (w.alloc (.cells #[.slice a n c, .slice a' m c'] 25)) := (Below.refl _ _).alloc (Nat.le_refl _) _
  have HA := hide bA
  subst hn
  subst hm
  have K24 := hide (rgood_any a a' c c' ns es _ (hv.keep bA) (hu.keep bA))
  generalize good ns es = gd at *
  clear hv hu hs bA
  by_cases h : k0 ≤ 200
  · rw [decide_eq_true h, Bool.true_and]
    have h' : (k0 : Int) ≤ 200 := by omega
    clear h
    go_enter Try.func19, Try.ntmps19
    go_wp2_with (go_at_call 10; refine K24.out.mono ?_; rintro e W2 ⟨rfl, hb2⟩; have Hb2 := hide hb2; clear hb2)
    go_ret
    exact ⟨rfl, HA.out.trans (Hb2.out.mono HA.out.size)⟩
  · rw [decide_eq_false h, Bool.false_and]
    have h' : ¬ (k0 : Int) ≤ 200 := by omega
    clear h
    go_enter Try.func19, Try.ntmps19
    go_wp2_with fail
    go_ret
    exact ⟨rfl, HA.out⟩
/-- what is good is small, and its edges lead to nodes -/
theorem good_ly {w : World} {a a' : Option Addr} {c c' n m : Nat} {ns : List Nd} {es : List Ed} (h : good ns es = true) (hn : ns.length = n) (hm : es.length = m) (hv : ndE.Rd w (.slice a n c) ns) (hu : edE.Rd w (.slice a' m c') es) : Ly w a a' c c' n m ns es ∧ 1 ≤ n ∧ n ≤ 40 ∧ m ≤ 120 := by
  unfold good goodN goodE at h
  simp only [Bool.and_eq_true, decide_eq_true_eq] at h
  obtain ⟨⟨h1, h2, _, _⟩, h3, h4, _⟩ := h
  refine ⟨⟨hn, hm, hv, hu, by omega, by omega, fun e he => ?_⟩, by omega, by omega, by omega⟩
  have := h4 e he
  unfold edB placeB at this
  simp only [Bool.and_eq_true, decide_eq_true_eq] at this
  rw [← hn]
  exact ⟨this.1.1.1.1, this.1.1.1.2, this.1.1.2.1, this.1.1.2.2⟩
end Go.Proofs.Ytmmkfcmbmecleaa
