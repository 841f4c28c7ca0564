/- isTote, isOutside, isHeldByOther, Holder; slices.ContainsFunc with isOutside. -/
import Derived.Test.YtbibegendejnlaaClb
import Derived.Test.YtbibegendejnlaaCtb
namespace Go.Proofs.Ytbibegendejnlaa
open Go.RowKit
set_option linter.unusedVariables false

def toteB (t : Int) : Bool := decide (1 ≤ t ∧ t ≤ 30)
def inB (N : Nat) (n : Int) : Bool := decide (0 ≤ n ∧ n < (N : Int))

theorem tote_any (t : Int) (w : World) : Calls Try.prog 24 #[.int .i64 t] w fun e w' => e = .returned (.bool (toteB t)) ∧ w' = w := by
  unfold toteB
  by_cases h1 : 1 ≤ t
  · by_cases h2 : t ≤ 30
    · rw [decide_eq_true ⟨h1, h2⟩]
      go_enter Try.func24, Try.ntmps24
      go_wp2_with fail
      go_ret
      exact ⟨rfl, rfl⟩
    · rw [decide_eq_false (fun h => h2 h.2)]
      go_enter Try.func24, Try.ntmps24
      go_wp2_with fail
      go_ret
      exact ⟨rfl, rfl⟩
  · rw [decide_eq_false (fun h => h1 h.1)]
    go_enter Try.func24, Try.ntmps24
    go_wp2_with fail
    go_ret
    exact ⟨rfl, rfl⟩

theorem out_any (g gh N : Nat) (n : Int) (w : World) (hc : w.cell? ⟨g, 0, none⟩ = some (.slice (some ⟨gh, 0, none⟩) N N)) : Calls Try.prog 26 #[.pointer (some ⟨g, 0, none⟩), .int .i64 n] w fun e w' => e = .returned (.bool (!(inB N n))) ∧ w' = w := by
  unfold inB
  by_cases h1 : 0 ≤ n
  · by_cases h2 : n < (N : Int)
    · rw [decide_eq_true ⟨h1, h2⟩]
      go_enter Try.func26, Try.ntmps26
      go_wp2_with fail
      go_ret
      exact ⟨by simp; omega, rfl⟩
    · rw [decide_eq_false (fun h => h2 h.2)]
      go_enter Try.func26, Try.ntmps26
      go_wp2_with fail
      go_ret
      exact ⟨rfl, rfl⟩
  · rw [decide_eq_false (fun h => h1 h.1)]
    go_enter Try.func26, Try.ntmps26
    go_wp2_with fail
    go_ret
    exact ⟨rfl, rfl⟩

theorem held_any (g gh N : Nat) (t n x : Int) (w : World) (hc : w.cell? ⟨g, 0, none⟩ = some (.slice (some ⟨gh, 0, none⟩) N N)) (hx : w.cell? ⟨gh, n.toNat, none⟩ = some (.int .i64 x)) (hn : 0 ≤ n ∧ n < (N : Int)) :
    Calls Try.prog 34 #[.pointer (some ⟨g, 0, none⟩), .int .i64 t, .int .i64 n] w fun e w' => e = .returned (.bool (decide (x ≠ 0 ∧ x ≠ t))) ∧ w' = w := by
  obtain ⟨k, rfl⟩ : ∃ k : Nat, n = (k : Int) := ⟨n.toNat, by omega⟩
  rw [show ((k : Int)).toNat = k by omega] at hx
  have h1 : (0 : Int) ≤ (k : Int) := by omega
  have h2 : (k : Int) < (N : Int) := hn.2
  clear hn
  by_cases e1 : x = 0
  · subst e1
    rw [decide_eq_false (fun h => h.1 rfl)]
    go_enter Try.func34, Try.ntmps34
    go_wp2_with fail
    go_ret
    exact ⟨rfl, rfl⟩
  · have q1 : (x != 0) = true := bne_iff_ne.2 e1
    by_cases e2 : x = t
    · subst e2
      rw [decide_eq_false (fun h => h.2 rfl)]
      go_enter Try.func34, Try.ntmps34
      go_wp2_with fail
      go_ret
      exact ⟨by simp, rfl⟩
    · have q2 : (x != t) = true := bne_iff_ne.2 e2
      rw [decide_eq_true ⟨e1, e2⟩]
      go_enter Try.func34, Try.ntmps34
      go_wp2_with fail
      go_ret
      exact ⟨by simp, rfl⟩

theorem heldT_any {w : World} {B g gh : Nat} {b : Nat → Prop} {vw : Value} {cs : List Cv} {T : Tb} (h : Tab w B g gh b vw cs T) (t n : Int) (hn : 0 ≤ n ∧ n < (T.hold.length : Int)) :
    Calls Try.prog 34 #[.pointer (some ⟨g, 0, none⟩), .int .i64 t, .int .i64 n] w fun e w' => e = .returned (.bool (heldB T.hold t n)) ∧ w' = w :=
  held_any g gh T.hold.length t n _ w h.cells.1 (h.at n hn).1 hn

theorem holder_any {w : World} {B g gh : Nat} {b : Nat → Prop} {T : Tb} (h : Tbl w B g gh b T) (n : Int) :
    Calls Try.prog 21 #[.pointer (some ⟨g, 0, none⟩), .int .i64 n] w fun e w' => e = .returned (.int .i64 (hat T.hold n)) ∧ w' = w := by
  obtain ⟨vw, cs, h⟩ := h
  have c0 := h.cells.1
  have K := hide (out_any g gh T.hold.length n w c0)
  by_cases hn : 0 ≤ n ∧ n < (T.hold.length : Int)
  · have c1 := (h.at n hn).1
    rw [show inB T.hold.length n = true from decide_eq_true hn] at K
    clear h
    generalize hat T.hold n = x at *
    generalize T.hold.length = N at *
    obtain ⟨k, rfl⟩ : ∃ k : Nat, n = (k : Int) := ⟨n.toNat, by omega⟩
    rw [show ((k : Int)).toNat = k by omega] at c1
    have h1 : (0 : Int) ≤ (k : Int) := by omega
    have h2 : (k : Int) < (N : Int) := hn.2
    clear hn
    go_enter Try.func21, Try.ntmps21
    go_wp2_with (go_at_call 26; refine (K.out).mono ?_; rintro e W1 ⟨rfl, rfl⟩)
    go_ret
    exact ⟨rfl, rfl⟩
  · rw [show inB T.hold.length n = false from decide_eq_false hn] at K
    rw [hat_out hn]
    clear h c0 hn
    go_enter Try.func21, Try.ntmps21
    go_wp2_with (go_at_call 26; refine (K.out).mono ?_; rintro e W1 ⟨rfl, rfl⟩)
    go_ret
    exact ⟨rfl, rfl⟩

set_option maxRecDepth 100000 in
set_option maxHeartbeats 2000000 in
theorem indexO_any (a : Option Addr) (c n g gh N : Nat) (ms : List Int) (w : World) (hc : w.cell? ⟨g, 0, none⟩ = some (.slice (some ⟨gh, 0, none⟩) N N)) (hn : ms.length = n) (hv : intE.Rd w (.slice a n c) ms) (hl : n ≤ 100000) :
    Calls Try.prog 37 #[.slice a n c, .func (.func 26) #[.pointer (some ⟨g, 0, none⟩)] #[]] w fun e w' => (∃ i : Int, e = .returned (.int .i64 i) ∧ decide (0 ≤ i) = !(ms.all (inB N))) ∧ w' = w := by
  have Hn := hide hn
  have Hv := hide hv
  have i0 : (n : Int) ≤ 100000 := by omega
  have yes : Hid (∀ (k : Nat) (p : Int), ms[k]? = some p → inB N p = false → ms.all (inB N) = false) := hide (fun k p h e => by
    rw [List.all_eq_false]
    exact ⟨p, List.mem_of_getElem? h, by simp [e]⟩)
  have no : Hid ((∀ k : Nat, k < n → ∀ p, ms[k]? = some p → inB N p = true) → ms.all (inB N) = true) := hide (fun h => by
    rw [List.all_eq_true]
    intro p hp
    obtain ⟨k, hk⟩ := List.getElem?_of_mem hp
    exact h k (by have := idx_lt hk; omega) p hk)
  have K : Hid (∀ z, Calls Try.prog 26 #[.pointer (some ⟨g, 0, none⟩), .int .i64 z] w fun e w' => e = .returned (.bool (!(inB N z))) ∧ w' = w) := hide (fun z => out_any g gh N z w hc)
  generalize ms.all (inB N) = res at *
  clear hn hv hl hc
  go_enter Try.func37, Try.ntmps37
  go_wp2_with fail
  go_loopw [8] (fun v8 wr => ∃ k : Nat, wr = w ∧ v8 = .int .i64 k ∧ k ≤ n ∧ Hid (∀ i : Nat, i < k → ∀ p, ms[i]? = some p → inB N p = true)) (fun v8 _ => n - (intOf v8).toNat)
  case atStart => exact ⟨0, rfl, rfl, Nat.zero_le _, hide (fun i hi => by omega)⟩
  case round =>
    obtain ⟨k, hw, rfl, hk, HX⟩ := hrel
    have hw' := hw.symm
    clear hw
    subst hw'
    by_cases hlt : k < n
    · obtain ⟨p, hp⟩ : ∃ p, ms[k]? = some p := ⟨_, List.getElem?_eq_getElem (by rw [Hn.out]; exact hlt)⟩
      obtain ⟨b, off, rfl, c0⟩ := int_at Hv.out k p hp
      have j0 : (0 : Int) ≤ (k : Int) := by omega
      have j1 : (k : Int) < (n : Int) := by omega
      have Hp := hide hp
      have K1 := hide (K.out p)
      clear hp
      cases he : inB N p with
      | false =>
        rw [he] at K1
        have e1 := yes.out k p Hp.out he
        subst e1
        clear he
        go_wp2_with (go_at_call 26; refine (K1.out).mono ?_; rintro e W1 ⟨rfl, rfl⟩)
        go_ret
        exact ⟨⟨_, rfl, by simp⟩, rfl⟩
      | true =>
        rw [he] at K1
        have HX1 : Hid (∀ i : Nat, i < k + 1 → ∀ p, ms[i]? = some p → inB N p = true) := hide (fun i hi q h => by
          rcases Nat.lt_or_ge i k with g | g
          · exact HX.out i g q h
          · obtain rfl : i = k := by omega
            rw [Hp.out] at h; cases h; exact he)
        clear he
        go_wp2_with (go_at_call 26; refine (K1.out).mono ?_; rintro e W1 ⟨rfl, hW⟩; have hW' := hW.symm; clear hW; subst hW')
        go_roundw
        case rel => exact ⟨k + 1, trivial, by go_num, by omega, HX1⟩
        case measure => simp [intOf]; omega
    · obtain rfl : k = n := by omega
      have j1 : ¬ (k : Int) < (k : Int) := by omega
      have e1 := no.out HX.out
      subst e1
      go_wp2_with fail
      go_ret
      exact ⟨⟨_, rfl, by decide⟩, rfl⟩

set_option maxRecDepth 100000 in
theorem containsO_any (a : Option Addr) (c n g gh N : Nat) (ms : List Int) (w : World) (hc : w.cell? ⟨g, 0, none⟩ = some (.slice (some ⟨gh, 0, none⟩) N N)) (hn : ms.length = n) (hv : intE.Rd w (.slice a n c) ms) (hl : n ≤ 100000) :
    Calls Try.prog 25 #[.slice a n c, .func (.func 26) #[.pointer (some ⟨g, 0, none⟩)] #[]] w fun e w' => e = .returned (.bool (!(ms.all (inB N)))) ∧ w' = w := by
  have K := hide (indexO_any a c n g gh N ms w hc hn hv hl)
  clear hn hv hl hc
  generalize (!(ms.all (inB N))) = res at *
  go_enter Try.func25, Try.ntmps25
  go_wp2_with (go_at_call 37; refine (K.out).mono ?_; rintro e W1 ⟨⟨r, rfl, hr⟩, rfl⟩; have Hr := hide hr; clear hr)
  go_ret
  exact ⟨by rw [← Hr.out]; rfl, rfl⟩
end Go.Proofs.Ytbibegendejnlaa
