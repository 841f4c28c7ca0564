/- slices.IndexFunc and ContainsFunc of claims, with both closures; find; once. -/
import Derived.Test.YtbibegendejnlaaCfn
namespace Go.Proofs.Ytbibegendejnlaa
open Go.RowKit
set_option linter.unusedVariables false

/-- the place of the first such claim; -1: none -/
def ixI (p : Cl → Bool) (q : List Cl) : Int := if q.findIdx p < q.length then (q.findIdx p : Int) else -1
theorem ix_at {p : Cl → Bool} {q : List Cl} {i : Nat} {c : Cl} (hi : q[i]? = some c) (hp : p c = true) (hno : ∀ j d, j < i → q[j]? = some d → p d = false) : ixI p q = (i : Int) := by
  obtain ⟨hlt, he⟩ := List.getElem?_eq_some_iff.1 hi
  have : q.findIdx p = i := by
    rw [List.findIdx_eq hlt]
    exact ⟨by rw [he]; exact hp, fun j hj => by have := hno j q[j] hj (List.getElem?_eq_getElem (by omega)); simpa using this⟩
  unfold ixI
  rw [this, if_pos hlt]
theorem ix_none {p : Cl → Bool} {q : List Cl} (hno : ∀ (j : Nat) (d : Cl), j < q.length → q[j]? = some d → p d = false) : ixI p q = -1 := by
  unfold ixI
  rw [if_neg]
  have : q.findIdx p = q.length := by
    rw [List.findIdx_eq_length]
    intro c hc
    obtain ⟨j, hj, rfl⟩ := List.mem_iff_getElem.1 hc
    have := hno j _ hj (List.getElem?_eq_getElem hj)
    simpa using this
  omega
theorem ix_cases (p : Cl → Bool) (q : List Cl) : (∃ (i : Nat) (c : Cl), q[i]? = some c ∧ p c = true ∧ (∀ j d, j < i → q[j]? = some d → p d = false) ∧ ixI p q = (i : Int)) ∨ ((∀ c ∈ q, p c = false) ∧ ixI p q = -1) := by
  by_cases h : q.findIdx p < q.length
  · refine .inl ⟨q.findIdx p, q[q.findIdx p], List.getElem?_eq_getElem h, List.findIdx_getElem (w := h), fun j d hj hd => ?_, by unfold ixI; rw [if_pos h]⟩
    have := List.not_of_lt_findIdx hj
    rw [List.getElem?_eq_getElem (by omega)] at hd
    cases hd
    simpa using this
  · refine .inr ⟨fun c hc => ?_, by unfold ixI; rw [if_neg h]⟩
    cases e : p c with
    | false => rfl
    | true => exact absurd (List.findIdx_lt_length_of_exists ⟨c, hc, e⟩) h
theorem ix_any (p : Cl → Bool) (q : List Cl) : decide (0 ≤ ixI p q) = q.any p := by
  rcases ix_cases p q with ⟨i, c, hi, hp, _, e⟩ | ⟨h, e⟩
  · rw [e, decide_eq_true (by omega), List.any_eq_true.2 ⟨c, List.mem_of_getElem? hi, hp⟩]
  · rw [e, decide_eq_false (by omega)]
    symm
    rw [List.any_eq_false]
    intro c hc
    rw [h c hc]; simp

theorem Qs.take {w : World} {B gh n k c : Nat} {b : Nat → Prop} {cs : List Cv} {q : List Cl} (h : Qs w B gh b (.slice (some ⟨k, 0, none⟩) n c) cs q) (m : Nat) (hm : m ≤ q.length) : Qs w B gh b (.slice (some ⟨k, 0, none⟩) m c) (cs.take m) (q.take m) := by
  refine ⟨h.row.take m (by rw [h.len]; exact hm), by rw [List.length_take, List.length_take, h.len], fun i x p hx hp => ?_⟩
  rw [List.getElem?_take] at hx hp
  split at hx
  · rename_i hlt
    rw [if_pos hlt] at hp
    exact h.el i x p hx hp
  · cases hx

set_option maxHeartbeats 1000000 in
/-- whether a claim is the tote's -/
theorem cloF_any (s x : Int) (a : Option Addr) (l c k : Nat) (w : World) (hk : k < w.heap.size) (hcell : w.cell? ⟨k, 0, none⟩ = some (.int .i64 x)) :
    Calls Try.prog 39 #[.agg #[.int .i64 s, .slice a l c], .pointer (some ⟨k, 0, none⟩)] w fun e w' => e = .returned (.bool (decide (s = x))) ∧ Below w.heap.size w w' := by
  have hne : k ≠ w.heap.size := by omega
  have hB : Hid (∀ o, Below w.heap.size w (w.alloc o)) := hide (fun o => (Below.refl _ _).alloc (Nat.le_refl _) o)
  by_cases h : s = x
  · rw [decide_eq_true h]
    subst h
    go_enter Try.func39, Try.ntmps39
    go_wp2
    go_ret
    exact ⟨by simp, hB.out _⟩
  · rw [decide_eq_false h]
    go_enter Try.func39, Try.ntmps39
    go_wp2
    go_ret
    exact ⟨by simp [h], hB.out _⟩

set_option maxHeartbeats 1000000 in
/-- whether a claim is for the node -/
theorem cloW_any (s x : Int) (a : Option Addr) (c k : Nat) (ns : List Int) (w : World) (hk : k < w.heap.size) (hcell : w.cell? ⟨k, 0, none⟩ = some (.int .i64 x)) (hv : intE.Rd w (.slice a ns.length c) ns) (hl : ns.length ≤ 100000) :
    Calls Try.prog 46 #[.agg #[.int .i64 s, .slice a ns.length c], .pointer (some ⟨k, 0, none⟩)] w fun e w' => e = .returned (.bool (decide (x ∈ ns))) ∧ Below w.heap.size w w' := by
  have hne : k ≠ w.heap.size := by omega
  have hB : Hid (∀ o, Below w.heap.size w (w.alloc o)) := hide (fun o => (Below.refl _ _).alloc (Nat.le_refl _) o)
  have K := hide (contains_any a c ns.length ns x (w.alloc (.cells #[.int .i64 s, .slice a ns.length c] 67)) rfl (hv.keep (hB.out _)) hl)
  clear hv hl
  generalize decide (x ∈ ns) = res at *
  generalize ns.length = n at *
  go_enter Try.func46, Try.ntmps46
  go_wp2_with (go_at_call 40; refine (K.out).mono ?_; rintro e W1 ⟨rfl, rfl⟩)
  go_ret
  exact ⟨rfl, hB.out _⟩

set_option maxRecDepth 100000 in
set_option maxHeartbeats 2000000 in
theorem indexF_any {w : World} {B gh n c : Nat} {b : Nat → Prop} {a : Option Addr} {cs : List Cv} {q : List Cl} (hQ : Qs w B gh b (.slice a n c) cs q) (hn : q.length = n) (hm : n ≤ 1000) (x : Int) (k0 : Nat) (hk0 : k0 < w.heap.size) (hcell : w.cell? ⟨k0, 0, none⟩ = some (.int .i64 x)) :
    Calls Try.prog 38 #[.slice a n c, .func (.func 39) #[] #[.pointer (some ⟨k0, 0, none⟩)]] w fun e w' => e = .returned (.int .i64 (ixI (fun d => decide (d.tote = x)) q)) ∧ Below w.heap.size w w' := by
  have HQ := hide hQ
  have Hn := hide hn
  have Hc := hide hcell
  skip
  have i0 : (n : Int) ≤ 1000 := by omega
  have yes : Hid (∀ (k : Nat) (p : Cl), q[k]? = some p → (fun d => decide (d.tote = x)) p = true → (∀ j d, j < k → q[j]? = some d → (fun d => decide (d.tote = x)) d = false) → ixI (fun d => decide (d.tote = x)) q = (k : Int)) := hide (fun k p h1 h2 h3 => ix_at h1 h2 h3)
  have no : Hid ((∀ (j : Nat) (d : Cl), j < n → q[j]? = some d → (fun d => decide (d.tote = x)) d = false) → ixI (fun d => decide (d.tote = x)) q = -1) := hide (fun h => ix_none (by rw [hn]; exact h))
  generalize ixI (fun d => decide (d.tote = x)) q = res at *
  clear hQ hn hcell 
  obtain ⟨w0, rfl⟩ : ∃ w0, w0 = w := ⟨_, rfl⟩
  go_enter Try.func38, Try.ntmps38
  go_wp2_with fail
  go_loopw [8] (fun v8 wr => ∃ k : Nat, k ≤ n ∧ v8 = .int .i64 k ∧ Hid (Below w0.heap.size w0 wr) ∧ Hid (∀ j d, j < k → q[j]? = some d → (fun d => decide (d.tote = x)) d = false)) (fun v8 _ => n - (intOf v8).toNat)
  case atStart => exact ⟨0, by omega, rfl, hide (Below.refl _ _), hide (fun j q h => by omega)⟩
  case round =>
    obtain ⟨k, hk, rfl, HB, Hno⟩ := hrel
    by_cases hlt : k < n
    · obtain ⟨p, hp⟩ : ∃ p, q[k]? = some p := ⟨_, List.getElem?_eq_getElem (by rw [Hn.out]; exact hlt)⟩
      obtain ⟨kb, a', c', rfl, d0, d1, hown, _⟩ := (HQ.out.keep HB.out).at k p hp
      have hqw : k0 < wr.heap.size := Nat.lt_of_lt_of_le hk0 HB.out.size
      have hcw : wr.cell? ⟨k0, 0, none⟩ = some (.int .i64 x) := by rw [HB.out.cell hk0]; exact Hc.out
      have K := hide (cloF_any p.tote x a' p.nodes.length c' k0 wr hqw hcw)
      have j0 : (0 : Int) ≤ (k : Int) := by omega
      have j1 : (k : Int) < (n : Int) := by omega
      have Hp := hide hp
      clear hp hcw hqw hown
      obtain ⟨m, hm⟩ : ∃ m, p.nodes.length = m := ⟨_, rfl⟩
      obtain ⟨s, hs⟩ : ∃ s, p.tote = s := ⟨_, rfl⟩
      have Hpred : Hid ((fun d => decide (d.tote = x)) p = decide (p.tote = x)) := hide rfl
      rw [← Hpred.out] at K
      rw [hm, hs] at K
      rw [hm] at d1
      rw [hs] at d0
      clear hm hs Hpred
      cases he : (fun d => decide (d.tote = x)) p with
      | true =>
        rw [he] at K
        have e1 := yes.out k p Hp.out he Hno.out
        subst e1
        clear he
        go_wp2_with (go_at_call 39; refine K.out.mono ?_; rintro e w2 ⟨rfl, B2⟩; have HB2 := hide (HB.out.trans (B2.mono HB.out.size)); clear B2)
        go_ret
        exact ⟨rfl, HB2.out⟩
      | false =>
        rw [he] at K
        have HX1 : Hid (∀ j d, j < k + 1 → q[j]? = some d → (fun d => decide (d.tote = x)) d = false) := hide (fun j d hj hd => by
          rcases Nat.lt_or_ge j k with g | g
          · exact Hno.out j d g hd
          · obtain rfl : j = k := by omega
            rw [Hp.out] at hd; cases hd; exact he)
        clear he
        go_wp2_with (go_at_call 39; refine K.out.mono ?_; rintro e w2 ⟨rfl, B2⟩; have HB2 := hide (HB.out.trans (B2.mono HB.out.size)); clear B2)
        go_roundw
        case rel => exact ⟨k + 1, by omega, by go_num, HB2, HX1⟩
        case measure => simp [intOf]; omega
    · obtain rfl : k = n := by omega
      have j1 : ¬ (k : Int) < (k : Int) := by omega
      have e1 := no.out Hno.out
      subst e1
      go_wp2_with fail
      go_ret
      exact ⟨rfl, HB.out⟩

set_option maxRecDepth 100000 in
set_option maxHeartbeats 2000000 in
theorem indexW_any {w : World} {B gh n c : Nat} {b : Nat → Prop} {a : Option Addr} {cs : List Cv} {q : List Cl} (hQ : Qs w B gh b (.slice a n c) cs q) (hn : q.length = n) (hm : n ≤ 1000) (hl : ∀ p ∈ q, p.nodes.length ≤ 100000) (x : Int) (k0 : Nat) (hk0 : k0 < w.heap.size) (hcell : w.cell? ⟨k0, 0, none⟩ = some (.int .i64 x)) :
    Calls Try.prog 38 #[.slice a n c, .func (.func 46) #[] #[.pointer (some ⟨k0, 0, none⟩)]] w fun e w' => e = .returned (.int .i64 (ixI (fun d => decide (x ∈ d.nodes)) q)) ∧ Below w.heap.size w w' := by
  have HQ := hide hQ
  have Hn := hide hn
  have Hc := hide hcell
  have Hl := hide hl
  have i0 : (n : Int) ≤ 1000 := by omega
  have yes : Hid (∀ (k : Nat) (p : Cl), q[k]? = some p → (fun d => decide (x ∈ d.nodes)) p = true → (∀ j d, j < k → q[j]? = some d → (fun d => decide (x ∈ d.nodes)) d = false) → ixI (fun d => decide (x ∈ d.nodes)) q = (k : Int)) := hide (fun k p h1 h2 h3 => ix_at h1 h2 h3)
  have no : Hid ((∀ (j : Nat) (d : Cl), j < n → q[j]? = some d → (fun d => decide (x ∈ d.nodes)) d = false) → ixI (fun d => decide (x ∈ d.nodes)) q = -1) := hide (fun h => ix_none (by rw [hn]; exact h))
  generalize ixI (fun d => decide (x ∈ d.nodes)) q = res at *
  clear hQ hn hcell hl
  obtain ⟨w0, rfl⟩ : ∃ w0, w0 = w := ⟨_, rfl⟩
  go_enter Try.func38, Try.ntmps38
  go_wp2_with fail
  go_loopw [8] (fun v8 wr => ∃ k : Nat, k ≤ n ∧ v8 = .int .i64 k ∧ Hid (Below w0.heap.size w0 wr) ∧ Hid (∀ j d, j < k → q[j]? = some d → (fun d => decide (x ∈ d.nodes)) d = false)) (fun v8 _ => n - (intOf v8).toNat)
  case atStart => exact ⟨0, by omega, rfl, hide (Below.refl _ _), hide (fun j q h => by omega)⟩
  case round =>
    obtain ⟨k, hk, rfl, HB, Hno⟩ := hrel
    by_cases hlt : k < n
    · obtain ⟨p, hp⟩ : ∃ p, q[k]? = some p := ⟨_, List.getElem?_eq_getElem (by rw [Hn.out]; exact hlt)⟩
      obtain ⟨kb, a', c', rfl, d0, d1, hown, _⟩ := (HQ.out.keep HB.out).at k p hp
      have hqw : k0 < wr.heap.size := Nat.lt_of_lt_of_le hk0 HB.out.size
      have hcw : wr.cell? ⟨k0, 0, none⟩ = some (.int .i64 x) := by rw [HB.out.cell hk0]; exact Hc.out
      have K := hide (cloW_any p.tote x a' c' k0 p.nodes wr hqw hcw hown.rd (Hl.out p (List.mem_of_getElem? hp)))
      have j0 : (0 : Int) ≤ (k : Int) := by omega
      have j1 : (k : Int) < (n : Int) := by omega
      have Hp := hide hp
      clear hp hcw hqw hown
      obtain ⟨m, hm⟩ : ∃ m, p.nodes.length = m := ⟨_, rfl⟩
      obtain ⟨s, hs⟩ : ∃ s, p.tote = s := ⟨_, rfl⟩
      have Hpred : Hid ((fun d => decide (x ∈ d.nodes)) p = decide (x ∈ p.nodes)) := hide rfl
      rw [← Hpred.out] at K
      rw [hm, hs] at K
      rw [hm] at d1
      rw [hs] at d0
      clear hm hs Hpred
      cases he : (fun d => decide (x ∈ d.nodes)) p with
      | true =>
        rw [he] at K
        have e1 := yes.out k p Hp.out he Hno.out
        subst e1
        clear he
        go_wp2_with (go_at_call 46; refine K.out.mono ?_; rintro e w2 ⟨rfl, B2⟩; have HB2 := hide (HB.out.trans (B2.mono HB.out.size)); clear B2)
        go_ret
        exact ⟨rfl, HB2.out⟩
      | false =>
        rw [he] at K
        have HX1 : Hid (∀ j d, j < k + 1 → q[j]? = some d → (fun d => decide (x ∈ d.nodes)) d = false) := hide (fun j d hj hd => by
          rcases Nat.lt_or_ge j k with g | g
          · exact Hno.out j d g hd
          · obtain rfl : j = k := by omega
            rw [Hp.out] at hd; cases hd; exact he)
        clear he
        go_wp2_with (go_at_call 46; refine K.out.mono ?_; rintro e w2 ⟨rfl, B2⟩; have HB2 := hide (HB.out.trans (B2.mono HB.out.size)); clear B2)
        go_roundw
        case rel => exact ⟨k + 1, by omega, by go_num, HB2, HX1⟩
        case measure => simp [intOf]; omega
    · obtain rfl : k = n := by omega
      have j1 : ¬ (k : Int) < (k : Int) := by omega
      have e1 := no.out Hno.out
      subst e1
      go_wp2_with fail
      go_ret
      exact ⟨rfl, HB.out⟩

set_option maxRecDepth 100000 in
theorem containsW_any {w : World} {B gh n c : Nat} {b : Nat → Prop} {a : Option Addr} {cs : List Cv} {q : List Cl} (hQ : Qs w B gh b (.slice a n c) cs q) (hn : q.length = n) (hm : n ≤ 1000) (hl : ∀ p ∈ q, p.nodes.length ≤ 100000) (x : Int) (k0 : Nat) (hk0 : k0 < w.heap.size) (hcell : w.cell? ⟨k0, 0, none⟩ = some (.int .i64 x)) :
    Calls Try.prog 47 #[.slice a n c, .func (.func 46) #[] #[.pointer (some ⟨k0, 0, none⟩)]] w fun e w' => e = .returned (.bool (wantB q x)) ∧ Below w.heap.size w w' := by
  have K := hide (indexW_any hQ hn hm hl x k0 hk0 hcell)
  have Hr : Hid (decide (0 ≤ ixI (fun d => decide (x ∈ d.nodes)) q) = wantB q x) := hide (ix_any _ q)
  clear hn hQ hl hcell
  generalize wantB q x = res at *
  generalize ixI (fun d => decide (x ∈ d.nodes)) q = r at *
  go_enter Try.func47, Try.ntmps47
  go_wp2_with (go_at_call 38; refine (K.out).mono ?_; rintro e W1 ⟨rfl, hb1⟩; have HB1 := hide hb1; clear hb1)
  go_ret
  exact ⟨by rw [← Hr.out]; rfl, HB1.out⟩

/-- the place of a tote's claim -/
def fnd (t : Int) (q : List Cl) : Int := ixI (fun d => decide (d.tote = t)) q

set_option maxRecDepth 100000 in
set_option maxHeartbeats 1000000 in
theorem find_any {w : World} {B g gh : Nat} {b : Nat → Prop} {T : Tb} (hT : Tbl w B g gh b T) (hm : T.q.length ≤ 1000) (t : Int) :
    Calls Try.prog 27 #[.pointer (some ⟨g, 0, none⟩), .int .i64 t] w fun e w' => e = .returned (.int .i64 (fnd t T.q)) ∧ Below w.heap.size w w' := by
  obtain ⟨vw, cs, h⟩ := hT
  obtain ⟨a, c, rfl⟩ := h.form
  have hB : Below w.heap.size w (w.alloc (.cells #[.int .i64 t] 3)) := (Below.refl _ _).alloc (Nat.le_refl _) _
  have h1 := h.keep hB
  obtain ⟨c0, c1, c2⟩ := h1.cells
  have K := hide (indexF_any h1.qs rfl hm t w.heap.size (by simp) (by simp))
  have HB := hide hB
  unfold fnd
  clear h h1 c0 c2 hB hm
  generalize ixI (fun d => decide (d.tote = t)) T.q = r at *
  generalize T.q.length = n at *
  go_enter Try.func27, Try.ntmps27
  go_wp2_with (go_at_call 38; refine (K.out).mono ?_; rintro e W1 ⟨rfl, hb1⟩; have HB1 := hide (HB.out.trans (hb1.mono HB.out.size)); clear hb1)
  go_ret
  exact ⟨rfl, HB1.out⟩

set_option maxRecDepth 100000 in
set_option maxHeartbeats 2000000 in
theorem once_any (a : Option Addr) (c n : Nat) (ns : List Int) (w : World) (hn : ns.length = n) (hv : intE.Rd w (.slice a n c) ns) (hl : n ≤ 100000) :
    Calls Try.prog 28 #[.slice a n c] w fun e w' => (∃ v, e = .returned v ∧ intE.Own w' w.heap.size v (onc ns)) ∧ Below w.heap.size w w' := by
  have Hn := hide hn
  have i0 : (n : Int) ≤ 100000 := by omega
  obtain ⟨w0, rfl⟩ : ∃ w0, w0 = w := ⟨_, rfl⟩
  have Hv : Hid (∀ W, Below w0.heap.size w0 W → intE.Rd W (.slice a n c) ns) := hide (fun W hb => hv.keep hb)
  have Kc : Hid (∀ (v : Value) (l : List Int) (d : Int) (W : World), intE.Own W w0.heap.size v l → l.length ≤ 100000 → Calls Try.prog 40 #[v, .int .i64 d] W fun e w' => e = .returned (.bool (decide (d ∈ l))) ∧ w' = W) := hide (fun v l d W ho hl => by
    obtain ⟨a', c', rfl⟩ := ho.rd.form
    exact contains_any a' c' l.length l d W rfl ho.rd hl)
  clear hn hv hl
  go_enter Try.func28, Try.ntmps28
  go_wp2_with fail
  go_loopw [3, 8] (fun v3 v8 wr => ∃ k : Nat, k ≤ n ∧ v8 = .int .i64 k ∧ Hid (intE.Own wr w0.heap.size v3 (onc (ns.take k))) ∧ Hid (Below w0.heap.size w0 wr)) (fun _ v8 _ => n - (intOf v8).toNat)
  case atStart => exact ⟨0, by omega, rfl, hide (El.Own.nil _ _ _), hide (Below.refl _ _)⟩
  case round =>
    obtain ⟨k, hk, rfl, HO, HB⟩ := hrel
    by_cases hlt : k < n
    · obtain ⟨p, hp⟩ : ∃ p, ns[k]? = some p := ⟨_, List.getElem?_eq_getElem (by rw [Hn.out]; exact hlt)⟩
      obtain ⟨kb, off, rfl, c0⟩ := int_at (Hv.out wr HB.out) k p hp
      have j0 : (0 : Int) ≤ (k : Int) := by omega
      have j1 : (k : Int) < (n : Int) := by omega
      have hlen : (onc (ns.take k)).length ≤ 100000 := Nat.le_trans (onc_len _) (by rw [List.length_take]; omega)
      have Hst : Hid (onc (ns.take (k + 1)) = onc1 (onc (ns.take k)) p) := hide (by rw [List.take_add_one, hp]; exact onc_snoc _ _)
      have K := hide (Kc.out u3 _ p wr HO.out hlen)
      have Hlen := hide hlen
      clear hp hlen
      by_cases he : p ∈ onc (ns.take k)
      · rw [decide_eq_true he] at K
        have HO1 : Hid (intE.Own wr w0.heap.size u3 (onc (ns.take (k + 1)))) := hide (by rw [Hst.out]; unfold onc1; rw [if_pos he]; exact HO.out)
        clear he
        go_wp2_with (go_at_call 40; refine (K.out).mono ?_; rintro e W1 ⟨rfl, hW⟩; have hW' := hW.symm; clear hW; subst hW')
        go_roundw
        case rel => exact ⟨k + 1, by omega, by go_num, HO1, HB⟩
        case measure => simp [intOf]; omega
      · rw [decide_eq_false he] at K
        have Hba : Hid (∀ (o : Obj), Below wr.heap.size wr (wr.alloc o)) := hide (fun o => (Below.refl _ _).alloc (Nat.le_refl _) o)
        have Hbw : Hid (∀ (o : Obj), Below w0.heap.size w0 (wr.alloc o)) := hide (fun o => HB.out.alloc HB.out.size o)
        have Hl2 : Hid ((onc (ns.take k)).length + [p].length ≤ 1000000) := hide (by have := Hlen.out; simp only [List.length_cons, List.length_nil]; omega)
        have Hst2 : Hid (onc (ns.take (k + 1)) = onc (ns.take k) ++ [p]) := hide (by rw [Hst.out]; unfold onc1; rw [if_neg he])
        clear he
        go_wp2_with (first | (go_at_call 40; refine (K.out).mono ?_; rintro e W1 ⟨rfl, hW⟩; have hW' := hW.symm; clear hW; subst hW') | (at_builtin; refine intE.wp (w0 := w0) (Hbw.out _) (by rfl) _ _ rfl _ _ rfl rfl (onc (ns.take k)) [p] (HO.out.keep (Hba.out _)) (int_new _ _ _ rfl) Hl2.out ?_; intro v1 w2 ho2 _ _ hb2; rw [← Hst2.out] at ho2; have HO2 := hide ho2; have HB2 := hide hb2; clear ho2 hb2))
        go_roundw
        case rel => exact ⟨k + 1, by omega, by go_num, HO2, HB2⟩
        case measure => simp [intOf]; omega
    · obtain rfl : k = n := by omega
      have j1 : ¬ (k : Int) < (k : Int) := by omega
      have HO1 : Hid (intE.Own wr w0.heap.size u3 (onc ns)) := hide (by have := HO.out; rwa [List.take_of_length_le (by rw [Hn.out]; exact Nat.le_refl _)] at this)
      go_wp2_with fail
      go_ret
      exact ⟨⟨_, rfl, HO1.out⟩, HB.out⟩
end Go.Proofs.Ytbibegendejnlaa
