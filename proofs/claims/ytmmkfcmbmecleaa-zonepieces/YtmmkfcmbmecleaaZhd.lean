/- Holders in memory; whether their zones are zones: isZone, isWrong, slices.ContainsFunc. -/
import Derived.Test.YtmmkfcmbmecleaaSlb
import Derived.Test.YtmmkfcmbmecleaaZmt
namespace Go.Proofs.Ytmmkfcmbmecleaa
open Go.RowKit
set_option linter.unusedVariables false

/-- a holder as it lies: a slice and a number -/
structure Hv where
  a : Option Addr
  l : Nat
  c : Nat
  want : Int
def hvE : El Try.prog Hv where
  t := 52
  e := 62
  k := 2
  by' := 32
  z := .agg #[.slice none 0 0, .int .i64 0]
  enc x := [.slice x.a x.l x.c, .int .i64 x.want]
  ht := Try.underlying52
  info := by kernel_rfl
  zc := rfl
  kpos := by omega
  bsm := by omega
  len _ := rfl
  one x v hv := by simp at hv; rcases hv with rfl | rfl <;> rfl
/-- the document's -/
def rvE : El Try.prog Hv where
  t := 55
  e := 75
  k := 2
  by' := 32
  z := .agg #[.slice none 0 0, .int .i64 0]
  enc x := [.slice x.a x.l x.c, .int .i64 x.want]
  ht := Try.underlying55
  info := by kernel_rfl
  zc := rfl
  kpos := by omega
  bsm := by omega
  len _ := rfl
  one x v hv := by simp at hv; rcases hv with rfl | rfl <;> rfl

/-- what the values of holders read as -/
def Hrd (w : World) (vs : List Hv) (hs : List Hl) : Prop := vs.length = hs.length ∧ ∀ (i : Nat) (x : Hv) (p : Hl), vs[i]? = some x → hs[i]? = some p → x.want = p.want ∧ intE.Rd w (.slice x.a x.l x.c) p.has
/-- a slice of holders -/
def Hds (E : El Try.prog Hv) (w : World) (v : Value) (hs : List Hl) : Prop := ∃ vs, E.Rd w v vs ∧ Hrd w vs hs

theorem Hrd.keep {w w' : World} {vs : List Hv} {hs : List Hl} (h : Hrd w vs hs) (hb : Below w.heap.size w w') : Hrd w' vs hs :=
  ⟨h.1, fun i x p hx hp => ⟨(h.2 i x p hx hp).1, (h.2 i x p hx hp).2.keep hb⟩⟩
theorem Hds.keep {E : El Try.prog Hv} {w w' : World} {v : Value} {hs : List Hl} (h : Hds E w v hs) (hb : Below w.heap.size w w') : Hds E w' v hs := by
  obtain ⟨vs, h1, h2⟩ := h
  exact ⟨vs, h1.keep hb, h2.keep hb⟩
theorem Hds.form {E : El Try.prog Hv} {w : World} {v : Value} {hs : List Hl} (h : Hds E w v hs) : ∃ a c, v = .slice a hs.length c := by
  obtain ⟨vs, h1, h2, _⟩ := h
  obtain ⟨a, c, h⟩ := h1.form
  exact ⟨a, c, by rw [h, h2]⟩
theorem hv_at {w : World} {a : Option Addr} {n c : Nat} {hs : List Hl} (h : Hds hvE w (.slice a n c) hs) (i : Nat) (p : Hl) (hp : hs[i]? = some p) :
    ∃ b off a' c', a = some ⟨b, off, none⟩ ∧ w.cell? ⟨b, off + i * 2, none⟩ = some (.slice a' p.has.length c') ∧ w.cell? ⟨b, off + i * 2 + 1, none⟩ = some (.int .i64 p.want) ∧ intE.Rd w (.slice a' p.has.length c') p.has := by
  obtain ⟨vs, h1, h2, h3⟩ := h
  obtain ⟨x, hx⟩ : ∃ x, vs[i]? = some x := ⟨_, List.getElem?_eq_getElem (by rw [h2]; exact idx_lt hp)⟩
  obtain ⟨b, off, e, hc⟩ := h1.at i x hx
  obtain ⟨e1, e2⟩ := h3 i x p hx hp
  obtain ⟨a', c', e3⟩ := e2.form
  simp only [Value.slice.injEq] at e3
  obtain ⟨rfl, e4, rfl⟩ := e3
  refine ⟨b, off, x.a, x.c, e, ?_, ?_, by rw [← e4]; exact e2⟩
  · rw [← e4]; exact hc 0 (by decide)
  · rw [← e1]; exact hc 1 (by decide)
theorem rv_at {w : World} {a : Option Addr} {n c : Nat} {hs : List Hl} (h : Hds rvE w (.slice a n c) hs) (i : Nat) (p : Hl) (hp : hs[i]? = some p) :
    ∃ b off a' c', a = some ⟨b, off, none⟩ ∧ w.cell? ⟨b, off + i * 2, none⟩ = some (.slice a' p.has.length c') ∧ w.cell? ⟨b, off + i * 2 + 1, none⟩ = some (.int .i64 p.want) ∧ intE.Rd w (.slice a' p.has.length c') p.has := by
  obtain ⟨vs, h1, h2, h3⟩ := h
  obtain ⟨x, hx⟩ : ∃ x, vs[i]? = some x := ⟨_, List.getElem?_eq_getElem (by rw [h2]; exact idx_lt hp)⟩
  obtain ⟨b, off, e, hc⟩ := h1.at i x hx
  obtain ⟨e1, e2⟩ := h3 i x p hx hp
  obtain ⟨a', c', e3⟩ := e2.form
  simp only [Value.slice.injEq] at e3
  obtain ⟨rfl, e4, rfl⟩ := e3
  refine ⟨b, off, x.a, x.c, e, ?_, ?_, by rw [← e4]; exact e2⟩
  · rw [← e4]; exact hc 0 (by decide)
  · rw [← e1]; exact hc 1 (by decide)

theorem okZ_eq {z : Int} {b : Bool} (h : okZ z = b) : decide (0 ≤ z ∧ z < 8) = b := h

theorem isz_any (z : Int) (w : World) : Calls Try.prog 34 #[.int .i64 z] w fun e w' => e = .returned (.bool (okZ z)) ∧ w' = w := by
  unfold okZ
  by_cases h1 : 0 ≤ z
  · by_cases h2 : z < 8
    · rw [decide_eq_true ⟨h1, h2⟩]
      go_enter Try.func34, Try.ntmps34
      go_wp2_with fail
      go_ret
      exact ⟨rfl, rfl⟩
    · rw [decide_eq_false (fun h => h2 h.2)]
      go_enter Try.func34, Try.ntmps34
      go_wp2_with fail
      go_ret
      exact ⟨rfl, rfl⟩
  · rw [decide_eq_false (fun h => h1 h.1)]
    go_enter Try.func34, Try.ntmps34
    go_wp2_with fail
    go_ret
    exact ⟨rfl, rfl⟩

theorem notz_any (z : Int) (w : World) : Calls Try.prog 46 #[.int .i64 z] w fun e w' => e = .returned (.bool (!okZ z)) ∧ w' = w := by
  have K := hide (isz_any z w)
  generalize okZ z = b at *
  go_enter Try.func46, Try.ntmps46
  go_wp2_with (go_at_call 34; refine (K.out).mono ?_; rintro e W1 ⟨rfl, rfl⟩)
  go_ret
  exact ⟨rfl, rfl⟩

set_option maxRecDepth 100000 in
set_option maxHeartbeats 2000000 in
theorem indexZ_any (a : Option Addr) (c n : Nat) (ms : List Int) (w : World) (hn : ms.length = n) (hv : intE.Rd w (.slice a n c) ms) (hl : n ≤ 100000) :
    Calls Try.prog 56 #[.slice a n c, .func (.func 46) #[] #[]] w fun e w' => (∃ i : Int, e = .returned (.int .i64 i) ∧ decide (0 ≤ i) = !(ms.all okZ)) ∧ w' = w := by
  have Hn := hide hn
  have Hv := hide hv
  have i0 : (n : Int) ≤ 100000 := by omega
  have yes : Hid (∀ (k : Nat) (p : Int), ms[k]? = some p → okZ p = false → ms.all okZ = false) := hide (fun k p h e => by
    rw [List.all_eq_false]
    exact ⟨p, List.mem_of_getElem? h, by simp [e]⟩)
  have no : Hid ((∀ k : Nat, k < n → ∀ p, ms[k]? = some p → okZ p = true) → ms.all okZ = true) := hide (fun h => by
    rw [List.all_eq_true]
    intro p hp
    obtain ⟨k, hk⟩ := List.getElem?_of_mem hp
    exact h k (by have := idx_lt hk; omega) p hk)
  have K : Hid (∀ (z : Int) W, Calls Try.prog 46 #[.int .i64 z] W fun e w' => e = .returned (.bool (!okZ z)) ∧ w' = W) := hide (fun z W => notz_any z W)
  generalize ms.all okZ = res at *
  clear hn hv hl
  go_enter Try.func56, Try.ntmps56
  go_wp2_with fail
  go_loopw [8] (fun v8 wr => ∃ k : Nat, wr = w ∧ v8 = .int .i64 k ∧ k ≤ n ∧ Hid (∀ i : Nat, i < k → ∀ p, ms[i]? = some p → okZ p = true)) (fun v8 _ => n - (intOf v8).toNat)
  case atStart => exact ⟨0, rfl, rfl, Nat.zero_le _, hide (fun i hi => by omega)⟩
  case round =>
    obtain ⟨k, rfl, rfl, hk, HX⟩ := hrel
    by_cases hlt : k < n
    · obtain ⟨p, hp⟩ : ∃ p, ms[k]? = some p := ⟨_, List.getElem?_eq_getElem (by rw [Hn.out]; exact hlt)⟩
      obtain ⟨b, off, rfl, c0⟩ := int_at Hv.out k p hp
      have j0 : (0 : Int) ≤ (k : Int) := by omega
      have j1 : (k : Int) < (n : Int) := by omega
      have Hp := hide hp
      have K1 := hide (K.out p wr)
      clear hp
      cases he : okZ p with
      | false =>
        rw [he] at K1
        have e1 := yes.out k p Hp.out he
        subst e1
        clear he
        go_wp2_with (go_at_call 46; refine (K1.out).mono ?_; rintro e W1 ⟨rfl, rfl⟩)
        go_ret
        exact ⟨⟨_, rfl, by simp⟩, rfl⟩
      | true =>
        rw [he] at K1
        have HX1 : Hid (∀ i : Nat, i < k + 1 → ∀ p, ms[i]? = some p → okZ p = true) := hide (fun i hi q h => by
          rcases Nat.lt_or_ge i k with g | g
          · exact HX.out i g q h
          · obtain rfl : i = k := by omega
            rw [Hp.out] at h; cases h; exact he)
        clear he
        go_wp2_with (go_at_call 46; refine (K1.out).mono ?_; rintro e W1 ⟨rfl, hW⟩; have hW' := hW.symm; clear hW; subst hW')
        go_roundw
        case rel => exact ⟨k + 1, trivial, by go_num, by omega, HX1⟩
        case measure => simp [intOf]; omega
    · obtain rfl : k = n := by omega
      have j1 : ¬ (k : Int) < (k : Int) := by omega
      have e1 := no.out HX.out
      subst e1
      go_wp2_with fail
      go_ret
      exact ⟨⟨_, rfl, by decide⟩, rfl⟩

set_option maxRecDepth 100000 in
theorem containsZ_any (a : Option Addr) (c n : Nat) (ms : List Int) (w : World) (hn : ms.length = n) (hv : intE.Rd w (.slice a n c) ms) (hl : n ≤ 100000) :
    Calls Try.prog 45 #[.slice a n c, .func (.func 46) #[] #[]] w fun e w' => e = .returned (.bool (!(ms.all okZ))) ∧ w' = w := by
  have K := hide (indexZ_any a c n ms w hn hv hl)
  clear hn hv hl
  generalize (!(ms.all okZ)) = res at *
  go_enter Try.func45, Try.ntmps45
  go_wp2_with (go_at_call 56; refine (K.out).mono ?_; rintro e W1 ⟨⟨r, rfl, hr⟩, rfl⟩; have Hr := hide hr; clear hr)
  go_ret
  exact ⟨by rw [← Hr.out]; rfl, rfl⟩

set_option maxRecDepth 100000 in
set_option maxHeartbeats 2000000 in
theorem wrong_any (a : Option Addr) (c : Nat) (p : Hl) (w : World) (hv : intE.Rd w (.slice a p.has.length c) p.has) (hl : p.has.length ≤ 100000) :
    Calls Try.prog 36 #[.agg #[.slice a p.has.length c, .int .i64 p.want]] w fun e w' => e = .returned (.bool (!okH p)) ∧ Below w.heap.size w w' := by
  have hB : Below w.heap.size w (w.alloc (.cells #[.slice a p.has.length c, .int .i64 p.want] 62)) := (Below.refl _ _).alloc (Nat.le_refl _) _
  have K := hide (containsZ_any a c p.has.length p.has _ rfl (hv.keep hB) hl)
  have HB := hide hB
  have KZ : Hid (∀ W, Calls Try.prog 34 #[.int .i64 p.want] W fun e w' => e = .returned (.bool (okZ p.want)) ∧ w' = W) := hide (fun W => isz_any _ W)
  have Hr : Hid (okH p = (p.has.all okZ && decide (-1 ≤ p.want ∧ p.want < 8))) := hide rfl
  have Hz : Hid (∀ b, okZ p.want = b → decide (0 ≤ p.want ∧ p.want < 8) = b) := hide (fun b h => h)
  clear hv hl hB
  generalize okH p = res at *
  generalize okZ p.want = zb at *
  generalize p.has.all okZ = ab at *
  generalize p.has.length = n at *
  obtain ⟨has, want⟩ := p
  simp only at *
  have Hr1 := Hr.out
  have Hz1 := Hz.out _ rfl
  clear Hr Hz
  cases ab with
  | false =>
    rw [Bool.false_and] at Hr1
    subst Hr1
    go_enter Try.func36, Try.ntmps36
    go_wp2_with (go_at_call 45; refine (K.out).mono ?_; rintro e W1 ⟨rfl, rfl⟩)
    go_ret
    exact ⟨rfl, HB.out⟩
  | true =>
    rw [Bool.true_and] at Hr1
    by_cases hm : want = -1
    · subst hm
      have : res = true := by rw [Hr1]; exact decide_eq_true (by omega)
      subst this
      clear Hr1 Hz1
      go_enter Try.func36, Try.ntmps36
      go_wp2_with (go_at_call 45; refine (K.out).mono ?_; rintro e W1 ⟨rfl, rfl⟩)
      go_ret
      exact ⟨rfl, HB.out⟩
    · have hm' : (want != -1) = true := by simp [hm]
      have : res = zb := by rw [Hr1, ← Hz1]; congr 1; simp only [eq_iff_iff]; omega
      subst this
      have hm2 : ¬ want = -1 := hm
      clear Hr1 Hz1
      cases res with
      | false =>
        go_enter Try.func36, Try.ntmps36
        go_wp2_with (first | (go_at_call 45; refine (K.out).mono ?_; rintro e W1 ⟨rfl, rfl⟩) | (go_at_call 34; refine (KZ.out _).mono ?_; rintro e W1 ⟨rfl, rfl⟩))
        go_ret
        exact ⟨rfl, HB.out⟩
      | true =>
        go_enter Try.func36, Try.ntmps36
        go_wp2_with (first | (go_at_call 45; refine (K.out).mono ?_; rintro e W1 ⟨rfl, rfl⟩) | (go_at_call 34; refine (KZ.out _).mono ?_; rintro e W1 ⟨rfl, rfl⟩))
        go_ret
        exact ⟨rfl, HB.out⟩

set_option maxRecDepth 100000 in
set_option maxHeartbeats 2000000 in
theorem indexH_any (a : Option Addr) (c n : Nat) (hs : List Hl) (w : World) (hn : hs.length = n) (hv : Hds hvE w (.slice a n c) hs) (hl : n ≤ 100000) (hb : ∀ p ∈ hs, p.has.length ≤ 100000) :
    Calls Try.prog 44 #[.slice a n c, .func (.func 36) #[] #[]] w fun e w' => (∃ i : Int, e = .returned (.int .i64 i) ∧ decide (0 ≤ i) = !(hs.all okH)) ∧ Below w.heap.size w w' := by
  have Hn := hide hn
  have Hv := hide hv
  have Hb := hide hb
  have i0 : (n : Int) ≤ 100000 := by omega
  have yes : Hid (∀ (k : Nat) (p : Hl), hs[k]? = some p → okH p = false → hs.all okH = false) := hide (fun k p h e => by
    rw [List.all_eq_false]
    exact ⟨p, List.mem_of_getElem? h, by simp [e]⟩)
  have no : Hid ((∀ k : Nat, k < n → ∀ p, hs[k]? = some p → okH p = true) → hs.all okH = true) := hide (fun h => by
    rw [List.all_eq_true]
    intro p hp
    obtain ⟨k, hk⟩ := List.getElem?_of_mem hp
    exact h k (by have := idx_lt hk; omega) p hk)
  have K : Hid (∀ (a : Option Addr) (c : Nat) (p : Hl) (w : World), intE.Rd w (.slice a p.has.length c) p.has → p.has.length ≤ 100000 →
    Calls Try.prog 36 #[.agg #[.slice a p.has.length c, .int .i64 p.want]] w fun e w' => e = .returned (.bool (!okH p)) ∧ Below w.heap.size w w') := hide wrong_any
  generalize hs.all okH = res at *
  clear hn hv hl hb
  obtain ⟨w0, rfl⟩ : ∃ w0, w0 = w := ⟨_, rfl⟩
  go_enter Try.func44, Try.ntmps44
  go_wp2_with fail
  go_loopw [8] (fun v8 wr => ∃ k : Nat, v8 = .int .i64 k ∧ k ≤ n ∧ Hid (Below w0.heap.size w0 wr) ∧ Hid (∀ i : Nat, i < k → ∀ p, hs[i]? = some p → okH p = true)) (fun v8 _ => n - (intOf v8).toNat)
  case atStart => exact ⟨0, rfl, Nat.zero_le _, hide (Below.refl _ _), hide (fun i hi => by omega)⟩
  case round =>
    obtain ⟨k, rfl, hk, HB, HX⟩ := hrel
    by_cases hlt : k < n
    · obtain ⟨p, hp⟩ : ∃ p, hs[k]? = some p := ⟨_, List.getElem?_eq_getElem (by rw [Hn.out]; exact hlt)⟩
      obtain ⟨b, off, a', c', rfl, c0, c1, hrd⟩ := hv_at (Hv.out.keep HB.out) k p hp
      have j0 : (0 : Int) ≤ (k : Int) := by omega
      have j1 : (k : Int) < (n : Int) := by omega
      have Hp := hide hp
      have K1 := hide (K.out a' c' p wr hrd (Hb.out p (List.mem_of_getElem? hp)))
      clear hp hrd
      obtain ⟨m, hm⟩ : ∃ m, p.has.length = m := ⟨_, rfl⟩
      obtain ⟨u, hu⟩ : ∃ u, p.want = u := ⟨_, rfl⟩
      rw [hm, hu] at K1
      rw [hm] at c0
      rw [hu] at c1
      clear hm hu
      cases he : okH p with
      | false =>
        rw [he] at K1
        have e1 := yes.out k p Hp.out he
        subst e1
        clear he
        go_wp2_with (go_at_call 36; refine (K1.out).mono ?_; rintro e W1 ⟨rfl, hb1⟩; have HB1 := hide (HB.out.trans (hb1.mono HB.out.size)); clear hb1)
        go_ret
        exact ⟨⟨_, rfl, by simp⟩, HB1.out⟩
      | true =>
        rw [he] at K1
        have HX1 : Hid (∀ i : Nat, i < k + 1 → ∀ p, hs[i]? = some p → okH p = true) := hide (fun i hi q h => by
          rcases Nat.lt_or_ge i k with g | g
          · exact HX.out i g q h
          · obtain rfl : i = k := by omega
            rw [Hp.out] at h; cases h; exact he)
        clear he
        go_wp2_with (go_at_call 36; refine (K1.out).mono ?_; rintro e W1 ⟨rfl, hb1⟩; have HB1 := hide (HB.out.trans (hb1.mono HB.out.size)); clear hb1)
        go_roundw
        case rel => exact ⟨k + 1, by go_num, by omega, HB1, HX1⟩
        case measure => simp [intOf]; omega
    · obtain rfl : k = n := by omega
      have j1 : ¬ (k : Int) < (k : Int) := by omega
      have e1 := no.out HX.out
      subst e1
      go_wp2_with fail
      go_ret
      exact ⟨⟨_, rfl, by decide⟩, HB.out⟩

set_option maxRecDepth 100000 in
theorem containsH_any (a : Option Addr) (c n : Nat) (hs : List Hl) (w : World) (hn : hs.length = n) (hv : Hds hvE w (.slice a n c) hs) (hl : n ≤ 100000) (hb : ∀ p ∈ hs, p.has.length ≤ 100000) :
    Calls Try.prog 35 #[.slice a n c, .func (.func 36) #[] #[]] w fun e w' => e = .returned (.bool (!(hs.all okH))) ∧ Below w.heap.size w w' := by
  have K := hide (indexH_any a c n hs w hn hv hl hb)
  clear hn hv hl hb
  generalize (!(hs.all okH)) = res at *
  go_enter Try.func35, Try.ntmps35
  go_wp2_with (go_at_call 44; refine (K.out).mono ?_; rintro e W1 ⟨⟨r, rfl, hr⟩, hb1⟩; have HB1 := hide hb1; have Hr := hide hr; clear hr hb1)
  go_ret
  exact ⟨by rw [← Hr.out]; rfl, HB1.out⟩
end Go.Proofs.Ytmmkfcmbmecleaa
