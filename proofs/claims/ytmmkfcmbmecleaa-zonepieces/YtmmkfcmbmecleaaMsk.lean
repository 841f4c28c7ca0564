/- A mask: which edges are closed; the document's Open; two lists of numbers held against each other. -/
import Derived.Test.YtmmkfcmbmecleaaLyb
import Derived.OwnWalk
import Derived.BigQuiet
namespace Go.Proofs.Ytmmkfcmbmecleaa
open Go.RowKit
set_option linter.unusedVariables false

def boolE : El Try.prog Bool where
  t := 76
  e := 4
  k := 1
  by' := 1
  z := .bool false
  enc x := [.bool x]
  ht := Try.underlying76
  info := by kernel_rfl
  zc := rfl
  kpos := by omega
  bsm := by omega
  len _ := rfl
  one x v hv := by simp at hv; subst hv; rfl

theorem fl_map {α : Type} (E : El Try.prog α) (f : α → Value) (hE : ∀ x, E.enc x = [f x]) (xs : List α) : E.fl xs = xs.map f := by
  induction xs with
  | nil => rfl
  | cons x xs ih =>
    show E.enc x ++ E.fl xs = _
    rw [hE, ih]; rfl
theorem El.Own.set {α : Type} {E : El Try.prog α} (f : α → Value) (hE : ∀ x, E.enc x = [f x]) (hk : E.k = 1) {w : World} {B g cap n : Nat} {l : List α} (h : E.Own w B (.slice (some ⟨g, 0, none⟩) n cap) l) (i : Nat) (z : α) :
    E.Own (w.setCell ⟨g, i, none⟩ (f z)) B (.slice (some ⟨g, 0, none⟩) n cap) (l.set i z) := by
  obtain ⟨h0, h⟩ := h
  refine ⟨by rw [E.fl_len], ?_⟩
  rcases h with ⟨h1, _⟩ | ⟨g', cap', cur, h1, hb, hg, hn, hm, hs, ht⟩
  · cases h1
  · simp only [Value.slice.injEq, Option.some.injEq, Addr.mk.injEq] at h1
    obtain ⟨⟨rfl, _⟩, rfl, rfl⟩ := h1
    refine .inr ⟨g, cap, cur.setIfInBounds i (f z), by rw [List.length_set], hb, ?_, by rw [List.length_set]; exact hn, hm, by simpa using hs, ?_⟩
    · simp only [World.setCell, Array.getElem?_modify]
      rw [hg]
      simp
    · rw [hk, fl_map E f hE] at ht
      rw [hk, fl_map E f hE, List.length_set, Array.toList_setIfInBounds, List.take_set, ht, List.map_set]
theorem El.Own.at1 {α : Type} {E : El Try.prog α} (f : α → Value) (hE : ∀ x, E.enc x = [f x]) (hk : E.k = 1) {w : World} {B g cap n : Nat} {l : List α} (h : E.Own w B (.slice (some ⟨g, 0, none⟩) n cap) l) (i : Nat) (z : α) (hi : l[i]? = some z) :
    w.cell? ⟨g, i, none⟩ = some (f z) ∧ w.frozen? ⟨g, i, none⟩ = false := by
  have hl : i < l.length := by
    rcases Nat.lt_or_ge i l.length with h | h
    · exact h
    · rw [List.getElem?_eq_none h] at hi; cases hi
  obtain ⟨h1, h2, _⟩ := h.cell i (by rw [hk]; omega)
  refine ⟨?_, h2⟩
  rw [h1, fl_map E f hE]
  simp [hi]
theorem int_at {w : World} {a : Option Addr} {n c : Nat} {xs : List Int} (h : intE.Rd w (.slice a n c) xs) (i : Nat) (p : Int) (hp : xs[i]? = some p) : ∃ b off, a = some ⟨b, off, none⟩ ∧ w.cell? ⟨b, off + i, none⟩ = some (.int .i64 p) := by
  obtain ⟨b, off, h1, h2⟩ := h.at i p hp
  refine ⟨b, off, h1, ?_⟩
  have := h2 0 (by show 0 < 1; omega)
  simpa [intE] using this
theorem bool_at {w : World} {a : Option Addr} {n c : Nat} {xs : List Bool} (h : boolE.Rd w (.slice a n c) xs) (i : Nat) (p : Bool) (hp : xs[i]? = some p) : ∃ b off, a = some ⟨b, off, none⟩ ∧ w.cell? ⟨b, off + i, none⟩ = some (.bool p) := by
  obtain ⟨b, off, h1, h2⟩ := h.at i p hp
  refine ⟨b, off, h1, ?_⟩
  have := h2 0 (by show 0 < 1; omega)
  simpa [boolE] using this

theorem made_ints (w : World) (n : Nat) (hn : n ≤ 100000) : ∃ w', (Instr.makeSlice 26 (.int .i64 (n : Int)) (.int .i64 (n : Int))).run Try.prog w = .ok (.slice (some ⟨w.heap.size, 0, none⟩) n n) w' ∧
    intE.Own w' w.heap.size (.slice (some ⟨w.heap.size, 0, none⟩) n n) (List.replicate n 0) ∧ Below w.heap.size w w' ∧ w.heap.size < w'.heap.size := by
  obtain ⟨i, hi, he⟩ := Option.map_eq_some_iff.1 intE.info
  have e1 : i.zero = some (.int .i64 0) := congrArg Prod.fst he
  have e2 : i.size = 1 := congrArg (fun p => p.2.1) he
  have e3 : i.bytes = 8 := congrArg (fun p => p.2.2) he
  obtain ⟨w', h1, h2, h3⟩ := run_make_full (P := Try.prog) w w.heap.size 26 3 i (.int .i64 0) 1 Try.underlying26 hi e1 e2 .i64 .i64 n (by rw [e3]; omega) (by unfold maxLen; omega) (Nat.le_refl _)
  have ho : intE.Own w' w.heap.size (.slice (some ⟨w.heap.size, 0, none⟩) n n) (List.replicate n 0) := by
    unfold El.Own
    rw [fl_map intE (Value.int .i64) (fun _ => rfl), List.length_replicate, show (List.replicate n (0 : Int)).map (Value.int .i64) = (madeCells #[Value.int .i64 0] (n * 1)).toList by rw [toList_madeCells_one, Nat.mul_one, List.map_replicate]]
    exact h2
  refine ⟨w', h1, ho, (Below.refl _ _).grown h3 (Nat.le_refl _) (by simp), ?_⟩
  exact ho.lt w.heap.size rfl
theorem made_bools (w : World) (n : Nat) (hn : n ≤ 100000) : ∃ w', (Instr.makeSlice 76 (.int .i64 (n : Int)) (.int .i64 (n : Int))).run Try.prog w = .ok (.slice (some ⟨w.heap.size, 0, none⟩) n n) w' ∧
    boolE.Own w' w.heap.size (.slice (some ⟨w.heap.size, 0, none⟩) n n) (List.replicate n false) ∧ Below w.heap.size w w' ∧ w.heap.size < w'.heap.size := by
  obtain ⟨i, hi, he⟩ := Option.map_eq_some_iff.1 boolE.info
  have e1 : i.zero = some (.bool false) := congrArg Prod.fst he
  have e2 : i.size = 1 := congrArg (fun p => p.2.1) he
  have e3 : i.bytes = 1 := congrArg (fun p => p.2.2) he
  obtain ⟨w', h1, h2, h3⟩ := run_make_full (P := Try.prog) w w.heap.size 76 4 i (.bool false) 1 Try.underlying76 hi e1 e2 .i64 .i64 n (by rw [e3]; omega) (by unfold maxLen; omega) (Nat.le_refl _)
  have ho : boolE.Own w' w.heap.size (.slice (some ⟨w.heap.size, 0, none⟩) n n) (List.replicate n false) := by
    unfold El.Own
    rw [fl_map boolE Value.bool (fun _ => rfl), List.length_replicate, show (List.replicate n false).map Value.bool = (madeCells #[Value.bool false] (n * 1)).toList by rw [toList_madeCells_one, Nat.mul_one, List.map_replicate]]
    exact h2
  refine ⟨w', h1, ho, (Below.refl _ _).grown h3 (Nat.le_refl _) (by simp), ?_⟩
  exact ho.lt w.heap.size rfl

set_option maxRecDepth 100000 in
theorem isPlace_any (a a' : Option Addr) (n c m c' : Nat) (i : Int) (w : World) : Calls Try.prog 57 #[.agg #[.slice a n c, .slice a' m c'], .int .i64 i] w fun e w' => e = .returned (.bool (decide (0 ≤ i ∧ i < (n : Int)))) ∧ Below w.heap.size w w' := by
  have hB : Hid (Below w.heap.size w (w.alloc (.cells #[.slice a n c, .slice a' m c'] 25))) := hide ((Below.refl _ _).alloc (Nat.le_refl _) _)
  by_cases h1 : 0 ≤ i
  · by_cases h2 : i < (n : Int)
    · rw [decide_eq_true ⟨h1, h2⟩]
      go_enter Try.func57, Try.ntmps57
      go_wp2_with fail
      go_ret
      exact ⟨rfl, hB.out⟩
    · rw [decide_eq_false (fun h => h2 h.2)]
      go_enter Try.func57, Try.ntmps57
      go_wp2_with fail
      go_ret
      exact ⟨rfl, hB.out⟩
  · rw [decide_eq_false (fun h => h1 h.1)]
    go_enter Try.func57, Try.ntmps57
    go_wp2_with fail
    go_ret
    exact ⟨rfl, hB.out⟩

set_option maxRecDepth 100000 in
set_option maxHeartbeats 2000000 in
/-- which of m edges are closed -/
def clo (m : Nat) (ms : List Int) : List Bool := (List.range m).map (fun i => decide (((i + 1 : Nat) : Int) ∈ ms))
theorem clo_len (m : Nat) (ms : List Int) : (clo m ms).length = m := by simp [clo]
theorem clo_at (m : Nat) (ms : List Int) (i : Nat) (h : i < m) : (clo m ms)[i]? = some (decide (((i + 1 : Nat) : Int) ∈ ms)) := by simp [clo, h]
theorem clo_nil (m : Nat) : clo m [] = List.replicate m false := by
  apply List.ext_getElem?
  intro i
  rcases Nat.lt_or_ge i m with h | h
  · rw [clo_at m [] i h, List.getElem?_replicate, if_pos h]; simp
  · rw [List.getElem?_eq_none (by rw [clo_len]; exact h), List.getElem?_eq_none (by simpa using h)]
theorem clo_in (m : Nat) (ms : List Int) (d : Int) (h1 : 1 ≤ d) (h2 : d ≤ m) : clo m (ms ++ [d]) = (clo m ms).set (d - 1).toNat true := by
  apply List.ext_getElem?
  intro i
  rcases Nat.lt_or_ge i m with h | h
  · rw [clo_at m _ i h, List.getElem?_set]
    by_cases e : (d - 1).toNat = i
    · subst e
      rw [if_pos rfl, if_pos (by rw [clo_len]; exact h)]
      simp only [Option.some.injEq, decide_eq_true_eq, List.mem_append, List.mem_singleton]
      exact .inr (by omega)
    · rw [if_neg e, clo_at m _ i h]
      simp only [Option.some.injEq, decide_eq_decide, List.mem_append, List.mem_singleton]
      exact ⟨fun h => h.elim id (fun h => by omega), .inl⟩
  · rw [List.getElem?_eq_none (by rw [clo_len]; exact h), List.getElem?_eq_none (by rw [List.length_set, clo_len]; exact h)]
theorem clo_off (m : Nat) (ms : List Int) (d : Int) (h : ¬ (1 ≤ d ∧ d ≤ m)) : clo m (ms ++ [d]) = clo m ms := by
  apply List.ext_getElem?
  intro i
  rcases Nat.lt_or_ge i m with h' | h'
  · rw [clo_at m _ i h', clo_at m _ i h']
    simp only [Option.some.injEq, decide_eq_decide, List.mem_append, List.mem_singleton]
    exact ⟨fun h => h.elim id (fun h => by omega), .inl⟩
  · rw [List.getElem?_eq_none (by rw [clo_len]; exact h'), List.getElem?_eq_none (by rw [clo_len]; exact h')]

set_option maxRecDepth 100000 in
set_option maxHeartbeats 2000000 in
theorem closed_any (a a' aM : Option Addr) (c c' cM n m k0 : Nat) (ms : List Int) (w : World) (hn : ms.length = k0) (hv : intE.Rd w (.slice aM k0 cM) ms) (hl : k0 ≤ 100000) (hm : m ≤ 100000) :
    Calls Try.prog 59 #[.agg #[.slice a n c, .slice a' m c'], .slice aM k0 cM] w fun e w' => (∃ g, e = .returned (.slice (some ⟨g, 0, none⟩) m m) ∧ boolE.Own w' w.heap.size (.slice (some ⟨g, 0, none⟩) m m) (clo m ms)) ∧ Below w.heap.size w w' := by
  obtain ⟨W0, hW0⟩ : ∃ W0, w.alloc (.cells #[.slice a n c, .slice a' m c'] 25) = W0 := ⟨_, rfl⟩
  have bA : Below w.heap.size w W0 := by rw [← hW0]; exact (Below.refl _ _).alloc (Nat.le_refl _) _
  have hbox : W0.heap[w.heap.size]? = some (.cells #[.slice a n c, .slice a' m c'] 25) := by rw [← hW0]; exact heap_new _ _
  have d1 := (cells_at hbox 1).1
  simp at d1
  obtain ⟨W1, hmk, ho1, hb1, hs1⟩ := made_bools W0 m hm
  have HA := hide bA
  have Hb := hide (bA.trans (hb1.mono bA.size))
  have Ho := hide (ho1.mono bA.size)
  have HRW : Hid (∀ W, Below w.heap.size w W → intE.Rd W (.slice aM k0 cM) ms) := hide (fun W h => hv.keep h)
  have Hn := hide hn
  have HW0 := hide hW0
  have i0 : (k0 : Int) ≤ 100000 := by omega
  have i1 : (m : Int) ≤ 100000 := by omega
  obtain ⟨g, hg⟩ : ∃ g, W0.heap.size = g := ⟨_, rfl⟩
  rw [hg] at hmk
  rw [hg] at Ho
  have Hg : Hid (w.heap.size ≤ g) := hide (by rw [← hg]; exact bA.size)
  clear hv hl hm hn hbox bA hW0 ho1 hb1 hs1 hg
  go_enter Try.func59, Try.ntmps59
  go_upto_region 1 with fail
  rw [HW0.out]
  clear HW0
  go_wp2_with fail
  go_loopw [14] (fun v14 wr => ∃ k : Nat, k ≤ k0 ∧ v14 = .int .i64 k ∧ Hid (boolE.Own wr w.heap.size (.slice (some ⟨g, 0, none⟩) m m) (clo m (ms.take k))) ∧ Hid (Below w.heap.size w wr)) (fun v14 _ => k0 - (intOf v14).toNat)
  case atStart => exact ⟨0, by omega, rfl, by rw [List.take_zero, clo_nil]; exact Ho, Hb⟩
  case round =>
    obtain ⟨k, hk, rfl, HO, HB⟩ := hrel
    by_cases hlt : k < k0
    · obtain ⟨p, hp⟩ : ∃ p, ms[k]? = some p := ⟨_, List.getElem?_eq_getElem (by rw [Hn.out]; exact hlt)⟩
      obtain ⟨b, off, rfl, c0⟩ := int_at (HRW.out wr HB.out) k p hp
      have j0 : (0 : Int) ≤ (k : Int) := by omega
      have j1 : (k : Int) < (k0 : Int) := by omega
      have Htk : Hid (ms.take (k + 1) = ms.take k ++ [p]) := hide (by rw [List.take_add_one, hp]; rfl)
      clear hp
      by_cases hin : 1 ≤ p ∧ p ≤ (m : Int)
      · obtain ⟨q, hq⟩ := Int.eq_ofNat_of_zero_le (show 0 ≤ p - 1 by omega)
        have hpq : p = (q : Int) + 1 := by omega
        subst hpq
        have q0 : ((1 : Int) ≤ (q : Int) + 1) := hin.1
        have q1 : ((q : Int) + 1 ≤ (m : Int)) := hin.2
        have q2 : (q : Int) < (m : Int) := by omega
        have hq' : q < (clo m (ms.take k)).length := by rw [clo_len]; omega
        obtain ⟨y0, f0⟩ := HO.out.at1 Value.bool (fun _ => rfl) rfl q _ (List.getElem?_eq_getElem hq')
        generalize (clo m (ms.take k))[q] = old at y0
        have HO1 : Hid (boolE.Own (wr.setCell ⟨g, q, none⟩ (.bool true)) w.heap.size (.slice (some ⟨g, 0, none⟩) m m) (clo m (ms.take (k + 1)))) := hide (by
          rw [Htk.out, clo_in m _ _ q0 q1]
          have := HO.out.set Value.bool (fun _ => rfl) rfl q true
          rwa [show ((q : Int) + 1 - 1).toNat = q by omega])
        have HB1 : Hid (Below w.heap.size w (wr.setCell ⟨g, q, none⟩ (.bool true))) := hide (HB.out.setCell (p := ⟨g, q, none⟩) Hg.out _)
        clear hin hq hq' Htk
        go_wp2_with fail
        go_roundw
        case rel => exact ⟨k + 1, by omega, by go_num, HO1, HB1⟩
        case measure => simp [intOf]; omega
      · have HO1 : Hid (boolE.Own wr w.heap.size (.slice (some ⟨g, 0, none⟩) m m) (clo m (ms.take (k + 1)))) := hide (by rw [Htk.out, clo_off m _ _ hin]; exact HO.out)
        clear Htk
        by_cases q0 : 1 ≤ p
        · have q1 : ¬ p ≤ (m : Int) := fun h => hin ⟨q0, h⟩
          clear hin
          go_wp2_with fail
          go_roundw
          case rel => exact ⟨k + 1, by omega, by go_num, HO1, HB⟩
          case measure => simp [intOf]; omega
        · clear hin
          go_wp2_with fail
          go_roundw
          case rel => exact ⟨k + 1, by omega, by go_num, HO1, HB⟩
          case measure => simp [intOf]; omega
    · obtain rfl : k = k0 := by omega
      have j1 : ¬ (k : Int) < (k : Int) := by omega
      have e1 : Hid (ms.take k = ms) := hide (List.take_of_length_le (by rw [Hn.out]; omega))
      go_wp2_with fail
      go_ret
      refine ⟨⟨_, rfl, ?_⟩, HB.out⟩
      have := HO.out
      rwa [e1.out] at this

set_option maxRecDepth 100000 in
set_option maxHeartbeats 2000000 in
theorem ints_any (a b : Option Addr) (c d n n' : Nat) (xs ys : List Int) (w : World) (hn : xs.length = n) (hn' : ys.length = n') (hv : intE.Rd w (.slice a n c) xs) (hu : intE.Rd w (.slice b n' d) ys) (hl : n ≤ 100000) :
    Calls Try.prog 18 #[.slice a n c, .slice b n' d] w fun e w' => e = .returned (.bool (decide (xs = ys))) ∧ ∃ q, w' = w.drewN q := by
  have no1 : Hid (n ≠ n' → decide (xs = ys) = false) := hide (fun h => decide_eq_false (fun e => h (by rw [← hn, ← hn', e])))
  have no2 : Hid (∀ (k : Nat) (p q : Int), xs[k]? = some p → ys[k]? = some q → p ≠ q → decide (xs = ys) = false) := hide (fun k p q h1 h2 h3 => decide_eq_false (fun e => h3 (by rw [e, h2] at h1; exact (Option.some.inj h1).symm)))
  have yes : Hid (n = n' → xs.take n = ys.take n → decide (xs = ys) = true) := hide (fun h1 h3 => decide_eq_true (by rwa [List.take_of_length_le (by omega), List.take_of_length_le (by omega)] at h3))
  generalize decide (xs = ys) = res at *
  by_cases hnn' : n ≠ n'
  · have e1 := no1.out hnn'
    subst e1
    have q1 : ((n : Int) != (n' : Int)) = true := bne_iff_ne.2 (by omega)
    clear no1 no2 yes hv hu hn hn' hnn'
    go_enter Try.func18, Try.ntmps18
    go_wp2_with fail
    go_ret
    exact ⟨rfl, 0, rfl⟩
  have hnn : n = n' := Decidable.not_not.1 hnn'
  clear hnn'
  subst hnn
  have q1 : ((n : Int) != (n : Int)) = false := bne_self_eq_false _
  have Hn := hide hn
  have Hn' := hide hn'
  have Hv := hide hv
  have Hu := hide hu
  have i0 : (n : Int) ≤ 100000 := by omega
  clear hn hn' hv hu hl no1
  go_enter Try.func18, Try.ntmps18
  go_wp2_with fail
  go_loopw [13] (fun v13 wr => ∃ k q : Nat, k ≤ n ∧ v13 = .int .i64 k ∧ wr = w.drewN q ∧ Hid (xs.take k = ys.take k)) (fun v13 _ => n - (intOf v13).toNat)
  case atStart => exact ⟨0, 0, by omega, rfl, rfl, hide (by simp)⟩
  case round =>
    obtain ⟨k, q, hk, rfl, rfl, HX⟩ := hrel
    by_cases hlt : k < n
    · obtain ⟨p, hp⟩ : ∃ p, xs[k]? = some p := ⟨_, List.getElem?_eq_getElem (by rw [Hn.out]; exact hlt)⟩
      obtain ⟨p', hp'⟩ : ∃ p, ys[k]? = some p := ⟨_, List.getElem?_eq_getElem (by rw [Hn'.out]; exact hlt)⟩
      obtain ⟨b1, off1, rfl, c0⟩ := int_at Hv.out k p hp
      obtain ⟨b2, off2, rfl, c3⟩ := int_at Hu.out k p' hp'
      have j0 : (0 : Int) ≤ (k : Int) := by omega
      have j1 : (k : Int) < (n : Int) := by omega
      have Hp := hide hp
      have Hp' := hide hp'
      clear hp hp'
      by_cases he : p = p'
      · have hbe : (p != p') = false := by rw [he]; exact bne_self_eq_false _
        have HX1 : Hid (xs.take (k + 1) = ys.take (k + 1)) := hide (by rw [List.take_add_one, List.take_add_one, HX.out, Hp.out, Hp'.out, he])
        clear he
        go_upto_region 6 with fail
        go_quiet (fail)
        go_wp2_with fail
        go_roundw
        case rel => exact ⟨k + 1, _, by omega, by go_num, rfl, HX1⟩
        case measure => simp [intOf]; omega
      · have hbe : (p != p') = true := bne_iff_ne.2 he
        have e1 := no2.out k p p' Hp.out Hp'.out he
        subst e1
        clear he
        go_upto_region 6 with fail
        go_quiet (fail)
        go_wp2_with fail
        go_ret
        exact ⟨rfl, _, rfl⟩
    · obtain rfl : k = n := by omega
      have j1 : ¬ (k : Int) < (k : Int) := by omega
      have e1 := yes.out (by first | rfl | trivial) HX.out
      subst e1
      go_wp2_with fail
      go_ret
      exact ⟨rfl, _, rfl⟩
end Go.Proofs.Ytmmkfcmbmecleaa
