/- The document's First, Wanted. -/
import Derived.Test.YtfmpipihjnpimaaBra
namespace Go.Proofs.Ytfmpipihjnpimaa
open Go.RowKit
set_option linter.unusedVariables false
section
variable {aA aD : Option Addr} {nA cA nD cD : Nat}

set_option maxRecDepth 100000 in
set_option maxHeartbeats 2000000 in
theorem rfirst_any (l : List En) (s : Int) (w : World) (hn : l.length = nA) (hv : enE.Rd w (.slice aA nA cA) l) (hl : nA ≤ 10000) :
    Calls Try.prog 30 #[.agg #[.slice aA nA cA, .slice aD nD cD], .int .i64 s] w fun r w' => r = .returned (.tuple #[rqV (fst l s), .bool (fst l s).isSome]) ∧ Below w.heap.size w w' := by
  have hB0 : Below w.heap.size w ((w.alloc (.cells #[.slice aA nA cA, .slice aD nD cD] 29)).alloc (.cells #[.int .i64 0, .int .i64 0, .int .i64 0] 31)) := (below_new w _).alloc (by simp) _
  have hsz : ((w.alloc (.cells #[.slice aA nA cA, .slice aD nD cD] 29)).alloc (.cells #[.int .i64 0, .int .i64 0, .int .i64 0] 31)).heap.size = w.heap.size + 2 := by simp
  have hbx : ((w.alloc (.cells #[.slice aA nA cA, .slice aD nD cD] 29)).alloc (.cells #[.int .i64 0, .int .i64 0, .int .i64 0] 31)).heap[w.heap.size]? = some (.cells #[.slice aA nA cA, .slice aD nD cD] 29) := by rw [Below.heap_alloc _ _ _ (by simp)]; exact heap_new w _
  have c0 : ((w.alloc (.cells #[.slice aA nA cA, .slice aD nD cD] 29)).alloc (.cells #[.int .i64 0, .int .i64 0, .int .i64 0] 31)).cell? ⟨w.heap.size, 0, none⟩ = some (.slice aA nA cA) := (cells_at hbx 0).1
  have c1 : ((w.alloc (.cells #[.slice aA nA cA, .slice aD nD cD] 29)).alloc (.cells #[.int .i64 0, .int .i64 0, .int .i64 0] 31)).cell? ⟨w.heap.size, 1, none⟩ = some (.slice aD nD cD) := (cells_at hbx 1).1
  have KO := hide (ropen_any (aA := aA) (nA := nA) (cA := cA) (aD := aD) (nD := nD) (cD := cD) l ((w.alloc (.cells #[.slice aA nA cA, .slice aD nD cD] 29)).alloc (.cells #[.int .i64 0, .int .i64 0, .int .i64 0] 31)) hn (hv.keep hB0) hl)
  have HS : Hid (∀ w', Below ((w.alloc (.cells #[.slice aA nA cA, .slice aD nD cD] 29)).alloc (.cells #[.int .i64 0, .int .i64 0, .int .i64 0] 31)).heap.size ((w.alloc (.cells #[.slice aA nA cA, .slice aD nD cD] 29)).alloc (.cells #[.int .i64 0, .int .i64 0, .int .i64 0] 31)) w' → w'.heap[w.heap.size + 1]? = some (.cells #[.int .i64 0, .int .i64 0, .int .i64 0] 31) ∧ ∀ u v t, Below w.heap.size w (((w'.setCell ⟨w.heap.size + 1, 0, none⟩ u).setCell ⟨w.heap.size + 1, 1, none⟩ v).setCell ⟨w.heap.size + 1, 2, none⟩ t)) := hide (fun w' hb => ⟨by
    rw [hb.block _ (by rw [hsz]; omega)]
    rw [show w.heap.size + 1 = (w.alloc (.cells #[.slice aA nA cA, .slice aD nD cD] 29)).heap.size by simp]
    exact heap_new _ _, fun u v t => by
      have hb2 : Below w.heap.size w w' := ⟨hb.os.trans hB0.os, hb.tape.trans hB0.tape, hb.output.trans hB0.output, Nat.le_trans hB0.size hb.size, fun k hk => (hb.block k (by rw [hsz]; omega)).trans (hB0.block k hk)⟩
      exact ((hb2.setCell (by simp) _).setCell (by simp) _).setCell (by simp) _⟩)
  have yes : Hid (∀ (k : Nat) (p : Rq), (ops l)[k]? = some p → (p.st == s) = true → (∀ j d, j < k → (ops l)[j]? = some d → (d.st == s) = false) → fst l s = some p) := hide (fun k p h1 h2 h3 => by
    unfold fst
    rw [List.find?_eq_some_iff_getElem]
    obtain ⟨hlt, h4⟩ := List.getElem?_eq_some_iff.1 h1
    exact ⟨h2, k, hlt, h4, fun j hj => by rw [h3 j _ hj (List.getElem?_eq_getElem (by omega))]; rfl⟩)
  have no : Hid ((∀ j d, j < (ops l).length → (ops l)[j]? = some d → (d.st == s) = false) → fst l s = none) := hide (fun h => by
    unfold fst
    rw [List.find?_eq_none]
    intro p hp
    obtain ⟨j, hj⟩ := List.getElem?_of_mem hp
    rw [h j p (idx_lt hj) hj]; simp)
  have hno : (ops l).length ≤ 10000 := by
    have h1 : (ops l).length ≤ l.length := by unfold ops; rw [List.length_map]; exact List.length_filter_le _ _
    omega
  generalize fst l s = res at *
  generalize ops l = rs at *
  obtain ⟨n, hnn⟩ : ∃ n, rs.length = n := ⟨_, rfl⟩
  rw [hnn] at KO no hno
  have Hn := hide hnn
  have i0 : (n : Int) ≤ 10000 := by omega
  clear hn hv hl hB0 hsz hbx hnn hno
  go_enter Try.func30, Try.ntmps30
  go_upto_region 2 with (go_at_call 27; refine KO.out.mono ?_; rintro e w2 ⟨a2, c2, rfl, ho, hb⟩; have HO := hide (El.Own.rd ho); obtain ⟨hx, hb'⟩ := HS.out _ hb; have HB := hide hb'; clear hb hb' ho; obtain ⟨x0, f0⟩ := cells_at hx 0; obtain ⟨x1, f1⟩ := cells_at hx 1; obtain ⟨x2, f2⟩ := cells_at hx 2; have HX := hide hx; clear hx)
  clear KO c0 c1
  go_wp2_with fail
  go_loopw [12] (fun v12 wr => ∃ k : Nat, k ≤ n ∧ v12 = .int .i64 k ∧ wr = w2 ∧ Hid (∀ j d, j < k → rs[j]? = some d → (d.st == s) = false)) (fun v12 _ => n - (intOf v12).toNat)
  case atStart => exact ⟨0, by omega, rfl, rfl, hide (fun j q h => by omega)⟩
  case round =>
    obtain ⟨k, hk, rfl, rfl, HX1⟩ := hrel
    by_cases hlt : k < n
    · obtain ⟨p, hp⟩ : ∃ p, rs[k]? = some p := ⟨_, List.getElem?_eq_getElem (by rw [Hn.out]; exact hlt)⟩
      obtain ⟨b, off, rfl, d0, d1, d2⟩ := rq_at HO.out k p hp
      have j0 : (0 : Int) ≤ (k : Int) := by omega
      have j1 : (k : Int) < (n : Int) := by omega
      have Hp := hide hp
      clear hp
      cases hb : (p.st == s) with
      | true =>
        have e1 := yes.out k p Hp.out hb HX1.out
        subst e1
        obtain ⟨i, st, tt⟩ := p
        simp only at *
        go_wp2_with fail
        have h9 := put3 HX.out (.int .i64 i) (.int .i64 st) (.int .i64 tt)
        obtain ⟨y0, _⟩ := cells_at h9 0
        obtain ⟨y1, _⟩ := cells_at h9 1
        obtain ⟨y2, _⟩ := cells_at h9 2
        exact bodyPost_ret (v := .tuple #[.agg #[.int .i64 i, .int .i64 st, .int .i64 tt], .bool true]) (by simp [results, Try.results30, go_sem, y0, y1, y2]) rfl ⟨rfl, HB.out _ _ _⟩
      | false =>
        have HX2 : Hid (∀ j d, j < k + 1 → rs[j]? = some d → (d.st == s) = false) := hide (fun j d hj hd => by
          rcases Nat.lt_or_ge j k with g | g
          · exact HX1.out j d g hd
          · obtain rfl : j = k := by omega
            rw [Hp.out] at hd; cases hd; exact hb)
        go_wp2_with fail
        go_roundw
        case rel => exact ⟨k + 1, by omega, by go_num, by first | rfl | trivial, HX2⟩
        case measure => simp [intOf]; omega
    · obtain rfl : k = n := by omega
      have j1 : ¬ (k : Int) < (k : Int) := by omega
      have e1 := no.out HX1.out
      subst e1
      go_wp2_with fail
      have h9 := put3 HX.out (.int .i64 0) (.int .i64 0) (.int .i64 0)
      obtain ⟨y0, _⟩ := cells_at h9 0
      obtain ⟨y1, _⟩ := cells_at h9 1
      obtain ⟨y2, _⟩ := cells_at h9 2
      exact bodyPost_ret (v := .tuple #[.agg #[.int .i64 0, .int .i64 0, .int .i64 0], .bool false]) (by simp [results, Try.results30, go_sem, y0, y1, y2]) rfl ⟨rfl, HB.out _ _ _⟩

set_option maxRecDepth 100000 in
set_option maxHeartbeats 2000000 in
theorem rwanted_any (l : List En) (s : Int) (w : World) (hn : l.length = nA) (hv : enE.Rd w (.slice aA nA cA) l) (hl : nA ≤ 10000) :
    Calls Try.prog 26 #[.agg #[.slice aA nA cA, .slice aD nD cD], .int .i64 s] w fun r w' => r = .returned (.tuple #[rqV (wnt l s), .bool (wnt l s).isSome]) ∧ Below w.heap.size w w' := by
  have hB0 : Below w.heap.size w ((w.alloc (.cells #[.slice aA nA cA, .slice aD nD cD] 29)).alloc (.cells #[.int .i64 0, .int .i64 0, .int .i64 0] 31)) := (below_new w _).alloc (by simp) _
  have hsz : ((w.alloc (.cells #[.slice aA nA cA, .slice aD nD cD] 29)).alloc (.cells #[.int .i64 0, .int .i64 0, .int .i64 0] 31)).heap.size = w.heap.size + 2 := by simp
  have hbx : ((w.alloc (.cells #[.slice aA nA cA, .slice aD nD cD] 29)).alloc (.cells #[.int .i64 0, .int .i64 0, .int .i64 0] 31)).heap[w.heap.size]? = some (.cells #[.slice aA nA cA, .slice aD nD cD] 29) := by rw [Below.heap_alloc _ _ _ (by simp)]; exact heap_new w _
  have c0 : ((w.alloc (.cells #[.slice aA nA cA, .slice aD nD cD] 29)).alloc (.cells #[.int .i64 0, .int .i64 0, .int .i64 0] 31)).cell? ⟨w.heap.size, 0, none⟩ = some (.slice aA nA cA) := (cells_at hbx 0).1
  have c1 : ((w.alloc (.cells #[.slice aA nA cA, .slice aD nD cD] 29)).alloc (.cells #[.int .i64 0, .int .i64 0, .int .i64 0] 31)).cell? ⟨w.heap.size, 1, none⟩ = some (.slice aD nD cD) := (cells_at hbx 1).1
  have KO := hide (ropen_any (aA := aA) (nA := nA) (cA := cA) (aD := aD) (nD := nD) (cD := cD) l ((w.alloc (.cells #[.slice aA nA cA, .slice aD nD cD] 29)).alloc (.cells #[.int .i64 0, .int .i64 0, .int .i64 0] 31)) hn (hv.keep hB0) hl)
  have HS : Hid (∀ w', Below ((w.alloc (.cells #[.slice aA nA cA, .slice aD nD cD] 29)).alloc (.cells #[.int .i64 0, .int .i64 0, .int .i64 0] 31)).heap.size ((w.alloc (.cells #[.slice aA nA cA, .slice aD nD cD] 29)).alloc (.cells #[.int .i64 0, .int .i64 0, .int .i64 0] 31)) w' → w'.heap[w.heap.size + 1]? = some (.cells #[.int .i64 0, .int .i64 0, .int .i64 0] 31) ∧ ∀ u v t, Below w.heap.size w (((w'.setCell ⟨w.heap.size + 1, 0, none⟩ u).setCell ⟨w.heap.size + 1, 1, none⟩ v).setCell ⟨w.heap.size + 1, 2, none⟩ t)) := hide (fun w' hb => ⟨by
    rw [hb.block _ (by rw [hsz]; omega)]
    rw [show w.heap.size + 1 = (w.alloc (.cells #[.slice aA nA cA, .slice aD nD cD] 29)).heap.size by simp]
    exact heap_new _ _, fun u v t => by
      have hb2 : Below w.heap.size w w' := ⟨hb.os.trans hB0.os, hb.tape.trans hB0.tape, hb.output.trans hB0.output, Nat.le_trans hB0.size hb.size, fun k hk => (hb.block k (by rw [hsz]; omega)).trans (hB0.block k hk)⟩
      exact ((hb2.setCell (by simp) _).setCell (by simp) _).setCell (by simp) _⟩)
  have yes : Hid (∀ (k : Nat) (p : Rq), (ops l)[k]? = some p → (p.tt == s) = true → (∀ j d, j < k → (ops l)[j]? = some d → (d.tt == s) = false) → wnt l s = some p) := hide (fun k p h1 h2 h3 => by
    unfold wnt
    rw [List.find?_eq_some_iff_getElem]
    obtain ⟨hlt, h4⟩ := List.getElem?_eq_some_iff.1 h1
    exact ⟨h2, k, hlt, h4, fun j hj => by rw [h3 j _ hj (List.getElem?_eq_getElem (by omega))]; rfl⟩)
  have no : Hid ((∀ j d, j < (ops l).length → (ops l)[j]? = some d → (d.tt == s) = false) → wnt l s = none) := hide (fun h => by
    unfold wnt
    rw [List.find?_eq_none]
    intro p hp
    obtain ⟨j, hj⟩ := List.getElem?_of_mem hp
    rw [h j p (idx_lt hj) hj]; simp)
  have hno : (ops l).length ≤ 10000 := by
    have h1 : (ops l).length ≤ l.length := by unfold ops; rw [List.length_map]; exact List.length_filter_le _ _
    omega
  generalize wnt l s = res at *
  generalize ops l = rs at *
  obtain ⟨n, hnn⟩ : ∃ n, rs.length = n := ⟨_, rfl⟩
  rw [hnn] at KO no hno
  have Hn := hide hnn
  have i0 : (n : Int) ≤ 10000 := by omega
  clear hn hv hl hB0 hsz hbx hnn hno
  go_enter Try.func26, Try.ntmps26
  go_upto_region 2 with (go_at_call 27; refine KO.out.mono ?_; rintro e w2 ⟨a2, c2, rfl, ho, hb⟩; have HO := hide (El.Own.rd ho); obtain ⟨hx, hb'⟩ := HS.out _ hb; have HB := hide hb'; clear hb hb' ho; obtain ⟨x0, f0⟩ := cells_at hx 0; obtain ⟨x1, f1⟩ := cells_at hx 1; obtain ⟨x2, f2⟩ := cells_at hx 2; have HX := hide hx; clear hx)
  clear KO c0 c1
  go_wp2_with fail
  go_loopw [12] (fun v12 wr => ∃ k : Nat, k ≤ n ∧ v12 = .int .i64 k ∧ wr = w2 ∧ Hid (∀ j d, j < k → rs[j]? = some d → (d.tt == s) = false)) (fun v12 _ => n - (intOf v12).toNat)
  case atStart => exact ⟨0, by omega, rfl, rfl, hide (fun j q h => by omega)⟩
  case round =>
    obtain ⟨k, hk, rfl, rfl, HX1⟩ := hrel
    by_cases hlt : k < n
    · obtain ⟨p, hp⟩ : ∃ p, rs[k]? = some p := ⟨_, List.getElem?_eq_getElem (by rw [Hn.out]; exact hlt)⟩
      obtain ⟨b, off, rfl, d0, d1, d2⟩ := rq_at HO.out k p hp
      have j0 : (0 : Int) ≤ (k : Int) := by omega
      have j1 : (k : Int) < (n : Int) := by omega
      have Hp := hide hp
      clear hp
      cases hb : (p.tt == s) with
      | true =>
        have e1 := yes.out k p Hp.out hb HX1.out
        subst e1
        obtain ⟨i, st, tt⟩ := p
        simp only at *
        go_wp2_with fail
        have h9 := put3 HX.out (.int .i64 i) (.int .i64 st) (.int .i64 tt)
        obtain ⟨y0, _⟩ := cells_at h9 0
        obtain ⟨y1, _⟩ := cells_at h9 1
        obtain ⟨y2, _⟩ := cells_at h9 2
        exact bodyPost_ret (v := .tuple #[.agg #[.int .i64 i, .int .i64 st, .int .i64 tt], .bool true]) (by simp [results, Try.results26, go_sem, y0, y1, y2]) rfl ⟨rfl, HB.out _ _ _⟩
      | false =>
        have HX2 : Hid (∀ j d, j < k + 1 → rs[j]? = some d → (d.tt == s) = false) := hide (fun j d hj hd => by
          rcases Nat.lt_or_ge j k with g | g
          · exact HX1.out j d g hd
          · obtain rfl : j = k := by omega
            rw [Hp.out] at hd; cases hd; exact hb)
        go_wp2_with fail
        go_roundw
        case rel => exact ⟨k + 1, by omega, by go_num, by first | rfl | trivial, HX2⟩
        case measure => simp [intOf]; omega
    · obtain rfl : k = n := by omega
      have j1 : ¬ (k : Int) < (k : Int) := by omega
      have e1 := no.out HX1.out
      subst e1
      go_wp2_with fail
      have h9 := put3 HX.out (.int .i64 0) (.int .i64 0) (.int .i64 0)
      obtain ⟨y0, _⟩ := cells_at h9 0
      obtain ⟨y1, _⟩ := cells_at h9 1
      obtain ⟨y2, _⟩ := cells_at h9 2
      exact bodyPost_ret (v := .tuple #[.agg #[.int .i64 0, .int .i64 0, .int .i64 0], .bool false]) (by simp [results, Try.results26, go_sem, y0, y1, y2]) rfl ⟨rfl, HB.out _ _ _⟩
end
end Go.Proofs.Ytfmpipihjnpimaa
