/- Order, the program's and the document's. -/
import Derived.Test.YtmmkfcmbmecleaaZvs
namespace Go.Proofs.Ytmmkfcmbmecleaa
open Go.RowKit
set_option linter.unusedVariables false

/-- the zones ahead of k that are named, rising -/
def ordK (zs : List Int) (k : Nat) : List Nat := (List.range k).filter (fun (z : Nat) => decide ((z : Int) ∈ zs))
theorem ordK_yes {zs : List Int} {k : Nat} (h : (k : Int) ∈ zs) : ordK zs (k + 1) = ordK zs k ++ [k] := by
  unfold ordK; rw [List.range_succ, List.filter_append]; simp [h]
theorem ordK_no {zs : List Int} {k : Nat} (h : (k : Int) ∉ zs) : ordK zs (k + 1) = ordK zs k := by
  unfold ordK; rw [List.range_succ, List.filter_append]; simp [h]
theorem ordK_len (zs : List Int) (k : Nat) : (ordK zs k).length ≤ k := by
  unfold ordK; exact Nat.le_trans (List.length_filter_le _ _) (by simp)

/-- which zones are named by the first k -/
def nm (zs : List Int) (k : Nat) : List Value := (List.range 8).map (fun (z : Nat) => Value.bool (decide ((z : Int) ∈ zs.take k)))
theorem nm_len (zs : List Int) (k : Nat) : (nm zs k).length = 8 := by simp [nm]
theorem nm_at (zs : List Int) (k z : Nat) (h : z < 8) : (nm zs k)[z]? = some (.bool (decide ((z : Int) ∈ zs.take k))) := by simp [nm, h]
theorem nm_step {zs : List Int} {k y : Nat} (h : zs[k]? = some (y : Int)) (hy : y < 8) : nm zs (k + 1) = (nm zs k).set y (.bool true) := by
  have ht : zs.take (k + 1) = zs.take k ++ [(y : Int)] := by rw [List.take_add_one, h]; rfl
  apply List.ext_getElem?
  intro i
  rcases Nat.lt_or_ge i 8 with hi | hi
  · rw [nm_at _ _ _ hi, List.getElem?_set, nm_at _ _ _ hi, ht]
    by_cases e : y = i
    · subst e
      rw [if_pos rfl, if_pos (by rw [nm_len]; exact hi)]
      simp
    · rw [if_neg e]
      have : ¬ (i : Int) = (y : Int) := by omega
      simp [this]
  · rw [List.getElem?_eq_none (by rw [nm_len]; exact hi), List.getElem?_eq_none (by rw [List.length_set, nm_len]; exact hi)]

def bAt (zs : List Int) (z : Nat) : Bool := decide ((z : Int) ∈ zs)
theorem nm_full {zs : List Int} {n : Nat} (h : zs.length = n) : nm zs n = [.bool (bAt zs 0), .bool (bAt zs 1), .bool (bAt zs 2), .bool (bAt zs 3), .bool (bAt zs 4), .bool (bAt zs 5), .bool (bAt zs 6), .bool (bAt zs 7)] := by
  unfold nm bAt
  rw [← h, List.take_length]
  rfl

theorem index8 (f : Nat → Bool) (k : Nat) (hk : k < 8) (w : World) : (Instr.index 70 (.agg #[.bool (f 0), .bool (f 1), .bool (f 2), .bool (f 3), .bool (f 4), .bool (f 5), .bool (f 6), .bool (f 7)]) (.int .i64 (k : Int))).run Try.prog w = .ok (.bool (f k)) w := by
  rcases k with _ | _ | _ | _ | _ | _ | _ | _ | k
  · kernel_rfl
  · kernel_rfl
  · kernel_rfl
  · kernel_rfl
  · kernel_rfl
  · kernel_rfl
  · kernel_rfl
  · kernel_rfl
  · omega

/-- what Order tells -/
def OP (ok : Bool) (zs : List Int) (B : Nat) (u : Value) (x : Int) (w' : World) : Prop := (ok = true ∧ x = 0 ∧ intE.Own w' B u (ints (ordK zs 8))) ∨ (ok = false ∧ x = 1 ∧ u = .slice none 0 0)
def ROP (ok : Bool) (zs : List Int) (B : Nat) (u : Value) (w' : World) : Prop := (ok = true ∧ intE.Own w' B u (ints (ordK zs 8))) ∨ (ok = false ∧ u = .slice none 0 0)

set_option maxRecDepth 100000 in
set_option maxHeartbeats 4000000 in
theorem order_any (a : Option Addr) (c n : Nat) (zs : List Int) (w : World) (hn : zs.length = n) (hv : intE.Rd w (.slice a n c) zs) (hl : n ≤ 100000) :
    Calls Try.prog 21 #[.slice a n c] w fun e w' => (∃ u x, e = .returned (.tuple #[u, .int .i64 x]) ∧ OP (zs.all okZ) zs w.heap.size u x w') ∧ Below w.heap.size w w' := by
  obtain ⟨w0, rfl⟩ : ∃ w0, w0 = w := ⟨_, rfl⟩
  have hB0 : Below w0.heap.size w0 (w0.alloc (.cells #[.bool false, .bool false, .bool false, .bool false, .bool false, .bool false, .bool false, .bool false] 70)) := (Below.refl _ _).alloc (Nat.le_refl _) _
  have hbox : (w0.alloc (.cells #[.bool false, .bool false, .bool false, .bool false, .bool false, .bool false, .bool false, .bool false] 70)).heap[w0.heap.size]? = some (.cells (nm zs 0).toArray 70) := heap_new _ _
  have HB0 := hide hB0
  have Hbox := hide hbox
  have KZ : Hid (∀ (z : Int) W, Calls Try.prog 34 #[.int .i64 z] W fun e w' => e = .returned (.bool (okZ z)) ∧ w' = W) := hide (fun z W => isz_any z W)
  have Hn := hide hn
  have Hv := hide hv
  have i0 : (n : Int) ≤ 100000 := by omega
  have yes : Hid (∀ (k : Nat) (p : Int), zs[k]? = some p → okZ p = false → zs.all okZ = false) := hide (fun k p h e => by
    rw [List.all_eq_false]
    exact ⟨p, List.mem_of_getElem? h, by simp [e]⟩)
  have no : Hid ((∀ k : Nat, k < n → ∀ p, zs[k]? = some p → okZ p = true) → zs.all okZ = true) := hide (fun h => by
    rw [List.all_eq_true]
    intro p hp
    obtain ⟨k, hk⟩ := List.getElem?_of_mem hp
    exact h k (by have := idx_lt hk; omega) p hk)
  generalize zs.all okZ = res at *
  clear hn hv hl hB0 hbox
  go_enter Try.func21, Try.ntmps21
  go_wp2_with fail
  go_loopw [12] (fun v12 wr => ∃ k : Nat, v12 = .int .i64 k ∧ k ≤ n ∧ Hid (Below w0.heap.size w0 wr) ∧ Hid (wr.heap[w0.heap.size]? = some (.cells (nm zs k).toArray 70)) ∧ Hid (∀ i : Nat, i < k → ∀ p, zs[i]? = some p → okZ p = true)) (fun v12 _ => n - (intOf v12).toNat)
  case atStart => exact ⟨0, rfl, Nat.zero_le _, HB0, Hbox, hide (fun i hi => by omega)⟩
  case round =>
    obtain ⟨k, rfl, hk, HB, HX, HO⟩ := hrel
    by_cases hlt : k < n
    · obtain ⟨p, hp⟩ : ∃ p, zs[k]? = some p := ⟨_, List.getElem?_eq_getElem (by rw [Hn.out]; exact hlt)⟩
      obtain ⟨b, off, rfl, c0⟩ := int_at (Hv.out.keep HB.out) k p hp
      have j0 : (0 : Int) ≤ (k : Int) := by omega
      have j1 : (k : Int) < (n : Int) := by omega
      have Hp := hide hp
      have K1 := hide (KZ.out p wr)
      clear hp
      cases he : okZ p with
      | false =>
        rw [he] at K1
        have e1 := yes.out k p Hp.out he
        subst e1
        clear he
        go_wp2_with (go_at_call 34; refine (K1.out).mono ?_; rintro e W1 ⟨rfl, hW⟩; have hW' := hW.symm; clear hW; subst hW')
        go_ret2
        exact ⟨⟨_, _, rfl, .inr ⟨rfl, rfl, rfl⟩⟩, HB.out⟩
      | true =>
        rw [he] at K1
        have HX1 : Hid (∀ i : Nat, i < k + 1 → ∀ p, zs[i]? = some p → okZ p = true) := hide (fun i hi q h => by
          rcases Nat.lt_or_ge i k with g | g
          · exact HO.out i g q h
          · obtain rfl : i = k := by omega
            rw [Hp.out] at h; cases h; exact he)
        have hz := of_decide_eq_true he
        obtain ⟨y, rfl⟩ : ∃ y : Nat, p = (y : Int) := ⟨p.toNat, by omega⟩
        have hy : y < 8 := by omega
        have y0 : (0 : Int) ≤ (y : Int) := by omega
        have y1 : (y : Int) < 8 := by omega
        obtain ⟨d0, d1⟩ := cells_at HX.out y
        rw [List.getElem?_toArray, nm_at _ _ _ hy] at d0
        have Hst : Hid ((wr.setCell ⟨w0.heap.size, y, none⟩ (.bool true)).heap[w0.heap.size]? = some (.cells (nm zs (k + 1)).toArray 70)) := hide (by
          rw [nm_step Hp.out hy]
          have := heap_put (i := y) HX.out (.bool true)
          simpa using this)
        have HBs : Hid (Below w0.heap.size w0 (wr.setCell ⟨w0.heap.size, y, none⟩ (.bool true))) := hide (HB.out.setCell (p := ⟨w0.heap.size, y, none⟩) (Nat.le_refl _) _)
        generalize decide ((y : Int) ∈ zs.take k) = ob at *
        clear he hz
        go_wp2_with (go_at_call 34; refine (K1.out).mono ?_; rintro e W1 ⟨rfl, hW⟩; have hW' := hW.symm; clear hW; subst hW')
        go_roundw
        case rel => exact ⟨k + 1, by go_num, by omega, HBs, Hst, HX1⟩
        case measure => simp [intOf]; omega
    · obtain rfl : k = n := by omega
      have j1 : ¬ (k : Int) < (k : Int) := by omega
      have e1 := no.out HO.out
      subst e1
      have hbx := HX.out
      rw [nm_full Hn.out] at hbx
      have cc := fun z => (cells_at hbx z).1
      have d0 := cc 0
      have d1 := cc 1
      have d2 := cc 2
      have d3 := cc 3
      have d4 := cc 4
      have d5 := cc 5
      have d6 := cc 6
      have d7 := cc 7
      simp only [List.getElem?_toArray, List.getElem?_cons_zero, List.getElem?_cons_succ] at d0 d1 d2 d3 d4 d5 d6 d7
      have HI : Hid (∀ k : Nat, k < 8 → ∀ w, (Instr.index 70 (.agg #[.bool (bAt zs 0), .bool (bAt zs 1), .bool (bAt zs 2), .bool (bAt zs 3), .bool (bAt zs 4), .bool (bAt zs 5), .bool (bAt zs 6), .bool (bAt zs 7)]) (.int .i64 (k : Int))).run Try.prog w = .ok (.bool (bAt zs k)) w) := hide (fun k hk w => index8 (bAt zs) k hk w)
      clear cc hbx HX
      generalize bAt zs 0 = b0 at *
      generalize bAt zs 1 = b1 at *
      generalize bAt zs 2 = b2 at *
      generalize bAt zs 3 = b3 at *
      generalize bAt zs 4 = b4 at *
      generalize bAt zs 5 = b5 at *
      generalize bAt zs 6 = b6 at *
      generalize bAt zs 7 = b7 at *
      go_upto_region 11 with fail
      clear d0 d1 d2 d3 d4 d5 d6 d7
      go_loopw [7, 23] (fun v7 v23 wr => ∃ k : Nat, v23 = .int .i64 k ∧ k ≤ 8 ∧ Hid (Below w0.heap.size w0 wr) ∧ Hid (intE.Own wr w0.heap.size v7 (ints (ordK zs k)))) (fun _ v23 _ => 8 - (intOf v23).toNat)
      case atStart => exact ⟨0, rfl, Nat.zero_le _, HB, hide (El.Own.nil _ _ _)⟩
      case round =>
        clear HB j1 i0
        obtain ⟨k, rfl, hk, HB, HOw⟩ := hrel
        by_cases hlt : k < 8
        · have q := HI.out k hlt
          have g1 : (k : Int) < 8 := by omega
          have g0 : (0 : Int) ≤ (k : Int) := by omega
          cases hbk : bAt zs k with
          | true =>
            rw [hbk] at q
            have hmem : (k : Int) ∈ zs := of_decide_eq_true hbk
            have Hno := hide (ordK_yes hmem)
            have Hl : Hid ((ints (ordK zs k)).length + [(k : Int)].length ≤ 1000000) := hide (by have := ordK_len zs k; rw [ints_len]; simp; omega)
            have Hba : Hid (∀ (o : Obj), Below wr.heap.size wr (wr.alloc o)) := hide (fun o => (Below.refl _ _).alloc (Nat.le_refl _) o)
            clear hmem hbk
            go_wp2_with (at_builtin; refine intE.wp (w0 := w0) (HB.out.trans ((Hba.out _).mono HB.out.size)) (by rfl) _ _ rfl _ _ rfl rfl (ints (ordK zs k)) [(k : Int)] (HOw.out.keep (Hba.out _)) (int_new wr _ _ rfl) Hl.out ?_; intro v1 w2 ho2 _ _ hb2; have HO2 := hide ho2; have HB2 := hide hb2; clear ho2 hb2)
            go_roundw
            case rel => exact ⟨k + 1, by go_num, by omega, HB2, hide (by rw [Hno.out, ints_app]; exact HO2.out)⟩
            case measure => simp [intOf]; omega
          | false =>
            rw [hbk] at q
            have hmem : (k : Int) ∉ zs := of_decide_eq_false hbk
            have Hno := hide (ordK_no hmem)
            clear hmem hbk
            go_wp2_with fail
            go_roundw
            case rel => exact ⟨k + 1, by go_num, by omega, HB, hide (by rw [Hno.out]; exact HOw.out)⟩
            case measure => simp [intOf]; omega
        · obtain rfl : k = 8 := by omega
          go_wp2_with fail
          go_ret2
          exact ⟨⟨_, _, rfl, .inl ⟨rfl, rfl, HOw.out⟩⟩, HB.out⟩

set_option maxRecDepth 100000 in
set_option maxHeartbeats 4000000 in
/-- the document's -/
theorem rorder_any (a : Option Addr) (c n : Nat) (zs : List Int) (w : World) (hn : zs.length = n) (hv : intE.Rd w (.slice a n c) zs) (hl : n ≤ 100000) :
    Calls Try.prog 22 #[.slice a n c] w fun e w' => (∃ u, e = .returned (.tuple #[u, .bool (zs.all okZ)]) ∧ ROP (zs.all okZ) zs w.heap.size u w') ∧ Below w.heap.size w w' := by
  obtain ⟨w0, rfl⟩ : ∃ w0, w0 = w := ⟨_, rfl⟩
  have Hn := hide hn
  have Hv := hide hv
  have i0 : (n : Int) ≤ 100000 := by omega
  have yes : Hid (∀ (k : Nat) (p : Int), zs[k]? = some p → okZ p = false → zs.all okZ = false) := hide (fun k p h e => by
    rw [List.all_eq_false]
    exact ⟨p, List.mem_of_getElem? h, by simp [e]⟩)
  have no : Hid ((∀ k : Nat, k < n → ∀ p, zs[k]? = some p → okZ p = true) → zs.all okZ = true) := hide (fun h => by
    rw [List.all_eq_true]
    intro p hp
    obtain ⟨k, hk⟩ := List.getElem?_of_mem hp
    exact h k (by have := idx_lt hk; omega) p hk)
  generalize zs.all okZ = res at *
  clear hn hv hl
  go_enter Try.func22, Try.ntmps22
  go_wp2_with fail
  go_loopw [10] (fun v10 wr => ∃ k : Nat, v10 = .int .i64 k ∧ k ≤ n ∧ wr = w0 ∧ Hid (∀ i : Nat, i < k → ∀ p, zs[i]? = some p → okZ p = true)) (fun v10 _ => n - (intOf v10).toNat)
  case atStart => exact ⟨0, rfl, Nat.zero_le _, rfl, hide (fun i hi => by omega)⟩
  case round =>
    obtain ⟨k, rfl, hk, hw, HO⟩ := hrel
    have hw' := hw.symm
    clear hw
    subst hw'
    by_cases hlt : k < n
    · obtain ⟨p, hp⟩ : ∃ p, zs[k]? = some p := ⟨_, List.getElem?_eq_getElem (by rw [Hn.out]; exact hlt)⟩
      obtain ⟨b, off, rfl, c0⟩ := int_at Hv.out k p hp
      have j0 : (0 : Int) ≤ (k : Int) := by omega
      have j1 : (k : Int) < (n : Int) := by omega
      have Hp := hide hp
      clear hp
      by_cases g1 : p < 0
      · have e1 := yes.out k p Hp.out (decide_eq_false (by omega))
        subst e1
        go_wp2_with fail
        go_ret2
        exact ⟨⟨_, rfl, .inr ⟨rfl, rfl⟩⟩, Below.refl _ _⟩
      · by_cases g2 : p > 7
        · have e1 := yes.out k p Hp.out (decide_eq_false (by omega))
          subst e1
          go_wp2_with fail
          go_ret2
          exact ⟨⟨_, rfl, .inr ⟨rfl, rfl⟩⟩, Below.refl _ _⟩
        · have HX1 : Hid (∀ i : Nat, i < k + 1 → ∀ p, zs[i]? = some p → okZ p = true) := hide (fun i hi q h => by
            rcases Nat.lt_or_ge i k with g | g
            · exact HO.out i g q h
            · obtain rfl : i = k := by omega
              rw [Hp.out] at h; cases h; exact decide_eq_true (by omega))
          go_wp2_with fail
          go_roundw
          case rel => exact ⟨k + 1, by go_num, by omega, trivial, HX1⟩
          case measure => simp [intOf]; omega
    · obtain rfl : k = n := by omega
      have j1 : ¬ (k : Int) < (k : Int) := by omega
      have e1 := no.out HO.out
      subst e1
      go_upto_region 9 with fail
      go_loopw [4, 6] (fun v4 v6 wr => ∃ z : Nat, v6 = .int .i64 z ∧ z ≤ 8 ∧ Hid (Below w0.heap.size w0 wr) ∧ Hid (intE.Own wr w0.heap.size v4 (ints (ordK zs z)))) (fun _ v6 _ => 8 - (intOf v6).toNat)
      case atStart => exact ⟨0, rfl, Nat.zero_le _, hide (Below.refl _ _), hide (El.Own.nil _ _ _)⟩
      case round =>
        obtain ⟨z, rfl, hz, HB, HOw⟩ := hrel
        by_cases hlt : z < 8
        · have g1 : (z : Int) < 8 := by omega
          have g0 : (0 : Int) ≤ (z : Int) := by omega
          obtain ⟨wA, hwA⟩ : ∃ W, W = wr := ⟨_, rfl⟩
          subst hwA
          obtain ⟨vo, hvo⟩ : ∃ V, V = u4 := ⟨_, rfl⟩
          subst hvo
          have Hl : Hid ((ints (ordK zs z)).length + [(z : Int)].length ≤ 1000000) := hide (by have := ordK_len zs z; rw [ints_len]; simp; omega)
          have Hba : Hid (∀ (o : Obj), Below wA.heap.size wA (wA.alloc o)) := hide (fun o => (Below.refl _ _).alloc (Nat.le_refl _) o)
          have Hyes : Hid (∀ i : Nat, zs[i]? = some (z : Int) → ordK zs (z + 1) = ordK zs z ++ [z]) := hide (fun i h => ordK_yes (List.mem_of_getElem? h))
          have Hno : Hid ((∀ i : Nat, i < k → zs[i]? ≠ some (z : Int)) → ordK zs (z + 1) = ordK zs z) := hide (fun h => ordK_no (fun hm => by
            obtain ⟨i, hi⟩ := List.getElem?_of_mem hm
            exact h i (by have := idx_lt hi; rw [Hn.out] at this; exact this) hi))
          go_wp2_with fail
          go_loopw [4, 32] (fun v4 v32 wr => ∃ j : Nat, v4 = vo ∧ v32 = .int .i64 j ∧ j ≤ k ∧ wr = wA ∧ Hid (∀ i : Nat, i < j → zs[i]? ≠ some (z : Int))) (fun _ v32 _ => k - (intOf v32).toNat)
          case atStart => exact ⟨0, rfl, rfl, Nat.zero_le _, rfl, hide (fun i hi => by omega)⟩
          case round =>
            obtain ⟨j, hv4, rfl, hj, hw, HJ⟩ := hrel
            have hv4' := hv4.symm
            clear hv4
            subst hv4'
            have hw' := hw.symm
            clear hw
            subst hw'
            by_cases hjl : j < k
            · obtain ⟨p, hp⟩ : ∃ p, zs[j]? = some p := ⟨_, List.getElem?_eq_getElem (by rw [Hn.out]; exact hjl)⟩
              obtain ⟨b, off, rfl, c0⟩ := int_at (Hv.out.keep HB.out) j p hp
              have q0 : (0 : Int) ≤ (j : Int) := by omega
              have q1 : (j : Int) < (k : Int) := by omega
              have Hp := hide hp
              clear hp
              by_cases he : p = (z : Int)
              · subst he
                have Hy := hide (Hyes.out j Hp.out)
                go_wp2_with (at_builtin; refine intE.wp (w0 := w0) (HB.out.trans ((Hba.out _).mono HB.out.size)) (by rfl) _ _ rfl _ _ rfl rfl (ints (ordK zs z)) [(z : Int)] (HOw.out.keep (Hba.out _)) (int_new _ _ _ rfl) Hl.out ?_; intro v1 w2 ho2 _ _ hb2; have HO2 := hide ho2; have HB2 := hide hb2; clear ho2 hb2)
                go_roundw
                case rel => exact ⟨z + 1, by go_num, by omega, HB2, hide (by rw [Hy.out, ints_app]; exact HO2.out)⟩
                case measure => simp [intOf]; omega
              · have hbe : (p == (z : Int)) = false := beq_eq_false_iff_ne.2 he
                have HJ1 : Hid (∀ i : Nat, i < j + 1 → zs[i]? ≠ some (z : Int)) := hide (fun i hi h => by
                  rcases Nat.lt_or_ge i j with g | g
                  · exact HJ.out i g h
                  · obtain rfl : i = j := by omega
                    rw [Hp.out] at h; exact he (Option.some.inj h))
                go_wp2_with fail
                go_roundw
                case rel => exact ⟨j + 1, rfl, by go_num, by omega, trivial, HJ1⟩
                case measure => simp [intOf]; omega
            · obtain rfl : j = k := by omega
              have q1 : ¬ (j : Int) < (j : Int) := by omega
              have Hy := hide (Hno.out HJ.out)
              go_wp2_with fail
              go_roundw
              case rel => exact ⟨z + 1, by go_num, by omega, HB, hide (by rw [Hy.out]; exact HOw.out)⟩
              case measure => simp [intOf]; omega
        · obtain rfl : z = 8 := by omega
          go_wp2_with fail
          go_ret2
          exact ⟨⟨_, rfl, .inl ⟨rfl, HOw.out⟩⟩, HB.out⟩
end Go.Proofs.Ytmmkfcmbmecleaa
