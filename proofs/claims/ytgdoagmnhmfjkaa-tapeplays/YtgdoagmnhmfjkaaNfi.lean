/- The note that bytes begin with: the document's first. -/
import Derived.Test.YtgdoagmnhmfjkaaNfm
import Derived.Test.YtgdoagmnhmfjkaaNby
import Derived.Test.YtgdoagmnhmfjkaaNde
import Derived.RegionTactic
namespace Go.Proofs.Ytgdoagmnhmfjkaa
open Go.ChangeShapes Go.WideShapes Go.ChangeAt Go.RowKit
set_option linter.unusedVariables false

/-- what first answers -/
def FirP (l : List Int) (n : Nt) (s : Int) : Prop := (Fst l n ∧ s = (n.bts.length : Int)) ∨ ((∀ m, ¬ Fst l m) ∧ n = nz ∧ s = 0)
def FirR (l : List Int) (w : World) (e : Ending) (w' : World) : Prop := ∃ (k x y z s : Int), e = .returned (.tuple #[.agg #[.int .i64 k, .int .i64 x, .int .i64 y, .int .i64 z], .int .i64 s]) ∧ FirP l ⟨k, x, y, z⟩ s ∧ Below w.heap.size w w'
theorem FirR.no {l : List Int} {w w' : World} (h : ∀ m, ¬ Fst l m) (hb : Below w.heap.size w w') : FirR l w (.returned (.tuple #[.agg #[.int .i64 0, .int .i64 0, .int .i64 0, .int .i64 0], .int .i64 0])) w' := ⟨0, 0, 0, 0, 0, rfl, .inr ⟨h, rfl, rfl⟩, hb⟩

theorem first_few {w : World} {a : Option Addr} {n c : Nat} {l : List Int} (h : Sl w a n c l) (hn : n < 5) : Calls Try.prog 44 #[.slice a n c] w fun e w' => FirR l w e w' := by
  have Hno : Hid (∀ m, ¬ Fst l m) := hide (fun m hm => by have h1 := hm.len; have h2 := bts_len5 hm.1; rw [h.len] at h1; omega)
  have n1 : (n : Int) < 5 := by omega
  clear h
  go_enter Try.func44, Try.ntmps44
  go_wp2_with fail
  exact bodyPost_ret (v := .tuple #[.agg #[.int .i64 0, .int .i64 0, .int .i64 0, .int .i64 0], .int .i64 0]) (by simp [results, Try.results44, go_sem]) rfl (FirR.no Hno.out (below_new _ _))

set_option maxHeartbeats 2000000 in
theorem first_short {w : World} {a : Option Addr} {n c : Nat} {l : List Int} (h : Sl w a n c l) {b0 : Nat} (h0 : l[0]? = some (b0 : Int)) (hb2 : b0 ≤ 255) (hn : 5 ≤ n) (hl : n < b0 + 3) : Calls Try.prog 44 #[.slice a n c] w fun e w' => FirR l w e w' := by
  have Hno : Hid (∀ m, ¬ Fst l m) := hide (fun m => fst_short h0 (by rw [h.len]; exact hl) m)
  obtain ⟨b, off, rfl, hc⟩ := h.some (by omega)
  have c0 := hc 0 _ h0
  rw [Nat.add_zero] at c0
  have cA : ∀ o, (w.alloc o).cell? ⟨b, off, none⟩ = some (.int .u8 (b0 : Int)) := fun o => by rw [(below_new w o).cell (cell_lt c0)]; exact c0
  have n1 : ¬ ((n : Int) < 5) := by omega
  have n2 : (n : Int) < (b0 : Int) + 3 := by omega
  have n3 : (0 : Int) < (n : Int) := by omega
  clear h hc c0 h0
  go_enter Try.func44, Try.ntmps44
  go_wp2_with fail
  exact bodyPost_ret (v := .tuple #[.agg #[.int .i64 0, .int .i64 0, .int .i64 0, .int .i64 0], .int .i64 0]) (by simp [results, Try.results44, go_sem]) rfl (FirR.no Hno.out (below_new _ _))

/-- what is still 0 -/
def Zer (i : Nat) (xs : List Int) : Prop := ∀ j p, i ≤ j → xs[j]? = some p → p = 0

theorem zer_set {j : Nat} {xs : List Int} {x : Int} (h : Zer (j + 1) xs) : Zer (j + 1) (xs.set j x) := by
  intro i p hi hp
  rw [List.getElem?_set, if_neg (by omega)] at hp
  exact h i p hi hp

theorem cells4f {w0 w : World} {l : List It} {g : Nat} {x0 x1 x2 x3 : Value} (h : Its w0 (.box g #[x0, x1, x2, x3] 43 :: l) w) : w.cell? ⟨g, 0, none⟩ = some x0 ∧ w.cell? ⟨g, 1, none⟩ = some x1 ∧ w.cell? ⟨g, 2, none⟩ = some x2 ∧ w.cell? ⟨g, 3, none⟩ = some x3 ∧ w.frozen? ⟨g, 0, none⟩ = false ∧ w.frozen? ⟨g, 1, none⟩ = false ∧ w.frozen? ⟨g, 2, none⟩ = false ∧ w.frozen? ⟨g, 3, none⟩ = false := ⟨(cells_at h.one 0).1, (cells_at h.one 1).1, (cells_at h.one 2).1, (cells_at h.one 3).1, (cells_at h.one 0).2, (cells_at h.one 1).2, (cells_at h.one 2).2, (cells_at h.one 3).2⟩

set_option maxHeartbeats 8000000 in
set_option maxRecDepth 100000 in
theorem first_go {w : World} {a : Option Addr} {n c : Nat} {l : List Int} (h : Sl w a n c l) (hr : InB l) (hm : n ≤ 1000000) {b0 : Nat} {k : Int} (h0 : l[0]? = some (b0 : Int)) (h1 : l[1]? = some k) (hb2 : b0 ≤ 255) (hn : 5 ≤ n) (hl : b0 + 3 ≤ n) : Calls Try.prog 44 #[.slice a n c] w fun e w' => FirR l w e w' := by
  have hcap := h.cap
  obtain ⟨b, off, rfl, hc⟩ := h.some (by omega)
  obtain ⟨k0, k1⟩ := hr.at h1
  have HB : Hid (∀ W, Below w.heap.size w W → W.cell? ⟨b, off, none⟩ = some (.int .u8 (b0 : Int)) ∧ W.cell? ⟨b, off + 1, none⟩ = some (.int .u8 k)) := hide (fun W hW => by
    have c0 := hc 0 _ h0
    have c1 := hc 1 _ h1
    rw [Nat.add_zero] at c0
    exact ⟨by rw [hW.cell (cell_lt c0)]; exact c0, by rw [hW.cell (cell_lt c1)]; exact c1⟩)
  have HC : Hid (∀ W, Below w.heap.size w W → ∀ i p, l[i]? = some p → W.cell? ⟨b, off + i, none⟩ = some (.int .u8 p)) := hide (fun W hW i p hp => by
    have c0 := hc i p hp
    rw [hW.cell (cell_lt c0)]; exact c0)
  have Hsl := hide h
  have Hr := hide hr
  have H0 := hide h0
  have H1 := hide h1
  have Hlen := hide h.len
  have k20 := ruses_any k
  obtain ⟨K, hK⟩ : ∃ K, rus k = K := ⟨_, rfl⟩
  have hu3 := us_le k
  have Hoi : Hid (∀ i at' xs, Out l i at' xs → i < us k → Inn l i at' 1 xs) := hide (fun i at' xs ho hi => ho.inn h1 hi)
  have Hoa : Hid (∀ at' x y z, Out l (us k) at' [x, y, z] → ∀ m, Fst l m → m = ⟨k, x, y, z⟩) := hide (fun at' x y z ho => ho.all h1)
  have Hup : Hid (∀ m, Fst l m → 0 < us k) := hide (fun m hm => by
    have e := hm.at1
    rw [h1] at e
    simp at e
    rw [e]
    exact ((ok_iff m).1 hm.1).1)
  obtain ⟨u, hu⟩ : ∃ u, us k = u := ⟨_, rfl⟩
  have HK : Hid ((u = 0 ∧ K = -1) ∨ (0 < u ∧ K = u)) := hide (by
    rw [← hK, ← hu]
    rcases Nat.eq_zero_or_pos (us k) with q | q
    · exact .inl ⟨q, rus_none q⟩
    · exact .inr ⟨q, rus_some (by omega)⟩)
  rw [hK] at k20
  rw [hu] at hu3 Hoi Hoa Hup
  have K20 := hide k20
  have n1 : ¬ ((n : Int) < 5) := by omega
  have n2 : ¬ ((n : Int) < (b0 : Int) + 3) := by omega
  have n3 : (0 : Int) < (n : Int) := by omega
  have n4 : (1 : Int) < (n : Int) := by omega
  have I0 := hide ((Its.nil w).box1 #[.int .i64 0, .int .i64 0, .int .i64 0, .int .i64 0] 43)
  obtain ⟨cb0, cb1⟩ := HB.out _ I0.out.bel
  clear k20 hK hu h hr hc h0 h1
  go_enter Try.func44, Try.ntmps44
  go_upto_region 3 with fail
  generalize hW1 : w.alloc (.cells #[.int .i64 0, .int .i64 0, .int .i64 0, .int .i64 0] 43) = W1 at *
  have e1 : W1.heap.size = w.heap.size + 1 := by rw [← hW1]; simp
  clear hW1
  have I1 := hide (I0.out.box1 #[.int .i64 k, .int .i64 0, .int .i64 0, .int .i64 0] 43)
  have I2 := hide (I1.out.box1 #[.int .i64 0, .int .i64 0, .int .i64 0] 80)
  go_upto_region 7 with fail
  have I3 : Hid (Its w (.box (w.heap.size + 1 + 1) #[.int .i64 0, .int .i64 0, .int .i64 0] 80 :: .box (w.heap.size + 1) #[.int .i64 k, .int .i64 0, .int .i64 0, .int .i64 0] 43 :: [.box w.heap.size #[.int .i64 0, .int .i64 0, .int .i64 0, .int .i64 0] 43]) ((W1.alloc (.cells #[.int .i64 k, .int .i64 0, .int .i64 0, .int .i64 0] 43)).alloc (.cells #[.int .i64 0, .int .i64 0, .int .i64 0] 80))) := hide (by
    have := I2.out
    rw [show (W1.alloc (.cells #[.int .i64 k, .int .i64 0, .int .i64 0, .int .i64 0] 43)).heap.size = w.heap.size + 1 + 1 by simp [e1], e1] at this
    exact this)
  clear I0 I1 I2 cb0 cb1 e1
  generalize (W1.alloc (.cells #[.int .i64 k, .int .i64 0, .int .i64 0, .int .i64 0] 43)).alloc (.cells #[.int .i64 0, .int .i64 0, .int .i64 0] 80) = W2 at *
  obtain ⟨gL, hgL⟩ : ∃ g, w.heap.size + 1 + 1 = g := ⟨_, rfl⟩
  rw [hgL] at I3 ⊢
  clear hgL
  obtain ⟨gN, hgN⟩ : ∃ g, w.heap.size + 1 = g := ⟨_, rfl⟩
  rw [hgN] at I3 ⊢
  clear hgN
  obtain ⟨gR, hgR⟩ : ∃ g, w.heap.size = g := ⟨_, rfl⟩
  have I4 : Hid (Its w (.box gL #[.int .i64 0, .int .i64 0, .int .i64 0] 80 :: .box gN #[.int .i64 k, .int .i64 0, .int .i64 0, .int .i64 0] 43 :: [.box gR #[.int .i64 0, .int .i64 0, .int .i64 0, .int .i64 0] 43]) W2) := hide (by rw [← hgR]; exact I3.out)
  rw [hgR]
  have HgR := hide hgR
  clear hgR I3
  go_loopw [6, 7] (fun v i wr => Hid (∃ (j at' : Nat) (X0 X1 X2 : Int), j ≤ u ∧ i = .int .i64 j ∧ v = .int .i64 at' ∧ at' ≤ b0 + 2 ∧ Out l j at' [X0, X1, X2] ∧ Zer j [X0, X1, X2] ∧ Its w (.box gL #[.int .i64 X0, .int .i64 X1, .int .i64 X2] 80 :: .box gN #[.int .i64 k, .int .i64 0, .int .i64 0, .int .i64 0] 43 :: [.box gR #[.int .i64 0, .int .i64 0, .int .i64 0, .int .i64 0] 43]) wr)) (fun _ i _ => 3 - (intOf i).toNat)
  case atStart => exact hide ⟨0, 2, 0, 0, 0, Nat.zero_le _, rfl, rfl, by omega, out0 l, fun j p _ hp => by
    match j with
    | 0 => simpa using hp.symm
    | 1 => simpa using hp.symm
    | 2 => simpa using hp.symm
    | j + 3 => simp at hp, I4.out⟩
  case round =>
    obtain ⟨j, at', X0, X1, X2, hj, rfl, rfl, ha, hout, hzer, hI⟩ := hrel.out
    have I := hide hI
    have Hout := hide hout
    have Hzer := hide hzer
    clear hrel hI hout hzer I4
    have d0 : wr.cell? ⟨gN, 0, none⟩ = some (.int .i64 k) := (cells_at I.out.two 0).1
    by_cases hlt : j < u
    · have hlt' : (j : Int) < K := by have := HK.out; omega
      go_upto_region 9 with (go_at_call 51; refine (K20.out _).mono ?_; rintro e W3 ⟨rfl, hb3⟩; have I := hide (I.out.keep hb3))
      clear d0 hb3
      have Hinn := hide (Hoi.out j at' _ Hout.out hlt)
      have h3 : j = 0 ∨ j = 1 ∨ j = 2 := by omega
      rcases h3 with rfl | rfl | rfl
      · have x0 : X0 = 0 := Hzer.out 0 X0 (Nat.le_refl _) rfl
        rw [show (((0 : Nat)) : Int) = 0 from rfl]
        go_wp2_with fail
        obtain ⟨wA, hwA⟩ : ∃ W, W3 = W := ⟨_, rfl⟩
        rw [hwA] at I ⊢
        clear hwA
        go_loopw [6, 8] (fun v q wi => Hid (∃ (at' : Nat) (P X0 X1 X2 : Int), v = .int .i64 at' ∧ q = .int .i64 P ∧ at' ≤ b0 + 2 ∧ 1 ≤ P ∧ P ≤ 1099511627776 ∧ 0 ≤ X0 ∧ X0 < P ∧ Inn l 0 at' P [X0, X1, X2] ∧ Zer 1 [X0, X1, X2] ∧ Its w (.box gL #[.int .i64 X0, .int .i64 X1, .int .i64 X2] 80 :: .box gN #[.int .i64 k, .int .i64 0, .int .i64 0, .int .i64 0] 43 :: [.box gR #[.int .i64 0, .int .i64 0, .int .i64 0, .int .i64 0] 43]) wi)) (fun v _ _ => b0 + 2 - (intOf v).toNat)
        case atStart => exact hide ⟨at', 1, X0, X1, X2, rfl, rfl, ha, by omega, by omega, by omega, by omega, Hinn.out, fun i p hi hp => Hzer.out i p (by omega) hp, I.out⟩
        case round =>
          obtain ⟨at2, P, X0, X1, X2, rfl, rfl, ha2, hP1, hP2, hX1, hX2, hinn, hzer, hI⟩ := hrel.out
          have I := hide hI
          have Hin2 := hide hinn
          have Hze2 := hide hzer
          clear hrel hI hinn hzer
          obtain ⟨cb0, _⟩ := HB.out _ I.out.bel
          by_cases hat : at2 < b0 + 1
          · have hat' : (at2 : Int) < (b0 : Int) + 1 := by omega
            have hatn : (at2 : Int) < (n : Int) := by omega
            obtain ⟨z, hz⟩ : ∃ z, l[at2]? = some z := ⟨_, List.getElem?_eq_getElem (by rw [Hlen.out]; omega)⟩
            obtain ⟨z0, z1⟩ := Hr.out.at hz
            have cz := HC.out _ I.out.bel at2 z hz
            have Hz := hide hz
            obtain ⟨q0, qf⟩ := (cells_at I.out.one 0)
            have q0' : wr.cell? ⟨gL, 0, none⟩ = some (.int .i64 X0) := q0
            have I5 : Hid (Its w (.box gL #[.int .i64 (X0 + z % 128 * P), .int .i64 X1, .int .i64 X2] 80 :: .box gN #[.int .i64 k, .int .i64 0, .int .i64 0, .int .i64 0] 43 :: [.box gR #[.int .i64 0, .int .i64 0, .int .i64 0, .int .i64 0] 43]) (wr.setCell ⟨gL, 0, none⟩ (.int .i64 (X0 + z % 128 * P)))) := hide (I.out.put 0 (.int .i64 (X0 + z % 128 * P)))
            have hm0 : 0 ≤ z % 128 * P := Int.mul_nonneg (by omega) (by omega)
            have hm1 : z % 128 * P ≤ 127 * P := Int.mul_le_mul_of_nonneg_right (by omega) (by omega)
            clear hz q0
            go_upto_region 11 with fail
            go_region
            go_upto_region 12 with fail
            have I6 := hide (I5.out.keep (w' := (wr.setCell ⟨gL, 0, none⟩ (.int .i64 (X0 + z % 128 * P))).drew) ⟨rfl, rfl, rfl, Nat.le_refl _, fun _ _ => rfl⟩)
            generalize (wr.setCell ⟨gL, 0, none⟩ (.int .i64 (X0 + z % 128 * P))).drew = W5 at *
            have cz5 := HC.out _ I6.out.bel at2 z Hz.out
            have HzeM : Hid (Zer 1 [(X0 + z % 128 * P), X1, X2]) := hide (zer_set (x := X0 + z % 128 * P) Hze2.out)
            clear cz cb0 q0' qf I5 I
            by_cases h128 : 128 ≤ z
            · have h128' : ¬ z < 128 := by omega
              by_cases hfar : 1099511627776 < P * 128
              · have HO : Hid (Out l 1 (at2 + 1) [(X0 + z % 128 * P), X1, X2]) := hide (Hin2.out.far Hz.out h128 hfar _ _ _)
                go_wp2_with fail
                go_roundw
                case rel => exact hide ⟨1, at2 + 1, (X0 + z % 128 * P), X1, X2, by omega, by go_num, by go_num, by omega, HO.out, HzeM.out, I6.out⟩
                case measure => simp [intOf]
              · have HI9 : Hid (Inn l 0 (at2 + 1) (P * 128) [(X0 + z % 128 * P), X1, X2]) := hide (Hin2.out.step Hz.out rfl h128)
                go_wp2_with fail
                go_roundw
                case rel => exact hide ⟨at2 + 1, P * 128, (X0 + z % 128 * P), X1, X2, by go_num, rfl, by omega, by omega, by omega, by omega, by omega, HI9.out, HzeM.out, I6.out⟩
                case measure => simp [intOf]; omega
            · have h128' : z < 128 := by omega
              have HO : Hid (Out l 1 (at2 + 1) [(X0 + z % 128 * P), X1, X2]) := hide (Hin2.out.last Hz.out rfl h128')
              go_wp2_with fail
              go_roundw
              case rel => exact hide ⟨1, at2 + 1, (X0 + z % 128 * P), X1, X2, by omega, by go_num, by go_num, by omega, HO.out, HzeM.out, I6.out⟩
              case measure => simp [intOf]
          · have hat' : ¬ ((at2 : Int) < (b0 : Int) + 1) := by omega
            have HO : Hid (Out l 1 at2 [X0, X1, X2]) := hide (Inn.out (z := 0) Hin2.out H0.out (by omega) _ _ _)
            go_wp2_with fail
            go_roundw
            case rel => exact hide ⟨1, at2, X0, X1, X2, by omega, by go_num, rfl, by omega, HO.out, Hze2.out, I.out⟩
            case measure => simp [intOf]
      · have x0 : X1 = 0 := Hzer.out 1 X1 (Nat.le_refl _) rfl
        rw [show (((1 : Nat)) : Int) = 1 from rfl]
        go_wp2_with fail
        obtain ⟨wA, hwA⟩ : ∃ W, W3 = W := ⟨_, rfl⟩
        rw [hwA] at I ⊢
        clear hwA
        go_loopw [6, 8] (fun v q wi => Hid (∃ (at' : Nat) (P X0 X1 X2 : Int), v = .int .i64 at' ∧ q = .int .i64 P ∧ at' ≤ b0 + 2 ∧ 1 ≤ P ∧ P ≤ 1099511627776 ∧ 0 ≤ X1 ∧ X1 < P ∧ Inn l 1 at' P [X0, X1, X2] ∧ Zer 2 [X0, X1, X2] ∧ Its w (.box gL #[.int .i64 X0, .int .i64 X1, .int .i64 X2] 80 :: .box gN #[.int .i64 k, .int .i64 0, .int .i64 0, .int .i64 0] 43 :: [.box gR #[.int .i64 0, .int .i64 0, .int .i64 0, .int .i64 0] 43]) wi)) (fun v _ _ => b0 + 2 - (intOf v).toNat)
        case atStart => exact hide ⟨at', 1, X0, X1, X2, rfl, rfl, ha, by omega, by omega, by omega, by omega, Hinn.out, fun i p hi hp => Hzer.out i p (by omega) hp, I.out⟩
        case round =>
          obtain ⟨at2, P, X0, X1, X2, rfl, rfl, ha2, hP1, hP2, hX1, hX2, hinn, hzer, hI⟩ := hrel.out
          have I := hide hI
          have Hin2 := hide hinn
          have Hze2 := hide hzer
          clear hrel hI hinn hzer
          obtain ⟨cb0, _⟩ := HB.out _ I.out.bel
          by_cases hat : at2 < b0 + 1
          · have hat' : (at2 : Int) < (b0 : Int) + 1 := by omega
            have hatn : (at2 : Int) < (n : Int) := by omega
            obtain ⟨z, hz⟩ : ∃ z, l[at2]? = some z := ⟨_, List.getElem?_eq_getElem (by rw [Hlen.out]; omega)⟩
            obtain ⟨z0, z1⟩ := Hr.out.at hz
            have cz := HC.out _ I.out.bel at2 z hz
            have Hz := hide hz
            obtain ⟨q0, qf⟩ := (cells_at I.out.one 1)
            have q0' : wr.cell? ⟨gL, 1, none⟩ = some (.int .i64 X1) := q0
            have I5 : Hid (Its w (.box gL #[.int .i64 X0, .int .i64 (X1 + z % 128 * P), .int .i64 X2] 80 :: .box gN #[.int .i64 k, .int .i64 0, .int .i64 0, .int .i64 0] 43 :: [.box gR #[.int .i64 0, .int .i64 0, .int .i64 0, .int .i64 0] 43]) (wr.setCell ⟨gL, 1, none⟩ (.int .i64 (X1 + z % 128 * P)))) := hide (I.out.put 1 (.int .i64 (X1 + z % 128 * P)))
            have hm0 : 0 ≤ z % 128 * P := Int.mul_nonneg (by omega) (by omega)
            have hm1 : z % 128 * P ≤ 127 * P := Int.mul_le_mul_of_nonneg_right (by omega) (by omega)
            clear hz q0
            go_upto_region 11 with fail
            go_region
            go_upto_region 12 with fail
            have I6 := hide (I5.out.keep (w' := (wr.setCell ⟨gL, 1, none⟩ (.int .i64 (X1 + z % 128 * P))).drew) ⟨rfl, rfl, rfl, Nat.le_refl _, fun _ _ => rfl⟩)
            generalize (wr.setCell ⟨gL, 1, none⟩ (.int .i64 (X1 + z % 128 * P))).drew = W5 at *
            have cz5 := HC.out _ I6.out.bel at2 z Hz.out
            have HzeM : Hid (Zer 2 [X0, (X1 + z % 128 * P), X2]) := hide (zer_set (x := X1 + z % 128 * P) Hze2.out)
            clear cz cb0 q0' qf I5 I
            by_cases h128 : 128 ≤ z
            · have h128' : ¬ z < 128 := by omega
              by_cases hfar : 1099511627776 < P * 128
              · have HO : Hid (Out l 2 (at2 + 1) [X0, (X1 + z % 128 * P), X2]) := hide (Hin2.out.far Hz.out h128 hfar _ _ _)
                go_wp2_with fail
                go_roundw
                case rel => exact hide ⟨2, at2 + 1, X0, (X1 + z % 128 * P), X2, by omega, by go_num, by go_num, by omega, HO.out, HzeM.out, I6.out⟩
                case measure => simp [intOf]
              · have HI9 : Hid (Inn l 1 (at2 + 1) (P * 128) [X0, (X1 + z % 128 * P), X2]) := hide (Hin2.out.step Hz.out rfl h128)
                go_wp2_with fail
                go_roundw
                case rel => exact hide ⟨at2 + 1, P * 128, X0, (X1 + z % 128 * P), X2, by go_num, rfl, by omega, by omega, by omega, by omega, by omega, HI9.out, HzeM.out, I6.out⟩
                case measure => simp [intOf]; omega
            · have h128' : z < 128 := by omega
              have HO : Hid (Out l 2 (at2 + 1) [X0, (X1 + z % 128 * P), X2]) := hide (Hin2.out.last Hz.out rfl h128')
              go_wp2_with fail
              go_roundw
              case rel => exact hide ⟨2, at2 + 1, X0, (X1 + z % 128 * P), X2, by omega, by go_num, by go_num, by omega, HO.out, HzeM.out, I6.out⟩
              case measure => simp [intOf]
          · have hat' : ¬ ((at2 : Int) < (b0 : Int) + 1) := by omega
            have HO : Hid (Out l 2 at2 [X0, X1, X2]) := hide (Inn.out (z := 0) Hin2.out H0.out (by omega) _ _ _)
            go_wp2_with fail
            go_roundw
            case rel => exact hide ⟨2, at2, X0, X1, X2, by omega, by go_num, rfl, by omega, HO.out, Hze2.out, I.out⟩
            case measure => simp [intOf]
      · have x0 : X2 = 0 := Hzer.out 2 X2 (Nat.le_refl _) rfl
        rw [show (((2 : Nat)) : Int) = 2 from rfl]
        go_wp2_with fail
        obtain ⟨wA, hwA⟩ : ∃ W, W3 = W := ⟨_, rfl⟩
        rw [hwA] at I ⊢
        clear hwA
        go_loopw [6, 8] (fun v q wi => Hid (∃ (at' : Nat) (P X0 X1 X2 : Int), v = .int .i64 at' ∧ q = .int .i64 P ∧ at' ≤ b0 + 2 ∧ 1 ≤ P ∧ P ≤ 1099511627776 ∧ 0 ≤ X2 ∧ X2 < P ∧ Inn l 2 at' P [X0, X1, X2] ∧ Zer 3 [X0, X1, X2] ∧ Its w (.box gL #[.int .i64 X0, .int .i64 X1, .int .i64 X2] 80 :: .box gN #[.int .i64 k, .int .i64 0, .int .i64 0, .int .i64 0] 43 :: [.box gR #[.int .i64 0, .int .i64 0, .int .i64 0, .int .i64 0] 43]) wi)) (fun v _ _ => b0 + 2 - (intOf v).toNat)
        case atStart => exact hide ⟨at', 1, X0, X1, X2, rfl, rfl, ha, by omega, by omega, by omega, by omega, Hinn.out, fun i p hi hp => Hzer.out i p (by omega) hp, I.out⟩
        case round =>
          obtain ⟨at2, P, X0, X1, X2, rfl, rfl, ha2, hP1, hP2, hX1, hX2, hinn, hzer, hI⟩ := hrel.out
          have I := hide hI
          have Hin2 := hide hinn
          have Hze2 := hide hzer
          clear hrel hI hinn hzer
          obtain ⟨cb0, _⟩ := HB.out _ I.out.bel
          by_cases hat : at2 < b0 + 1
          · have hat' : (at2 : Int) < (b0 : Int) + 1 := by omega
            have hatn : (at2 : Int) < (n : Int) := by omega
            obtain ⟨z, hz⟩ : ∃ z, l[at2]? = some z := ⟨_, List.getElem?_eq_getElem (by rw [Hlen.out]; omega)⟩
            obtain ⟨z0, z1⟩ := Hr.out.at hz
            have cz := HC.out _ I.out.bel at2 z hz
            have Hz := hide hz
            obtain ⟨q0, qf⟩ := (cells_at I.out.one 2)
            have q0' : wr.cell? ⟨gL, 2, none⟩ = some (.int .i64 X2) := q0
            have I5 : Hid (Its w (.box gL #[.int .i64 X0, .int .i64 X1, .int .i64 (X2 + z % 128 * P)] 80 :: .box gN #[.int .i64 k, .int .i64 0, .int .i64 0, .int .i64 0] 43 :: [.box gR #[.int .i64 0, .int .i64 0, .int .i64 0, .int .i64 0] 43]) (wr.setCell ⟨gL, 2, none⟩ (.int .i64 (X2 + z % 128 * P)))) := hide (I.out.put 2 (.int .i64 (X2 + z % 128 * P)))
            have hm0 : 0 ≤ z % 128 * P := Int.mul_nonneg (by omega) (by omega)
            have hm1 : z % 128 * P ≤ 127 * P := Int.mul_le_mul_of_nonneg_right (by omega) (by omega)
            clear hz q0
            go_upto_region 11 with fail
            go_region
            go_upto_region 12 with fail
            have I6 := hide (I5.out.keep (w' := (wr.setCell ⟨gL, 2, none⟩ (.int .i64 (X2 + z % 128 * P))).drew) ⟨rfl, rfl, rfl, Nat.le_refl _, fun _ _ => rfl⟩)
            generalize (wr.setCell ⟨gL, 2, none⟩ (.int .i64 (X2 + z % 128 * P))).drew = W5 at *
            have cz5 := HC.out _ I6.out.bel at2 z Hz.out
            have HzeM : Hid (Zer 3 [X0, X1, (X2 + z % 128 * P)]) := hide (zer_set (x := X2 + z % 128 * P) Hze2.out)
            clear cz cb0 q0' qf I5 I
            by_cases h128 : 128 ≤ z
            · have h128' : ¬ z < 128 := by omega
              by_cases hfar : 1099511627776 < P * 128
              · have HO : Hid (Out l 3 (at2 + 1) [X0, X1, (X2 + z % 128 * P)]) := hide (Hin2.out.far Hz.out h128 hfar _ _ _)
                go_wp2_with fail
                go_roundw
                case rel => exact hide ⟨3, at2 + 1, X0, X1, (X2 + z % 128 * P), by omega, by go_num, by go_num, by omega, HO.out, HzeM.out, I6.out⟩
                case measure => simp [intOf]
              · have HI9 : Hid (Inn l 2 (at2 + 1) (P * 128) [X0, X1, (X2 + z % 128 * P)]) := hide (Hin2.out.step Hz.out rfl h128)
                go_wp2_with fail
                go_roundw
                case rel => exact hide ⟨at2 + 1, P * 128, X0, X1, (X2 + z % 128 * P), by go_num, rfl, by omega, by omega, by omega, by omega, by omega, HI9.out, HzeM.out, I6.out⟩
                case measure => simp [intOf]; omega
            · have h128' : z < 128 := by omega
              have HO : Hid (Out l 3 (at2 + 1) [X0, X1, (X2 + z % 128 * P)]) := hide (Hin2.out.last Hz.out rfl h128')
              go_wp2_with fail
              go_roundw
              case rel => exact hide ⟨3, at2 + 1, X0, X1, (X2 + z % 128 * P), by omega, by go_num, by go_num, by omega, HO.out, HzeM.out, I6.out⟩
              case measure => simp [intOf]
          · have hat' : ¬ ((at2 : Int) < (b0 : Int) + 1) := by omega
            have HO : Hid (Out l 3 at2 [X0, X1, X2]) := hide (Inn.out (z := 0) Hin2.out H0.out (by omega) _ _ _)
            go_wp2_with fail
            go_roundw
            case rel => exact hide ⟨3, at2, X0, X1, X2, by omega, by go_num, rfl, by omega, HO.out, Hze2.out, I.out⟩
            case measure => simp [intOf]
    · obtain rfl : j = u := by omega
      have hlt' : ¬ ((j : Int) < K) := by have := HK.out; omega
      go_upto_region 15 with (go_at_call 51; refine (K20.out _).mono ?_; rintro e W3 ⟨rfl, hb3⟩; have I := hide (I.out.keep hb3))
      clear d0 hb3
      have HoutF := hide (Hoa.out at' X0 X1 X2 Hout.out)
      obtain ⟨q0, q1, q2⟩ : W3.cell? ⟨gL, 0, none⟩ = some (.int .i64 X0) ∧ W3.cell? ⟨gL, 1, none⟩ = some (.int .i64 X1) ∧ W3.cell? ⟨gL, 2, none⟩ = some (.int .i64 X2) := ⟨(cells_at I.out.one 0).1, (cells_at I.out.one 1).1, (cells_at I.out.one 2).1⟩
      obtain ⟨s0, s1, s2, s3, sf0, sf1, sf2, sf3⟩ := cells4f I.out.tail
      have I5 : Hid (Its w (.box gN #[.int .i64 k, .int .i64 X0, .int .i64 0, .int .i64 0] 43 :: .box gL #[.int .i64 X0, .int .i64 X1, .int .i64 X2] 80 :: [.box gR #[.int .i64 0, .int .i64 0, .int .i64 0, .int .i64 0] 43]) (W3.setCell ⟨gN, 1, none⟩ (.int .i64 X0))) := hide (I.out.swap.put 1 (.int .i64 X0))
      go_upto_region 16 with fail
      generalize W3.setCell ⟨gN, 1, none⟩ (.int .i64 X0) = W4 at *
      clear q0 q1 q2 s0 s1 s2 s3 sf0 sf1 sf2 sf3 I
      obtain ⟨q0, q1, q2⟩ : W4.cell? ⟨gL, 0, none⟩ = some (.int .i64 X0) ∧ W4.cell? ⟨gL, 1, none⟩ = some (.int .i64 X1) ∧ W4.cell? ⟨gL, 2, none⟩ = some (.int .i64 X2) := ⟨(cells_at I5.out.two 0).1, (cells_at I5.out.two 1).1, (cells_at I5.out.two 2).1⟩
      obtain ⟨s0, s1, s2, s3, sf0, sf1, sf2, sf3⟩ := cells4f I5.out
      have I6 : Hid (Its w (.box gN #[.int .i64 k, .int .i64 X0, .int .i64 X1, .int .i64 0] 43 :: .box gL #[.int .i64 X0, .int .i64 X1, .int .i64 X2] 80 :: [.box gR #[.int .i64 0, .int .i64 0, .int .i64 0, .int .i64 0] 43]) (W4.setCell ⟨gN, 2, none⟩ (.int .i64 X1))) := hide (I5.out.put 2 (.int .i64 X1))
      go_upto_region 17 with fail
      generalize W4.setCell ⟨gN, 2, none⟩ (.int .i64 X1) = W5 at *
      clear q0 q1 q2 s0 s1 s2 s3 sf0 sf1 sf2 sf3 I5
      obtain ⟨q0, q1, q2⟩ : W5.cell? ⟨gL, 0, none⟩ = some (.int .i64 X0) ∧ W5.cell? ⟨gL, 1, none⟩ = some (.int .i64 X1) ∧ W5.cell? ⟨gL, 2, none⟩ = some (.int .i64 X2) := ⟨(cells_at I6.out.two 0).1, (cells_at I6.out.two 1).1, (cells_at I6.out.two 2).1⟩
      obtain ⟨s0, s1, s2, s3, sf0, sf1, sf2, sf3⟩ := cells4f I6.out
      have I7 : Hid (Its w (.box gN #[.int .i64 k, .int .i64 X0, .int .i64 X1, .int .i64 X2] 43 :: .box gL #[.int .i64 X0, .int .i64 X1, .int .i64 X2] 80 :: [.box gR #[.int .i64 0, .int .i64 0, .int .i64 0, .int .i64 0] 43]) (W5.setCell ⟨gN, 3, none⟩ (.int .i64 X2))) := hide (I6.out.put 3 (.int .i64 X2))
      go_upto_region 18 with fail
      generalize W5.setCell ⟨gN, 3, none⟩ (.int .i64 X2) = W6 at *
      clear q0 q1 q2 s0 s1 s2 s3 sf0 sf1 sf2 sf3 I6
      have I8 := hide I7.out.swap.tail
      clear I7
      obtain ⟨s0, s1, s2, s3, sf0, sf1, sf2, sf3⟩ := cells4f I8.out
      have k11 := good_any k X0 X1 X2
      cases hok : (Nt.mk k X0 X1 X2).ok with
      | false =>
        rw [hok] at k11
        have K11 := hide k11
        have Hno : Hid (∀ m, ¬ Fst l m) := hide (fun m hm => by
          have e := HoutF.out m hm
          have h5 := hm.1
          rw [e, hok] at h5
          simp at h5)
        clear k11
        go_upto_region 19 with (go_at_call 41; refine (K11.out _).mono ?_; rintro e W7 ⟨rfl, hb7⟩; have I8 := hide (I8.out.keep hb7))
        clear s0 s1 s2 s3 sf0 sf1 sf2 sf3
        obtain ⟨r0, r1, r2, r3, rf0, rf1, rf2, rf3⟩ := cells4f I8.out.tail
        go_wp2_with fail
        exact bodyPost_ret (v := .tuple #[.agg #[.int .i64 0, .int .i64 0, .int .i64 0, .int .i64 0], .int .i64 0]) (by simp [results, Try.results44, go_sem, r0, r1, r2, r3]) rfl (FirR.no Hno.out (below_put4 I8.out.bel _ (Nat.le_of_eq HgR.out) _ _ _ _))
      | true =>
        rw [hok] at k11
        have K11 := hide k11
        have K14 := hide (fun W => bytes_any k X0 X1 X2 W hok)
        have Hok := hide hok
        have HbtI := hide (bts_in hok)
        have Hb5 := hide (bts_len5 hok)
        clear k11 hok
        go_upto_region 20 with (go_at_call 41; refine (K11.out _).mono ?_; rintro e W7 ⟨rfl, hb7⟩; have I8 := hide (I8.out.keep hb7))
        clear s0 s1 s2 s3 sf0 sf1 sf2 sf3
        obtain ⟨s0, s1, s2, s3, sf0, sf1, sf2, sf3⟩ := cells4f I8.out
        go_upto_region 21 with (go_at_call 42; refine (K14.out _).mono ?_; rintro e W8 ⟨v, rfl, ho8, hb8⟩; have I9 := hide (I8.out.row1 ho8 hb8))
        clear s0 s1 s2 s3 sf0 sf1 sf2 sf3 I8
        obtain ⟨gC, capC, rfl, hcC, _⟩ := El.Own.some I9.out.one (bts_pos _)
        obtain ⟨M, hM⟩ : ∃ M, (Nt.mk k X0 X1 X2).bts.length = M := ⟨_, rfl⟩
        rw [hM] at hcC ⊢
        have HM := hide hM
        obtain ⟨M5, M19⟩ := Hb5.out
        rw [hM] at M5 M19
        clear hM
        obtain ⟨cb0, _⟩ := HB.out _ I9.out.bel
        obtain ⟨r0, r1, r2, r3, rf0, rf1, rf2, rf3⟩ := cells4f I9.out.tail.tail
        obtain ⟨s0, s1, s2, s3, sf0, sf1, sf2, sf3⟩ := cells4f I9.out.tail
        by_cases hMb : M = b0 + 3
        · have g1 : ((M : Int) != (b0 : Int) + 3) = false := by rw [hMb]; simp
          have g2 : (M : Int) ≤ (c : Int) := by omega
          have v1 : ∀ q : Nat, (convert 57 9 (.slice (some ⟨gC, 0, none⟩) M capC)).run Try.prog (W8.drewN q) = .ok (.string (str (Nt.mk k X0 X1 X2).bts)) (W8.drewN q) := fun q => by
            have := conv_str ((I9.out.drew q).one.rd)
            rw [HM.out] at this
            exact this
          have v2 : ∀ q : Nat, (convert 57 9 (.slice (some ⟨b, off, none⟩) M c)).run Try.prog (W8.drewN q) = .ok (.string (str (l.take M))) (W8.drewN q) := fun q => conv_str (((Hsl.out.keep (I9.out.drew q).bel).take M (by omega)).rd)
          by_cases heq : (Nt.mk k X0 X1 X2).bts = l.take M
          · have Hyes : Hid (FirP l ⟨k, X0, X1, X2⟩ (M : Int)) := hide (.inl ⟨⟨Hok.out, l.drop M, by rw [heq, List.take_append_drop]⟩, by rw [HM.out]⟩)
            have v3 := str_eq heq
            have v4 : ((str (Nt.mk k X0 X1 X2).bts).toList != (str (l.take M)).toList) = false := by rw [heq]; simp
            clear heq hMb
            go_quiet (fail)
            go_wp2_with fail
            refine bodyPost_ret (v := .tuple #[.agg #[.int .i64 k, .int .i64 X0, .int .i64 X1, .int .i64 X2], .int .i64 (M : Int)]) (by simp [results, Try.results44, go_sem, r0, r1, r2, r3]) rfl ⟨k, X0, X1, X2, _, rfl, Hyes.out, ?_⟩
            exact below_put4 (I9.out.drew _).bel _ (Nat.le_of_eq HgR.out) _ _ _ _
          · have v3 := str_ne HbtI.out (Hr.out.take M) heq
            have v4 : ((str (Nt.mk k X0 X1 X2).bts).toList != (str (l.take M)).toList) = true := by simp only [bne, v3]; rfl
            have Hno : Hid (∀ m, ¬ Fst l m) := hide (fun m hm => by
              have e := HoutF.out m hm
              subst e
              obtain ⟨_, r, hr2⟩ := hm
              apply heq
              rw [hr2, ← HM.out, List.take_left])
            clear heq hMb
            go_quiet (fail)
            go_wp2_with fail
            exact bodyPost_ret (v := .tuple #[.agg #[.int .i64 0, .int .i64 0, .int .i64 0, .int .i64 0], .int .i64 0]) (by simp [results, Try.results44, go_sem, r0, r1, r2, r3]) rfl (FirR.no Hno.out (below_put4 (I9.out.drew _).bel _ (Nat.le_of_eq HgR.out) _ _ _ _))
        · have g1 : ((M : Int) != (b0 : Int) + 3) = true := by simp; omega
          have Hno : Hid (∀ m, ¬ Fst l m) := hide (fun m hm => by
            have e := HoutF.out m hm
            subst e
            have h5 := hm.at0
            rw [H0.out] at h5
            simp only [Option.some.injEq] at h5
            have h6 := bts_len (Nt.mk k X0 X1 X2)
            rw [HM.out] at h6
            omega)
          clear hMb
          go_quiet (fail)
          go_wp2_with fail
          exact bodyPost_ret (v := .tuple #[.agg #[.int .i64 0, .int .i64 0, .int .i64 0, .int .i64 0], .int .i64 0]) (by simp [results, Try.results44, go_sem, r0, r1, r2, r3]) rfl (FirR.no Hno.out (below_put4 (I9.out.drew _).bel _ (Nat.le_of_eq HgR.out) _ _ _ _))

/-- first of any bytes -/
theorem first_any {w : World} {a : Option Addr} {n c : Nat} {l : List Int} (h : Sl w a n c l) (hr : InB l) (hn : n ≤ 1000000) : Calls Try.prog 44 #[.slice a n c] w fun e w' => FirR l w e w' := by
  rcases Nat.lt_or_ge n 5 with q | q
  · exact first_few h q
  · obtain ⟨zi, hzi⟩ : ∃ z, l[0]? = some z := ⟨_, List.getElem?_eq_getElem (by rw [h.len]; omega)⟩
    obtain ⟨k, hk⟩ : ∃ z, l[1]? = some z := ⟨_, List.getElem?_eq_getElem (by rw [h.len]; omega)⟩
    have hz2 := hr.at hzi
    obtain ⟨b0, rfl⟩ := Int.eq_ofNat_of_zero_le hz2.1
    rcases Nat.lt_or_ge n (b0 + 3) with q2 | q2
    · exact first_short h hzi (by omega) q q2
    · exact first_go h hr hn hzi hk (by omega) q q2

end Go.Proofs.Ytgdoagmnhmfjkaa
