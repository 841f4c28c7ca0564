/- Plan. -/
import Derived.Test.YtddcjkbdgneklaaGrd
namespace Go.Proofs.Ytddcjkbdgneklaa
open Go.RowKit
set_option linter.unusedVariables false

theorem pln_step {f : Int} {L : List (Nat × Nat)} {x : Int} {xs : List Int} {j : Nat} (h : bst L f = (j : Int)) : pln f L (x :: xs) = (pln f (inc L j) xs).map (⟨x, f, (j : Int)⟩ :: ·) := by
  rw [pln, h, if_neg (by omega), Int.toNat_natCast]
theorem inc_at {L : List (Nat × Nat)} {j : Nat} {l : Nat × Nat} (h : L[j]? = some l) : inc L j = L.set j (l.1 + 1, l.2 - 1) := by simp [inc, h]
theorem inc_len (L : List (Nat × Nat)) (j : Nat) : (inc L j).length = L.length := by simp [inc]

section
variable {B r : Nat} {a : Option Addr} {c : Nat} {gs : List Nat} {R : Rack}
set_option maxRecDepth 100000 in
set_option maxHeartbeats 8000000 in
theorem plan_rk (t : Int) (w : World) (h : Rk w B r a c gs R) :
    Calls Try.prog 15 #[.pointer (some ⟨r, 0, none⟩), .int .i64 t] w fun e w' => ∃ a' c', e = .returned (.tuple #[.slice a' (planM R t).length c', .int .i64 (planC R t)]) ∧ mvE.Own w' w.heap.size (.slice a' (planM R t).length c') (planM R t) ∧ Below w.heap.size w w' := by
  obtain ⟨w0, rfl⟩ : ∃ w0, w0 = w := ⟨_, rfl⟩
  have H := hide h
  have K22 := hide (where_any t w0 h)
  rcases whr_form R t with ⟨hw, hno⟩ | ⟨i, l, hw, hil, hl, hm, hno⟩
  · have e1 : planC R t = 160 := if_pos hw
    have e2 : planM R t = [] := if_pos hw
    rw [e1, e2]
    rw [hw] at K22
    clear e1 e2 hw hno h
    go_enter Try.func15, Try.ntmps15
    go_wp2_with (go_at_call 22; refine K22.out.mono ?_; rintro e W1 ⟨rfl, hb⟩; have HB := hide hb; clear hb)
    go_ret2
    exact ⟨none, 0, rfl, El.Own.nil _ _ _, HB.out⟩
  obtain ⟨k, hk, hkl, _⟩ := loc_in hm
  rw [hw] at K22
  have eA : ahx R t = ahd l.2 k := by unfold ahx; rw [hw, Int.toNat_natCast, ln_at hl, hk, Int.toNat_natCast]
  obtain ⟨A, hA⟩ : ∃ A, ahd l.2 k = A := ⟨_, rfl⟩
  rw [hA] at eA
  have hAl : A.length ≤ 8 := by
    obtain ⟨_, _, _, _, _, _, hL, _⟩ := h.lane hl
    have := hL.le
    rw [← hA]; simp [ahd]; omega
  have e1 : planC R t = if pln (i : Int) (lds R) A = none then 5 else 0 := by
    unfold planC; rw [hw, eA, if_neg (by omega)]
  have e2 : planM R t = match pln (i : Int) (lds R) A with | none => [] | some ms => ms ++ [⟨t, (i : Int), -1⟩] := by
    unfold planM; rw [hw, eA, if_neg (by omega)]; rfl
  rw [e1, e2]
  obtain ⟨res, hres⟩ : ∃ res, pln (i : Int) (lds R) A = res := ⟨_, rfl⟩
  rw [hres]
  have h32 : R.length ≤ 32 := by rw [← h.len]; exact h.n32
  obtain ⟨g, b, off, hg, rfl, _, _, _⟩ := h.lane hl
  obtain ⟨n, hn⟩ : ∃ n, R.length = n := ⟨_, rfl⟩
  have HX : Hid (∀ W, Below w0.heap.size w0 W → W.cell? ⟨r, 0, none⟩ = some (.slice (some ⟨b, off, none⟩) n c) ∧ W.cell? ⟨b, off + i, none⟩ = some (.pointer (some ⟨g, 0, none⟩)) ∧ Calls Try.prog 33 #[.pointer (some ⟨g, 0, none⟩), .int .i64 t] W fun e w' => ∃ a7 c7, e = .returned (.tuple #[.slice a7 A.length c7, .int .i64 0]) ∧ intE.Own w' w0.heap.size (.slice a7 A.length c7) A ∧ Below w0.heap.size w0 w') := hide (fun W hb => by
    have h' := H.out.keep hb
    obtain ⟨g', b', off', hg', e', c1, hLn, _⟩ := h'.lane hl
    cases e'
    rw [hg] at hg'
    cases hg'
    refine ⟨by rw [← hn]; exact h'.cell, c1, (ahead_yes W hLn hm hk).mono ?_⟩
    rintro e w' ⟨v, rfl, ho, hb'⟩
    rw [hA] at ho
    obtain ⟨a7, c7, rfl⟩ := ho.rd.form
    exact ⟨a7, c7, rfl, ho.mono hb.size, hb.trans (hb'.mono hb.size)⟩)
  have K27 : Hid (∀ W, Below w0.heap.size w0 W → Calls Try.prog 27 #[.pointer (some ⟨r, 0, none⟩)] W fun e w' => ∃ g9 c9, e = .returned (.slice (some ⟨g9, 0, none⟩) n c9) ∧ ldE.Own w' w0.heap.size (.slice (some ⟨g9, 0, none⟩) n c9) (lds R) ∧ Below W.heap.size W w') := hide (fun W hb => (loads_any W (H.out.keep hb)).mono (by
    rintro e w' ⟨a', c', rfl, ho, hb'⟩
    rw [hn] at ho ⊢
    obtain ⟨g9, c9, e9, _⟩ := ho.some (fun e => by have := congrArg List.length e; rw [lds_len] at this; simp at this; rw [this] at hl; cases hl)
    simp only [Value.slice.injEq] at e9
    obtain ⟨rfl, _, rfl⟩ := e9
    exact ⟨g9, c', rfl, ho.mono hb.size, hb'⟩))
  have K26 : Hid (∀ (W : World) (a' : Option Addr) (c' : Nat) (L : List (Nat × Nat)), L.length = n → ldE.Rd W (.slice a' n c') L → Below w0.heap.size w0 W → Calls Try.prog 26 #[.slice a' n c', .int .i64 (i : Int)] W fun e w' => e = .returned (.int .i64 (bst L i)) ∧ Below W.heap.size W w') := hide (fun W a' c' L hL hr hb => best_any a' _ c' L i W hL (by omega) hr)
  have HLb : Hid (∀ (j : Nat) (l : Nat × Nat), (lds R)[j]? = some l → l.1 ≤ 8 + 0 ∧ l.2 ≤ 8) := hide (fun j l' hj => by
    have hjl : j < R.length := by rw [← lds_len]; exact idx_lt hj
    obtain ⟨m, hm⟩ : ∃ m, R[j]? = some m := ⟨_, List.getElem?_eq_getElem hjl⟩
    rw [lds_at hm] at hj
    cases hj
    obtain ⟨_, _, _, _, _, _, hL, _⟩ := h.lane hm
    have := hL.le
    simp only
    omega)
  have Hl0 : Hid ((lds R).length = n) := hide (by rw [lds_len]; exact hn)
  obtain ⟨m, hmA⟩ : ∃ m, A.length = m := ⟨_, rfl⟩
  simp only [hmA] at HX
  have HmA := hide hmA
  have Hres : Hid (res = (pln (i : Int) (lds R) (A.drop 0)).map ([] ++ ·)) := hide (by rw [← hres]; simp)
  have p0 : ((i : Int) == -1) = false := beq_eq_false_iff_ne.2 (by omega)
  have p1 : (0 : Int) ≤ (i : Int) := by omega
  have p2 : (i : Int) < (n : Int) := by omega
  have p3 : (m : Int) ≤ 8 := by omega
  have hAl' : m ≤ 8 := by omega
  generalize lds R = L0 at *
  clear e1 e2 h hw hno hl hm hk hkl eA hA hres hg hil H hmA h32 hn hAl
  go_enter Try.func15, Try.ntmps15
  go_upto_region 4 with (go_at_call 22; refine K22.out.mono ?_; rintro e W1 ⟨rfl, hb⟩; have HB := hide hb; clear hb)
  obtain ⟨c0, c1, K33'⟩ := HX.out W1 HB.out
  have K33 := hide K33'
  clear K33'
  go_upto_region 6 with (first
    | (go_at_call 33; refine K33.out.mono ?_; rintro e W2 ⟨a7, c7, rfl, ho, hb⟩; have HO2 := hide ho; have HB2 := hide hb; clear ho hb)
    | (go_at_call 27; refine (K27.out _ HB2.out).mono ?_; rintro e W3 ⟨g9, c9, rfl, ho, hb⟩; have HL3 := hide ho; have HO3 := hide (HO2.out.keep hb); have HB3 := hide (HB2.out.trans (hb.mono HB2.out.size)); clear ho hb))
  clear c0 c1 K33 K22 HX K27
  go_wp2_with fail
  go_loopw [10, 35] (fun v10 v35 wr => ∃ (k : Nat) (L : List (Nat × Nat)) (ms : List Mv), v35 = .int .i64 k ∧ k ≤ m ∧ Hid (Below w0.heap.size w0 wr) ∧ Hid (L.length = n) ∧ Hid (ldE.Own wr w0.heap.size (.slice (some ⟨g9, 0, none⟩) n c9) L) ∧ Hid (intE.Own wr w0.heap.size (.slice a7 m c7) A) ∧ Hid (mvE.Own wr w0.heap.size v10 ms) ∧ Hid (res = (pln (i : Int) L (A.drop k)).map (ms ++ ·)) ∧ Hid (ms.length = k) ∧ Hid (∀ (j : Nat) (l : Nat × Nat), L[j]? = some l → l.1 ≤ 8 + k ∧ l.2 ≤ 8)) (fun v10 v35 _ => m - (intOf v35).toNat)
  case atStart => exact ⟨0, L0, [], rfl, Nat.zero_le _, HB3, Hl0, HL3, HO3, hide (El.Own.nil _ _ _), Hres, hide rfl, HLb⟩
  case round =>
    obtain ⟨k, L, ms, rfl, hk, HB4, HLn, HL4, HO4, HM4, HR4, Hml, HLb4⟩ := hrel
    by_cases hlt : k < m
    · obtain ⟨x, hx⟩ : ∃ x, A[k]? = some x := ⟨_, List.getElem?_eq_getElem (by rw [HmA.out]; exact hlt)⟩
      obtain ⟨b7, off7, rfl, z0⟩ := int_at HO4.out.rd k x hx
      have j0 : (0 : Int) ≤ (k : Int) := by omega
      have j1 : (k : Int) < (m : Int) := by omega
      have hdr : A.drop k = x :: A.drop (k + 1) := by
        rw [List.drop_eq_getElem_cons (idx_lt hx)]
        rw [List.getElem?_eq_getElem (idx_lt hx)] at hx
        rw [Option.some.inj hx]
      have K := hide (K26.out wr _ _ L HLn.out HL4.out.rd HB4.out)
      rcases bst_is L i with ⟨hb, _⟩ | ⟨j, p, hb, hjn, hp, hji, hp2, _⟩
      · rw [hb] at K
        have e1 : res = none := by rw [HR4.out, hdr, pln, hb, if_pos rfl]; rfl
        subst e1
        clear hb hdr hx
        go_wp2_with (go_at_call 26; refine K.out.mono ?_; rintro e W5 ⟨rfl, hb⟩; have HB5 := hide (HB4.out.trans (hb.mono HB4.out.size)); clear hb)
        go_ret2
        exact ⟨none, 0, rfl, El.Own.nil _ _ _, HB5.out⟩
      · rw [hb] at K
        obtain ⟨u, v⟩ := p
        simp only at hp2
        obtain ⟨v', rfl⟩ : ∃ v', v = v' + 1 := ⟨v - 1, by omega⟩
        have hbd := HLb4.out j _ hp
        simp only at hbd
        have hjn' : j < n := by rw [← HLn.out]; exact hjn
        have q0 : ((j : Int) == -1) = false := beq_eq_false_iff_ne.2 (by omega)
        have q1 : (0 : Int) ≤ (j : Int) := by omega
        have q2 : (j : Int) < (n : Int) := by omega
        have q3 : (u : Int) ≤ 100 := by omega
        have q4 : (v' : Int) ≤ 8 := by omega
        have q5 : (v' : Int) + 1 - 1 = (v' : Int) := by omega
        have hinc := inc_at hp
        simp only [Nat.add_sub_cancel] at hinc
        have HR5 : Hid (res = (pln (i : Int) (inc L j) (A.drop (k + 1))).map ((ms ++ [⟨x, i, j⟩]) ++ ·)) := hide (by
          rw [HR4.out, hdr, pln_step hb, Option.map_map]
          congr 1
          funext q
          simp)
        have HF : Hid (∀ W, Below wr.heap.size wr W → Below w0.heap.size w0 W ∧ W.cell? ⟨g9, j * 2, none⟩ = some (.int .i64 u) ∧ W.cell? ⟨g9, j * 2 + 1, none⟩ = some (.int .i64 ((v' : Int) + 1)) ∧ W.frozen? ⟨g9, j * 2, none⟩ = false ∧ W.frozen? ⟨g9, j * 2 + 1, none⟩ = false ∧
            (∀ W', W' = (W.setCell ⟨g9, j * 2, none⟩ (.int .i64 ((u : Int) + 1))).setCell ⟨g9, j * 2 + 1, none⟩ (.int .i64 (v' : Int)) → Below w0.heap.size w0 W' ∧ ldE.Own W' w0.heap.size (.slice (some ⟨g9, 0, none⟩) n c9) (inc L j) ∧ intE.Own W' w0.heap.size (.slice (some ⟨b7, off7, none⟩) m c7) A ∧ mvE.Own W' w0.heap.size u10 ms)) := hide (fun W hb' => by
          have ho := HL4.out.keep hb'
          have hB := HB4.out.trans (hb'.mono HB4.out.size)
          have k0 := ho.cell (j * 2) (by show j * 2 < L.length * 2; omega)
          have k1 := ho.cell (j * 2 + 1) (by show j * 2 + 1 < L.length * 2; omega)
          have f0 := ldE.fl_at L j 0 (u, v' + 1) hp (by decide)
          have f1 := ldE.fl_at L j 1 (u, v' + 1) hp (by decide)
          have f0' : (ldE.fl L)[j * 2]? = some (.int .i64 u) := f0
          have f1' : (ldE.fl L)[j * 2 + 1]? = some (.int .i64 ((v' + 1 : Nat) : Int)) := f1
          obtain ⟨cur, hcur⟩ := own_type ho g9 rfl
          have hcur : W.heap[g9]? = some (.cells cur 87) := hcur
          refine ⟨hB, by rw [k0.1, f0'], by rw [k1.1, f1']; rfl, k0.2.1, k1.2.1, fun W' e => ?_⟩
          subst e
          have s1 : ldE.Own (W.setCell ⟨g9, j * 2, none⟩ (.int .i64 ((u : Int) + 1))) w0.heap.size (.slice (some ⟨g9, 0, none⟩) n c9) (L.set j (u + 1, v' + 1)) := own_setC (j := 0) (z := (u + 1, v' + 1)) ho hp (by decide) rfl
          have s2 : ldE.Own ((W.setCell ⟨g9, j * 2, none⟩ (.int .i64 ((u : Int) + 1))).setCell ⟨g9, j * 2 + 1, none⟩ (.int .i64 (v' : Int))) w0.heap.size (.slice (some ⟨g9, 0, none⟩) n c9) ((L.set j (u + 1, v' + 1)).set j (u + 1, v')) := own_setC (j := 1) (z := (u + 1, v')) s1 (set_at hp) (by decide) rfl
          rw [List.set_set] at s2
          rw [hinc]
          have hcur2 := heap_put (i := j * 2) hcur (.int .i64 ((u : Int) + 1))
          have hO := HO4.out.keep hb'
          have hM := HM4.out.keep hb'
          have hO1 := own_set_other (i := j * 2) (u := .int .i64 ((u : Int) + 1)) hO (zown_ne hO hcur (by decide))
          have hM1 := own_set_other (i := j * 2) (u := .int .i64 ((u : Int) + 1)) hM (zown_ne hM hcur (by decide))
          exact ⟨(hB.setCell k0.2.2 _).setCell k0.2.2 _, s2, own_set_other hO1 (zown_ne hO1 hcur2 (by decide)), own_set_other hM1 (zown_ne hM1 hcur2 (by decide))⟩)
        have Hln1 : Hid ((inc L j).length = n) := hide (by rw [inc_len]; exact HLn.out)
        have HLb5 : Hid (∀ (y : Nat) (l : Nat × Nat), (inc L j)[y]? = some l → l.1 ≤ 8 + (k + 1) ∧ l.2 ≤ 8) := hide (fun y l hy => by
          rw [hinc, List.getElem?_set] at hy
          by_cases e : j = y
          · subst e
            rw [if_pos rfl, if_pos hjn] at hy
            cases hy
            simp only
            omega
          · rw [if_neg e] at hy
            have := HLb4.out y l hy
            omega)
        have Hml1 : Hid ((ms ++ [(⟨x, i, j⟩ : Mv)]).length = k + 1) := hide (by rw [List.length_append, Hml.out]; rfl)
        have HLm : Hid (ms.length + [(⟨x, i, j⟩ : Mv)].length ≤ 1000000) := hide (by rw [Hml.out]; simp; omega)
        have Hbs : Hid (∀ W (o : Obj), Below W.heap.size W (W.alloc o)) := hide (fun W o => (Below.refl _ _).alloc (Nat.le_refl _) o)
        generalize inc L j = L' at *
        clear hb hdr hx hp hji hp2 hbd hjn hjn' hinc HLb4 HR4 HLn HL4 HLb HO4 HM4
        go_upto_region 11 with (go_at_call 26; refine K.out.mono ?_; rintro e W5 ⟨rfl, hb⟩; have HB5 := hide hb; clear hb)
        obtain ⟨hB5, d0, d1, f0, f1, hW'⟩ := HF.out W5 HB5.out
        have HW' := hide hW'
        clear hB5 hW'
        go_upto_region 15 with fail
        obtain ⟨hB6, hL6, hO6, hM6⟩ := HW'.out _ rfl
        have HB6 := hide hB6
        have HL6 := hide hL6
        have HO6 := hide hO6
        have HM6 := hide hM6
        clear hB6 hL6 hO6 hM6 d0 d1 f0 f1 HW' HF
        generalize (W5.setCell ⟨g9, j * 2, none⟩ (.int .i64 ((u : Int) + 1))).setCell ⟨g9, j * 2 + 1, none⟩ (.int .i64 (v' : Int)) = W6 at *
        have HNw : Hid (mvE.Rd (W6.alloc (.cells #[.int .i64 x, .int .i64 (i : Int), .int .i64 (j : Int)] 50)) (.slice (some ⟨W6.heap.size, 0, none⟩) 1 1) [⟨x, i, j⟩]) := hide (mv_new _ _ _ _ _ rfl)
        have HBa : Hid (Below w0.heap.size w0 (W6.alloc (.cells #[.int .i64 x, .int .i64 (i : Int), .int .i64 (j : Int)] 50))) := hide (HB6.out.alloc HB6.out.size _)
        have HMa : Hid (mvE.Own (W6.alloc (.cells #[.int .i64 x, .int .i64 (i : Int), .int .i64 (j : Int)] 50)) w0.heap.size u10 ms) := hide (HM6.out.keep (Hbs.out _ _))
        have HKp : Hid (∀ W7, (W6.alloc (.cells #[.int .i64 x, .int .i64 (i : Int), .int .i64 (j : Int)] 50)).grownBy W7 u10.ownBlock → ldE.Own W7 w0.heap.size (.slice (some ⟨g9, 0, none⟩) n c9) L' ∧ intE.Own W7 w0.heap.size (.slice (some ⟨b7, off7, none⟩) m c7) A) := hide (fun W7 hg => by
          have hl := HL6.out.keep (Hbs.out W6 (.cells #[.int .i64 x, .int .i64 (i : Int), .int .i64 (j : Int)] 50))
          have ho := HO6.out.keep (Hbs.out W6 (.cells #[.int .i64 x, .int .i64 (i : Int), .int .i64 (j : Int)] 50))
          refine ⟨own_chg hl fun g cur hb hc => hg.block g (heap_lt hc) (fun e => ?_), own_chg ho fun g cur hb hc => hg.block g (heap_lt hc) (fun e => ?_)⟩
          · exact zown_ne HMa.out hc (by decide) e.symm
          · exact zown_ne HMa.out hc (by decide) e.symm)
        go_wp2_with (at_builtin; refine mvE.wp (w0 := w0) HBa.out (by rfl) _ _ rfl _ _ rfl rfl _ [⟨x, i, j⟩] HMa.out HNw.out HLm.out ?_; intro vv ww ho hg hs hb; have HM7 := hide ho; have HB7 := hide hb; obtain ⟨hk1, hk2⟩ := HKp.out _ hg; have HL7 := hide hk1; have HO7 := hide hk2; clear ho hg hs hb hk1 hk2)
        go_roundw
        case rel => exact ⟨k + 1, L', ms ++ [⟨x, i, j⟩], by go_num, by omega, HB7, Hln1, HL7, HO7, HM7, HR5, Hml1, HLb5⟩
        case measure => simp [intOf]; omega
    · obtain rfl : k = m := by omega
      have j1 : ¬ (k : Int) < (k : Int) := by omega
      have e1 : res = some ms := by rw [HR4.out, ← HmA.out, List.drop_length, pln]; simp
      subst e1
      have HNw : Hid (mvE.Rd (wr.alloc (.cells #[.int .i64 t, .int .i64 (i : Int), .int .i64 (-1)] 50)) (.slice (some ⟨wr.heap.size, 0, none⟩) 1 1) [⟨t, i, -1⟩]) := hide (mv_new _ _ _ _ _ rfl)
      have HBa : Hid (Below w0.heap.size w0 (wr.alloc (.cells #[.int .i64 t, .int .i64 (i : Int), .int .i64 (-1)] 50))) := hide (HB4.out.alloc HB4.out.size _)
      have HMa : Hid (mvE.Own (wr.alloc (.cells #[.int .i64 t, .int .i64 (i : Int), .int .i64 (-1)] 50)) w0.heap.size u10 ms) := hide (HM4.out.keep ((Below.refl _ _).alloc (Nat.le_refl _) _))
      have HLm : Hid (ms.length + [(⟨t, i, -1⟩ : Mv)].length ≤ 1000000) := hide (by rw [Hml.out]; simp; omega)
      go_wp2_with (at_builtin; refine mvE.wp (w0 := w0) HBa.out (by rfl) _ _ rfl _ _ rfl rfl _ [⟨t, i, -1⟩] HMa.out HNw.out HLm.out ?_; intro vv ww ho hg hs hb; have HM7 := hide ho; have HB7 := hide hb; clear ho hg hs hb)
      obtain ⟨a8, c8, hv⟩ := HM7.out.rd.form
      rw [List.length_append, List.length_singleton] at hv
      refine bodyPost_ret (v := .tuple #[vv, .int .i64 0]) (by simp [results, Try.results15, go_sem]) rfl ⟨a8, c8, ?_, ?_, HB7.out⟩
      · rw [hv]
      · have := HM7.out
        rw [hv] at this
        first | exact this | simpa using this
end
end Go.Proofs.Ytddcjkbdgneklaa
