/- The document's plant in memory; Where, At, Works, LastOf, Dist. -/
import Derived.Test.YthcdfclhenmleaaPag
import Derived.Test.YthcdfclhenmleaaDpt
namespace Go.Proofs.Ythcdfclhenmleaa
open Go.RowKit
set_option linter.unusedVariables false

def spE : El Try.prog (Int × Int) where
  t := 34
  e := 79
  k := 2
  by' := 16
  z := .agg #[.int .i64 0, .int .i64 0]
  enc e := [.int .i64 e.1, .int .i64 e.2]
  ht := Try.underlying34
  info := by kernel_rfl
  zc := rfl
  kpos := by omega
  bsm := by omega
  len _ := rfl
  one x v hv := by simp at hv; rcases hv with rfl | rfl <;> rfl
def lsE : El Try.prog Ls where
  t := 36
  e := 84
  k := 3
  by' := 16
  z := .agg #[.int .i64 0, .int .u16 0, .int .u16 0]
  enc x := [.int .i64 x.dev, .int .u16 x.seq, .int .u16 x.tote]
  ht := Try.underlying36
  info := by kernel_rfl
  zc := rfl
  kpos := by omega
  bsm := by omega
  len _ := rfl
  one x v hv := by simp at hv; rcases hv with rfl | rfl | rfl <;> rfl
theorem sp_at {w : World} {a : Option Addr} {n c : Nat} {l : List (Int × Int)} (h : spE.Rd w (.slice a n c) l) (i : Nat) (p : Int × Int) (hp : l[i]? = some p) : ∃ b off, a = some ⟨b, off, none⟩ ∧ w.cell? ⟨b, off + i * 2, none⟩ = some (.int .i64 p.1) ∧ w.cell? ⟨b, off + i * 2 + 1, none⟩ = some (.int .i64 p.2) := by
  obtain ⟨b, off, e, hc⟩ := h.at i p hp
  exact ⟨b, off, e, hc 0 (by decide), hc 1 (by decide)⟩
theorem ls_at {w : World} {a : Option Addr} {n c : Nat} {l : List Ls} (h : lsE.Rd w (.slice a n c) l) (i : Nat) (p : Ls) (hp : l[i]? = some p) : ∃ b off, a = some ⟨b, off, none⟩ ∧ w.cell? ⟨b, off + i * 3, none⟩ = some (.int .i64 p.dev) ∧ w.cell? ⟨b, off + i * 3 + 1, none⟩ = some (.int .u16 p.seq) ∧ w.cell? ⟨b, off + i * 3 + 2, none⟩ = some (.int .u16 p.tote) := by
  obtain ⟨b, off, e, hc⟩ := h.at i p hp
  exact ⟨b, off, e, hc 0 (by decide), hc 1 (by decide), hc 2 (by decide)⟩
/-- where its lists lie -/
structure Vp where
  aS : Option Addr
  nS : Nat
  cS : Nat
  aD : Option Addr
  nD : Nat
  cD : Nat
  aL : Option Addr
  nL : Nat
  cL : Nat
/-- how long its lists are, and how long they may be -/
structure DF (V : Vp) (R : Rp) (k : Nat) : Prop where
  lS : R.sp.length = V.nS
  lD : R.bk.length = V.nD
  lL : R.la.length = V.nL
  bS : V.nS ≤ k
  bD : V.nD ≤ k
  bL : V.nL ≤ k
  bk : k ≤ 1000
  mv : 0 ≤ R.mv ∧ R.mv ≤ k
def dparts (B : Nat) (V : Vp) (R : Rp) : List It := [.row spE B (.slice V.aS V.nS V.cS) R.sp, .ints B (.slice V.aD V.nD V.cD) R.bk, .row lsE B (.slice V.aL V.nL V.cL) R.la]
def It.dm (B : Nat) (V : Vp) (R : Rp) (k : Nat) : It := .grp (.fact (DF V R k) :: dparts B V R)
section
variable {w : World} {B k : Nat} {V : Vp} {R : Rp}
theorem dm_f (h : (It.dm B V R k).P w) : DF V R k := h.1 (.fact (DF V R k)) (by simp)
theorem dm_s (h : (It.dm B V R k).P w) : spE.Own w B (.slice V.aS V.nS V.cS) R.sp := h.1 (.row spE B (.slice V.aS V.nS V.cS) R.sp) (by simp [dparts])
theorem dm_d (h : (It.dm B V R k).P w) : intE.Own w B (.slice V.aD V.nD V.cD) R.bk := h.1 (.ints B (.slice V.aD V.nD V.cD) R.bk) (by simp [dparts])
theorem dm_l (h : (It.dm B V R k).P w) : lsE.Own w B (.slice V.aL V.nL V.cL) R.la := h.1 (.row lsE B (.slice V.aL V.nL V.cL) R.la) (by simp [dparts])
theorem Its.dopen {w0 : World} {l : List It} (h : Its w0 (.dm B V R k :: l) w) : Its w0 (dparts B V R ++ l) w ∧ DF V R k := ⟨h.opn.tail, dm_f h.one⟩
theorem Its.dshut {w0 : World} {l : List It} (h : Its w0 (dparts B V R ++ l) w) (hl : DF V R k) : Its w0 (.dm B V R k :: l) w :=
  Its.shut (a := .fact (DF V R k) :: dparts B V R) (h.new (x := .fact (DF V R k)) hl (fun k hk => hk.elim) (Below.refl _ _))
end
/-- the box of a plant that is handed by value -/
theorem mbox (w : World) (x0 x1 x2 x3 x4 x5 : Value) : (w.alloc (.cells #[x0, x1, x2, x3, x4, x5] 38)).heap[w.heap.size]? = some (.cells #[x0, x1, x2, x3, x4, x5] 38) := heap_new _ _
theorem mcells {w : World} {g : Nat} {x0 x1 x2 x3 x4 x5 : Value} (h : w.heap[g]? = some (.cells #[x0, x1, x2, x3, x4, x5] 38)) : w.cell? ⟨g, 0, none⟩ = some x0 ∧ w.cell? ⟨g, 1, none⟩ = some x1 ∧ w.cell? ⟨g, 2, none⟩ = some x2 ∧ w.cell? ⟨g, 3, none⟩ = some x3 ∧ w.cell? ⟨g, 4, none⟩ = some x4 ∧ w.cell? ⟨g, 5, none⟩ = some x5 :=
  ⟨(cells_at h 0).1, (cells_at h 1).1, (cells_at h 2).1, (cells_at h 3).1, (cells_at h 4).1, (cells_at h 5).1⟩

section
variable {w : World} {B k : Nat} {V : Vp} {R : Rp} {a b : Option Addr} {c e n m : Nat}
set_option maxRecDepth 100000 in
set_option maxHeartbeats 2000000 in
theorem rwhere_any (h : (It.dm B V R k).P w) (x : Int) : Calls Try.prog 31 #[.agg #[.slice a n c, .slice b m e, .slice V.aS V.nS V.cS, .slice V.aD V.nD V.cD, .slice V.aL V.nL V.cL, .int .i64 R.mv], .int .i64 x] w fun e w' => e = .returned (.int .i64 (R.whr x)) ∧ Below w.heap.size w w' := by
  have hf := dm_f h
  obtain ⟨w1, hw1⟩ : ∃ w1, w.alloc (.cells #[.slice a n c, .slice b m e, .slice V.aS V.nS V.cS, .slice V.aD V.nD V.cD, .slice V.aL V.nL V.cL, .int .i64 R.mv] 38) = w1 := ⟨_, rfl⟩
  have b1 : Below w.heap.size w w1 := by rw [← hw1]; exact below_new _ _
  obtain ⟨c0, c1, c2, c3, c4, c5⟩ := mcells (w := w1) (by rw [← hw1]; exact mbox w _ _ _ _ _ _)
  have HV := hide (dm_s ((It.dm B V R k).keep h b1)).rd
  have HB := hide b1
  have Hl := hide hf.lS
  have i0 : (V.nS : Int) ≤ 1000 := by have := hf.bS; have := hf.bk; omega
  have yesY : Hid (∀ (i : Nat) p, R.sp[i]? = some p → isTo x p = true → (∀ j d, j < i → R.sp[j]? = some d → isTo x d = false) → R.whr x = p.2) := hide (fun i p h1 h2 h3 => by
    have e : R.sp.find? (isTo x) = some p := by
      rw [List.find?_eq_some_iff_getElem]
      refine ⟨h2, i, idx_lt h1, ?_, fun j hj => ?_⟩
      · have := List.getElem?_eq_getElem (idx_lt h1)
        rw [h1] at this
        exact (Option.some.inj this).symm
      · have := h3 j _ hj (List.getElem?_eq_getElem (Nat.lt_trans hj (idx_lt h1)))
        simpa using this
    unfold Rp.whr
    rw [e])
  have noN : Hid ((∀ (j : Nat) d, j < V.nS → R.sp[j]? = some d → isTo x d = false) → R.whr x = -1) := hide (fun hno => by
    have e : R.sp.find? (isTo x) = none := by
      rw [List.find?_eq_none]
      intro p hp
      obtain ⟨j, hj⟩ := List.getElem?_of_mem hp
      have := hno j p (by rw [← Hl.out]; exact idx_lt hj) hj
      simpa using this
    unfold Rp.whr
    rw [e])
  subst hw1
  clear h hf b1
  generalize R.whr x = res at *
  obtain ⟨aS, nS, cS, aD, nD, cD, aL, nL, cL⟩ := V
  dsimp only at *
  generalize R.mv = mv at *
  go_enter Try.func31, Try.ntmps31
  go_wp2_with fail
  go_loopw [9] (fun v9 wr => ∃ i : Nat, wr = w.alloc (.cells #[.slice a n c, .slice b m e, .slice aS nS cS, .slice aD nD cD, .slice aL nL cL, .int .i64 mv] 38) ∧ v9 = .int .i64 i ∧ i ≤ nS ∧ Hid (∀ j d, j < i → R.sp[j]? = some d → isTo x d = false)) (fun v9 _ => nS - (intOf v9).toNat)
  case atStart => exact ⟨0, rfl, rfl, Nat.zero_le _, hide (fun j d h => by omega)⟩
  case round =>
    obtain ⟨i, rfl, rfl, hi, HX⟩ := hrel
    by_cases hlt : i < nS
    · obtain ⟨p, hp⟩ : ∃ p, R.sp[i]? = some p := ⟨_, List.getElem?_eq_getElem (by rw [Hl.out]; exact hlt)⟩
      obtain ⟨bb, off, rfl, d0, d1⟩ := sp_at HV.out i p hp
      have j0 : (0 : Int) ≤ (i : Int) := by omega
      have j1 : (i : Int) < (nS : Int) := by omega
      have Hp := hide hp
      clear hp
      by_cases he : p.1 = x
      · have e1 := yesY.out i p Hp.out (decide_eq_true he) HX.out
        have he' : (p.1 == x) = true := by rw [he]; simp
        have d9 := d0
        rw [he] at d9
        subst e1
        go_wp2_with fail
        go_ret
        exact ⟨rfl, HB.out⟩
      · have hbe : (p.1 == x) = false := beq_eq_false_iff_ne.2 he
        have HX1 : Hid (∀ j d, j < i + 1 → R.sp[j]? = some d → isTo x d = false) := hide (fun j d hj hd => by
          rcases Nat.lt_or_ge j i with g | g
          · exact HX.out j d g hd
          · obtain rfl : j = i := by omega
            rw [Hp.out] at hd
            cases hd
            exact decide_eq_false he)
        go_wp2_with fail
        go_roundw
        case rel => exact ⟨i + 1, trivial, by go_num, by omega, HX1⟩
        case measure => simp [intOf]; omega
    · have j1 : ¬ (i : Int) < (nS : Int) := by omega
      have e1 := noN.out (fun j d hj hd => HX.out j d (by omega) hd)
      subst e1
      go_wp2_with fail
      go_ret
      exact ⟨rfl, HB.out⟩
set_option maxRecDepth 100000 in
set_option maxHeartbeats 2000000 in
theorem rat_any (h : (It.dm B V R k).P w) (x : Int) : Calls Try.prog 32 #[.agg #[.slice a n c, .slice b m e, .slice V.aS V.nS V.cS, .slice V.aD V.nD V.cD, .slice V.aL V.nL V.cL, .int .i64 R.mv], .int .i64 x] w fun e w' => e = .returned (.int .i64 (R.att x)) ∧ Below w.heap.size w w' := by
  have hf := dm_f h
  obtain ⟨w1, hw1⟩ : ∃ w1, w.alloc (.cells #[.slice a n c, .slice b m e, .slice V.aS V.nS V.cS, .slice V.aD V.nD V.cD, .slice V.aL V.nL V.cL, .int .i64 R.mv] 38) = w1 := ⟨_, rfl⟩
  have b1 : Below w.heap.size w w1 := by rw [← hw1]; exact below_new _ _
  obtain ⟨c0, c1, c2, c3, c4, c5⟩ := mcells (w := w1) (by rw [← hw1]; exact mbox w _ _ _ _ _ _)
  have HV := hide (dm_s ((It.dm B V R k).keep h b1)).rd
  have HB := hide b1
  have Hl := hide hf.lS
  have i0 : (V.nS : Int) ≤ 1000 := by have := hf.bS; have := hf.bk; omega
  have yesY : Hid (∀ (i : Nat) p, R.sp[i]? = some p → isNo x p = true → (∀ j d, j < i → R.sp[j]? = some d → isNo x d = false) → R.att x = p.1) := hide (fun i p h1 h2 h3 => by
    have e : R.sp.find? (isNo x) = some p := by
      rw [List.find?_eq_some_iff_getElem]
      refine ⟨h2, i, idx_lt h1, ?_, fun j hj => ?_⟩
      · have := List.getElem?_eq_getElem (idx_lt h1)
        rw [h1] at this
        exact (Option.some.inj this).symm
      · have := h3 j _ hj (List.getElem?_eq_getElem (Nat.lt_trans hj (idx_lt h1)))
        simpa using this
    unfold Rp.att
    rw [e])
  have noN : Hid ((∀ (j : Nat) d, j < V.nS → R.sp[j]? = some d → isNo x d = false) → R.att x = 0) := hide (fun hno => by
    have e : R.sp.find? (isNo x) = none := by
      rw [List.find?_eq_none]
      intro p hp
      obtain ⟨j, hj⟩ := List.getElem?_of_mem hp
      have := hno j p (by rw [← Hl.out]; exact idx_lt hj) hj
      simpa using this
    unfold Rp.att
    rw [e])
  subst hw1
  clear h hf b1
  generalize R.att x = res at *
  obtain ⟨aS, nS, cS, aD, nD, cD, aL, nL, cL⟩ := V
  dsimp only at *
  generalize R.mv = mv at *
  go_enter Try.func32, Try.ntmps32
  go_wp2_with fail
  go_loopw [9] (fun v9 wr => ∃ i : Nat, wr = w.alloc (.cells #[.slice a n c, .slice b m e, .slice aS nS cS, .slice aD nD cD, .slice aL nL cL, .int .i64 mv] 38) ∧ v9 = .int .i64 i ∧ i ≤ nS ∧ Hid (∀ j d, j < i → R.sp[j]? = some d → isNo x d = false)) (fun v9 _ => nS - (intOf v9).toNat)
  case atStart => exact ⟨0, rfl, rfl, Nat.zero_le _, hide (fun j d h => by omega)⟩
  case round =>
    obtain ⟨i, rfl, rfl, hi, HX⟩ := hrel
    by_cases hlt : i < nS
    · obtain ⟨p, hp⟩ : ∃ p, R.sp[i]? = some p := ⟨_, List.getElem?_eq_getElem (by rw [Hl.out]; exact hlt)⟩
      obtain ⟨bb, off, rfl, d0, d1⟩ := sp_at HV.out i p hp
      have j0 : (0 : Int) ≤ (i : Int) := by omega
      have j1 : (i : Int) < (nS : Int) := by omega
      have Hp := hide hp
      clear hp
      by_cases he : p.2 = x
      · have e1 := yesY.out i p Hp.out (decide_eq_true he) HX.out
        have he' : (p.2 == x) = true := by rw [he]; simp
        have d9 := d1
        rw [he] at d9
        subst e1
        go_wp2_with fail
        go_ret
        exact ⟨rfl, HB.out⟩
      · have hbe : (p.2 == x) = false := beq_eq_false_iff_ne.2 he
        have HX1 : Hid (∀ j d, j < i + 1 → R.sp[j]? = some d → isNo x d = false) := hide (fun j d hj hd => by
          rcases Nat.lt_or_ge j i with g | g
          · exact HX.out j d g hd
          · obtain rfl : j = i := by omega
            rw [Hp.out] at hd
            cases hd
            exact decide_eq_false he)
        go_wp2_with fail
        go_roundw
        case rel => exact ⟨i + 1, trivial, by go_num, by omega, HX1⟩
        case measure => simp [intOf]; omega
    · have j1 : ¬ (i : Int) < (nS : Int) := by omega
      have e1 := noN.out (fun j d hj hd => HX.out j d (by omega) hd)
      subst e1
      go_wp2_with fail
      go_ret
      exact ⟨rfl, HB.out⟩
set_option maxRecDepth 100000 in
set_option maxHeartbeats 2000000 in
theorem rworks_any (h : (It.dm B V R k).P w) (x : Int) : Calls Try.prog 35 #[.agg #[.slice a n c, .slice b m e, .slice V.aS V.nS V.cS, .slice V.aD V.nD V.cD, .slice V.aL V.nL V.cL, .int .i64 R.mv], .int .i64 x] w fun e w' => e = .returned (.bool (R.wrk m x)) ∧ Below w.heap.size w w' := by
  have hf := dm_f h
  obtain ⟨w1, hw1⟩ : ∃ w1, w.alloc (.cells #[.slice a n c, .slice b m e, .slice V.aS V.nS V.cS, .slice V.aD V.nD V.cD, .slice V.aL V.nL V.cL, .int .i64 R.mv] 38) = w1 := ⟨_, rfl⟩
  have b1 : Below w.heap.size w w1 := by rw [← hw1]; exact below_new _ _
  obtain ⟨c0, c1, c2, c3, c4, c5⟩ := mcells (w := w1) (by rw [← hw1]; exact mbox w _ _ _ _ _ _)
  have HV := hide (dm_d ((It.dm B V R k).keep h b1)).rd
  have HB := hide b1
  have Hl := hide hf.lD
  have i0 : (V.nD : Int) ≤ 1000 := by have := hf.bD; have := hf.bk; omega
  have yesY : Hid (∀ (i : Nat) p, R.bk[i]? = some p → eqI x p = true → (∀ j d, j < i → R.bk[j]? = some d → eqI x d = false) → R.wrk m x = false) := hide (fun i p h1 h2 h3 => by
    unfold Rp.wrk
    rw [decide_eq_true (by have := of_decide_eq_true h2; rw [← this]; exact List.mem_of_getElem? h1)]; rfl)
  have noN : Hid ((∀ (j : Nat) d, j < V.nD → R.bk[j]? = some d → eqI x d = false) → R.wrk m x = decide (1 ≤ x ∧ x ≤ (m : Int))) := hide (fun hno => by
    unfold Rp.wrk
    rw [decide_eq_false (fun hm => by obtain ⟨j, hj⟩ := List.getElem?_of_mem hm; have := hno j x (by rw [← Hl.out]; exact idx_lt hj) hj; simp [eqI] at this)]; rfl)
  subst hw1
  clear h hf b1
  generalize R.wrk m x = res at *
  obtain ⟨aS, nS, cS, aD, nD, cD, aL, nL, cL⟩ := V
  dsimp only at *
  generalize R.mv = mv at *
  go_enter Try.func35, Try.ntmps35
  go_wp2_with fail
  go_loopw [9] (fun v9 wr => ∃ i : Nat, wr = w.alloc (.cells #[.slice a n c, .slice b m e, .slice aS nS cS, .slice aD nD cD, .slice aL nL cL, .int .i64 mv] 38) ∧ v9 = .int .i64 i ∧ i ≤ nD ∧ Hid (∀ j d, j < i → R.bk[j]? = some d → eqI x d = false)) (fun v9 _ => nD - (intOf v9).toNat)
  case atStart => exact ⟨0, rfl, rfl, Nat.zero_le _, hide (fun j d h => by omega)⟩
  case round =>
    obtain ⟨i, rfl, rfl, hi, HX⟩ := hrel
    by_cases hlt : i < nD
    · obtain ⟨p, hp⟩ : ∃ p, R.bk[i]? = some p := ⟨_, List.getElem?_eq_getElem (by rw [Hl.out]; exact hlt)⟩
      obtain ⟨bb, off, rfl, d0⟩ := int_at HV.out i p hp
      have j0 : (0 : Int) ≤ (i : Int) := by omega
      have j1 : (i : Int) < (nD : Int) := by omega
      have Hp := hide hp
      clear hp
      by_cases he : p = x
      · have e1 := yesY.out i p Hp.out (decide_eq_true he) HX.out
        have he' : (p == x) = true := by rw [he]; simp
        have d9 := d0
        rw [he] at d9
        subst e1
        go_wp2_with fail
        go_ret
        exact ⟨rfl, HB.out⟩
      · have hbe : (p == x) = false := beq_eq_false_iff_ne.2 he
        have HX1 : Hid (∀ j d, j < i + 1 → R.bk[j]? = some d → eqI x d = false) := hide (fun j d hj hd => by
          rcases Nat.lt_or_ge j i with g | g
          · exact HX.out j d g hd
          · obtain rfl : j = i := by omega
            rw [Hp.out] at hd
            cases hd
            exact decide_eq_false he)
        go_wp2_with fail
        go_roundw
        case rel => exact ⟨i + 1, trivial, by go_num, by omega, HX1⟩
        case measure => simp [intOf]; omega
    · have j1 : ¬ (i : Int) < (nD : Int) := by omega
      have e1 := noN.out (fun j d hj hd => HX.out j d (by omega) hd)
      by_cases h1 : 1 ≤ x
      · by_cases h2 : x ≤ (m : Int)
        · obtain rfl : res = true := by rw [e1]; exact decide_eq_true ⟨h1, h2⟩
          clear e1
          go_wp2_with fail
          go_ret
          exact ⟨rfl, HB.out⟩
        · obtain rfl : res = false := by rw [e1]; exact decide_eq_false (fun h => h2 h.2)
          clear e1
          go_wp2_with fail
          go_ret
          exact ⟨rfl, HB.out⟩
      · obtain rfl : res = false := by rw [e1]; exact decide_eq_false (fun h => h1 h.1)
        clear e1
        go_wp2_with fail
        go_ret
        exact ⟨rfl, HB.out⟩
end
set_option maxRecDepth 100000 in
set_option maxHeartbeats 1000000 in
theorem rdist_any (a b : Int) (w : World) (h0 : 0 ≤ a ∧ a ≤ 65535) (h1 : 0 ≤ b ∧ b ≤ 65535) : Calls Try.prog 37 #[.int .u16 a, .int .u16 b] w fun e w' => e = .returned (.int .i64 (dst a b)) ∧ w' = w := by
  obtain ⟨a0, a1⟩ := h0
  obtain ⟨b0, b1⟩ := h1
  obtain ⟨d, hd0, hd1, hd⟩ : ∃ d : Int, -1 ≤ d ∧ d ≤ 1 ∧ dst a b = b - a + d * 65536 := by
    by_cases h : b - a < -32768
    · exact ⟨1, by omega, by omega, by unfold dst up; split <;> omega⟩
    · by_cases h' : 32767 < b - a
      · exact ⟨-1, by omega, by omega, by unfold dst up; split <;> omega⟩
      · exact ⟨0, by omega, by omega, by unfold dst up; split <;> omega⟩
  have hi := dst_in a b
  rw [hd] at hi ⊢
  clear hd
  obtain ⟨i0, i1⟩ := hi
  go_enter Try.func37, Try.ntmps37
  go_wp2_with fail
  go_loopw [5] (fun i wr => ∃ k : Int, -1 ≤ k ∧ k ≤ d ∧ i = .int .i64 k ∧ wr = w) (fun i _ => (2 - intOf i).toNat)
  case atStart => exact ⟨-1, by omega, by omega, rfl, rfl⟩
  case round =>
    obtain ⟨k, k0, k1, rfl, rfl⟩ := hrel
    by_cases he : k = d
    · subst he
      go_wp2_with fail
      go_ret
      exact ⟨rfl, rfl⟩
    · have h : b - a + k * 65536 < -32768 := by omega
      go_wp2_with fail
      go_roundw
      case rel => exact ⟨k + 1, by omega, by omega, by go_num, by first | rfl | trivial⟩
      case measure => simp [intOf]; omega
theorem Its.out3 {w0 w : World} {b : Nat} {p0 p1 p2 : Value} {t : TypeId} {l : List It} (h : Its w0 (.box b #[p0, p1, p2] t :: l) w) (x0 x1 x2 : Value) : Its w0 (.box b #[x0, x1, x2] t :: l) (((w.setCell ⟨b, 0, none⟩ x0).setCell ⟨b, 1, none⟩ x1).setCell ⟨b, 2, none⟩ x2) := ((h.put1 0 x0).put1 1 x1).put1 2 x2
theorem Its.cells3 {w0 w : World} {b : Nat} {p0 p1 p2 : Value} {t : TypeId} {l : List It} (h : Its w0 (.box b #[p0, p1, p2] t :: l) w) : w.cell? ⟨b, 0, none⟩ = some p0 ∧ w.cell? ⟨b, 1, none⟩ = some p1 ∧ w.cell? ⟨b, 2, none⟩ = some p2 ∧ (∀ i, w.frozen? ⟨b, i, none⟩ = false) :=
  ⟨(cells_at h.one 0).1, (cells_at h.one 1).1, (cells_at h.one 2).1, fun i => (cells_at h.one i).2⟩
section
variable {w : World} {B k : Nat} {V : Vp} {R : Rp} {a b : Option Addr} {c e n m : Nat}
set_option maxRecDepth 100000 in
set_option maxHeartbeats 2000000 in
theorem rlast_any (h : (It.dm B V R k).P w) (x : Int) : Calls Try.prog 36 #[.agg #[.slice a n c, .slice b m e, .slice V.aS V.nS V.cS, .slice V.aD V.nD V.cD, .slice V.aL V.nL V.cL, .int .i64 R.mv], .int .i64 x] w fun r9 w' => r9 = .returned (.tuple #[.agg #[.int .i64 (R.lst x).1.dev, .int .u16 (R.lst x).1.seq, .int .u16 (R.lst x).1.tote], .bool (R.lst x).2]) ∧ Below w.heap.size w w' := by
  have hf := dm_f h
  have I1 : Hid (Its w [.box (w.heap.size + 1) #[.int .i64 0, .int .u16 0, .int .u16 0] 84, .box w.heap.size #[.slice a n c, .slice b m e, .slice V.aS V.nS V.cS, .slice V.aD V.nD V.cD, .slice V.aL V.nL V.cL, .int .i64 R.mv] 38] ((w.alloc (.cells #[.slice a n c, .slice b m e, .slice V.aS V.nS V.cS, .slice V.aD V.nD V.cD, .slice V.aL V.nL V.cL, .int .i64 R.mv] 38)).alloc (.cells #[.int .i64 0, .int .u16 0, .int .u16 0] 84))) := hide (((Its.nil w).box1 #[.slice a n c, .slice b m e, .slice V.aS V.nS V.cS, .slice V.aD V.nD V.cD, .slice V.aL V.nL V.cL, .int .i64 R.mv] 38).boxN #[.int .i64 0, .int .u16 0, .int .u16 0] 84 (n := w.heap.size + 1) (by show (w.heap.push _).size = _; simp))
  have HV := hide (dm_l ((It.dm B V R k).keep h I1.out.bel)).rd
  have HC : Hid (∀ W, Its w [.box (w.heap.size + 1) #[.int .i64 0, .int .u16 0, .int .u16 0] 84, .box w.heap.size #[.slice a n c, .slice b m e, .slice V.aS V.nS V.cS, .slice V.aD V.nD V.cD, .slice V.aL V.nL V.cL, .int .i64 R.mv] 38] W → W.cell? ⟨w.heap.size, 3, none⟩ = some (.slice V.aD V.nD V.cD) ∧ W.cell? ⟨w.heap.size, 4, none⟩ = some (.slice V.aL V.nL V.cL)) := hide (fun W h => ⟨(cells_at h.two 3).1, (cells_at h.two 4).1⟩)
  have Hl := hide hf.lL
  have i0 : (V.nL : Int) ≤ 1000 := by have := hf.bL; have := hf.bk; omega
  have yesY : Hid (∀ (i : Nat) p, R.la[i]? = some p → isDv x p = true → (∀ j d, j < i → R.la[j]? = some d → isDv x d = false) → R.lst x = (p, true)) := hide (fun i p h1 h2 h3 => by
    have e : R.la.find? (isDv x) = some p := by
      rw [List.find?_eq_some_iff_getElem]
      refine ⟨h2, i, idx_lt h1, ?_, fun j hj => ?_⟩
      · have := List.getElem?_eq_getElem (idx_lt h1)
        rw [h1] at this
        exact (Option.some.inj this).symm
      · have := h3 j _ hj (List.getElem?_eq_getElem (Nat.lt_trans hj (idx_lt h1)))
        simpa using this
    unfold Rp.lst
    rw [e])
  have noN : Hid ((∀ (j : Nat) d, j < V.nL → R.la[j]? = some d → isDv x d = false) → R.lst x = (lz, false)) := hide (fun hno => by
    have e : R.la.find? (isDv x) = none := by
      rw [List.find?_eq_none]
      intro p hp
      obtain ⟨j, hj⟩ := List.getElem?_of_mem hp
      have := hno j p (by rw [← Hl.out]; exact idx_lt hj) hj
      simpa using this
    unfold Rp.lst
    rw [e])
  clear h hf
  obtain ⟨res, hres⟩ : ∃ res, R.lst x = res := ⟨_, rfl⟩
  rw [hres] at yesY noN ⊢
  clear hres
  obtain ⟨aS, nS, cS, aD, nD, cD, aL, nL, cL⟩ := V
  dsimp only at *
  generalize R.mv = mv at *
  go_enter Try.func36, Try.ntmps36
  go_upto_region 1 with fail
  generalize (w.alloc (.cells #[.slice a n c, .slice b m e, .slice aS nS cS, .slice aD nD cD, .slice aL nL cL, .int .i64 mv] 38)).alloc (.cells #[.int .i64 0, .int .u16 0, .int .u16 0] 84) = W1 at *
  obtain ⟨c3, c4⟩ := HC.out _ I1.out
  obtain ⟨e0, e1, e2, ef⟩ := Its.cells3 I1.out
  go_wp2_with fail
  obtain ⟨wA, rfl⟩ : ∃ W, W = W1 := ⟨_, rfl⟩
  go_loopw [10] (fun v10 wr => ∃ i : Nat, wr = wA ∧ v10 = .int .i64 i ∧ i ≤ nL ∧ Hid (∀ j d, j < i → R.la[j]? = some d → isDv x d = false)) (fun v10 _ => nL - (intOf v10).toNat)
  case atStart => exact ⟨0, rfl, rfl, Nat.zero_le _, hide (fun j d h => by omega)⟩
  case round =>
    obtain ⟨i, rfl, rfl, hi, HX⟩ := hrel
    by_cases hlt : i < nL
    · obtain ⟨p, hp⟩ : ∃ p, R.la[i]? = some p := ⟨_, List.getElem?_eq_getElem (by rw [Hl.out]; exact hlt)⟩
      obtain ⟨bb, off, rfl, d0, d1, d2⟩ := ls_at HV.out i p hp
      have j0 : (0 : Int) ≤ (i : Int) := by omega
      have j1 : (i : Int) < (nL : Int) := by omega
      have Hp := hide hp
      clear hp
      by_cases he : p.dev = x
      · have e9 := yesY.out i p Hp.out (decide_eq_true he) HX.out
        obtain ⟨pd, ps, pt⟩ := p
        dsimp only at *
        subst he
        subst e9
        have IE := hide (Its.out3 I1.out (.int .i64 pd) (.int .u16 ps) (.int .u16 pt))
        go_wp2_with fail
        obtain ⟨y0, y1, y2, _⟩ := Its.cells3 IE.out
        exact bodyPost_ret (v := .tuple #[.agg #[.int .i64 pd, .int .u16 ps, .int .u16 pt], .bool true]) (by simp [results, Try.results36, go_sem, y0, y1, y2]) rfl ⟨rfl, IE.out.bel⟩
      · have hbe : (p.dev == x) = false := beq_eq_false_iff_ne.2 he
        have HX1 : Hid (∀ j d, j < i + 1 → R.la[j]? = some d → isDv x d = false) := hide (fun j d hj hd => by
          rcases Nat.lt_or_ge j i with g | g
          · exact HX.out j d g hd
          · obtain rfl : j = i := by omega
            rw [Hp.out] at hd
            cases hd
            exact decide_eq_false he)
        go_wp2_with fail
        go_roundw
        case rel => exact ⟨i + 1, trivial, by go_num, by omega, HX1⟩
        case measure => simp [intOf]; omega
    · have j1 : ¬ (i : Int) < (nL : Int) := by omega
      have e9 := noN.out (fun j d hj hd => HX.out j d (by omega) hd)
      subst e9
      have IE := hide (Its.out3 I1.out (.int .i64 0) (.int .u16 0) (.int .u16 0))
      go_wp2_with fail
      obtain ⟨y0, y1, y2, _⟩ := Its.cells3 IE.out
      exact bodyPost_ret (v := .tuple #[.agg #[.int .i64 0, .int .u16 0, .int .u16 0], .bool false]) (by simp [results, Try.results36, go_sem, y0, y1, y2]) rfl ⟨rfl, IE.out.bel⟩
end
end Go.Proofs.Ythcdfclhenmleaa
