/- The document's mirror in memory; Where, At, Find, IsDown, Last, Taken, outside. -/
import Derived.Test.YtlnnpdghcilioaaMag
import Derived.Test.YtlnnpdghcilioaaRmr
namespace Go.Proofs.Ytlnnpdghcilioaa
open Go.RowKit
set_option linter.unusedVariables false

def spE : El Try.prog (Int × Int) where
  t := 34
  e := 93
  k := 2
  by' := 16
  z := .agg #[.int .i64 0, .int .i64 0]
  enc e := [.int .i64 e.1, .int .i64 e.2]
  ht := Try.underlying34
  info := by kernel_rfl
  zc := rfl
  kpos := by omega
  bsm := by omega
  len _ := rfl
  one x v hv := by simp at hv; rcases hv with rfl | rfl <;> rfl
def tdE : El Try.prog Td where
  t := 35
  e := 79
  k := 3
  by' := 24
  z := .agg #[.int .i64 0, .int .i64 0, .int .i64 0]
  enc x := [.int .i64 x.dev, .int .i64 x.tote, .int .i64 x.seq]
  ht := Try.underlying35
  info := by kernel_rfl
  zc := rfl
  kpos := by omega
  bsm := by omega
  len _ := rfl
  one x v hv := by simp at hv; rcases hv with rfl | rfl | rfl <;> rfl
theorem sp_at {w : World} {a : Option Addr} {n c : Nat} {l : List (Int × Int)} (h : spE.Rd w (.slice a n c) l) (i : Nat) (p : Int × Int) (hp : l[i]? = some p) : ∃ b off, a = some ⟨b, off, none⟩ ∧ w.cell? ⟨b, off + i * 2, none⟩ = some (.int .i64 p.1) ∧ w.cell? ⟨b, off + i * 2 + 1, none⟩ = some (.int .i64 p.2) := by
  obtain ⟨b, off, e, hc⟩ := h.at i p hp
  exact ⟨b, off, e, hc 0 (by decide), hc 1 (by decide)⟩
theorem td_at {w : World} {a : Option Addr} {n c : Nat} {l : List Td} (h : tdE.Rd w (.slice a n c) l) (i : Nat) (p : Td) (hp : l[i]? = some p) : ∃ b off, a = some ⟨b, off, none⟩ ∧ w.cell? ⟨b, off + i * 3, none⟩ = some (.int .i64 p.dev) ∧ w.cell? ⟨b, off + i * 3 + 1, none⟩ = some (.int .i64 p.tote) ∧ w.cell? ⟨b, off + i * 3 + 2, none⟩ = some (.int .i64 p.seq) := by
  obtain ⟨b, off, e, hc⟩ := h.at i p hp
  exact ⟨b, off, e, hc 0 (by decide), hc 1 (by decide), hc 2 (by decide)⟩
/-- where its lists lie -/
structure Vm where
  aS : Option Addr
  nS : Nat
  cS : Nat
  aT : Option Addr
  nT : Nat
  cT : Nat
  aD : Option Addr
  nD : Nat
  cD : Nat
  aL : Option Addr
  nL : Nat
  cL : Nat
/-- how long its lists are, and how long they may be -/
structure DF (V : Vm) (R : Rm) (k : Nat) : Prop where
  lS : R.sp.length = V.nS
  lT : R.td.length = V.nT
  lD : R.dw.length = V.nD
  lL : R.la.length = V.nL
  bS : V.nS ≤ k
  bT : V.nT ≤ k
  bD : V.nD ≤ 120
  bL : V.nL ≤ k
  bk : k ≤ 1000
def dparts (B : Nat) (V : Vm) (R : Rm) : List It := [.row spE B (.slice V.aS V.nS V.cS) R.sp, .row tdE B (.slice V.aT V.nT V.cT) R.td, .ints B (.slice V.aD V.nD V.cD) R.dw, .row tdE B (.slice V.aL V.nL V.cL) R.la]
def It.dm (B : Nat) (V : Vm) (R : Rm) (k : Nat) : It := .grp (.fact (DF V R k) :: dparts B V R)
section
variable {w : World} {B k : Nat} {V : Vm} {R : Rm}
theorem dm_f (h : (It.dm B V R k).P w) : DF V R k := h.1 (.fact (DF V R k)) (by simp)
theorem dm_s (h : (It.dm B V R k).P w) : spE.Own w B (.slice V.aS V.nS V.cS) R.sp := h.1 (.row spE B (.slice V.aS V.nS V.cS) R.sp) (by simp [dparts])
theorem dm_t (h : (It.dm B V R k).P w) : tdE.Own w B (.slice V.aT V.nT V.cT) R.td := h.1 (.row tdE B (.slice V.aT V.nT V.cT) R.td) (by simp [dparts])
theorem dm_d (h : (It.dm B V R k).P w) : intE.Own w B (.slice V.aD V.nD V.cD) R.dw := h.1 (.ints B (.slice V.aD V.nD V.cD) R.dw) (by simp [dparts])
theorem dm_l (h : (It.dm B V R k).P w) : tdE.Own w B (.slice V.aL V.nL V.cL) R.la := h.1 (.row tdE B (.slice V.aL V.nL V.cL) R.la) (by simp [dparts])
theorem Its.dopen {w0 : World} {l : List It} (h : Its w0 (.dm B V R k :: l) w) : Its w0 (dparts B V R ++ l) w ∧ DF V R k := ⟨h.opn.tail, dm_f h.one⟩
theorem Its.dshut {w0 : World} {l : List It} (h : Its w0 (dparts B V R ++ l) w) (hl : DF V R k) : Its w0 (.dm B V R k :: l) w :=
  Its.shut (a := .fact (DF V R k) :: dparts B V R) (h.new (x := .fact (DF V R k)) hl (fun k hk => hk.elim) (Below.refl _ _))
theorem It.keep (x : It) {w w' : World} (h : x.P w) (hb : Below w.heap.size w w') : x.P w' := x.st h fun k hk => hb.block k (x.lt h k hk)
end
/-- the box of a mirror that is handed by value -/
theorem mbox (w : World) (x0 x1 x2 x3 x4 x5 : Value) : (w.alloc (.cells #[x0, x1, x2, x3, x4, x5] 38)).heap[w.heap.size]? = some (.cells #[x0, x1, x2, x3, x4, x5] 38) := heap_new _ _
theorem mcells {w : World} {g : Nat} {x0 x1 x2 x3 x4 x5 : Value} (h : w.heap[g]? = some (.cells #[x0, x1, x2, x3, x4, x5] 38)) : w.cell? ⟨g, 0, none⟩ = some x0 ∧ w.cell? ⟨g, 1, none⟩ = some x1 ∧ w.cell? ⟨g, 2, none⟩ = some x2 ∧ w.cell? ⟨g, 3, none⟩ = some x3 ∧ w.cell? ⟨g, 4, none⟩ = some x4 ∧ w.cell? ⟨g, 5, none⟩ = some x5 :=
  ⟨(cells_at h 0).1, (cells_at h 1).1, (cells_at h 2).1, (cells_at h 3).1, (cells_at h 4).1, (cells_at h 5).1⟩

section
variable {w : World} {B k : Nat} {V : Vm} {R : Rm} {a b : Option Addr} {c e n m : Nat}
set_option maxRecDepth 100000 in
set_option maxHeartbeats 2000000 in
theorem rwhere_any (h : (It.dm B V R k).P w) (x : Int) : Calls Try.prog 36 #[.agg #[.slice a n c, .slice b m e, .slice V.aS V.nS V.cS, .slice V.aT V.nT V.cT, .slice V.aD V.nD V.cD, .slice V.aL V.nL V.cL], .int .i64 x] w fun e w' => e = .returned (.int .i64 (R.whr x)) ∧ Below w.heap.size w w' := by
  have hf := dm_f h
  obtain ⟨w1, hw1⟩ : ∃ w1, w.alloc (.cells #[.slice a n c, .slice b m e, .slice V.aS V.nS V.cS, .slice V.aT V.nT V.cT, .slice V.aD V.nD V.cD, .slice V.aL V.nL V.cL] 38) = w1 := ⟨_, rfl⟩
  have b1 : Below w.heap.size w w1 := by rw [← hw1]; exact below_new _ _
  obtain ⟨c0, c1, c2, c3, c4, c5⟩ := mcells (w := w1) (by rw [← hw1]; exact mbox w _ _ _ _ _ _)
  have HV := hide (dm_s ((It.dm B V R k).keep h b1)).rd
  have HB := hide b1
  have Hl := hide hf.lS
  have i0 : (V.nS : Int) ≤ 1000 := by have := hf.bS; have := hf.bk; omega
  have yesY : Hid (∀ (i : Nat) p, R.sp[i]? = some p → isTo x p = true → (∀ j d, j < i → R.sp[j]? = some d → isTo x d = false) → R.whr x = p.2) := hide (fun i p h1 h2 h3 => by
    have e : R.sp.find? (isTo x) = some p := by
      rw [List.find?_eq_some_iff_getElem]
      refine ⟨h2, i, idx_lt h1, ?_, fun j hj => ?_⟩
      · have := List.getElem?_eq_getElem (idx_lt h1)
        rw [h1] at this
        exact (Option.some.inj this).symm
      · have := h3 j _ hj (List.getElem?_eq_getElem (Nat.lt_trans hj (idx_lt h1)))
        simpa using this
    unfold Rm.whr
    rw [e])
  have noN : Hid ((∀ (j : Nat) d, j < V.nS → R.sp[j]? = some d → isTo x d = false) → R.whr x = -1) := hide (fun hno => by
    have e : R.sp.find? (isTo x) = none := by
      rw [List.find?_eq_none]
      intro p hp
      obtain ⟨j, hj⟩ := List.getElem?_of_mem hp
      have := hno j p (by rw [← Hl.out]; exact idx_lt hj) hj
      simpa using this
    unfold Rm.whr
    rw [e])
  subst hw1
  clear h hf b1
  generalize R.whr x = res at *
  obtain ⟨aS, nS, cS, aT, nT, cT, aD, nD, cD, aL, nL, cL⟩ := V
  dsimp only at *
  go_enter Try.func36, Try.ntmps36
  go_wp2_with fail
  go_loopw [9] (fun v9 wr => ∃ i : Nat, wr = w.alloc (.cells #[.slice a n c, .slice b m e, .slice aS nS cS, .slice aT nT cT, .slice aD nD cD, .slice aL nL cL] 38) ∧ v9 = .int .i64 i ∧ i ≤ nS ∧ Hid (∀ j d, j < i → R.sp[j]? = some d → isTo x d = false)) (fun v9 _ => nS - (intOf v9).toNat)
  case atStart => exact ⟨0, rfl, rfl, Nat.zero_le _, hide (fun j d h => by omega)⟩
  case round =>
    obtain ⟨i, rfl, rfl, hi, HX⟩ := hrel
    by_cases hlt : i < nS
    · obtain ⟨p, hp⟩ : ∃ p, R.sp[i]? = some p := ⟨_, List.getElem?_eq_getElem (by rw [Hl.out]; exact hlt)⟩
      obtain ⟨bb, off, rfl, d0, d1⟩ := sp_at HV.out i p hp
      have j0 : (0 : Int) ≤ (i : Int) := by omega
      have j1 : (i : Int) < (nS : Int) := by omega
      have Hp := hide hp
      clear hp
      by_cases he : p.1 = x
      · have e1 := yesY.out i p Hp.out (decide_eq_true he) HX.out
        have he' : (p.1 == x) = true := by rw [he]; simp
        have d9 := d0
        rw [he] at d9
        subst e1
        go_wp2_with fail
        go_ret
        exact ⟨rfl, HB.out⟩
      · have hbe : (p.1 == x) = false := beq_eq_false_iff_ne.2 he
        have HX1 : Hid (∀ j d, j < i + 1 → R.sp[j]? = some d → isTo x d = false) := hide (fun j d hj hd => by
          rcases Nat.lt_or_ge j i with g | g
          · exact HX.out j d g hd
          · obtain rfl : j = i := by omega
            rw [Hp.out] at hd
            cases hd
            exact decide_eq_false he)
        go_wp2_with fail
        go_roundw
        case rel => exact ⟨i + 1, trivial, by go_num, by omega, HX1⟩
        case measure => simp [intOf]; omega
    · have j1 : ¬ (i : Int) < (nS : Int) := by omega
      have e1 := noN.out (fun j d hj hd => HX.out j d (by omega) hd)
      subst e1
      go_wp2_with fail
      go_ret
      exact ⟨rfl, HB.out⟩
set_option maxRecDepth 100000 in
set_option maxHeartbeats 2000000 in
theorem rat_any (h : (It.dm B V R k).P w) (x : Int) : Calls Try.prog 37 #[.agg #[.slice a n c, .slice b m e, .slice V.aS V.nS V.cS, .slice V.aT V.nT V.cT, .slice V.aD V.nD V.cD, .slice V.aL V.nL V.cL], .int .i64 x] w fun e w' => e = .returned (.int .i64 (R.att x)) ∧ Below w.heap.size w w' := by
  have hf := dm_f h
  obtain ⟨w1, hw1⟩ : ∃ w1, w.alloc (.cells #[.slice a n c, .slice b m e, .slice V.aS V.nS V.cS, .slice V.aT V.nT V.cT, .slice V.aD V.nD V.cD, .slice V.aL V.nL V.cL] 38) = w1 := ⟨_, rfl⟩
  have b1 : Below w.heap.size w w1 := by rw [← hw1]; exact below_new _ _
  obtain ⟨c0, c1, c2, c3, c4, c5⟩ := mcells (w := w1) (by rw [← hw1]; exact mbox w _ _ _ _ _ _)
  have HV := hide (dm_s ((It.dm B V R k).keep h b1)).rd
  have HB := hide b1
  have Hl := hide hf.lS
  have i0 : (V.nS : Int) ≤ 1000 := by have := hf.bS; have := hf.bk; omega
  have yesY : Hid (∀ (i : Nat) p, R.sp[i]? = some p → isNo x p = true → (∀ j d, j < i → R.sp[j]? = some d → isNo x d = false) → R.att x = p.1) := hide (fun i p h1 h2 h3 => by
    have e : R.sp.find? (isNo x) = some p := by
      rw [List.find?_eq_some_iff_getElem]
      refine ⟨h2, i, idx_lt h1, ?_, fun j hj => ?_⟩
      · have := List.getElem?_eq_getElem (idx_lt h1)
        rw [h1] at this
        exact (Option.some.inj this).symm
      · have := h3 j _ hj (List.getElem?_eq_getElem (Nat.lt_trans hj (idx_lt h1)))
        simpa using this
    unfold Rm.att
    rw [e])
  have noN : Hid ((∀ (j : Nat) d, j < V.nS → R.sp[j]? = some d → isNo x d = false) → R.att x = 0) := hide (fun hno => by
    have e : R.sp.find? (isNo x) = none := by
      rw [List.find?_eq_none]
      intro p hp
      obtain ⟨j, hj⟩ := List.getElem?_of_mem hp
      have := hno j p (by rw [← Hl.out]; exact idx_lt hj) hj
      simpa using this
    unfold Rm.att
    rw [e])
  subst hw1
  clear h hf b1
  generalize R.att x = res at *
  obtain ⟨aS, nS, cS, aT, nT, cT, aD, nD, cD, aL, nL, cL⟩ := V
  dsimp only at *
  go_enter Try.func37, Try.ntmps37
  go_wp2_with fail
  go_loopw [9] (fun v9 wr => ∃ i : Nat, wr = w.alloc (.cells #[.slice a n c, .slice b m e, .slice aS nS cS, .slice aT nT cT, .slice aD nD cD, .slice aL nL cL] 38) ∧ v9 = .int .i64 i ∧ i ≤ nS ∧ Hid (∀ j d, j < i → R.sp[j]? = some d → isNo x d = false)) (fun v9 _ => nS - (intOf v9).toNat)
  case atStart => exact ⟨0, rfl, rfl, Nat.zero_le _, hide (fun j d h => by omega)⟩
  case round =>
    obtain ⟨i, rfl, rfl, hi, HX⟩ := hrel
    by_cases hlt : i < nS
    · obtain ⟨p, hp⟩ : ∃ p, R.sp[i]? = some p := ⟨_, List.getElem?_eq_getElem (by rw [Hl.out]; exact hlt)⟩
      obtain ⟨bb, off, rfl, d0, d1⟩ := sp_at HV.out i p hp
      have j0 : (0 : Int) ≤ (i : Int) := by omega
      have j1 : (i : Int) < (nS : Int) := by omega
      have Hp := hide hp
      clear hp
      by_cases he : p.2 = x
      · have e1 := yesY.out i p Hp.out (decide_eq_true he) HX.out
        have he' : (p.2 == x) = true := by rw [he]; simp
        have d9 := d1
        rw [he] at d9
        subst e1
        go_wp2_with fail
        go_ret
        exact ⟨rfl, HB.out⟩
      · have hbe : (p.2 == x) = false := beq_eq_false_iff_ne.2 he
        have HX1 : Hid (∀ j d, j < i + 1 → R.sp[j]? = some d → isNo x d = false) := hide (fun j d hj hd => by
          rcases Nat.lt_or_ge j i with g | g
          · exact HX.out j d g hd
          · obtain rfl : j = i := by omega
            rw [Hp.out] at hd
            cases hd
            exact decide_eq_false he)
        go_wp2_with fail
        go_roundw
        case rel => exact ⟨i + 1, trivial, by go_num, by omega, HX1⟩
        case measure => simp [intOf]; omega
    · have j1 : ¬ (i : Int) < (nS : Int) := by omega
      have e1 := noN.out (fun j d hj hd => HX.out j d (by omega) hd)
      subst e1
      go_wp2_with fail
      go_ret
      exact ⟨rfl, HB.out⟩
set_option maxRecDepth 100000 in
set_option maxHeartbeats 2000000 in
theorem rfnd_any (h : (It.dm B V R k).P w) (x : Int) : Calls Try.prog 39 #[.agg #[.slice a n c, .slice b m e, .slice V.aS V.nS V.cS, .slice V.aT V.nT V.cT, .slice V.aD V.nD V.cD, .slice V.aL V.nL V.cL], .int .i64 x] w fun e w' => e = .returned (.int .i64 (R.fnd x)) ∧ Below w.heap.size w w' := by
  have hf := dm_f h
  obtain ⟨w1, hw1⟩ : ∃ w1, w.alloc (.cells #[.slice a n c, .slice b m e, .slice V.aS V.nS V.cS, .slice V.aT V.nT V.cT, .slice V.aD V.nD V.cD, .slice V.aL V.nL V.cL] 38) = w1 := ⟨_, rfl⟩
  have b1 : Below w.heap.size w w1 := by rw [← hw1]; exact below_new _ _
  obtain ⟨c0, c1, c2, c3, c4, c5⟩ := mcells (w := w1) (by rw [← hw1]; exact mbox w _ _ _ _ _ _)
  have HV := hide (dm_t ((It.dm B V R k).keep h b1)).rd
  have HB := hide b1
  have Hl := hide hf.lT
  have i0 : (V.nT : Int) ≤ 1000 := by have := hf.bT; have := hf.bk; omega
  have yesY : Hid (∀ (i : Nat) p, R.td[i]? = some p → isDv x p = true → (∀ j d, j < i → R.td[j]? = some d → isDv x d = false) → R.fnd x = (i : Int)) := hide (fun i p h1 h2 h3 => fx_at h1 h2 h3)
  have noN : Hid ((∀ (j : Nat) d, j < V.nT → R.td[j]? = some d → isDv x d = false) → R.fnd x = -1) := hide (fun hno => fx_none (fun j d hj hd => hno j d (by rw [← Hl.out]; exact hj) hd))
  subst hw1
  clear h hf b1
  generalize R.fnd x = res at *
  obtain ⟨aS, nS, cS, aT, nT, cT, aD, nD, cD, aL, nL, cL⟩ := V
  dsimp only at *
  go_enter Try.func39, Try.ntmps39
  go_wp2_with fail
  go_loopw [9] (fun v9 wr => ∃ i : Nat, wr = w.alloc (.cells #[.slice a n c, .slice b m e, .slice aS nS cS, .slice aT nT cT, .slice aD nD cD, .slice aL nL cL] 38) ∧ v9 = .int .i64 i ∧ i ≤ nT ∧ Hid (∀ j d, j < i → R.td[j]? = some d → isDv x d = false)) (fun v9 _ => nT - (intOf v9).toNat)
  case atStart => exact ⟨0, rfl, rfl, Nat.zero_le _, hide (fun j d h => by omega)⟩
  case round =>
    obtain ⟨i, rfl, rfl, hi, HX⟩ := hrel
    by_cases hlt : i < nT
    · obtain ⟨p, hp⟩ : ∃ p, R.td[i]? = some p := ⟨_, List.getElem?_eq_getElem (by rw [Hl.out]; exact hlt)⟩
      obtain ⟨bb, off, rfl, d0, d1, d2⟩ := td_at HV.out i p hp
      have j0 : (0 : Int) ≤ (i : Int) := by omega
      have j1 : (i : Int) < (nT : Int) := by omega
      have Hp := hide hp
      clear hp
      by_cases he : p.dev = x
      · have e1 := yesY.out i p Hp.out (decide_eq_true he) HX.out
        have he' : (p.dev == x) = true := by rw [he]; simp
        have d9 := d0
        rw [he] at d9
        subst e1
        go_wp2_with fail
        go_ret
        exact ⟨rfl, HB.out⟩
      · have hbe : (p.dev == x) = false := beq_eq_false_iff_ne.2 he
        have HX1 : Hid (∀ j d, j < i + 1 → R.td[j]? = some d → isDv x d = false) := hide (fun j d hj hd => by
          rcases Nat.lt_or_ge j i with g | g
          · exact HX.out j d g hd
          · obtain rfl : j = i := by omega
            rw [Hp.out] at hd
            cases hd
            exact decide_eq_false he)
        go_wp2_with fail
        go_roundw
        case rel => exact ⟨i + 1, trivial, by go_num, by omega, HX1⟩
        case measure => simp [intOf]; omega
    · have j1 : ¬ (i : Int) < (nT : Int) := by omega
      have e1 := noN.out (fun j d hj hd => HX.out j d (by omega) hd)
      subst e1
      go_wp2_with fail
      go_ret
      exact ⟨rfl, HB.out⟩
set_option maxRecDepth 100000 in
set_option maxHeartbeats 2000000 in
theorem rdown_any (h : (It.dm B V R k).P w) (x : Int) : Calls Try.prog 52 #[.agg #[.slice a n c, .slice b m e, .slice V.aS V.nS V.cS, .slice V.aT V.nT V.cT, .slice V.aD V.nD V.cD, .slice V.aL V.nL V.cL], .int .i64 x] w fun e w' => e = .returned (.bool (R.isDn x)) ∧ Below w.heap.size w w' := by
  have hf := dm_f h
  obtain ⟨w1, hw1⟩ : ∃ w1, w.alloc (.cells #[.slice a n c, .slice b m e, .slice V.aS V.nS V.cS, .slice V.aT V.nT V.cT, .slice V.aD V.nD V.cD, .slice V.aL V.nL V.cL] 38) = w1 := ⟨_, rfl⟩
  have b1 : Below w.heap.size w w1 := by rw [← hw1]; exact below_new _ _
  obtain ⟨c0, c1, c2, c3, c4, c5⟩ := mcells (w := w1) (by rw [← hw1]; exact mbox w _ _ _ _ _ _)
  have HV := hide (dm_d ((It.dm B V R k).keep h b1)).rd
  have HB := hide b1
  have Hl := hide hf.lD
  have i0 : (V.nD : Int) ≤ 1000 := by have := hf.bD; have := hf.bk; omega
  have yesY : Hid (∀ (i : Nat) p, R.dw[i]? = some p → (fun z : Int => decide (z = x)) p = true → (∀ j d, j < i → R.dw[j]? = some d → (fun z : Int => decide (z = x)) d = false) → R.isDn x = true) := hide (fun i p h1 h2 h3 => decide_eq_true (by have := of_decide_eq_true h2; rw [← this]; exact List.mem_of_getElem? h1))
  have noN : Hid ((∀ (j : Nat) d, j < V.nD → R.dw[j]? = some d → (fun z : Int => decide (z = x)) d = false) → R.isDn x = false) := hide (fun hno => decide_eq_false (fun hm => by obtain ⟨j, hj⟩ := List.getElem?_of_mem hm; have := hno j x (by rw [← Hl.out]; exact idx_lt hj) hj; simp at this))
  subst hw1
  clear h hf b1
  generalize R.isDn x = res at *
  obtain ⟨aS, nS, cS, aT, nT, cT, aD, nD, cD, aL, nL, cL⟩ := V
  dsimp only at *
  go_enter Try.func52, Try.ntmps52
  go_wp2_with fail
  go_loopw [9] (fun v9 wr => ∃ i : Nat, wr = w.alloc (.cells #[.slice a n c, .slice b m e, .slice aS nS cS, .slice aT nT cT, .slice aD nD cD, .slice aL nL cL] 38) ∧ v9 = .int .i64 i ∧ i ≤ nD ∧ Hid (∀ j d, j < i → R.dw[j]? = some d → (fun z : Int => decide (z = x)) d = false)) (fun v9 _ => nD - (intOf v9).toNat)
  case atStart => exact ⟨0, rfl, rfl, Nat.zero_le _, hide (fun j d h => by omega)⟩
  case round =>
    obtain ⟨i, rfl, rfl, hi, HX⟩ := hrel
    by_cases hlt : i < nD
    · obtain ⟨p, hp⟩ : ∃ p, R.dw[i]? = some p := ⟨_, List.getElem?_eq_getElem (by rw [Hl.out]; exact hlt)⟩
      obtain ⟨bb, off, rfl, d0⟩ := int_at HV.out i p hp
      have j0 : (0 : Int) ≤ (i : Int) := by omega
      have j1 : (i : Int) < (nD : Int) := by omega
      have Hp := hide hp
      clear hp
      by_cases he : p = x
      · have e1 := yesY.out i p Hp.out (decide_eq_true he) HX.out
        have he' : (p == x) = true := by rw [he]; simp
        have d9 := d0
        rw [he] at d9
        subst e1
        go_wp2_with fail
        go_ret
        exact ⟨rfl, HB.out⟩
      · have hbe : (p == x) = false := beq_eq_false_iff_ne.2 he
        have HX1 : Hid (∀ j d, j < i + 1 → R.dw[j]? = some d → (fun z : Int => decide (z = x)) d = false) := hide (fun j d hj hd => by
          rcases Nat.lt_or_ge j i with g | g
          · exact HX.out j d g hd
          · obtain rfl : j = i := by omega
            rw [Hp.out] at hd
            cases hd
            exact decide_eq_false he)
        go_wp2_with fail
        go_roundw
        case rel => exact ⟨i + 1, trivial, by go_num, by omega, HX1⟩
        case measure => simp [intOf]; omega
    · have j1 : ¬ (i : Int) < (nD : Int) := by omega
      have e1 := noN.out (fun j d hj hd => HX.out j d (by omega) hd)
      subst e1
      go_wp2_with fail
      go_ret
      exact ⟨rfl, HB.out⟩
set_option maxRecDepth 100000 in
set_option maxHeartbeats 2000000 in
theorem rlast_any (h : (It.dm B V R k).P w) (x : Int) : Calls Try.prog 40 #[.agg #[.slice a n c, .slice b m e, .slice V.aS V.nS V.cS, .slice V.aT V.nT V.cT, .slice V.aD V.nD V.cD, .slice V.aL V.nL V.cL], .int .i64 x] w fun e w' => e = .returned (.tuple #[.int .i64 (R.last x).1, .bool (R.last x).2]) ∧ Below w.heap.size w w' := by
  have hf := dm_f h
  obtain ⟨w1, hw1⟩ : ∃ w1, w.alloc (.cells #[.slice a n c, .slice b m e, .slice V.aS V.nS V.cS, .slice V.aT V.nT V.cT, .slice V.aD V.nD V.cD, .slice V.aL V.nL V.cL] 38) = w1 := ⟨_, rfl⟩
  have b1 : Below w.heap.size w w1 := by rw [← hw1]; exact below_new _ _
  obtain ⟨c0, c1, c2, c3, c4, c5⟩ := mcells (w := w1) (by rw [← hw1]; exact mbox w _ _ _ _ _ _)
  have HV := hide (dm_l ((It.dm B V R k).keep h b1)).rd
  have HB := hide b1
  have Hl := hide hf.lL
  have i0 : (V.nL : Int) ≤ 1000 := by have := hf.bL; have := hf.bk; omega
  have yesY : Hid (∀ (i : Nat) p, R.la[i]? = some p → isDv x p = true → (∀ j d, j < i → R.la[j]? = some d → isDv x d = false) → R.last x = (p.seq, true)) := hide (fun i p h1 h2 h3 => by
    have e : R.la.find? (isDv x) = some p := by
      rw [List.find?_eq_some_iff_getElem]
      refine ⟨h2, i, idx_lt h1, ?_, fun j hj => ?_⟩
      · have := List.getElem?_eq_getElem (idx_lt h1)
        rw [h1] at this
        exact (Option.some.inj this).symm
      · have := h3 j _ hj (List.getElem?_eq_getElem (Nat.lt_trans hj (idx_lt h1)))
        simpa using this
    unfold Rm.last
    rw [e])
  have noN : Hid ((∀ (j : Nat) d, j < V.nL → R.la[j]? = some d → isDv x d = false) → R.last x = (0, false)) := hide (fun hno => by
    have e : R.la.find? (isDv x) = none := by
      rw [List.find?_eq_none]
      intro p hp
      obtain ⟨j, hj⟩ := List.getElem?_of_mem hp
      have := hno j p (by rw [← Hl.out]; exact idx_lt hj) hj
      simpa using this
    unfold Rm.last
    rw [e])
  subst hw1
  clear h hf b1
  generalize R.last x = res at *
  obtain ⟨aS, nS, cS, aT, nT, cT, aD, nD, cD, aL, nL, cL⟩ := V
  dsimp only at *
  go_enter Try.func40, Try.ntmps40
  go_wp2_with fail
  go_loopw [10] (fun v10 wr => ∃ i : Nat, wr = w.alloc (.cells #[.slice a n c, .slice b m e, .slice aS nS cS, .slice aT nT cT, .slice aD nD cD, .slice aL nL cL] 38) ∧ v10 = .int .i64 i ∧ i ≤ nL ∧ Hid (∀ j d, j < i → R.la[j]? = some d → isDv x d = false)) (fun v10 _ => nL - (intOf v10).toNat)
  case atStart => exact ⟨0, rfl, rfl, Nat.zero_le _, hide (fun j d h => by omega)⟩
  case round =>
    obtain ⟨i, rfl, rfl, hi, HX⟩ := hrel
    by_cases hlt : i < nL
    · obtain ⟨p, hp⟩ : ∃ p, R.la[i]? = some p := ⟨_, List.getElem?_eq_getElem (by rw [Hl.out]; exact hlt)⟩
      obtain ⟨bb, off, rfl, d0, d1, d2⟩ := td_at HV.out i p hp
      have j0 : (0 : Int) ≤ (i : Int) := by omega
      have j1 : (i : Int) < (nL : Int) := by omega
      have Hp := hide hp
      clear hp
      by_cases he : p.dev = x
      · have e1 := yesY.out i p Hp.out (decide_eq_true he) HX.out
        have he' : (p.dev == x) = true := by rw [he]; simp
        have d9 := d0
        rw [he] at d9
        subst e1
        go_wp2_with fail
        go_ret2
        exact ⟨rfl, HB.out⟩
      · have hbe : (p.dev == x) = false := beq_eq_false_iff_ne.2 he
        have HX1 : Hid (∀ j d, j < i + 1 → R.la[j]? = some d → isDv x d = false) := hide (fun j d hj hd => by
          rcases Nat.lt_or_ge j i with g | g
          · exact HX.out j d g hd
          · obtain rfl : j = i := by omega
            rw [Hp.out] at hd
            cases hd
            exact decide_eq_false he)
        go_wp2_with fail
        go_roundw
        case rel => exact ⟨i + 1, trivial, by go_num, by omega, HX1⟩
        case measure => simp [intOf]; omega
    · have j1 : ¬ (i : Int) < (nL : Int) := by omega
      have e1 := noN.out (fun j d hj hd => HX.out j d (by omega) hd)
      subst e1
      go_wp2_with fail
      go_ret2
      exact ⟨rfl, HB.out⟩
set_option maxRecDepth 100000 in
set_option maxHeartbeats 2000000 in
theorem outside_any (w : World) (V : Vm) (t x d : Int) : Calls Try.prog 51 #[.agg #[.slice a n c, .slice b m e, .slice V.aS V.nS V.cS, .slice V.aT V.nT V.cT, .slice V.aD V.nD V.cD, .slice V.aL V.nL V.cL], .int .i64 t, .int .i64 x, .int .i64 d] w fun e w' => e = .returned (.bool (Rm.out n m t x d)) ∧ Below w.heap.size w w' := by
  have hB : Hid (∀ o, Below w.heap.size w (w.alloc o)) := hide (fun o => below_new _ _)
  by_cases h0 : (t : Int) < 1
  · have hr : Rm.out n m t x d = true := by unfold Rm.out; simp [h0]
    rw [hr]
    go_enter Try.func51, Try.ntmps51
    go_wp2_with fail
    go_ret
    exact ⟨rfl, hB.out _⟩
  by_cases h1 : (30 : Int) < t
  · have hr : Rm.out n m t x d = true := by unfold Rm.out; simp [h1]
    rw [hr]
    go_enter Try.func51, Try.ntmps51
    go_wp2_with fail
    go_ret
    exact ⟨rfl, hB.out _⟩
  by_cases h2 : (x : Int) < 0
  · have hr : Rm.out n m t x d = true := by unfold Rm.out; simp [h2]
    rw [hr]
    go_enter Try.func51, Try.ntmps51
    go_wp2_with fail
    go_ret
    exact ⟨rfl, hB.out _⟩
  by_cases h3 : (n : Int) ≤ x
  · have hr : Rm.out n m t x d = true := by unfold Rm.out; simp [h3]
    rw [hr]
    go_enter Try.func51, Try.ntmps51
    go_wp2_with fail
    go_ret
    exact ⟨rfl, hB.out _⟩
  by_cases h4 : (d : Int) < 1
  · have hr : Rm.out n m t x d = true := by unfold Rm.out; simp [h4]
    rw [hr]
    go_enter Try.func51, Try.ntmps51
    go_wp2_with fail
    go_ret
    exact ⟨rfl, hB.out _⟩
  by_cases h5 : (m : Int) < d
  · have hr : Rm.out n m t x d = true := by unfold Rm.out; simp [h5]
    rw [hr]
    go_enter Try.func51, Try.ntmps51
    go_wp2_with fail
    go_ret
    exact ⟨rfl, hB.out _⟩
  have hr : Rm.out n m t x d = false := by unfold Rm.out; rw [decide_eq_false h0, decide_eq_false h1, decide_eq_false h2, decide_eq_false h3, decide_eq_false h4, decide_eq_false h5]; rfl
  rw [hr]
  go_enter Try.func51, Try.ntmps51
  go_wp2_with fail
  go_ret
  exact ⟨rfl, hB.out _⟩
end
end Go.Proofs.Ytlnnpdghcilioaa
