/- The document's Taken. -/
import Derived.Test.YtlnnpdghcilioaaRma
namespace Go.Proofs.Ytlnnpdghcilioaa
open Go.RowKit
set_option linter.unusedVariables false
section
variable {w : World} {B k : Nat} {V : Vm} {R : Rm} {a b : Option Addr} {c e n m : Nat} {ns : List Nd} {es : List Ed}
set_option maxRecDepth 100000 in
set_option maxHeartbeats 2000000 in
theorem rtaken_any (h : (It.dm B V R k).P w) (L : Lyt w a b c e n m ns es) (hT : ∀ y ∈ R.td, 1 ≤ y.dev ∧ y.dev ≤ m) (hm : m ≤ 1000) (x : Int) : Calls Try.prog 38 #[.agg #[.slice a n c, .slice b m e, .slice V.aS V.nS V.cS, .slice V.aT V.nT V.cT, .slice V.aD V.nD V.cD, .slice V.aL V.nL V.cL], .int .i64 x] w fun e w' => e = .returned (.bool (R.tak es x)) ∧ Below w.heap.size w w' := by
  have hf := dm_f h
  obtain ⟨w1, hw1⟩ : ∃ w1, w.alloc (.cells #[.slice a n c, .slice b m e, .slice V.aS V.nS V.cS, .slice V.aT V.nT V.cT, .slice V.aD V.nD V.cD, .slice V.aL V.nL V.cL] 38) = w1 := ⟨_, rfl⟩
  have b1 : Below w.heap.size w w1 := by rw [← hw1]; exact below_new _ _
  have X : Hid (∀ W, Below w1.heap.size w1 W → (W.cell? ⟨w.heap.size, 0, none⟩ = some (.slice a n c) ∧ W.cell? ⟨w.heap.size, 1, none⟩ = some (.slice b m e) ∧ W.cell? ⟨w.heap.size, 2, none⟩ = some (.slice V.aS V.nS V.cS) ∧ W.cell? ⟨w.heap.size, 3, none⟩ = some (.slice V.aT V.nT V.cT) ∧ W.cell? ⟨w.heap.size, 4, none⟩ = some (.slice V.aD V.nD V.cD) ∧ W.cell? ⟨w.heap.size, 5, none⟩ = some (.slice V.aL V.nL V.cL)) ∧ tdE.Rd W (.slice V.aT V.nT V.cT) R.td ∧ edE.Rd W (.slice b m e) es ∧ Below w.heap.size w W ∧ (It.dm B V R k).P W) := hide (fun W hW => by
    have hb := b1.trans (hW.mono b1.size)
    have hx : W.heap[w.heap.size]? = some (.cells #[.slice a n c, .slice b m e, .slice V.aS V.nS V.cS, .slice V.aT V.nT V.cT, .slice V.aD V.nD V.cD, .slice V.aL V.nL V.cL] 38) := by
      rw [hW.block _ (by rw [← hw1]; show _ < (w.heap.push _).size; simp), ← hw1]; exact mbox w _ _ _ _ _ _
    exact ⟨mcells hx, (dm_t ((It.dm B V R k).keep h hb)).rd, (L.keep hb).hu, hb, (It.dm B V R k).keep h hb⟩)
  have Hl := hide hf.lT
  have i0 : (V.nT : Int) ≤ 1000 := by have := hf.bT; have := hf.bk; omega
  have i1 : (m : Int) ≤ 1000 := by omega
  have HT := hide hT
  have Hm := hide L.hm
  have KAt : Hid (∀ W, (It.dm B V R k).P W → Calls Try.prog 37 #[.agg #[.slice a n c, .slice b m e, .slice V.aS V.nS V.cS, .slice V.aT V.nT V.cT, .slice V.aD V.nD V.cD, .slice V.aL V.nL V.cL], .int .i64 x] W fun e w' => e = .returned (.int .i64 (R.att x)) ∧ Below W.heap.size W w') := hide (fun W hW => rat_any hW x)
  have yesY : Hid (∀ p ∈ R.td, goesTo es x p = true → R.tak es x = true) := hide (fun p hp hq => by unfold Rm.tak; rw [List.any_eq_true.2 ⟨p, hp, hq⟩]; rfl)
  have noN : Hid ((∀ p ∈ R.td, goesTo es x p = false) → R.tak es x = decide (0 < R.att x)) := hide (fun hno => by
    unfold Rm.tak
    rw [List.any_eq_false.2 (fun p hp => by rw [hno p hp]; simp), Bool.false_or])
  have HW1 : Hid (Below w1.heap.size w1 w1) := hide (Below.refl _ _)
  generalize R.tak es x = res at *
  generalize R.att x = av at *
  clear h hf b1 hT L hm
  obtain ⟨aS, nS, cS, aT, nT, cT, aD, nD, cD, aL, nL, cL⟩ := V
  dsimp only at *
  obtain ⟨⟨c0, c1, c2, c3, c4, c5⟩, _, _, _, _⟩ := X.out _ HW1.out
  subst hw1
  go_enter Try.func38, Try.ntmps38
  go_wp2_with fail
  obtain ⟨wA, hwA⟩ : ∃ wA, w.alloc (.cells #[.slice a n c, .slice b m e, .slice aS nS cS, .slice aT nT cT, .slice aD nD cD, .slice aL nL cL] 38) = wA := ⟨_, rfl⟩
  go_loopw [9] (fun v9 wr => ∃ i : Nat, Hid (Below (w.alloc (.cells #[.slice a n c, .slice b m e, .slice aS nS cS, .slice aT nT cT, .slice aD nD cD, .slice aL nL cL] 38)).heap.size (w.alloc (.cells #[.slice a n c, .slice b m e, .slice aS nS cS, .slice aT nT cT, .slice aD nD cD, .slice aL nL cL] 38)) wr) ∧ v9 = .int .i64 i ∧ i ≤ nT ∧ Hid (∀ j d, j < i → R.td[j]? = some d → goesTo es x d = false)) (fun v9 _ => nT - (intOf v9).toNat)
  case atStart => exact ⟨0, HW1, rfl, Nat.zero_le _, hide (fun j d h => by omega)⟩
  case round =>
    obtain ⟨i, HBW, rfl, hi, HX⟩ := hrel
    obtain ⟨⟨x0, x1, x2, x3, x4, x5⟩, rt, re, rb, rd⟩ := X.out _ HBW.out
    have HRt := hide rt
    have HRe := hide re
    have HRb := hide rb
    have HRd := hide rd
    clear rt re rb rd c0 c1 c2 c3 c4 c5
    by_cases hlt : i < nT
    · obtain ⟨p, hp⟩ : ∃ p, R.td[i]? = some p := ⟨_, List.getElem?_eq_getElem (by rw [Hl.out]; exact hlt)⟩
      have hmem := List.mem_of_getElem? hp
      obtain ⟨pd1, pd2⟩ := HT.out p hmem
      obtain ⟨kd, hkd⟩ : ∃ kd : Nat, p.dev = (kd : Int) + 1 := ⟨(p.dev - 1).toNat, by omega⟩
      obtain ⟨ee, hee⟩ : ∃ ee, es[kd]? = some ee := ⟨_, List.getElem?_eq_getElem (by rw [Hm.out]; omega)⟩
      obtain ⟨be, oe, rfl, f0, f1⟩ := ed_at HRe.out kd ee hee
      obtain ⟨bb, off, rfl, d0, d1, d2⟩ := td_at HRt.out i p hp
      have hgo : goesTo es x p = decide (ee.2 = x) := by unfold goesTo edN; rw [hkd, show ((kd : Int) + 1 - 1).toNat = kd by omega, hee]; rfl
      rw [hkd] at d0
      have j0 : (0 : Int) ≤ (i : Int) := by omega
      have j1 : (i : Int) < (nT : Int) := by omega
      have r1 : wrap64 ((kd : Int) + 1 - 1) = (kd : Int) := by unfold wrap64; omega
      have r1' : IntKind.i64.wrap ((kd : Int) + 1 - 1) = (kd : Int) := by rw [IntKind.wrap_i64]; omega
      have r4 : IntKind.i64.wrap (kd : Int) = (kd : Int) := by rw [IntKind.wrap_i64]; omega
      have r2 : (kd : Int) < (m : Int) := by omega
      have r3 : (0 : Int) ≤ (kd : Int) := by omega
      have Hp := hide hp
      have Hmem := hide hmem
      have Hgo := hide hgo
      obtain ⟨ea, eb⟩ := ee
      dsimp only at *
      clear hp hmem hgo hee hkd pd1 pd2
      by_cases he : eb = x
      · have e1 := yesY.out p Hmem.out (by rw [Hgo.out]; exact decide_eq_true he)
        subst e1
        have he' : (eb == x) = true := by rw [he]; simp
        have HE := hide he
        clear he
        go_upto_region 5 with fail
        go_quiet (fail)
        go_wp2_with fail
        go_ret
        exact ⟨rfl, HRb.out.trans ((below_drew _ _).mono HRb.out.size)⟩
      · have hbe : (eb == x) = false := beq_eq_false_iff_ne.2 he
        have HX1 : Hid (∀ j d, j < i + 1 → R.td[j]? = some d → goesTo es x d = false) := hide (fun j d hj hd => by
          rcases Nat.lt_or_ge j i with g | g
          · exact HX.out j d g hd
          · obtain rfl : j = i := by omega
            rw [Hp.out] at hd
            cases hd
            rw [Hgo.out]
            exact decide_eq_false he)
        clear he
        go_upto_region 5 with fail
        go_quiet (fail)
        have HB2 := hide (HBW.out.trans ((below_drew wr nq).mono HBW.out.size))
        generalize wr.drewN nq = wq at *
        go_wp2_with fail
        go_roundw
        case rel => exact ⟨i + 1, HB2, by go_num, by omega, HX1⟩
        case measure => simp [intOf]; omega
    · have j1 : ¬ (i : Int) < (nT : Int) := by omega
      have e1 := noN.out (fun p hp => by
        obtain ⟨j, hj⟩ := List.getElem?_of_mem hp
        exact HX.out j p (by have := idx_lt hj; rw [Hl.out] at this; omega) hj)
      subst e1
      go_wp2_with (go_at_call 37; refine (KAt.out _ HRd.out).mono ?_; rintro e1 W2 ⟨rfl, B2⟩; have HB2 := hide (HRb.out.trans (B2.mono HRb.out.size)); clear B2)
      go_ret
      exact ⟨rfl, HB2.out⟩
end
end Go.Proofs.Ytlnnpdghcilioaa
