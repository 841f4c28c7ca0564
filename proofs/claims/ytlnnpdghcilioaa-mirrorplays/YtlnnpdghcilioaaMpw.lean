/- The walk of MirrorPlays. -/
import Derived.Test.YtlnnpdghcilioaaMcm
import Derived.Test.YtlnnpdghcilioaaRtl
import Derived.Test.YtlnnpdghcilioaaMaw
import Derived.Test.YtlnnpdghcilioaaOwn
import Derived.Test.YtlnnpdghcilioaaSam
import Derived.Deep.CutBlock
namespace Go.Proofs.Ytlnnpdghcilioaa
open Go.RowKit
set_option linter.unusedVariables false
/-- a layout's copy: both its slices as one thing -/
def It.cp (B : Nat) (vN vE : Value) (ns : List Nd) (es : List Ed) : It where
  P w := ndE.Own w B vN ns ∧ edE.Own w B vE es
  f k := vN.ownBlock = some k ∨ vE.ownBlock = some k
  lt h k hk := hk.elim (h.1.lt k) (h.2.lt k)
  st h hs := ⟨own_stay h.1 fun g hg _ => hs g (.inl hg), own_stay h.2 fun g hg _ => hs g (.inr hg)⟩
theorem two9 {W : World} {g : Nat} {x y : Value} {t : TypeId} (h : W.heap[g]? = some (.cells #[x, y] t)) : W.cell? ⟨g, 0, none⟩ = some x ∧ W.cell? ⟨g, 1, none⟩ = some y := ⟨(cells_at h 0).1, (cells_at h 1).1⟩
section
variable {w W : World} {l : List It} {a b aN aE : Option Addr} {c e n m cN cE : Nat} {ns : List Nd} {es : List Ed}
theorem own9 (h : Its w l W) (L : Lyt w a b c e n m ns es) (hn : n ≤ 60 ∧ m ≤ 200) : Calls Try.prog 11 #[.agg #[.slice a n c, .slice b m e]] W fun r w' => ∃ aN cN aE cE, r = .returned (.agg #[.slice aN n cN, .slice aE m cE]) ∧ Its w (.cp w.heap.size (.slice aN n cN) (.slice aE m cE) ns es :: l) w' := by
  have L1 := L.keep h.bel
  have h1 := L1.hn
  have h2 := L1.hm
  subst h1
  subst h2
  refine (copy_any a b c e ns es W L1.hv L1.hu (by omega) (by omega)).mono ?_
  rintro r w' ⟨vN, vE, rfl, o1, o2, hb⟩
  obtain ⟨aN, cN, rfl⟩ := o1.rd.form
  obtain ⟨aE, cE, rfl⟩ := o2.rd.form
  exact ⟨aN, cN, aE, cE, rfl, h.new ⟨o1.mono h.size, o2.mono h.size⟩ (fun k hk => hk.elim (o1.ge k) (o2.ge k)) hb⟩
theorem lyt9 (h : (It.cp w.heap.size (.slice aN n cN) (.slice aE m cE) ns es).P W) (L : Lyt w a b c e n m ns es) : Lyt W aN aE cN cE n m ns es :=
  ⟨L.hn, L.hm, h.1.rd, h.2.rd, by have := El.Own.capE (E := edE) h.2; rw [L.hm] at this; exact this, L.hs⟩
theorem same9 (h : Its w l W) (hc : (It.cp w.heap.size (.slice aN n cN) (.slice aE m cE) ns es).P W) (L : Lyt w a b c e n m ns es) (hn : n ≤ 60 ∧ m ≤ 200) : Calls Try.prog 14 #[.agg #[.slice aN n cN, .slice aE m cE], .agg #[.slice a n c, .slice b m e]] W fun r w' => r = .returned (.bool true) ∧ Its w l w' := by
  have L1 := L.keep h.bel
  have L2 := lyt9 hc L
  have h1 := L1.hn
  have h2 := L1.hm
  subst h1
  subst h2
  refine (rsame_any aN aE a b cN cE c e ns ns es es W L2.hv L2.hu L1.hv L1.hu (by omega) (by omega)).mono ?_
  rintro r w' ⟨rfl, q⟩
  exact ⟨by simp, h.keep q⟩
end
set_option maxRecDepth 100000 in
set_option maxHeartbeats 8000000 in
theorem plays_any (a b : Option Addr) (c e n m : Nat) (ns : List Nd) (es : List Ed) (an : Option Addr) (ln cn : Nat) (zn : List Nt) (w : World) (L : Lyt w a b c e n m ns es) (hln : zn.length = ln) (hn : ntE.Rd w (.slice an ln cn) zn) :
    Calls Try.prog 3 #[.agg #[.slice a n c, .slice b m e], .slice an ln cn] w fun e w' => e = .returned (.bool true) ∧ Below w.heap.size w w' := by
  have I1 : Hid (Its w [.box w.heap.size #[.slice a n c, .slice b m e] 25] (w.alloc (.cells #[.slice a n c, .slice b m e] 25))) := hide ((Its.nil w).box1 #[.slice a n c, .slice b m e] 25)
  have XL : Hid (∀ W, Its w [.box w.heap.size #[.slice a n c, .slice b m e] 25] W → W.cell? ⟨w.heap.size, 0, none⟩ = some (.slice a n c) ∧ W.cell? ⟨w.heap.size, 1, none⟩ = some (.slice b m e)) := hide (fun W h => h.lbox1)
  obtain ⟨u0, u1⟩ := XL.out _ I1.out
  have HL := hide L
  have HLm : Hid (es.length = m) := hide L.hm
  have Hln := hide hln
  have Hn := hide hn
  clear hln hn
  by_cases hfew : n ≤ 60 ∧ m ≤ 200
  case neg =>
    have hd : decide (n ≤ 60 ∧ m ≤ 200) = false := decide_eq_false hfew
    clear L hfew
    go_enter Try.func3, Try.ntmps3
    go_wp2_with (first
      | (go_at_call 9; refine (awake_any _).mono ?_; rintro e1 W4 ⟨rfl, q⟩; have I4 := hide (I3.out.keep q); clear q)
      | (go_at_call 10; refine few_any.mono ?_; rintro e1 W3 ⟨rfl, q⟩; have I3 := hide (I2.out.keep q); clear q; obtain ⟨y0, y1⟩ := XL.out _ I3.out)
      | (go_at_call 9; refine (awake_any _).mono ?_; rintro e1 W2 ⟨rfl, q⟩; have I2 := hide (I1.out.keep q); clear q; obtain ⟨u0, u1⟩ := XL.out _ I2.out))
    go_ret
    exact ⟨rfl, I4.out.bel⟩
  case pos =>
  have hd : decide (n ≤ 60 ∧ m ≤ 200) = true := decide_eq_true hfew
  have KO := hide (fun W (h : Its w [.box w.heap.size #[.slice a n c, .slice b m e] 25] W) => own9 h L hfew)
  have KS := hide (fun W l aN aE cN cE (h : Its w l W) (hc : (It.cp w.heap.size (.slice aN n cN) (.slice aE m cE) ns es).P W) => same9 h hc L hfew)
  have Hi9 := hide hfew.2
  clear hfew
  cases hg : good ns es with
  | false =>
    have KN : Hid (∀ W aN aE cN cE, (It.cp w.heap.size (.slice aN n cN) (.slice aE m cE) ns es).P W → Calls Try.prog 12 #[.agg #[.slice aN n cN, .slice aE m cE]] W fun e w' => e = .returned (.tuple #[.pointer none, .int .i64 61]) ∧ Below W.heap.size W w') := hide (fun W aN aE cN cE h => new_no (lyt9 h L) hg)
    have KR := hide (fun W l (h : Its w l W) => rnew9n h L hg)
    clear L hg
    go_enter Try.func3, Try.ntmps3
    go_upto_region 8 with (first
      | (go_at_call 14; refine (KS.out _ _ _ _ _ _ I8.out I8.out.four).mono ?_; rintro e1 W9 ⟨rfl, q⟩; have I9 := hide q; clear q; obtain ⟨s0, s1⟩ := two9 I9.out.three)
      | (go_at_call 13; refine (KR.out _ _ I6.out).mono ?_; rintro e1 W7 ⟨rfl, q⟩; have I7 := hide q; clear q; have I8 := hide (I7.out.box1 #[.slice none 0 0, .slice none 0 0, .slice none 0 0, .slice none 0 0, .slice none 0 0, .slice none 0 0] 38); obtain ⟨s0, s1⟩ := two9 I8.out.three; obtain ⟨y0, y1⟩ := two9 I8.out.p5)
      | (go_at_call 12; refine (KN.out _ _ _ _ _ I5.out.two).mono ?_; rintro e1 W6 ⟨rfl, q⟩; have I6 := hide (I5.out.keep q); clear q; obtain ⟨y0, y1⟩ := two9 I6.out.three)
      | (go_at_call 11; refine (KO.out _ I3.out).mono ?_; rintro e1 W4 ⟨aN, cN, aE, cE, rfl, q⟩; have I4 := hide q; clear q; have I5 := hide (I4.out.box1 #[.slice aN n cN, .slice aE m cE] 25); obtain ⟨s0, s1⟩ := two9 I5.out.one; obtain ⟨y0, y1⟩ := two9 I5.out.three)
      | (go_at_call 10; refine few_any.mono ?_; rintro e1 W3 ⟨rfl, q⟩; have I3 := hide (I2.out.keep q); clear q; obtain ⟨y0, y1⟩ := XL.out _ I3.out)
      | (go_at_call 9; refine (awake_any _).mono ?_; rintro e1 W2 ⟨rfl, q⟩; have I2 := hide (I1.out.keep q); clear q; obtain ⟨u0, u1⟩ := XL.out _ I2.out))
    generalize W4.heap.size = gi at *
    have i9 := Hi9.out
    have IE : Hid (Its w (.row edE w.heap.size (.slice aE m cE) es :: .box gi #[.slice aN n cN, .slice aE m cE] 25 :: [.box w.heap.size #[.slice a n c, .slice b m e] 25]) W9) := hide (I9.out.tail.tail.swap.as (x' := .row edE w.heap.size (.slice aE m cE) es) I9.out.four.2 (fun k hk => .inr hk))
    clear KN KR KS KO I1 I2 I3 I4 I5 I6 I7 I8 I9 u0 u1 y0 y1 XL
    go_wp2_with fail
    go_loopw [53] (fun v53 wr => ∃ (j : Nat) (aE : Option Addr) (cE : Nat) (xs : List Ed), v53 = .int .i64 j ∧ j ≤ m ∧ Hid (xs.length = m) ∧ Hid (Its w (.row edE w.heap.size (.slice aE m cE) xs :: .box gi #[.slice aN n cN, .slice aE m cE] 25 :: [.box w.heap.size #[.slice a n c, .slice b m e] 25]) wr)) (fun v53 _ => m - (intOf v53).toNat)
    case atStart => exact ⟨0, aE, cE, es, rfl, by omega, HLm, IE⟩
    case round =>
      clear IE
      obtain ⟨j, aE, cE, xs, rfl, hj, Hxs, HR⟩ := hrel
      obtain ⟨s0, s1⟩ := two9 HR.out.two
      by_cases hjm : j < m
      case pos =>
        have q1 : (j : Int) < (m : Int) := by omega
        have q0 : (0 : Int) ≤ (j : Int) := by omega
        obtain ⟨x, hx⟩ : ∃ x, xs[j]? = some x := ⟨_, List.getElem?_eq_getElem (by rw [Hxs.out]; exact hjm)⟩
        obtain ⟨gE, capE, hvE, _⟩ := El.Own.some (E := edE) HR.out.one (fun e => by rw [e] at hx; cases hx)
        simp only [Value.slice.injEq] at hvE
        obtain ⟨rfl, _, rfl⟩ := hvE
        have hf0 : wr.frozen? ⟨gE, j * 2, none⟩ = false := (El.Own.cell (E := edE) HR.out.one (j * 2) (by rw [Hxs.out]; show j * 2 < m * 2; omega)).2.1
        have hf1 : wr.frozen? ⟨gE, j * 2 + 1, none⟩ = false := (El.Own.cell (E := edE) HR.out.one (j * 2 + 1) (by rw [Hxs.out]; show j * 2 + 1 < m * 2; omega)).2.1
        obtain ⟨b4, off4, hb4, d0, d1⟩ := ed_at (El.Own.rd (E := edE) HR.out.one) j x hx
        simp only [Option.some.injEq, Addr.mk.injEq, and_true] at hb4
        obtain ⟨rfl, rfl⟩ := hb4
        simp only [Nat.zero_add] at d0 d1
        have HS := hide (HR.out.eset hx 0 0)
        have Hx2 : Hid ((xs.set j (0, 0)).length = m) := hide (by rw [List.length_set]; exact Hxs.out)
        clear hx HR
        go_wp2_with fail
        go_roundw
        case rel => exact ⟨j + 1, _, _, _, by go_num, by omega, Hx2, HS⟩
        case measure => simp [intOf]; omega
      case neg =>
        have q1 : ¬ (j : Int) < (m : Int) := by omega
        go_wp2_with fail
        go_loopw [11] (fun v11 W9 => ∃ i : Int, v11 = .int .i64 i ∧ Hid (Below w.heap.size w W9)) (fun _ _ => 0)
        case atStart => exact ⟨0, rfl, hide HR.out.bel⟩
        case round =>
          obtain ⟨i, rfl, HB⟩ := hrel
          go_wp2_with fail
          go_ret
          exact ⟨rfl, HB.out⟩
  | true =>
  have KN : Hid (∀ W aN aE cN cE, (It.cp w.heap.size (.slice aN n cN) (.slice aE m cE) ns es).P W → Calls Try.prog 12 #[.agg #[.slice aN n cN, .slice aE m cE]] W fun e w' => NewP W n m es e w') := hide (fun W aN aE cN cE h => new_ok (lyt9 h L) hg)
  have KR := hide (fun W l (h : Its w l W) => rnew9 h L hg)
  have HRel0 := hide (rel_new L hg)
  obtain ⟨S0, hS0⟩ : ∃ S0, Mr.nw n es = S0 := ⟨_, rfl⟩
  rw [hS0] at HRel0
  replace hS0 := hide hS0
  have i0 : m ≤ 120 := by obtain ⟨g1, g2, g3⟩ := good_he hg; rw [L.hm] at g2; exact g2
  clear L hg
  go_enter Try.func3, Try.ntmps3
  go_upto_region 8 with (first
    | (go_at_call 14; refine (KS.out _ _ _ _ _ _ I8.out I8.out.p5).mono ?_; rintro e1 W9 ⟨rfl, q⟩; have I9 := hide q; clear q; obtain ⟨s0, s1⟩ := two9 I9.out.four)
    | (go_at_call 13; refine (KR.out _ _ I6.out).mono ?_; rintro e1 W7 ⟨rfl, q⟩; have I7 := hide q; clear q; have I8 := hide (I7.out.box1 #[.slice a n c, .slice b m e, .slice none 0 0, .slice none 0 0, .slice none 0 0, .slice none 0 0] 38); obtain ⟨s0, s1⟩ := two9 I8.out.four; obtain ⟨y0, y1⟩ := two9 I8.out.tail.p5)
    | (go_at_call 12; refine (KN.out _ _ _ _ _ I5.out.two).mono ?_; rintro e1 W6 ⟨g, H, rfl, q⟩; have I6 := hide (I5.out.addm q); rw [hS0.out] at I6; clear q; obtain ⟨y0, y1⟩ := two9 I6.out.four)
    | (go_at_call 11; refine (KO.out _ I3.out).mono ?_; rintro e1 W4 ⟨aN, cN, aE, cE, rfl, q⟩; have I4 := hide q; clear q; have I5 := hide (I4.out.box1 #[.slice aN n cN, .slice aE m cE] 25); obtain ⟨s0, s1⟩ := two9 I5.out.one; obtain ⟨y0, y1⟩ := two9 I5.out.three)
    | (go_at_call 10; refine few_any.mono ?_; rintro e1 W3 ⟨rfl, q⟩; have I3 := hide (I2.out.keep q); clear q; obtain ⟨y0, y1⟩ := XL.out _ I3.out)
    | (go_at_call 9; refine (awake_any _).mono ?_; rintro e1 W2 ⟨rfl, q⟩; have I2 := hide (I1.out.keep q); clear q; obtain ⟨u0, u1⟩ := XL.out _ I2.out))
  generalize W4.heap.size = gi at *
  generalize W7.heap.size = gr at *
  have i9 := Hi9.out
  have IE : Hid (Its w (.row edE w.heap.size (.slice aE m cE) es :: .box gi #[.slice aN n cN, .slice aE m cE] 25 :: .mir w.heap.size g H n m es S0 :: .dm w.heap.size V0 R0 0 :: .box gr #[.slice a n c, .slice b m e, .slice none 0 0, .slice none 0 0, .slice none 0 0, .slice none 0 0] 38 :: [.box w.heap.size #[.slice a n c, .slice b m e] 25]) W9) := hide ((I9.out.fifth.fifth.swap.as (x' := .row edE w.heap.size (.slice aE m cE) es) I9.out.p5.2 (fun k hk => .inr hk)).perm ((List.Perm.cons _ (List.Perm.cons _ ((List.Perm.cons _ (List.Perm.swap _ _ _)).trans ((List.Perm.swap _ _ _).trans (List.Perm.cons _ (List.Perm.swap _ _ _))))))))
  clear KN KR KS KO I1 I2 I3 I4 I5 I6 I7 I8 I9 u0 u1 y0 y1 XL
  go_wp2_with fail
  go_loopw [53] (fun v53 wr => ∃ (j : Nat) (aE : Option Addr) (cE : Nat) (xs : List Ed), v53 = .int .i64 j ∧ j ≤ m ∧ Hid (xs.length = m) ∧ Hid (Its w (.row edE w.heap.size (.slice aE m cE) xs :: .box gi #[.slice aN n cN, .slice aE m cE] 25 :: .mir w.heap.size g H n m es S0 :: .dm w.heap.size V0 R0 0 :: .box gr #[.slice a n c, .slice b m e, .slice none 0 0, .slice none 0 0, .slice none 0 0, .slice none 0 0] 38 :: [.box w.heap.size #[.slice a n c, .slice b m e] 25]) wr)) (fun v53 _ => m - (intOf v53).toNat)
  case atStart => exact ⟨0, aE, cE, es, rfl, by omega, HLm, IE⟩
  case round =>
    clear IE
    obtain ⟨j, aE, cE, xs, rfl, hj, Hxs, HR⟩ := hrel
    obtain ⟨s0, s1⟩ := two9 HR.out.two
    by_cases hjm : j < m
    case pos =>
      have q1 : (j : Int) < (m : Int) := by omega
      have q0 : (0 : Int) ≤ (j : Int) := by omega
      obtain ⟨x, hx⟩ : ∃ x, xs[j]? = some x := ⟨_, List.getElem?_eq_getElem (by rw [Hxs.out]; exact hjm)⟩
      obtain ⟨gE, capE, hvE, _⟩ := El.Own.some (E := edE) HR.out.one (fun e => by rw [e] at hx; cases hx)
      simp only [Value.slice.injEq] at hvE
      obtain ⟨rfl, _, rfl⟩ := hvE
      have hf0 : wr.frozen? ⟨gE, j * 2, none⟩ = false := (El.Own.cell (E := edE) HR.out.one (j * 2) (by rw [Hxs.out]; show j * 2 < m * 2; omega)).2.1
      have hf1 : wr.frozen? ⟨gE, j * 2 + 1, none⟩ = false := (El.Own.cell (E := edE) HR.out.one (j * 2 + 1) (by rw [Hxs.out]; show j * 2 + 1 < m * 2; omega)).2.1
      obtain ⟨b4, off4, hb4, d0, d1⟩ := ed_at (El.Own.rd (E := edE) HR.out.one) j x hx
      simp only [Option.some.injEq, Addr.mk.injEq, and_true] at hb4
      obtain ⟨rfl, rfl⟩ := hb4
      simp only [Nat.zero_add] at d0 d1
      have HS := hide (HR.out.eset hx 0 0)
      have Hx2 : Hid ((xs.set j (0, 0)).length = m) := hide (by rw [List.length_set]; exact Hxs.out)
      clear hx HR
      go_wp2_with fail
      go_roundw
      case rel => exact ⟨j + 1, _, _, _, by go_num, by omega, Hx2, HS⟩
      case measure => simp [intOf]; omega
    case neg =>
      have q1 : ¬ (j : Int) < (m : Int) := by omega
      obtain ⟨wA, rfl⟩ : ∃ W, W = wr := ⟨_, rfl⟩
      have HR9 := hide HR.out.tail.tail
      clear HR Hxs s0 s1
      go_wp2_with fail
      go_loopw [11] (fun v11 wr => ∃ (i : Nat) (S : Mr) (V : Vm) (R : Rm), v11 = .int .i64 i ∧ i ≤ 120 ∧ Hid (Rel S R n es) ∧ Hid (Its w (.mir w.heap.size g H n m es S :: .dm w.heap.size V R i :: .box gr #[.slice a n c, .slice b m e, .slice V.aS V.nS V.cS, .slice V.aT V.nT V.cT, .slice V.aD V.nD V.cD, .slice V.aL V.nL V.cL] 38 :: [.box w.heap.size #[.slice a n c, .slice b m e] 25]) wr)) (fun v11 _ => 120 - (intOf v11).toNat)
      case atStart => exact ⟨0, S0, V0, R0, rfl, by omega, HRel0, HR9⟩
      case round =>
        clear HRel0 HR9
        obtain ⟨i, S, ⟨aS, nS, cS, aT, nT, cT, aD, nD, cD, aL, nL, cL⟩, R, rfl, hi, HRel, HR⟩ := hrel
        dsimp only at *
        by_cases hil : i < ln
        case neg =>
          have q1 : ¬ (i : Int) < (ln : Int) := by omega
          go_wp2_with fail
          go_ret
          exact ⟨rfl, HR.out.bel⟩
        case pos =>
        have q1 : (i : Int) < (ln : Int) := by omega
        by_cases hi5 : i < 120
        case neg =>
          have q2 : ¬ (i : Int) < 120 := by omega
          go_wp2_with fail
          go_ret
          exact ⟨rfl, HR.out.bel⟩
        case pos =>
        have q2 : (i : Int) < 120 := by omega
        have q0 : (0 : Int) ≤ (i : Int) := by omega
        obtain ⟨p, hp⟩ : ∃ p, zn[i]? = some p := ⟨_, List.getElem?_eq_getElem (by rw [Hln.out]; exact hil)⟩
        have XN : Hid (∀ W, Below w.heap.size w W → ∃ b0 o0, an = some ⟨b0, o0, none⟩ ∧ W.cell? ⟨b0, o0 + i * 4, none⟩ = some (.int .i64 p.kind) ∧ W.cell? ⟨b0, o0 + i * 4 + 1, none⟩ = some (.int .i64 p.a) ∧ W.cell? ⟨b0, o0 + i * 4 + 2, none⟩ = some (.int .i64 p.b) ∧ W.cell? ⟨b0, o0 + i * 4 + 3, none⟩ = some (.int .i64 p.c)) := hide (fun W h => nt_at (Hn.out.keep h) i p hp)
        obtain ⟨b0, o0, rfl, n0, n1, n2, n3⟩ := XN.out _ HR.out.bel
        have XM : Hid (∀ W, Below w.heap.size w W → W.cell? ⟨b0, o0 + i * 4, none⟩ = some (.int .i64 p.kind) ∧ W.cell? ⟨b0, o0 + i * 4 + 1, none⟩ = some (.int .i64 p.a) ∧ W.cell? ⟨b0, o0 + i * 4 + 2, none⟩ = some (.int .i64 p.b) ∧ W.cell? ⟨b0, o0 + i * 4 + 3, none⟩ = some (.int .i64 p.c)) := hide (fun W h => by
          obtain ⟨b1, o1, q1, q2⟩ := XN.out W h
          simp only [Option.some.injEq, Addr.mk.injEq] at q1
          obtain ⟨rfl, rfl, _⟩ := q1
          exact q2)
        clear XN hp
        obtain ⟨P, hP⟩ : ∃ P, S.app p = P := ⟨_, rfl⟩
        have KA := hide (app9 HR.out p hP)
        have KR := hide (fun W (hW : Its w (.mir w.heap.size g H n m es P.2 :: .dm w.heap.size ⟨aS, nS, cS, aT, nT, cT, aD, nD, cD, aL, nL, cL⟩ R i :: .box gr #[.slice a n c, .slice b m e, .slice aS nS cS, .slice aT nT cT, .slice aD nD cD, .slice aL nL cL] 38 :: [.box w.heap.size #[.slice a n c, .slice b m e] 25]) W) => rapp9 (V := ⟨aS, nS, cS, aT, nT, cT, aD, nD, cD, aL, nL, cL⟩) hW.swap HL.out i0 HRel.out (show i + 1 ≤ 1000 by omega) p hP)
        clear hP HRel
        obtain ⟨yd, ya, yb, yc⟩ := p
        obtain ⟨code, S1⟩ := P
        dsimp only at *
        go_upto_region 17 with (go_at_call 15; refine KA.out.mono ?_; rintro e1 W7 ⟨rfl, q⟩; have I7 := hide q; clear q)
        clear n0 n1 n2 n3 KA HR
        obtain ⟨n0, n1, n2, n3⟩ := XM.out _ I7.out.bel
        obtain ⟨c0, c1, c2, c3, c4, c5, cf⟩ := Its.cells6 I7.out.tail.tail
        have HD : Hid (Its w (.mir w.heap.size g H n m es S1 :: .dm w.heap.size ⟨aS, nS, cS, aT, nT, cT, aD, nD, cD, aL, nL, cL⟩ R i :: .box gr #[.slice a n c, .slice b m e, .slice aS nS cS, .slice aT nT cT, .slice aD nD cD, .slice aL nL cL] 38 :: [.box w.heap.size #[.slice a n c, .slice b m e] 25]) W7.drew) := hide (I7.out.drew 1)
        have KQ := hide (KR.out _ HD.out)
        clear KR
        go_cut [9] (fun v9 wx => ∃ (V : Vm) (R : Rm), v9 = .int .i64 code ∧ Hid (Rel S1 R n es) ∧ Hid (Its w (.mir w.heap.size g H n m es S1 :: .dm w.heap.size V R (i + 1) :: .box gr #[.slice a n c, .slice b m e, .slice V.aS V.nS V.cS, .slice V.aT V.nT V.cT, .slice V.aD V.nD V.cD, .slice V.aL V.nL V.cL] 38 :: [.box w.heap.size #[.slice a n c, .slice b m e] 25]) wx))
        case first =>
          go_region_with (go_at_call 16; refine KQ.out.mono ?_; rintro e1 W3 ⟨⟨bS, mS, dS, bT, mT, dT, bD, mD, dD, bL, mL, dL⟩, R3, rfl, hr3, q⟩; (try dsimp only); have HRel := hide hr3; have I3 := hide q.rot3; clear q hr3; obtain ⟨f0, f1, f2, f3, f4, f5, ff⟩ := Its.cells6 I3.out)
          all_goals go_wp2_with fail
          all_goals have I4 := hide (Its.rput (V := ⟨aS, nS, cS, aT, nT, cT, aD, nD, cD, aL, nL, cL⟩) I3.out ⟨bS, mS, dS, bT, mT, dT, bD, mD, dD, bL, mL, dL⟩)
          all_goals dsimp only at I4
          all_goals go_meet
          all_goals exact ⟨⟨bS, mS, dS, bT, mT, dT, bD, mD, dD, bL, mL, dL⟩, R3, rfl, HRel, hide I4.out.rot3'.swap⟩
        case rest =>
        obtain ⟨⟨bS, mS, dS, bT, mT, dT, bD, mD, dD, bL, mL, dL⟩, R3, rfl, HRel, HR⟩ := hcut
        obtain ⟨wB, rfl⟩ : ∃ W, W = wc := ⟨_, rfl⟩
        dsimp only at *
        clear n0 n1 n2 n3 c0 c1 c2 c3 c4 c5 cf HD KQ I7 XM
        obtain ⟨c0, c1, c2, c3, c4, c5, cf⟩ := Its.cells6 HR.out.tail.tail
        have KT := hide (tellsS HR.out HL.out HRel.out)
        dsimp only at KT
        have KD := hide (fun W (hW : Its w (.mir w.heap.size g H n m es S1 :: .dm w.heap.size ⟨bS, mS, dS, bT, mT, dT, bD, mD, dD, bL, mL, dL⟩ R3 (i + 1) :: .box gr #[.slice a n c, .slice b m e, .slice bS mS dS, .slice bT mT dT, .slice bD mD dD, .slice bL mL dL] 38 :: [.box w.heap.size #[.slice a n c, .slice b m e] 25]) W) => downS hW)
        have HbX : Hid (S1.down.length ≤ 1000) := hide (by have q := dm_f HR.out.two; have q2 := q.lD; rw [HRel.out.dw] at q2; have := q.bD; dsimp only at *; omega)
        go_upto_region 21 with (first
          | (go_at_call 18; refine (KD.out _ I8.out).mono ?_; rintro e1 W9 ⟨aX, nX, cX, rfl, hnX, q⟩; have I9 := hide q; have HnX := hide hnX; clear q hnX)
          | (go_at_call 17; refine KT.out.mono ?_; rintro e1 W8 ⟨rfl, q⟩; have I8 := hide q; clear q))
        clear c0 c1 c2 c3 c4 c5 cf KT KD I8 HR
        have i5 : nX ≤ 1000 := by rw [← HnX.out]; exact HbX.out
        go_wp2_with fail
        go_loopw [104] (fun v104 wr => ∃ (k : Nat) (ds : List Int), v104 = .int .i64 k ∧ k ≤ nX ∧ Hid (ds.length = nX) ∧ Hid (Its w (.ints w.heap.size (.slice aX nX cX) ds :: .mir w.heap.size g H n m es S1 :: .dm w.heap.size ⟨bS, mS, dS, bT, mT, dT, bD, mD, dD, bL, mL, dL⟩ R3 (i + 1) :: .box gr #[.slice a n c, .slice b m e, .slice bS mS dS, .slice bT mT dT, .slice bD mD dD, .slice bL mL dL] 38 :: [.box w.heap.size #[.slice a n c, .slice b m e] 25]) wr)) (fun v104 _ => nX - (intOf v104).toNat)
        case atStart => exact ⟨0, _, rfl, by omega, HnX, I9⟩
        case round =>
          clear I9 HnX HbX
          obtain ⟨k, ds, rfl, hk, Hds, HT⟩ := hrel
          by_cases hkn : k < nX
          case pos =>
            have j1 : (k : Int) < (nX : Int) := by omega
            have j0 : (0 : Int) ≤ (k : Int) := by omega
            obtain ⟨x, hx⟩ : ∃ x, ds[k]? = some x := ⟨_, List.getElem?_eq_getElem (by rw [Hds.out]; exact hkn)⟩
            obtain ⟨gE, capE, hvE, _⟩ := El.Own.some (E := intE) HT.out.one (fun e => by rw [e] at hx; cases hx)
            simp only [Value.slice.injEq] at hvE
            obtain ⟨rfl, _, rfl⟩ := hvE
            obtain ⟨z0, z1⟩ := El.Own.at1 (Value.int .i64) (fun _ => rfl) rfl (show intE.Own wr w.heap.size (.slice (some ⟨gE, 0, none⟩) nX cX) ds from HT.out.one) k _ hx
            have HS := hide (HT.out.iset k 0)
            have Hx2 : Hid ((ds.set k 0).length = nX) := hide (by rw [List.length_set]; exact Hds.out)
            clear hx HT
            go_wp2_with fail
            go_roundw
            case rel => exact ⟨k + 1, _, by go_num, by omega, Hx2, HS⟩
            case measure => simp [intOf]; omega
          case neg =>
            have j1 : ¬ (k : Int) < (nX : Int) := by omega
            have HN := hide HT.out.tail
            clear HT
            go_wp2_with fail
            go_roundw
            case rel => exact ⟨i + 1, S1, ⟨bS, mS, dS, bT, mT, dT, bD, mD, dD, bL, mL, dL⟩, R3, by go_num, by omega, HRel, HN⟩
            case measure => simp [intOf]; omega
end Go.Proofs.Ytlnnpdghcilioaa

