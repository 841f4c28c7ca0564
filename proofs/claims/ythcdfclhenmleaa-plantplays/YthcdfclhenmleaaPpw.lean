/- The walk of PlantPlays. -/
import Derived.Test.YthcdfclhenmleaaPag
import Derived.Test.YthcdfclhenmleaaPmu
import Derived.Test.YthcdfclhenmleaaDph
import Derived.Test.YthcdfclhenmleaaDpl
import Derived.Test.YthcdfclhenmleaaDpi
import Derived.Test.YthcdfclhenmleaaOwn
import Derived.Test.YthcdfclhenmleaaSam
import Derived.Deep.CutBlock
import Derived.Deep.RegionWith
namespace Go.Proofs.Ythcdfclhenmleaa
open Go.RowKit
set_option linter.unusedVariables false
/-- a layout's copy: both its slices as one thing -/
def It.cp (B : Nat) (vN vE : Value) (ns : List Nd) (es : List Ed) : It where
  P w := ndE.Own w B vN ns ∧ edE.Own w B vE es
  f k := vN.ownBlock = some k ∨ vE.ownBlock = some k
  lt h k hk := hk.elim (h.1.lt k) (h.2.lt k)
  st h hs := ⟨own_stay h.1 fun g hg _ => hs g (.inl hg), own_stay h.2 fun g hg _ => hs g (.inr hg)⟩
theorem Its.p5 {w0 w : World} {l : List It} {x y z t u : It} (h : Its w0 (x :: y :: z :: t :: u :: l) w) : u.P w := h.all u (by simp)
theorem El.Own.capE {α : Type} {E : El Try.prog α} {w : World} {B n c : Nat} {a : Option Addr} {xs : List α} (h : E.Own w B (.slice a n c) xs) : xs.length ≤ c := by
  rcases h.2 with ⟨e1, e2⟩ | ⟨g, cap, cur, e1, _, _, e2, _⟩
  · omega
  · cases e1; exact e2
theorem Its.eset {w0 w : World} {l : List It} {m : Nat} {B gE cap : Nat} {xs : List Ed} (h : Its w0 (.row edE B (.slice (some ⟨gE, 0, none⟩) m cap) xs :: l) w) {i : Nat} {x : Ed} (hx : xs[i]? = some x) (u v : Int) :
    Its w0 (.row edE B (.slice (some ⟨gE, 0, none⟩) m cap) (xs.set i (u, v)) :: l) ((w.setCell ⟨gE, i * 2, none⟩ (.int .i64 u)).setCell ⟨gE, i * 2 + 1, none⟩ (.int .i64 v)) := by
  have h1 : Its w0 (.row edE B (.slice (some ⟨gE, 0, none⟩) m cap) (xs.set i (u, x.2)) :: l) (w.setCell ⟨gE, i * 2, none⟩ (.int .i64 u)) :=
    h.chg (x' := .row edE B (.slice (some ⟨gE, 0, none⟩) m cap) (xs.set i (u, x.2))) (own_setC (E := edE) (j := 0) (x := x) (z := (u, x.2)) (u := .int .i64 u) h.one hx (by decide) rfl) (fun _ hk => .inl hk) ((Frm.set w gE (i * 2) _).mono (fun j _ hj => by subst hj; rfl))
  have hi := (List.getElem?_eq_some_iff.1 hx).1
  have h2 := h1.chg (x' := .row edE B (.slice (some ⟨gE, 0, none⟩) m cap) ((xs.set i (u, x.2)).set i (u, v))) (own_setC (E := edE) (i := i) (j := 1) (x := (u, x.2)) (z := (u, v)) (u := .int .i64 v) h1.one (by rw [List.getElem?_set_self hi]) (by decide) rfl) (fun _ hk => .inl hk) ((Frm.set _ gE (i * 2 + 1) _).mono (fun j _ hj => by subst hj; rfl))
  rw [List.set_set] at h2
  exact h2
theorem two9 {W : World} {g : Nat} {x y : Value} {t : TypeId} (h : W.heap[g]? = some (.cells #[x, y] t)) : W.cell? ⟨g, 0, none⟩ = some x ∧ W.cell? ⟨g, 1, none⟩ = some y := ⟨(cells_at h 0).1, (cells_at h 1).1⟩
section
variable {w W : World} {l : List It} {a b aN aE : Option Addr} {c e n m cN cE : Nat} {ns : List Nd} {es : List Ed}
theorem own9 (h : Its w l W) (L : Lyt w a b c e n m ns es) (hn : n ≤ 60 ∧ m ≤ 200) : Calls Try.prog 11 #[.agg #[.slice a n c, .slice b m e]] W fun r w' => ∃ aN cN aE cE, r = .returned (.agg #[.slice aN n cN, .slice aE m cE]) ∧ Its w (.cp w.heap.size (.slice aN n cN) (.slice aE m cE) ns es :: l) w' := by
  have L1 := L.keep h.bel
  have h1 := L1.hn
  have h2 := L1.hm
  subst h1
  subst h2
  refine (copy_any a b c e ns es W L1.hv L1.hu (by omega) (by omega)).mono ?_
  rintro r w' ⟨vN, vE, rfl, o1, o2, hb⟩
  obtain ⟨aN, cN, rfl⟩ := o1.rd.form
  obtain ⟨aE, cE, rfl⟩ := o2.rd.form
  exact ⟨aN, cN, aE, cE, rfl, h.new ⟨o1.mono h.size, o2.mono h.size⟩ (fun k hk => hk.elim (o1.ge k) (o2.ge k)) hb⟩
theorem lyt9 (h : (It.cp w.heap.size (.slice aN n cN) (.slice aE m cE) ns es).P W) (L : Lyt w a b c e n m ns es) : Lyt W aN aE cN cE n m ns es :=
  ⟨L.hn, L.hm, h.1.rd, h.2.rd, by have := El.Own.capE (E := edE) h.2; rw [L.hm] at this; exact this, L.hs⟩
theorem same9 (h : Its w l W) (hc : (It.cp w.heap.size (.slice aN n cN) (.slice aE m cE) ns es).P W) (L : Lyt w a b c e n m ns es) (hn : n ≤ 60 ∧ m ≤ 200) : Calls Try.prog 14 #[.agg #[.slice aN n cN, .slice aE m cE], .agg #[.slice a n c, .slice b m e]] W fun r w' => r = .returned (.bool true) ∧ Its w l w' := by
  have L1 := L.keep h.bel
  have L2 := lyt9 hc L
  have h1 := L1.hn
  have h2 := L1.hm
  subst h1
  subst h2
  refine (rsame_any aN aE a b cN cE c e ns ns es es W L2.hv L2.hu L1.hv L1.hu (by omega) (by omega)).mono ?_
  rintro r w' ⟨rfl, q⟩
  exact ⟨by simp, h.keep q⟩
end
set_option maxRecDepth 100000 in
set_option maxHeartbeats 8000000 in
theorem plays_any (a b : Option Addr) (c e n m : Nat) (ns : List Nd) (es : List Ed) (an : Option Addr) (ln cn : Nat) (zn : List Op) (w : World) (L : Lyt w a b c e n m ns es) (hln : zn.length = ln) (hn : Ops w (.slice an ln cn) zn) :
    Calls Try.prog 3 #[.agg #[.slice a n c, .slice b m e], .slice an ln cn] w fun e w' => e = .returned (.bool true) ∧ Below w.heap.size w w' := by
  have I1 : Hid (Its w [.box w.heap.size #[.slice a n c, .slice b m e] 25] (w.alloc (.cells #[.slice a n c, .slice b m e] 25))) := hide ((Its.nil w).box1 #[.slice a n c, .slice b m e] 25)
  have XL : Hid (∀ W, Its w [.box w.heap.size #[.slice a n c, .slice b m e] 25] W → W.cell? ⟨w.heap.size, 0, none⟩ = some (.slice a n c) ∧ W.cell? ⟨w.heap.size, 1, none⟩ = some (.slice b m e)) := hide (fun W h => h.lbox1)
  obtain ⟨u0, u1⟩ := XL.out _ I1.out
  have HL := hide L
  have HLm : Hid (es.length = m) := hide L.hm
  have Hln := hide hln
  have Hn := hide hn
  clear hln hn
  by_cases hfew : n ≤ 60 ∧ m ≤ 200
  case neg =>
    have hd : decide (n ≤ 60 ∧ m ≤ 200) = false := decide_eq_false hfew
    clear L hfew
    go_enter Try.func3, Try.ntmps3
    go_wp2_with (first
      | (go_at_call 9; refine (awake_any _).mono ?_; rintro e1 W4 ⟨rfl, q⟩; have I4 := hide (I3.out.keep q); clear q)
      | (go_at_call 10; refine few_any.mono ?_; rintro e1 W3 ⟨rfl, q⟩; have I3 := hide (I2.out.keep q); clear q; obtain ⟨y0, y1⟩ := XL.out _ I3.out)
      | (go_at_call 9; refine (awake_any _).mono ?_; rintro e1 W2 ⟨rfl, q⟩; have I2 := hide (I1.out.keep q); clear q; obtain ⟨u0, u1⟩ := XL.out _ I2.out))
    go_ret
    exact ⟨rfl, I4.out.bel⟩
  case pos =>
  have hd : decide (n ≤ 60 ∧ m ≤ 200) = true := decide_eq_true hfew
  have KO := hide (fun W (h : Its w [.box w.heap.size #[.slice a n c, .slice b m e] 25] W) => own9 h L hfew)
  have KS := hide (fun W l aN aE cN cE (h : Its w l W) (hc : (It.cp w.heap.size (.slice aN n cN) (.slice aE m cE) ns es).P W) => same9 h hc L hfew)
  have Hi9 := hide hfew.2
  clear hfew
  cases hg : good ns es with
  | false =>
    have KN : Hid (∀ W aN aE cN cE, (It.cp w.heap.size (.slice aN n cN) (.slice aE m cE) ns es).P W → Calls Try.prog 12 #[.agg #[.slice aN n cN, .slice aE m cE]] W fun e w' => e = .returned (.tuple #[.pointer none, .int .i64 61]) ∧ Below W.heap.size W w') := hide (fun W aN aE cN cE h => new_no (lyt9 h L) hg)
    have KR : Hid (∀ W l, Its w l W → Calls Try.prog 13 #[.agg #[.slice a n c, .slice b m e]] W fun r w' => r = .returned (.tuple #[.agg #[.slice none 0 0, .slice none 0 0, .slice none 0 0, .slice none 0 0, .slice none 0 0, .int .i64 0], .int .i64 61]) ∧ Its w (.dm w.heap.size V0 R0 0 :: l) w') := hide (fun W l h => (rnew_any h (h.keepL L)).mono (fun r w' q => ⟨q.2.1 hg, q.2.2⟩))
    clear L hg
    go_enter Try.func3, Try.ntmps3
    go_upto_region 8 with (first
      | (go_at_call 14; refine (KS.out _ _ _ _ _ _ I8.out I8.out.four).mono ?_; rintro e1 W9 ⟨rfl, q⟩; have I9 := hide q; clear q; obtain ⟨s0, s1⟩ := two9 I9.out.three)
      | (go_at_call 13; refine (KR.out _ _ I6.out).mono ?_; rintro e1 W7 ⟨rfl, q⟩; have I7 := hide q; clear q; have I8 := hide (I7.out.box1 #[.slice none 0 0, .slice none 0 0, .slice none 0 0, .slice none 0 0, .slice none 0 0, .int .i64 0] 38); obtain ⟨s0, s1⟩ := two9 I8.out.three; obtain ⟨y0, y1⟩ := two9 I8.out.p5)
      | (go_at_call 12; refine (KN.out _ _ _ _ _ I5.out.two).mono ?_; rintro e1 W6 ⟨rfl, q⟩; have I6 := hide (I5.out.keep q); clear q; obtain ⟨y0, y1⟩ := two9 I6.out.three)
      | (go_at_call 11; refine (KO.out _ I3.out).mono ?_; rintro e1 W4 ⟨aN, cN, aE, cE, rfl, q⟩; have I4 := hide q; clear q; have I5 := hide (I4.out.box1 #[.slice aN n cN, .slice aE m cE] 25); obtain ⟨s0, s1⟩ := two9 I5.out.one; obtain ⟨y0, y1⟩ := two9 I5.out.three)
      | (go_at_call 10; refine few_any.mono ?_; rintro e1 W3 ⟨rfl, q⟩; have I3 := hide (I2.out.keep q); clear q; obtain ⟨y0, y1⟩ := XL.out _ I3.out)
      | (go_at_call 9; refine (awake_any _).mono ?_; rintro e1 W2 ⟨rfl, q⟩; have I2 := hide (I1.out.keep q); clear q; obtain ⟨u0, u1⟩ := XL.out _ I2.out))
    generalize W4.heap.size = gi at *
    have i9 := Hi9.out
    have IE : Hid (Its w (.row edE w.heap.size (.slice aE m cE) es :: .box gi #[.slice aN n cN, .slice aE m cE] 25 :: [.box w.heap.size #[.slice a n c, .slice b m e] 25]) W9) := hide (I9.out.tail.tail.swap.as (x' := .row edE w.heap.size (.slice aE m cE) es) I9.out.four.2 (fun k hk => .inr hk))
    clear KN KR KS KO I1 I2 I3 I4 I5 I6 I7 I8 I9 u0 u1 y0 y1 XL
    go_wp2_with fail
    go_loopw [56] (fun v56 wr => ∃ (j : Nat) (aE : Option Addr) (cE : Nat) (xs : List Ed), v56 = .int .i64 j ∧ j ≤ m ∧ Hid (xs.length = m) ∧ Hid (Its w (.row edE w.heap.size (.slice aE m cE) xs :: .box gi #[.slice aN n cN, .slice aE m cE] 25 :: [.box w.heap.size #[.slice a n c, .slice b m e] 25]) wr)) (fun v56 _ => m - (intOf v56).toNat)
    case atStart => exact ⟨0, aE, cE, es, rfl, by omega, HLm, IE⟩
    case round =>
      clear IE
      obtain ⟨j, aE, cE, xs, rfl, hj, Hxs, HR⟩ := hrel
      obtain ⟨s0, s1⟩ := two9 HR.out.two
      by_cases hjm : j < m
      case pos =>
        have q1 : (j : Int) < (m : Int) := by omega
        have q0 : (0 : Int) ≤ (j : Int) := by omega
        obtain ⟨x, hx⟩ : ∃ x, xs[j]? = some x := ⟨_, List.getElem?_eq_getElem (by rw [Hxs.out]; exact hjm)⟩
        obtain ⟨gE, capE, hvE, _⟩ := El.Own.some (E := edE) HR.out.one (fun e => by rw [e] at hx; cases hx)
        simp only [Value.slice.injEq] at hvE
        obtain ⟨rfl, _, rfl⟩ := hvE
        have hf0 : wr.frozen? ⟨gE, j * 2, none⟩ = false := (El.Own.cell (E := edE) HR.out.one (j * 2) (by rw [Hxs.out]; show j * 2 < m * 2; omega)).2.1
        have hf1 : wr.frozen? ⟨gE, j * 2 + 1, none⟩ = false := (El.Own.cell (E := edE) HR.out.one (j * 2 + 1) (by rw [Hxs.out]; show j * 2 + 1 < m * 2; omega)).2.1
        obtain ⟨b4, off4, hb4, d0, d1⟩ := ed_at (El.Own.rd (E := edE) HR.out.one) j x hx
        simp only [Option.some.injEq, Addr.mk.injEq, and_true] at hb4
        obtain ⟨rfl, rfl⟩ := hb4
        simp only [Nat.zero_add] at d0 d1
        have HS := hide (HR.out.eset hx 0 0)
        have Hx2 : Hid ((xs.set j (0, 0)).length = m) := hide (by rw [List.length_set]; exact Hxs.out)
        clear hx HR
        go_wp2_with fail
        go_roundw
        case rel => exact ⟨j + 1, _, _, _, by go_num, by omega, Hx2, HS⟩
        case measure => simp [intOf]; omega
      case neg =>
        have q1 : ¬ (j : Int) < (m : Int) := by omega
        go_wp2_with fail
        go_loopw [11] (fun v11 W9 => ∃ i : Int, v11 = .int .i64 i ∧ Hid (Below w.heap.size w W9)) (fun _ _ => 0)
        case atStart => exact ⟨0, rfl, hide HR.out.bel⟩
        case round =>
          obtain ⟨i, rfl, HB⟩ := hrel
          go_wp2_with fail
          go_ret
          exact ⟨rfl, HB.out⟩
  | true =>
  have KN : Hid (∀ W aN aE cN cE, (It.cp w.heap.size (.slice aN n cN) (.slice aE m cE) ns es).P W → Calls Try.prog 12 #[.agg #[.slice aN n cN, .slice aE m cE]] W fun e w' => NewP W n m es e w') := hide (fun W aN aE cN cE h => new_ok (lyt9 h L) hg)
  have KR : Hid (∀ W l, Its w l W → Calls Try.prog 13 #[.agg #[.slice a n c, .slice b m e]] W fun r w' => r = .returned (.tuple #[.agg #[.slice a n c, .slice b m e, .slice none 0 0, .slice none 0 0, .slice none 0 0, .int .i64 0], .int .i64 0]) ∧ Its w (.dm w.heap.size V0 R0 0 :: l) w') := hide (fun W l h => (rnew_any h (h.keepL L)).mono (fun r w' q => ⟨q.1 hg, q.2.2⟩))
  have hOk0 : (Pl.nw n es).Ok n es := by
    obtain ⟨g1, g2, g3⟩ := good_he hg
    rw [L.hn] at g1 g3
    exact Pl.nw_ok g1 g2 g3
  have HRel0 : Hid (Rel (Pl.nw n es) R0 n es) := hide (Rel.nw hOk0)
  obtain ⟨S0, hS0⟩ : ∃ S0, Pl.nw n es = S0 := ⟨_, rfl⟩
  rw [hS0] at HRel0
  replace hS0 := hide hS0
  have i0 : Hid (m ≤ 120) := hide (by obtain ⟨g1, g2, g3⟩ := good_he hg; rw [L.hm] at g2; exact g2)
  clear L hg hOk0
  go_enter Try.func3, Try.ntmps3
  go_upto_region 8 with (first
    | (go_at_call 14; refine (KS.out _ _ _ _ _ _ I8.out I8.out.p5).mono ?_; rintro e1 W9 ⟨rfl, q⟩; have I9 := hide q; clear q; obtain ⟨s0, s1⟩ := two9 I9.out.four)
    | (go_at_call 13; refine (KR.out _ _ I6.out).mono ?_; rintro e1 W7 ⟨rfl, q⟩; have I7 := hide q; clear q; have I8 := hide (I7.out.box1 #[.slice a n c, .slice b m e, .slice none 0 0, .slice none 0 0, .slice none 0 0, .int .i64 0] 38); obtain ⟨s0, s1⟩ := two9 I8.out.four; obtain ⟨y0, y1⟩ := two9 I8.out.tail.p5)
    | (go_at_call 12; refine (KN.out _ _ _ _ _ I5.out.two).mono ?_; rintro e1 W6 ⟨g, H, rfl, q⟩; have I6 := hide (I5.out.addm q); rw [hS0.out] at I6; clear q; obtain ⟨y0, y1⟩ := two9 I6.out.four)
    | (go_at_call 11; refine (KO.out _ I3.out).mono ?_; rintro e1 W4 ⟨aN, cN, aE, cE, rfl, q⟩; have I4 := hide q; clear q; have I5 := hide (I4.out.box1 #[.slice aN n cN, .slice aE m cE] 25); obtain ⟨s0, s1⟩ := two9 I5.out.one; obtain ⟨y0, y1⟩ := two9 I5.out.three)
    | (go_at_call 10; refine few_any.mono ?_; rintro e1 W3 ⟨rfl, q⟩; have I3 := hide (I2.out.keep q); clear q; obtain ⟨y0, y1⟩ := XL.out _ I3.out)
    | (go_at_call 9; refine (awake_any _).mono ?_; rintro e1 W2 ⟨rfl, q⟩; have I2 := hide (I1.out.keep q); clear q; obtain ⟨u0, u1⟩ := XL.out _ I2.out))
  generalize W4.heap.size = gi at *
  generalize W7.heap.size = gr at *
  have i9 := Hi9.out
  have IE : Hid (Its w (.row edE w.heap.size (.slice aE m cE) es :: .box gi #[.slice aN n cN, .slice aE m cE] 25 :: .pla w.heap.size g H n m es S0 :: .dm w.heap.size V0 R0 0 :: .box gr #[.slice a n c, .slice b m e, .slice none 0 0, .slice none 0 0, .slice none 0 0, .int .i64 0] 38 :: [.box w.heap.size #[.slice a n c, .slice b m e] 25]) W9) := hide ((I9.out.fifth.fifth.swap.as (x' := .row edE w.heap.size (.slice aE m cE) es) I9.out.p5.2 (fun k hk => .inr hk)).perm ((List.Perm.cons _ (List.Perm.cons _ ((List.Perm.cons _ (List.Perm.swap _ _ _)).trans ((List.Perm.swap _ _ _).trans (List.Perm.cons _ (List.Perm.swap _ _ _))))))))
  clear KN KR KS KO I1 I2 I3 I4 I5 I6 I7 I8 I9 u0 u1 y0 y1 XL
  go_wp2_with fail
  go_loopw [56] (fun v56 wr => ∃ (j : Nat) (aE : Option Addr) (cE : Nat) (xs : List Ed), v56 = .int .i64 j ∧ j ≤ m ∧ Hid (xs.length = m) ∧ Hid (Its w (.row edE w.heap.size (.slice aE m cE) xs :: .box gi #[.slice aN n cN, .slice aE m cE] 25 :: .pla w.heap.size g H n m es S0 :: .dm w.heap.size V0 R0 0 :: .box gr #[.slice a n c, .slice b m e, .slice none 0 0, .slice none 0 0, .slice none 0 0, .int .i64 0] 38 :: [.box w.heap.size #[.slice a n c, .slice b m e] 25]) wr)) (fun v56 _ => m - (intOf v56).toNat)
  case atStart => exact ⟨0, aE, cE, es, rfl, by omega, HLm, IE⟩
  case round =>
    clear IE
    obtain ⟨j, aE, cE, xs, rfl, hj, Hxs, HR⟩ := hrel
    obtain ⟨s0, s1⟩ := two9 HR.out.two
    by_cases hjm : j < m
    case pos =>
      have q1 : (j : Int) < (m : Int) := by omega
      have q0 : (0 : Int) ≤ (j : Int) := by omega
      obtain ⟨x, hx⟩ : ∃ x, xs[j]? = some x := ⟨_, List.getElem?_eq_getElem (by rw [Hxs.out]; exact hjm)⟩
      obtain ⟨gE, capE, hvE, _⟩ := El.Own.some (E := edE) HR.out.one (fun e => by rw [e] at hx; cases hx)
      simp only [Value.slice.injEq] at hvE
      obtain ⟨rfl, _, rfl⟩ := hvE
      have hf0 : wr.frozen? ⟨gE, j * 2, none⟩ = false := (El.Own.cell (E := edE) HR.out.one (j * 2) (by rw [Hxs.out]; show j * 2 < m * 2; omega)).2.1
      have hf1 : wr.frozen? ⟨gE, j * 2 + 1, none⟩ = false := (El.Own.cell (E := edE) HR.out.one (j * 2 + 1) (by rw [Hxs.out]; show j * 2 + 1 < m * 2; omega)).2.1
      obtain ⟨b4, off4, hb4, d0, d1⟩ := ed_at (El.Own.rd (E := edE) HR.out.one) j x hx
      simp only [Option.some.injEq, Addr.mk.injEq, and_true] at hb4
      obtain ⟨rfl, rfl⟩ := hb4
      simp only [Nat.zero_add] at d0 d1
      have HS := hide (HR.out.eset hx 0 0)
      have Hx2 : Hid ((xs.set j (0, 0)).length = m) := hide (by rw [List.length_set]; exact Hxs.out)
      clear hx HR
      go_wp2_with fail
      go_roundw
      case rel => exact ⟨j + 1, _, _, _, by go_num, by omega, Hx2, HS⟩
      case measure => simp [intOf]; omega
    case neg =>
      have q1 : ¬ (j : Int) < (m : Int) := by omega
      obtain ⟨wA, rfl⟩ : ∃ W, W = wr := ⟨_, rfl⟩
      have HR9 := hide HR.out.tail.tail
      clear HR Hxs s0 s1
      go_wp2_with fail
      go_loopw [11] (fun v11 wr => ∃ (i : Nat) (S : Pl) (V : Vp) (R : Rp), v11 = .int .i64 i ∧ i ≤ 150 ∧ Hid (Rel S R n es) ∧ Hid (Its w (.pla w.heap.size g H n m es S :: .dm w.heap.size V R i :: .box gr #[.slice a n c, .slice b m e, .slice V.aS V.nS V.cS, .slice V.aD V.nD V.cD, .slice V.aL V.nL V.cL, .int .i64 R.mv] 38 :: [.box w.heap.size #[.slice a n c, .slice b m e] 25]) wr)) (fun v11 _ => 150 - (intOf v11).toNat)
      case atStart => exact ⟨0, S0, V0, R0, rfl, by omega, HRel0, HR9⟩
      case round =>
        clear HRel0 HR9
        obtain ⟨i, S, ⟨aS, nS, cS, aD, nD, cD, aL, nL, cL⟩, R, rfl, hi, HRel, HR⟩ := hrel
        dsimp only at *
        by_cases hil : i < ln
        case neg =>
          have q1 : ¬ (i : Int) < (ln : Int) := by omega
          go_wp2_with fail
          go_ret
          exact ⟨rfl, HR.out.bel⟩
        case pos =>
        have q1 : (i : Int) < (ln : Int) := by omega
        by_cases hi5 : i < 150
        case neg =>
          have q2 : ¬ (i : Int) < 150 := by omega
          go_wp2_with fail
          go_ret
          exact ⟨rfl, HR.out.bel⟩
        case pos =>
        have q2 : (i : Int) < 150 := by omega
        have q0 : (0 : Int) ≤ (i : Int) := by omega
        obtain ⟨p, hp⟩ : ∃ p, zn[i]? = some p := ⟨_, List.getElem?_eq_getElem (by rw [Hln.out]; exact hil)⟩
        have XN : Hid (∀ W, Below w.heap.size w W → ∃ b0 o0, an = some ⟨b0, o0, none⟩ ∧ W.cell? ⟨b0, o0 + i * 8, none⟩ = some (.int .i64 p.kind) ∧ W.cell? ⟨b0, o0 + i * 8 + 1, none⟩ = some (.int .i64 p.a) ∧ W.cell? ⟨b0, o0 + i * 8 + 2, none⟩ = some (.int .i64 p.b) ∧ W.cell? ⟨b0, o0 + i * 8 + 3, none⟩ = some (.int .u8 p.t.k) ∧ W.cell? ⟨b0, o0 + i * 8 + 4, none⟩ = some (.int .u16 p.t.d) ∧ W.cell? ⟨b0, o0 + i * 8 + 5, none⟩ = some (.int .u16 p.t.s) ∧ W.cell? ⟨b0, o0 + i * 8 + 6, none⟩ = some (.int .u16 p.t.a) ∧ W.cell? ⟨b0, o0 + i * 8 + 7, none⟩ = some (.int .u16 p.t.b)) := hide (fun W h => by
          obtain ⟨b0, o0, q1, _, q2⟩ := (Hn.out.keep h).at i p hp
          exact ⟨b0, o0, q1, q2⟩)
        have HIn : Hid p.t.In := hide (Hn.out.2 p (List.mem_of_getElem? hp))
        obtain ⟨b0, o0, rfl, n0, n1, n2, n3, n4, n5, n6, n7⟩ := XN.out _ HR.out.bel
        clear XN hp
        obtain ⟨kd, xa, xb, ⟨tk, td, ts, ta, tb⟩⟩ := p
        dsimp only at *
        obtain ⟨go, hgo⟩ : ∃ go, wr.heap.size = go := ⟨_, rfl⟩
        have J1 : Hid (Its w (.box go #[.int .i64 kd, .int .i64 xa, .int .i64 xb, .int .u8 tk, .int .u16 td, .int .u16 ts, .int .u16 ta, .int .u16 tb] 47 :: .pla w.heap.size g H n m es S :: .dm w.heap.size ⟨aS, nS, cS, aD, nD, cD, aL, nL, cL⟩ R i :: .box gr #[.slice a n c, .slice b m e, .slice aS nS cS, .slice aD nD cD, .slice aL nL cL, .int .i64 R.mv] 38 :: [.box w.heap.size #[.slice a n c, .slice b m e] 25]) (wr.alloc (.cells #[.int .i64 kd, .int .i64 xa, .int .i64 xb, .int .u8 tk, .int .u16 td, .int .u16 ts, .int .u16 ta, .int .u16 tb] 47))) := hide (HR.out.boxN #[.int .i64 kd, .int .i64 xa, .int .i64 xb, .int .u8 tk, .int .u16 td, .int .u16 ts, .int .u16 ta, .int .u16 tb] 47 hgo)
        go_upto_region 17 with fail
        try rw [hgo]
        generalize wr.alloc (.cells #[.int .i64 kd, .int .i64 xa, .int .i64 xb, .int .u8 tk, .int .u16 td, .int .u16 ts, .int .u16 ta, .int .u16 tb] 47) = W1 at *
        clear n0 n1 n2 n3 n4 n5 n6 n7 hgo
        have XC : Hid (∀ W l, Its w (.box go #[.int .i64 kd, .int .i64 xa, .int .i64 xb, .int .u8 tk, .int .u16 td, .int .u16 ts, .int .u16 ta, .int .u16 tb] 47 :: l) W → W.cell? ⟨go, 0, none⟩ = some (.int .i64 kd) ∧ W.cell? ⟨go, 1, none⟩ = some (.int .i64 xa) ∧ W.cell? ⟨go, 2, none⟩ = some (.int .i64 xb) ∧ W.cell? ⟨go, 3, none⟩ = some (.int .u8 tk) ∧ W.cell? ⟨go, 4, none⟩ = some (.int .u16 td) ∧ W.cell? ⟨go, 5, none⟩ = some (.int .u16 ts) ∧ W.cell? ⟨go, 6, none⟩ = some (.int .u16 ta) ∧ W.cell? ⟨go, 7, none⟩ = some (.int .u16 tb)) := hide (fun W l h => ⟨(cells_at h.one 0).1, (cells_at h.one 1).1, (cells_at h.one 2).1, (cells_at h.one 3).1, (cells_at h.one 4).1, (cells_at h.one 5).1, (cells_at h.one 6).1, (cells_at h.one 7).1⟩)
        obtain ⟨gt, hgt⟩ : ∃ gt, W1.heap.size = gt := ⟨_, rfl⟩
        have J2 := hide (J1.out.boxN #[.int .u8 0, .int .u16 0, .int .u16 0, .int .u16 0, .int .u16 0] 45 hgt)
        obtain ⟨gw, hgw⟩ : ∃ gw, (W1.alloc (.cells #[.int .u8 0, .int .u16 0, .int .u16 0, .int .u16 0, .int .u16 0] 45)).heap.size = gw := ⟨_, rfl⟩
        have J3 : Hid (Its w (.box gw #[.int .u8 0, .int .u16 0, .int .u16 0, .int .u16 0, .int .u16 0] 45 :: .box gt #[.int .u8 0, .int .u16 0, .int .u16 0, .int .u16 0, .int .u16 0] 45 :: .box go #[.int .i64 kd, .int .i64 xa, .int .i64 xb, .int .u8 tk, .int .u16 td, .int .u16 ts, .int .u16 ta, .int .u16 tb] 47 :: .pla w.heap.size g H n m es S :: .dm w.heap.size ⟨aS, nS, cS, aD, nD, cD, aL, nL, cL⟩ R i :: .box gr #[.slice a n c, .slice b m e, .slice aS nS cS, .slice aD nD cD, .slice aL nL cL, .int .i64 R.mv] 38 :: .box w.heap.size #[.slice a n c, .slice b m e] 25 :: []) ((W1.alloc (.cells #[.int .u8 0, .int .u16 0, .int .u16 0, .int .u16 0, .int .u16 0] 45)).alloc (.cells #[.int .u8 0, .int .u16 0, .int .u16 0, .int .u16 0, .int .u16 0] 45))) := hide (J2.out.boxN #[.int .u8 0, .int .u16 0, .int .u16 0, .int .u16 0, .int .u16 0] 45 hgw)
        clear J1 J2 HR
        go_upto_region 18 with fail
        try rw [hgt]
        try rw [hgw]
        clear hgt hgw
        generalize ((W1.alloc (.cells #[.int .u8 0, .int .u16 0, .int .u16 0, .int .u16 0, .int .u16 0] 45)).alloc (.cells #[.int .u8 0, .int .u16 0, .int .u16 0, .int .u16 0, .int .u16 0] 45)) = W1 at *
        obtain ⟨c0, c1, c2, c3, c4, c5, c6, c7⟩ := XC.out _ _ (J3.out.pick 2 rfl); obtain ⟨r0, r1, r2, r3, r4, r5, rf⟩ := Its.cells6 (J3.out.pick 5 rfl)
        go_upto_block 4 with fail
        go_cut [7, 9, 15, 16] (fun v7 v9 v15 v16 wx => ∃ (S : Pl) (V : Vp) (R : Rp) (cd : Int) (T : Tl) (bb : Bool), v7 = .int .i64 cd ∧ v9 = .int .i64 cd ∧ v15 = .bool bb ∧ v16 = .bool bb ∧ Hid (Rel S R n es) ∧ Hid (Its w (.box gw #[.int .u8 T.k, .int .u16 T.d, .int .u16 T.s, .int .u16 T.a, .int .u16 T.b] 45 :: .box gt #[.int .u8 T.k, .int .u16 T.d, .int .u16 T.s, .int .u16 T.a, .int .u16 T.b] 45 :: .box go #[.int .i64 kd, .int .i64 xa, .int .i64 xb, .int .u8 tk, .int .u16 td, .int .u16 ts, .int .u16 ta, .int .u16 tb] 47 :: .pla w.heap.size g H n m es S :: .dm w.heap.size V R (i + 1) :: .box gr #[.slice a n c, .slice b m e, .slice V.aS V.nS V.cS, .slice V.aD V.nD V.cD, .slice V.aL V.nL V.cL, .int .i64 R.mv] 38 :: .box w.heap.size #[.slice a n c, .slice b m e] 25 :: []) wx))
        case first =>
          by_cases k1 : kd = 1
          · subst k1

            have KP : Hid (∀ (W : World) (l : List It), Its w (.pla w.heap.size g H n m es S :: l) W → Calls Try.prog 15 #[.pointer (some ⟨g, 0, none⟩), .int .i64 xa, .int .i64 xb] W fun e w' => e = .returned (.int .i64 (S.put xa xb).1) ∧ Its w (.pla w.heap.size g H n m es (S.put xa xb).2 :: l) w') := hide (fun W l hW => putS hW xa xb)
            have KQ : Hid (∀ (W : World) (l : List It), Its w (.dm w.heap.size ⟨aS, nS, cS, aD, nD, cD, aL, nL, cL⟩ R i :: l) W → Calls Try.prog 16 #[.agg #[.slice a n c, .slice b m e, .slice aS nS cS, .slice aD nD cD, .slice aL nL cL, .int .i64 R.mv], .int .i64 xa, .int .i64 xb] W fun r w' => RP w l a b c e n m (i + 1) (R.put n xa xb) r w') := hide (fun W l hW => rputS (V := ⟨aS, nS, cS, aD, nD, cD, aL, nL, cL⟩) hW (by omega) xa xb)
            obtain ⟨e9, hr⟩ := HRel.out.put xa xb
            generalize R.put n xa xb = Q at *
            generalize S.put xa xb = P at *
            obtain ⟨cd, S1⟩ := P
            obtain ⟨cd2, R1⟩ := Q
            unfold RP at KQ
            dsimp only at *
            subst e9
            have HRel1 := hide hr
            clear hr HRel
            go_wp2_with (first
              | (go_at_call 16; refine (KQ.out _ _ (J4.out.pick 4 rfl)).mono ?_; rintro e1 W5 ⟨⟨bS, mS, dS, bD, mD, dD, bL, mL, dL⟩, rfl, q⟩; (try dsimp only); have J6 : Hid (Its w (.dm w.heap.size ⟨bS, mS, dS, bD, mD, dD, bL, mL, dL⟩ R1 (i + 1) :: .pla w.heap.size g H n m es S1 :: .box gw #[.int .u8 0, .int .u16 0, .int .u16 0, .int .u16 0, .int .u16 0] 45 :: .box gt #[.int .u8 0, .int .u16 0, .int .u16 0, .int .u16 0, .int .u16 0] 45 :: .box go #[.int .i64 1, .int .i64 xa, .int .i64 xb, .int .u8 tk, .int .u16 td, .int .u16 ts, .int .u16 ta, .int .u16 tb] 47 :: .box gr #[.slice a n c, .slice b m e, .slice aS nS cS, .slice aD nD cD, .slice aL nL cL, .int .i64 R.mv] 38 :: .box w.heap.size #[.slice a n c, .slice b m e] 25 :: []) W5) := hide q; clear q; obtain ⟨f0, f1, f2, f3, f4, f5, ff⟩ := Its.cells6 (J6.out.pick 5 rfl))
              | (go_at_call 15; refine (KP.out _ _ (J3.out.pick 3 rfl)).mono ?_; rintro e1 W3 ⟨rfl, q⟩; have J4 : Hid (Its w (.pla w.heap.size g H n m es S1 :: .box gw #[.int .u8 0, .int .u16 0, .int .u16 0, .int .u16 0, .int .u16 0] 45 :: .box gt #[.int .u8 0, .int .u16 0, .int .u16 0, .int .u16 0, .int .u16 0] 45 :: .box go #[.int .i64 1, .int .i64 xa, .int .i64 xb, .int .u8 tk, .int .u16 td, .int .u16 ts, .int .u16 ta, .int .u16 tb] 47 :: .dm w.heap.size ⟨aS, nS, cS, aD, nD, cD, aL, nL, cL⟩ R i :: .box gr #[.slice a n c, .slice b m e, .slice aS nS cS, .slice aD nD cD, .slice aL nL cL, .int .i64 R.mv] 38 :: .box w.heap.size #[.slice a n c, .slice b m e] 25 :: []) W3) := hide q; clear q; obtain ⟨c0, c1, c2, c3, c4, c5, c6, c7⟩ := XC.out _ _ (J4.out.pick 3 rfl); obtain ⟨r0, r1, r2, r3, r4, r5, rf⟩ := Its.cells6 (J4.out.pick 5 rfl)))
            have J7 : Hid (Its w (.box gr #[.slice a n c, .slice b m e, .slice bS mS dS, .slice bD mD dD, .slice bL mL dL, .int .i64 R1.mv] 38 :: .dm w.heap.size ⟨bS, mS, dS, bD, mD, dD, bL, mL, dL⟩ R1 (i + 1) :: .pla w.heap.size g H n m es S1 :: .box gw #[.int .u8 0, .int .u16 0, .int .u16 0, .int .u16 0, .int .u16 0] 45 :: .box gt #[.int .u8 0, .int .u16 0, .int .u16 0, .int .u16 0, .int .u16 0] 45 :: .box go #[.int .i64 1, .int .i64 xa, .int .i64 xb, .int .u8 tk, .int .u16 td, .int .u16 ts, .int .u16 ta, .int .u16 tb] 47 :: .box w.heap.size #[.slice a n c, .slice b m e] 25 :: []) _) := hide (Its.out6 (J6.out.pick 5 rfl) (.slice a n c) (.slice b m e) (.slice bS mS dS) (.slice bD mD dD) (.slice bL mL dL) (.int .i64 R1.mv))
            go_meet
            exact ⟨S1, ⟨bS, mS, dS, bD, mD, dD, bL, mL, dL⟩, R1, cd2, tz, false, rfl, rfl, rfl, rfl, HRel1, hide (((((((J7.out.pick 6 rfl).pick 1 rfl).pick 2 rfl).pick 3 rfl).pick 6 rfl).pick 6 rfl).pick 6 rfl)⟩

          have k1' : (kd == 1) = false := beq_eq_false_iff_ne.2 k1
          by_cases k2 : kd = 2
          · subst k2

            have KP : Hid (∀ (W : World) (l : List It), Its w (.pla w.heap.size g H n m es S :: l) W → Calls Try.prog 17 #[.pointer (some ⟨g, 0, none⟩), .agg #[.int .u8 tk, .int .u16 td, .int .u16 ts, .int .u16 ta, .int .u16 tb]] W fun e w' => HP w l w.heap.size g n m H es (S.hear ⟨tk, td, ts, ta, tb⟩) e w') := hide (fun W l hW => hearS hW ⟨tk, td, ts, ta, tb⟩ HIn.out (by have h1 := dm_f (J3.out.pick 4 rfl).one; have h2 := h1.mv; have h3 := HRel.out.mv; omega))
            have KQ : Hid (∀ (W : World) (l : List It), Its w (.dm w.heap.size ⟨aS, nS, cS, aD, nD, cD, aL, nL, cL⟩ R i :: l) W → Calls Try.prog 18 #[.agg #[.slice a n c, .slice b m e, .slice aS nS cS, .slice aD nD cD, .slice aL nL cL, .int .i64 R.mv], .agg #[.int .u8 tk, .int .u16 td, .int .u16 ts, .int .u16 ta, .int .u16 tb]] W fun r w' => RH w l a b c e n m (i + 1) (R.hear es ⟨tk, td, ts, ta, tb⟩) r w') := hide (fun W l hW => rhearS (V := ⟨aS, nS, cS, aD, nD, cD, aL, nL, cL⟩) hW HL.out i0.out (by omega) ⟨tk, td, ts, ta, tb⟩ HIn.out (rel_lb HRel.out HL.out.hm td))
            obtain ⟨e9, hr⟩ := HRel.out.hear (t := ⟨tk, td, ts, ta, tb⟩) HIn.out
            generalize R.hear es ⟨tk, td, ts, ta, tb⟩ = Q at *
            generalize S.hear ⟨tk, td, ts, ta, tb⟩ = P at *
            obtain ⟨⟨⟨ak, ad, az, aa, ab⟩, bb⟩, S1⟩ := P
            obtain ⟨Q1, R1⟩ := Q
            unfold HP tv at KP
            unfold RH tv at KQ
            dsimp only at *
            subst e9
            have HRel1 := hide hr
            clear hr HRel
            go_wp2_with (first
              | (go_at_call 18; refine (KQ.out _ _ (J5.out.pick 4 rfl)).mono ?_; rintro e1 W5 ⟨⟨bS, mS, dS, bD, mD, dD, bL, mL, dL⟩, rfl, q⟩; (try dsimp only); have J6 : Hid (Its w (.dm w.heap.size ⟨bS, mS, dS, bD, mD, dD, bL, mL, dL⟩ R1 (i + 1) :: .box gt #[.int .u8 ak, .int .u16 ad, .int .u16 az, .int .u16 aa, .int .u16 ab] 45 :: .pla w.heap.size g H n m es S1 :: .box gw #[.int .u8 0, .int .u16 0, .int .u16 0, .int .u16 0, .int .u16 0] 45 :: .box go #[.int .i64 2, .int .i64 xa, .int .i64 xb, .int .u8 tk, .int .u16 td, .int .u16 ts, .int .u16 ta, .int .u16 tb] 47 :: .box gr #[.slice a n c, .slice b m e, .slice aS nS cS, .slice aD nD cD, .slice aL nL cL, .int .i64 R.mv] 38 :: .box w.heap.size #[.slice a n c, .slice b m e] 25 :: []) W5) := hide q; clear q; obtain ⟨r0, r1, r2, r3, r4, r5, rf⟩ := Its.cells6 (J6.out.pick 5 rfl); obtain ⟨v0, v1, v2, v3, v4, vf⟩ := Its.cells5 (J6.out.pick 3 rfl); have J7 : Hid (Its w (.box gr #[.slice a n c, .slice b m e, .slice bS mS dS, .slice bD mD dD, .slice bL mL dL, .int .i64 R1.mv] 38 :: .dm w.heap.size ⟨bS, mS, dS, bD, mD, dD, bL, mL, dL⟩ R1 (i + 1) :: .box gt #[.int .u8 ak, .int .u16 ad, .int .u16 az, .int .u16 aa, .int .u16 ab] 45 :: .pla w.heap.size g H n m es S1 :: .box gw #[.int .u8 0, .int .u16 0, .int .u16 0, .int .u16 0, .int .u16 0] 45 :: .box go #[.int .i64 2, .int .i64 xa, .int .i64 xb, .int .u8 tk, .int .u16 td, .int .u16 ts, .int .u16 ta, .int .u16 tb] 47 :: .box w.heap.size #[.slice a n c, .slice b m e] 25 :: []) _) := hide (Its.out6 (J6.out.pick 5 rfl) (.slice a n c) (.slice b m e) (.slice bS mS dS) (.slice bD mD dD) (.slice bL mL dL) (.int .i64 R1.mv)); obtain ⟨v0, v1, v2, v3, v4, vf⟩ := Its.cells5 (J7.out.pick 4 rfl))
              | (go_at_call 17; refine (KP.out _ _ (J3.out.pick 3 rfl)).mono ?_; rintro e1 W3 ⟨rfl, q⟩; (try dsimp only); have J4 : Hid (Its w (.pla w.heap.size g H n m es S1 :: .box gw #[.int .u8 0, .int .u16 0, .int .u16 0, .int .u16 0, .int .u16 0] 45 :: .box gt #[.int .u8 0, .int .u16 0, .int .u16 0, .int .u16 0, .int .u16 0] 45 :: .box go #[.int .i64 2, .int .i64 xa, .int .i64 xb, .int .u8 tk, .int .u16 td, .int .u16 ts, .int .u16 ta, .int .u16 tb] 47 :: .dm w.heap.size ⟨aS, nS, cS, aD, nD, cD, aL, nL, cL⟩ R i :: .box gr #[.slice a n c, .slice b m e, .slice aS nS cS, .slice aD nD cD, .slice aL nL cL, .int .i64 R.mv] 38 :: .box w.heap.size #[.slice a n c, .slice b m e] 25 :: []) W3) := hide q; clear q; obtain ⟨t0, t1, t2, t3, t4, tf⟩ := Its.cells5 (J4.out.pick 2 rfl); have J5 : Hid (Its w (.box gt #[.int .u8 ak, .int .u16 ad, .int .u16 az, .int .u16 aa, .int .u16 ab] 45 :: .pla w.heap.size g H n m es S1 :: .box gw #[.int .u8 0, .int .u16 0, .int .u16 0, .int .u16 0, .int .u16 0] 45 :: .box go #[.int .i64 2, .int .i64 xa, .int .i64 xb, .int .u8 tk, .int .u16 td, .int .u16 ts, .int .u16 ta, .int .u16 tb] 47 :: .dm w.heap.size ⟨aS, nS, cS, aD, nD, cD, aL, nL, cL⟩ R i :: .box gr #[.slice a n c, .slice b m e, .slice aS nS cS, .slice aD nD cD, .slice aL nL cL, .int .i64 R.mv] 38 :: .box w.heap.size #[.slice a n c, .slice b m e] 25 :: []) _) := hide (Its.out5 (J4.out.pick 2 rfl) (.int .u8 ak) (.int .u16 ad) (.int .u16 az) (.int .u16 aa) (.int .u16 ab)); obtain ⟨c0, c1, c2, c3, c4, c5, c6, c7⟩ := XC.out _ _ (J5.out.pick 3 rfl); obtain ⟨r0, r1, r2, r3, r4, r5, rf⟩ := Its.cells6 (J5.out.pick 5 rfl)))
            have J8 : Hid (Its w (.box gw #[.int .u8 ak, .int .u16 ad, .int .u16 az, .int .u16 aa, .int .u16 ab] 45 :: .box gr #[.slice a n c, .slice b m e, .slice bS mS dS, .slice bD mD dD, .slice bL mL dL, .int .i64 R1.mv] 38 :: .dm w.heap.size ⟨bS, mS, dS, bD, mD, dD, bL, mL, dL⟩ R1 (i + 1) :: .box gt #[.int .u8 ak, .int .u16 ad, .int .u16 az, .int .u16 aa, .int .u16 ab] 45 :: .pla w.heap.size g H n m es S1 :: .box go #[.int .i64 2, .int .i64 xa, .int .i64 xb, .int .u8 tk, .int .u16 td, .int .u16 ts, .int .u16 ta, .int .u16 tb] 47 :: .box w.heap.size #[.slice a n c, .slice b m e] 25 :: []) _) := hide (Its.out5 (J7.out.pick 4 rfl) (.int .u8 ak) (.int .u16 ad) (.int .u16 az) (.int .u16 aa) (.int .u16 ab))
            go_meet
            exact ⟨S1, ⟨bS, mS, dS, bD, mD, dD, bL, mL, dL⟩, R1, 0, ⟨ak, ad, az, aa, ab⟩, bb, rfl, rfl, rfl, rfl, HRel1, hide (((((((J8.out.pick 6 rfl).pick 2 rfl).pick 3 rfl).pick 5 rfl).pick 6 rfl).pick 6 rfl).pick 6 rfl)⟩

          have k2' : (kd == 2) = false := beq_eq_false_iff_ne.2 k2
          by_cases k3 : kd = 3
          · subst k3

            have KP : Hid (∀ (W : World) (l : List It), Its w (.pla w.heap.size g H n m es S :: l) W → Calls Try.prog 19 #[.pointer (some ⟨g, 0, none⟩), .int .i64 xa] W fun e w' => SP w l w.heap.size g n m H es (S.brk xa 4 true) e w') := hide (fun W l hW => breakS hW xa)
            have KQ : Hid (∀ (W : World) (l : List It), Its w (.dm w.heap.size ⟨aS, nS, cS, aD, nD, cD, aL, nL, cL⟩ R i :: l) W → Calls Try.prog 20 #[.agg #[.slice a n c, .slice b m e, .slice aS nS cS, .slice aD nD cD, .slice aL nL cL, .int .i64 R.mv], .int .i64 xa, .bool false] W fun r w' => RS w l a b c e n m (i + 1) (R.set m xa false) r w') := hide (fun W l hW => rsetS (V := ⟨aS, nS, cS, aD, nD, cD, aL, nL, cL⟩) hW (by omega) (by have := i0.out; omega) xa false)
            obtain ⟨e9, hr⟩ : (R.set m xa false).1 = (S.brk xa 4 true).1 ∧ Rel (S.brk xa 4 true).2 (R.set m xa false).2 n es := by
              have q := HRel.out.set xa false
              rw [HLm.out] at q
              exact q
            generalize R.set m xa false = Q at *
            generalize S.brk xa 4 true = P at *
            obtain ⟨⟨⟨ak, ad, az, aa, ab⟩, cd⟩, S1⟩ := P
            obtain ⟨Q1, R1⟩ := Q
            unfold SP tv at KP
            unfold RS tv at KQ
            dsimp only at *
            subst e9
            have HRel1 := hide hr
            clear hr HRel
            go_wp2_with (first
              | (go_at_call 20; refine (KQ.out _ _ (J5.out.pick 4 rfl)).mono ?_; rintro e1 W5 ⟨⟨bS, mS, dS, bD, mD, dD, bL, mL, dL⟩, rfl, q⟩; (try dsimp only); have J6 : Hid (Its w (.dm w.heap.size ⟨bS, mS, dS, bD, mD, dD, bL, mL, dL⟩ R1 (i + 1) :: .box gt #[.int .u8 ak, .int .u16 ad, .int .u16 az, .int .u16 aa, .int .u16 ab] 45 :: .pla w.heap.size g H n m es S1 :: .box gw #[.int .u8 0, .int .u16 0, .int .u16 0, .int .u16 0, .int .u16 0] 45 :: .box go #[.int .i64 3, .int .i64 xa, .int .i64 xb, .int .u8 tk, .int .u16 td, .int .u16 ts, .int .u16 ta, .int .u16 tb] 47 :: .box gr #[.slice a n c, .slice b m e, .slice aS nS cS, .slice aD nD cD, .slice aL nL cL, .int .i64 R.mv] 38 :: .box w.heap.size #[.slice a n c, .slice b m e] 25 :: []) W5) := hide q; clear q; obtain ⟨r0, r1, r2, r3, r4, r5, rf⟩ := Its.cells6 (J6.out.pick 5 rfl); obtain ⟨v0, v1, v2, v3, v4, vf⟩ := Its.cells5 (J6.out.pick 3 rfl); have J7 : Hid (Its w (.box gr #[.slice a n c, .slice b m e, .slice bS mS dS, .slice bD mD dD, .slice bL mL dL, .int .i64 R1.mv] 38 :: .dm w.heap.size ⟨bS, mS, dS, bD, mD, dD, bL, mL, dL⟩ R1 (i + 1) :: .box gt #[.int .u8 ak, .int .u16 ad, .int .u16 az, .int .u16 aa, .int .u16 ab] 45 :: .pla w.heap.size g H n m es S1 :: .box gw #[.int .u8 0, .int .u16 0, .int .u16 0, .int .u16 0, .int .u16 0] 45 :: .box go #[.int .i64 3, .int .i64 xa, .int .i64 xb, .int .u8 tk, .int .u16 td, .int .u16 ts, .int .u16 ta, .int .u16 tb] 47 :: .box w.heap.size #[.slice a n c, .slice b m e] 25 :: []) _) := hide (Its.out6 (J6.out.pick 5 rfl) (.slice a n c) (.slice b m e) (.slice bS mS dS) (.slice bD mD dD) (.slice bL mL dL) (.int .i64 R1.mv)); obtain ⟨v0, v1, v2, v3, v4, vf⟩ := Its.cells5 (J7.out.pick 4 rfl))
              | (go_at_call 19; refine (KP.out _ _ (J3.out.pick 3 rfl)).mono ?_; rintro e1 W3 ⟨rfl, q⟩; (try dsimp only); have J4 : Hid (Its w (.pla w.heap.size g H n m es S1 :: .box gw #[.int .u8 0, .int .u16 0, .int .u16 0, .int .u16 0, .int .u16 0] 45 :: .box gt #[.int .u8 0, .int .u16 0, .int .u16 0, .int .u16 0, .int .u16 0] 45 :: .box go #[.int .i64 3, .int .i64 xa, .int .i64 xb, .int .u8 tk, .int .u16 td, .int .u16 ts, .int .u16 ta, .int .u16 tb] 47 :: .dm w.heap.size ⟨aS, nS, cS, aD, nD, cD, aL, nL, cL⟩ R i :: .box gr #[.slice a n c, .slice b m e, .slice aS nS cS, .slice aD nD cD, .slice aL nL cL, .int .i64 R.mv] 38 :: .box w.heap.size #[.slice a n c, .slice b m e] 25 :: []) W3) := hide q; clear q; obtain ⟨t0, t1, t2, t3, t4, tf⟩ := Its.cells5 (J4.out.pick 2 rfl); have J5 : Hid (Its w (.box gt #[.int .u8 ak, .int .u16 ad, .int .u16 az, .int .u16 aa, .int .u16 ab] 45 :: .pla w.heap.size g H n m es S1 :: .box gw #[.int .u8 0, .int .u16 0, .int .u16 0, .int .u16 0, .int .u16 0] 45 :: .box go #[.int .i64 3, .int .i64 xa, .int .i64 xb, .int .u8 tk, .int .u16 td, .int .u16 ts, .int .u16 ta, .int .u16 tb] 47 :: .dm w.heap.size ⟨aS, nS, cS, aD, nD, cD, aL, nL, cL⟩ R i :: .box gr #[.slice a n c, .slice b m e, .slice aS nS cS, .slice aD nD cD, .slice aL nL cL, .int .i64 R.mv] 38 :: .box w.heap.size #[.slice a n c, .slice b m e] 25 :: []) _) := hide (Its.out5 (J4.out.pick 2 rfl) (.int .u8 ak) (.int .u16 ad) (.int .u16 az) (.int .u16 aa) (.int .u16 ab)); obtain ⟨c0, c1, c2, c3, c4, c5, c6, c7⟩ := XC.out _ _ (J5.out.pick 3 rfl); obtain ⟨r0, r1, r2, r3, r4, r5, rf⟩ := Its.cells6 (J5.out.pick 5 rfl)))
            have J8 : Hid (Its w (.box gw #[.int .u8 ak, .int .u16 ad, .int .u16 az, .int .u16 aa, .int .u16 ab] 45 :: .box gr #[.slice a n c, .slice b m e, .slice bS mS dS, .slice bD mD dD, .slice bL mL dL, .int .i64 R1.mv] 38 :: .dm w.heap.size ⟨bS, mS, dS, bD, mD, dD, bL, mL, dL⟩ R1 (i + 1) :: .box gt #[.int .u8 ak, .int .u16 ad, .int .u16 az, .int .u16 aa, .int .u16 ab] 45 :: .pla w.heap.size g H n m es S1 :: .box go #[.int .i64 3, .int .i64 xa, .int .i64 xb, .int .u8 tk, .int .u16 td, .int .u16 ts, .int .u16 ta, .int .u16 tb] 47 :: .box w.heap.size #[.slice a n c, .slice b m e] 25 :: []) _) := hide (Its.out5 (J7.out.pick 4 rfl) (.int .u8 ak) (.int .u16 ad) (.int .u16 az) (.int .u16 aa) (.int .u16 ab))
            go_meet
            exact ⟨S1, ⟨bS, mS, dS, bD, mD, dD, bL, mL, dL⟩, R1, cd, ⟨ak, ad, az, aa, ab⟩, false, rfl, rfl, rfl, rfl, HRel1, hide (((((((J8.out.pick 6 rfl).pick 2 rfl).pick 3 rfl).pick 5 rfl).pick 6 rfl).pick 6 rfl).pick 6 rfl)⟩

          have k3' : (kd == 3) = false := beq_eq_false_iff_ne.2 k3
          by_cases k4 : kd = 4
          · subst k4

            have KP : Hid (∀ (W : World) (l : List It), Its w (.pla w.heap.size g H n m es S :: l) W → Calls Try.prog 21 #[.pointer (some ⟨g, 0, none⟩), .int .i64 xa] W fun e w' => SP w l w.heap.size g n m H es (S.brk xa 5 false) e w') := hide (fun W l hW => mendS hW xa)
            have KQ : Hid (∀ (W : World) (l : List It), Its w (.dm w.heap.size ⟨aS, nS, cS, aD, nD, cD, aL, nL, cL⟩ R i :: l) W → Calls Try.prog 20 #[.agg #[.slice a n c, .slice b m e, .slice aS nS cS, .slice aD nD cD, .slice aL nL cL, .int .i64 R.mv], .int .i64 xa, .bool true] W fun r w' => RS w l a b c e n m (i + 1) (R.set m xa true) r w') := hide (fun W l hW => rsetS (V := ⟨aS, nS, cS, aD, nD, cD, aL, nL, cL⟩) hW (by omega) (by have := i0.out; omega) xa true)
            obtain ⟨e9, hr⟩ : (R.set m xa true).1 = (S.brk xa 5 false).1 ∧ Rel (S.brk xa 5 false).2 (R.set m xa true).2 n es := by
              have q := HRel.out.set xa true
              rw [HLm.out] at q
              exact q
            generalize R.set m xa true = Q at *
            generalize S.brk xa 5 false = P at *
            obtain ⟨⟨⟨ak, ad, az, aa, ab⟩, cd⟩, S1⟩ := P
            obtain ⟨Q1, R1⟩ := Q
            unfold SP tv at KP
            unfold RS tv at KQ
            dsimp only at *
            subst e9
            have HRel1 := hide hr
            clear hr HRel
            go_wp2_with (first
              | (go_at_call 20; refine (KQ.out _ _ (J5.out.pick 4 rfl)).mono ?_; rintro e1 W5 ⟨⟨bS, mS, dS, bD, mD, dD, bL, mL, dL⟩, rfl, q⟩; (try dsimp only); have J6 : Hid (Its w (.dm w.heap.size ⟨bS, mS, dS, bD, mD, dD, bL, mL, dL⟩ R1 (i + 1) :: .box gt #[.int .u8 ak, .int .u16 ad, .int .u16 az, .int .u16 aa, .int .u16 ab] 45 :: .pla w.heap.size g H n m es S1 :: .box gw #[.int .u8 0, .int .u16 0, .int .u16 0, .int .u16 0, .int .u16 0] 45 :: .box go #[.int .i64 4, .int .i64 xa, .int .i64 xb, .int .u8 tk, .int .u16 td, .int .u16 ts, .int .u16 ta, .int .u16 tb] 47 :: .box gr #[.slice a n c, .slice b m e, .slice aS nS cS, .slice aD nD cD, .slice aL nL cL, .int .i64 R.mv] 38 :: .box w.heap.size #[.slice a n c, .slice b m e] 25 :: []) W5) := hide q; clear q; obtain ⟨r0, r1, r2, r3, r4, r5, rf⟩ := Its.cells6 (J6.out.pick 5 rfl); obtain ⟨v0, v1, v2, v3, v4, vf⟩ := Its.cells5 (J6.out.pick 3 rfl); have J7 : Hid (Its w (.box gr #[.slice a n c, .slice b m e, .slice bS mS dS, .slice bD mD dD, .slice bL mL dL, .int .i64 R1.mv] 38 :: .dm w.heap.size ⟨bS, mS, dS, bD, mD, dD, bL, mL, dL⟩ R1 (i + 1) :: .box gt #[.int .u8 ak, .int .u16 ad, .int .u16 az, .int .u16 aa, .int .u16 ab] 45 :: .pla w.heap.size g H n m es S1 :: .box gw #[.int .u8 0, .int .u16 0, .int .u16 0, .int .u16 0, .int .u16 0] 45 :: .box go #[.int .i64 4, .int .i64 xa, .int .i64 xb, .int .u8 tk, .int .u16 td, .int .u16 ts, .int .u16 ta, .int .u16 tb] 47 :: .box w.heap.size #[.slice a n c, .slice b m e] 25 :: []) _) := hide (Its.out6 (J6.out.pick 5 rfl) (.slice a n c) (.slice b m e) (.slice bS mS dS) (.slice bD mD dD) (.slice bL mL dL) (.int .i64 R1.mv)); obtain ⟨v0, v1, v2, v3, v4, vf⟩ := Its.cells5 (J7.out.pick 4 rfl))
              | (go_at_call 21; refine (KP.out _ _ (J3.out.pick 3 rfl)).mono ?_; rintro e1 W3 ⟨rfl, q⟩; (try dsimp only); have J4 : Hid (Its w (.pla w.heap.size g H n m es S1 :: .box gw #[.int .u8 0, .int .u16 0, .int .u16 0, .int .u16 0, .int .u16 0] 45 :: .box gt #[.int .u8 0, .int .u16 0, .int .u16 0, .int .u16 0, .int .u16 0] 45 :: .box go #[.int .i64 4, .int .i64 xa, .int .i64 xb, .int .u8 tk, .int .u16 td, .int .u16 ts, .int .u16 ta, .int .u16 tb] 47 :: .dm w.heap.size ⟨aS, nS, cS, aD, nD, cD, aL, nL, cL⟩ R i :: .box gr #[.slice a n c, .slice b m e, .slice aS nS cS, .slice aD nD cD, .slice aL nL cL, .int .i64 R.mv] 38 :: .box w.heap.size #[.slice a n c, .slice b m e] 25 :: []) W3) := hide q; clear q; obtain ⟨t0, t1, t2, t3, t4, tf⟩ := Its.cells5 (J4.out.pick 2 rfl); have J5 : Hid (Its w (.box gt #[.int .u8 ak, .int .u16 ad, .int .u16 az, .int .u16 aa, .int .u16 ab] 45 :: .pla w.heap.size g H n m es S1 :: .box gw #[.int .u8 0, .int .u16 0, .int .u16 0, .int .u16 0, .int .u16 0] 45 :: .box go #[.int .i64 4, .int .i64 xa, .int .i64 xb, .int .u8 tk, .int .u16 td, .int .u16 ts, .int .u16 ta, .int .u16 tb] 47 :: .dm w.heap.size ⟨aS, nS, cS, aD, nD, cD, aL, nL, cL⟩ R i :: .box gr #[.slice a n c, .slice b m e, .slice aS nS cS, .slice aD nD cD, .slice aL nL cL, .int .i64 R.mv] 38 :: .box w.heap.size #[.slice a n c, .slice b m e] 25 :: []) _) := hide (Its.out5 (J4.out.pick 2 rfl) (.int .u8 ak) (.int .u16 ad) (.int .u16 az) (.int .u16 aa) (.int .u16 ab)); obtain ⟨c0, c1, c2, c3, c4, c5, c6, c7⟩ := XC.out _ _ (J5.out.pick 3 rfl); obtain ⟨r0, r1, r2, r3, r4, r5, rf⟩ := Its.cells6 (J5.out.pick 5 rfl)))
            have J8 : Hid (Its w (.box gw #[.int .u8 ak, .int .u16 ad, .int .u16 az, .int .u16 aa, .int .u16 ab] 45 :: .box gr #[.slice a n c, .slice b m e, .slice bS mS dS, .slice bD mD dD, .slice bL mL dL, .int .i64 R1.mv] 38 :: .dm w.heap.size ⟨bS, mS, dS, bD, mD, dD, bL, mL, dL⟩ R1 (i + 1) :: .box gt #[.int .u8 ak, .int .u16 ad, .int .u16 az, .int .u16 aa, .int .u16 ab] 45 :: .pla w.heap.size g H n m es S1 :: .box go #[.int .i64 4, .int .i64 xa, .int .i64 xb, .int .u8 tk, .int .u16 td, .int .u16 ts, .int .u16 ta, .int .u16 tb] 47 :: .box w.heap.size #[.slice a n c, .slice b m e] 25 :: []) _) := hide (Its.out5 (J7.out.pick 4 rfl) (.int .u8 ak) (.int .u16 ad) (.int .u16 az) (.int .u16 aa) (.int .u16 ab))
            go_meet
            exact ⟨S1, ⟨bS, mS, dS, bD, mD, dD, bL, mL, dL⟩, R1, cd, ⟨ak, ad, az, aa, ab⟩, false, rfl, rfl, rfl, rfl, HRel1, hide (((((((J8.out.pick 6 rfl).pick 2 rfl).pick 3 rfl).pick 5 rfl).pick 6 rfl).pick 6 rfl).pick 6 rfl)⟩

          have k4' : (kd == 4) = false := beq_eq_false_iff_ne.2 k4
          go_wp2_with fail
          go_meet
          exact ⟨S, ⟨aS, nS, cS, aD, nD, cD, aL, nL, cL⟩, R, 0, tz, false, rfl, rfl, rfl, rfl, HRel, hide (((((((((J3.out.pick 4 rfl).dmono (Nat.le_succ i) (by omega)).pick 6 rfl).pick 6 rfl).pick 2 rfl).pick 6 rfl).pick 6 rfl).pick 6 rfl).pick 6 rfl)⟩
        case rest =>
        clear HRel J3 XC HIn c0 c1 c2 c3 c4 c5 c6 c7 r0 r1 r2 r3 r4 r5 rf
        obtain ⟨S, ⟨aS, nS, cS, aD, nD, cD, aL, nL, cL⟩, R, cd, ⟨ak, ad, az, aa, ab⟩, bb, rfl, rfl, rfl, rfl, HRel, HR⟩ := hcut
        dsimp only at *
        obtain ⟨wB, rfl⟩ : ∃ W, W = wc := ⟨_, rfl⟩
        have KT : Hid (∀ (W : World) (l : List It), Its w (.pla w.heap.size g H n m es S :: .dm w.heap.size ⟨aS, nS, cS, aD, nD, cD, aL, nL, cL⟩ R (i + 1) :: l) W → Calls Try.prog 22 #[.pointer (some ⟨g, 0, none⟩), .agg #[.slice a n c, .slice b m e, .slice aS nS cS, .slice aD nD cD, .slice aL nL cL, .int .i64 R.mv]] W fun r w' => r = .returned (.bool true) ∧ Its w (.pla w.heap.size g H n m es S :: .dm w.heap.size ⟨aS, nS, cS, aD, nD, cD, aL, nL, cL⟩ R (i + 1) :: l) w') := hide (fun W l hW => tellsS (V := ⟨aS, nS, cS, aD, nD, cD, aL, nL, cL⟩) hW HRel.out)
        have HRx : Hid (Its w (.pla w.heap.size g H n m es S :: .dm w.heap.size ⟨aS, nS, cS, aD, nD, cD, aL, nL, cL⟩ R (i + 1) :: .box gw #[.int .u8 ak, .int .u16 ad, .int .u16 az, .int .u16 aa, .int .u16 ab] 45 :: .box gt #[.int .u8 ak, .int .u16 ad, .int .u16 az, .int .u16 aa, .int .u16 ab] 45 :: .box go #[.int .i64 kd, .int .i64 xa, .int .i64 xb, .int .u8 tk, .int .u16 td, .int .u16 ts, .int .u16 ta, .int .u16 tb] 47 :: .box gr #[.slice a n c, .slice b m e, .slice aS nS cS, .slice aD nD cD, .slice aL nL cL, .int .i64 R.mv] 38 :: .box w.heap.size #[.slice a n c, .slice b m e] 25 :: []) wB) := hide (((((((HR.out.pick 6 rfl).pick 6 rfl).pick 4 rfl).pick 4 rfl).pick 4 rfl).pick 6 rfl).pick 6 rfl)
        obtain ⟨r0, r1, r2, r3, r4, r5, rf⟩ := Its.cells6 (HR.out.pick 5 rfl); obtain ⟨t0, t1, t2, t3, t4, tf⟩ := Its.cells5 (HR.out.pick 1 rfl); obtain ⟨v0, v1, v2, v3, v4, vf⟩ := Its.cells5 (HR.out.pick 0 rfl)
        go_wp2_with (go_at_call 22; refine (KT.out _ _ HRx.out).mono ?_; rintro e1 W8 ⟨rfl, q⟩; have J8 : Hid (Its w (.pla w.heap.size g H n m es S :: .dm w.heap.size ⟨aS, nS, cS, aD, nD, cD, aL, nL, cL⟩ R (i + 1) :: .box gw #[.int .u8 ak, .int .u16 ad, .int .u16 az, .int .u16 aa, .int .u16 ab] 45 :: .box gt #[.int .u8 ak, .int .u16 ad, .int .u16 az, .int .u16 aa, .int .u16 ab] 45 :: .box go #[.int .i64 kd, .int .i64 xa, .int .i64 xb, .int .u8 tk, .int .u16 td, .int .u16 ts, .int .u16 ta, .int .u16 tb] 47 :: .box gr #[.slice a n c, .slice b m e, .slice aS nS cS, .slice aD nD cD, .slice aL nL cL, .int .i64 R.mv] 38 :: .box w.heap.size #[.slice a n c, .slice b m e] 25 :: []) W8) := hide q; clear q)
        go_roundw
        case rel => exact ⟨i + 1, S, ⟨aS, nS, cS, aD, nD, cD, aL, nL, cL⟩, R, by go_num, by omega, HRel, hide (((((((J8.out.pick 6 rfl).pick 6 rfl).pick 3 rfl).pick 3 rfl).pick 6 rfl).pick 6 rfl).pick 6 rfl).tail.tail.tail⟩
        case measure => simp [intOf]; omega
end Go.Proofs.Ythcdfclhenmleaa

