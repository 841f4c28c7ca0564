/- grantAll: grants, one behind the other. -/
import Derived.Test.YtbibegendejnlaaCbr
import Derived.Test.YtbibegendejnlaaCgr
import Derived.WalkMore
namespace Go.Proofs.Ytbibegendejnlaa
open Go.RowKit
set_option linter.unusedVariables false

def slen : Value → Nat
  | .slice _ n _ => n
  | _ => 0
theorem slen_own {α : Type} {E : El Try.prog α} {w : World} {B : Nat} {v : Value} {xs : List α} (h : E.Own w B v xs) : slen v = xs.length := by
  obtain ⟨a, c, rfl⟩ := h.rd.form
  rfl

/-- apart, and all that is new -/
def ap (b : Nat → Prop) (N : Nat) : Nat → Prop := fun k => b k ∨ N ≤ k
/-- between two grants: the table, who was granted -/
structure GA (W0 : World) (B g gh : Nat) (b : Nat → Prop) (T0 : Tb) (w : World) (v : Value) (T : Tb) (gs : List Int) : Prop where
  tbl : Tbl w B g gh (ap b W0.heap.size) T
  wf : Wf T
  fr : Fr B g gh W0 w
  own : intE.Own w W0.heap.size v gs
  len : T.q.length + gs.length = T0.q.length
  gr : ∀ T' l, Gr T T' l → Gr T0 T' (gs ++ l)

theorem may_no {T : Tb} {i j : Nat} {p : Cl} {n : Int} (hp : T.q[i]? = some p) (hn : p.nodes[j]? = some n) (hb : barB T.hold (T.q.take i) p.tote n = true) : mayB T i = false := by
  rw [mayB_at hp]
  unfold mayC
  rw [List.all_eq_false]
  exact ⟨n, List.mem_of_getElem? hn, by rw [hb]; simp⟩
theorem may_yes {T : Tb} {i : Nat} {p : Cl} (hp : T.q[i]? = some p) (h : ∀ (j : Nat) (n : Int), j < p.nodes.length → p.nodes[j]? = some n → barB T.hold (T.q.take i) p.tote n = false) : mayB T i = true := by
  rw [mayB_at hp]
  unfold mayC
  rw [List.all_eq_true]
  intro n hn
  obtain ⟨j, hj⟩ := List.getElem?_of_mem hn
  rw [h j n (idx_lt hj) hj]; rfl

set_option maxRecDepth 100000 in
set_option maxHeartbeats 8000000 in
theorem grants_any {w : World} {B g gh : Nat} {b : Nat → Prop} {T : Tb} (hT : Tbl w B g gh b T) (hw : Wf T) (hgh : gh < w.heap.size) (hg : g < w.heap.size) :
    Calls Try.prog 29 #[.pointer (some ⟨g, 0, none⟩)] w fun e w' => ∃ v, e = .returned v ∧ ∃ T' l, intE.Own w' w.heap.size v l ∧ Gr T T' l ∧ Tbl w' B g gh b T' ∧ Fr B g gh w w' := by
  obtain ⟨w0, rfl⟩ : ∃ w0, w0 = w := ⟨_, rfl⟩
  have HS : Hid (GA w0 B g gh b T w0 (.slice none 0 0) T []) := hide ⟨hT.apart (fun k hk => by rcases hk with h | h; exact .inl h; exact .inr (.inr h)), hw, Fr.refl _ _ _ _, El.Own.nil _ _ _, by simp, fun T' l h => h⟩
  have Hgh := hide hgh
  have Hq := hide hw.qlen
  have Hg := hide hg
  clear hT hw hgh hg
  go_enter Try.func29, Try.ntmps29
  go_wp2_with fail
  go_step3
  go_wp2_with fail
  go_step3
  go_wp2_with fail
  go_loopw [3] (fun v3 wr => ∃ (T1 : Tb) (gs : List Int), Hid (GA w0 B g gh b T wr v3 T1 gs)) (fun v3 _ => T.q.length - slen v3)
  case atStart => exact ⟨T, [], HS⟩
  case round =>
    clear HS
    obtain ⟨T1, gs, HG⟩ := hrel
    obtain ⟨wA, hwA⟩ : ∃ W, W = wr := ⟨_, rfl⟩
    subst hwA
    obtain ⟨vg, hvg⟩ : ∃ v, v = u3 := ⟨_, rfl⟩
    subst hvg
    obtain ⟨vw, cs, h1⟩ := HG.out.tbl
    obtain ⟨a, c, rfl⟩ := h1.form
    have H1 := hide h1
    have hql := HG.out.wf.qlen
    have c1 := h1.cells.2.1
    have i0 : (T1.q.length : Int) ≤ 30 := by omega
    have K41 : Hid (∀ W, Below wA.heap.size wA W → ∀ (i : Nat) (p : Cl), T1.q[i]? = some p → ∀ n : Int, n ∈ p.nodes → Calls Try.prog 41 #[.agg #[.pointer (some ⟨g, 0, none⟩), .int .i64 (i : Int)], .int .i64 n] W fun e w' => e = .returned (.bool (barB T1.hold (T1.q.take i) p.tote n)) ∧ Below W.heap.size W w') := hide (fun W hb i p hp n hn => barred_any (H1.out.keep hb) HG.out.wf i p hp n ((HG.out.wf.nodes p (List.mem_of_getElem? hp)).1 n hn))
    have K42 : Hid (∀ W, Below wA.heap.size wA W → ∀ (i : Nat) (p : Cl), T1.q[i]? = some p → Calls Try.prog 42 #[.pointer (some ⟨g, 0, none⟩), .int .i64 (i : Int)] W fun e w' => e = .returned (.tuple #[]) ∧ Tbl w' B g gh (ap b w0.heap.size) (grant T1 i p) ∧ Fr B g gh W w' ∧ Fx g gh (.slice a T1.q.length c) W w') := hide (fun W hb i p hp => grant_any (H1.out.keep hb) HG.out.wf i p hp)
    obtain ⟨N, hN⟩ : ∃ N, T1.q.length = N := ⟨_, rfl⟩
    rw [hN] at c1 i0 H1 K42
    have HN := hide hN
    clear h1 hN hql
    go_wp2_with fail
    go_step3
    go_wp2_with fail
    go_step3
    go_wp2_with fail
    go_loopw [3, 14] (fun v3 v14 wr => ∃ (i : Nat), i ≤ N ∧ v3 = vg ∧ v14 = .int .i64 i ∧ Hid (Below wA.heap.size wA wr) ∧ Hid (∀ j, j < i → mayB T1 j = false)) (fun _ v14 _ => N - (intOf v14).toNat)
    case atStart => exact ⟨0, by omega, rfl, rfl, hide (Below.refl _ _), hide (fun j hj => by omega)⟩
    case round =>
      obtain ⟨i, hi, hv3, rfl, HB, HX⟩ := hrel
      have hv3' := hv3.symm
      clear hv3
      subst hv3'
      obtain ⟨wB, hwB⟩ : ∃ W, W = wr := ⟨_, rfl⟩
      subst hwB
      by_cases hlt : i < N
      · obtain ⟨p, hp⟩ : ∃ p, T1.q[i]? = some p := ⟨_, List.getElem?_eq_getElem (by rw [HN.out]; exact hlt)⟩
        obtain ⟨kb, a', c', rfl, d0, d1, hown, _⟩ := (H1.out.keep HB.out).qs.at i p hp
        have Hp := hide hp
        have hbB : Below wB.heap.size wB (wB.alloc (.cells #[.int .i64 p.tote, .slice a' p.nodes.length c'] 67)) := (Below.refl _ _).alloc (Nat.le_refl _) _
        obtain ⟨wC, hwC⟩ : ∃ wC, wC = wB.alloc (.cells #[.int .i64 p.tote, .slice a' p.nodes.length c'] 67) := ⟨_, rfl⟩
        have Hbox : Hid (wC.heap[wB.heap.size]? = some (.cells #[.int .i64 p.tote, .slice a' p.nodes.length c'] 67)) := hide (by rw [hwC]; exact heap_new _ _)
        rw [← hwC] at hbB
        have HBC := hide (HB.out.trans (hbB.mono HB.out.size))
        have Hrd : Hid (∀ W, Below wC.heap.size wC W → intE.Rd W (.slice a' p.nodes.length c') p.nodes ∧ W.cell? ⟨wB.heap.size, 0, none⟩ = some (.int .i64 p.tote)) := hide (fun W hb => ⟨(hown.rd.keep hbB).keep hb, by rw [hb.cell (p := ⟨wB.heap.size, 0, none⟩) (heap_lt Hbox.out)]; exact (cells_at Hbox.out 0).1⟩)
        have d2 := (cells_at Hbox.out 1).1
        simp only [List.getElem?_toArray, List.getElem?_cons_zero, List.getElem?_cons_succ] at d2
        have HwC := hide hwC
        have j0 : (0 : Int) ≤ (i : Int) := by omega
        have j1 : (i : Int) < (N : Int) := by omega
        have hnl := (HG.out.wf.nodes p (List.mem_of_getElem? hp)).2.2
        have i1 : (p.nodes.length : Int) ≤ 100000 := by omega
        obtain ⟨m, hm⟩ : ∃ m, p.nodes.length = m := ⟨_, rfl⟩
        obtain ⟨s, hs⟩ : ∃ s, p.tote = s := ⟨_, rfl⟩
        rw [hm] at d1 d2 Hrd i1
        rw [hs] at d0 Hrd
        rw [hm, hs] at HwC
        have Hm := hide hm
        have Hs := hide hs
        clear hp hbB hown hm hs hwC hnl
        go_upto_region 6 with fail
        rw [← HwC.out]
        clear HwC
        go_upto_region 7 with fail
        go_loopw [26] (fun v26 wr => ∃ (k : Nat), k ≤ m ∧ v26 = .int .i64 k ∧ Hid (Below wC.heap.size wC wr) ∧ Hid (∀ (j : Nat) (n : Int), j < k → p.nodes[j]? = some n → barB T1.hold (T1.q.take i) p.tote n = false)) (fun v26 _ => m - (intOf v26).toNat)
        case atStart => exact ⟨0, by omega, rfl, hide (Below.refl _ _), hide (fun j n hj => by omega)⟩
        case round =>
          obtain ⟨k, hk, rfl, HB3, HX3⟩ := hrel
          by_cases hkm : k < m
          · obtain ⟨n, hn⟩ : ∃ n, p.nodes[k]? = some n := ⟨_, List.getElem?_eq_getElem (by rw [Hm.out]; exact hkm)⟩
            obtain ⟨k3, off3, rfl, e0⟩ := int_at (Hrd.out wr HB3.out).1 k n hn
            have HBA := hide (HBC.out.trans (HB3.out.mono HBC.out.size))
            have K := hide (K41.out wr HBA.out i p Hp.out n (List.mem_of_getElem? hn))
            have Hn := hide hn
            have g0 : (0 : Int) ≤ (k : Int) := by omega
            have g1 : (k : Int) < (m : Int) := by omega
            clear hn
            cases hb : barB T1.hold (T1.q.take i) p.tote n with
            | true =>
              rw [hb] at K
              have HX1 : Hid (∀ j, j < i + 1 → mayB T1 j = false) := hide (fun j hj => by
                rcases Nat.lt_or_ge j i with h | h
                · exact HX.out j h
                · obtain rfl : j = i := by omega
                  exact may_no Hp.out Hn.out hb)
              clear hb
              go_wp2_with (go_at_call 41; refine K.out.mono ?_; rintro e W3 ⟨rfl, hb3⟩; have HB4 := hide (HBA.out.trans (hb3.mono HBA.out.size)); clear hb3)
              go_roundw
              case rel => exact ⟨i + 1, by omega, by first | rfl | trivial, by go_num, HB4, HX1⟩
              case measure => simp [intOf]; omega
            | false =>
              rw [hb] at K
              have HX1 : Hid (∀ (j : Nat) (n : Int), j < k + 1 → p.nodes[j]? = some n → barB T1.hold (T1.q.take i) p.tote n = false) := hide (fun j n' hj hn' => by
                rcases Nat.lt_or_ge j k with h | h
                · exact HX3.out j n' h hn'
                · obtain rfl : j = k := by omega
                  rw [Hn.out] at hn'; cases hn'; exact hb)
              clear hb
              go_wp2_with (go_at_call 41; refine K.out.mono ?_; rintro e W3 ⟨rfl, hb3⟩; have HB4 := hide (HB3.out.trans (hb3.mono HB3.out.size)); clear hb3)
              go_roundw
              case rel => exact ⟨k + 1, by omega, by go_num, HB4, HX1⟩
              case measure => simp [intOf]; omega
          · obtain rfl : k = m := by omega
            have g1 : ¬ (k : Int) < (k : Int) := by omega
            have hmay := hide (may_yes Hp.out (by rw [Hm.out]; exact HX3.out))
            have HBA := hide (HBC.out.trans (HB3.out.mono HBC.out.size))
            have K := hide (K42.out wr HBA.out i p Hp.out)
            have Hd3 := hide (Hrd.out wr HB3.out).2
            have Hne : Hid (wB.heap.size ≠ g ∧ wB.heap.size ≠ gh) := hide (by
              have h1 := HB.out.size
              have h2 := HG.out.fr.size
              have h3 := Hgh.out
              have h4 := Hg.out
              constructor <;> omega)
            have Hvw : Hid ((Value.slice (some ⟨kb, 0, none⟩) N c).ownBlock ≠ some wB.heap.size) := hide (fun e => by
              have := (H1.out.keep HB.out).qs.row.lt _ e
              omega)
            have Hwf := hide (HG.out.wf.grant Hp.out)
            have Hlen : Hid ((grant T1 i p).q.length + (gs ++ [s]).length = T.q.length) := hide (by
              have h1 := HG.out.len
              have h2 := len_grant (T := T1) (c := p) (show i < T1.q.length by rw [HN.out]; exact hlt)
              rw [List.length_append]
              simp only [List.length_cons, List.length_nil]
              omega)
            have Hn1 : Hid (gs.length + [s].length ≤ 1000000) := hide (by have h1 := HG.out.len; have h2 := Hq.out; simp only [List.length_cons, List.length_nil]; omega)
            have Hgr : Hid (∀ T' l, Gr (grant T1 i p) T' l → Gr T T' ((gs ++ [s]) ++ l)) := hide (fun T' l hl => by
              rw [List.append_assoc, ← Hs.out]
              exact HG.out.gr T' (p.tote :: l) (.step T1 i p T' l Hp.out hmay.out HX.out hl))
            have Hall : Hid (∀ (W3 : World), Tbl W3 B g gh (ap b w0.heap.size) (grant T1 i p) → Fr B g gh wr W3 → Fx g gh (.slice (some ⟨kb, 0, none⟩) N c) wr W3 → W3.cell? ⟨wB.heap.size, 0, none⟩ = some (.int .i64 s) ∧ intE.Own W3 w0.heap.size vg gs ∧ Fr B g gh w0 W3) := hide (fun W3 h1 h2 h3 => by
              have hbx : wB.heap.size < wr.heap.size := Nat.lt_of_lt_of_le (heap_lt Hbox.out) HB3.out.size
              refine ⟨?_, ?_, HG.out.fr.trans ((Fr.of_below HBA.out).trans h2)⟩
              · rw [World.cell?_of_block (w := wr) (h3 wB.heap.size hbx Hne.out.1 Hne.out.2 Hvw.out)]
                exact Hd3.out
              · refine h2.own (by decide) (HG.out.own.keep HBA.out) (fun e => ?_) (fun e => ?_)
                · have := HG.out.own.ge _ e
                  have := Hg.out
                  omega
                · have := HG.out.own.ge _ e
                  have := Hgh.out
                  omega)
            have Hfin : Hid (∀ (W3 w4 : World) (v4 : Value) (o : Obj), Tbl W3 B g gh (ap b w0.heap.size) (grant T1 i p) → Fr B g gh w0 W3 → intE.Own W3 w0.heap.size vg gs → intE.Own w4 w0.heap.size v4 (gs ++ [s]) → (W3.alloc o).grownBy w4 vg.ownBlock → GA w0 B g gh b T w4 v4 (grant T1 i p) (gs ++ [s])) := hide (fun W3 w4 v4 o h1 h2 h3 h4 h5 => by
              have hb : Below W3.heap.size W3 (W3.alloc o) := (Below.refl _ _).alloc (Nat.le_refl _) o
              have hty : ∀ k, vg.ownBlock = some k → k ≠ g ∧ k ≠ gh ∧ ap b w0.heap.size k ∧ ∀ cur, (W3.alloc o).heap[k]? ≠ some (.cells cur 67) := fun k hk => by
                have h6 := h3.ge k hk
                have h7 := Hg.out
                have h8 := Hgh.out
                refine ⟨by omega, by omega, .inr h6, fun cur hc => ?_⟩
                obtain ⟨cur', hc'⟩ := own_type (h3.keep hb) k hk
                rw [hc] at hc'
                simp only [Option.some.injEq, Obj.cells.injEq] at hc'
                exact absurd hc'.2.1 (show ¬ (67 : TypeId) = 3 by decide)
              refine ⟨(h1.keep hb).grown h5 hty, Hwf.out, ⟨h5.os.trans (hb.os.trans h2.os), h5.tape.trans (hb.tape.trans h2.tape), h5.output.trans (hb.output.trans h2.output), Nat.le_trans h2.size (Nat.le_trans hb.size h5.size), fun k hk y1 y2 y3 => ?_⟩, h4, Hlen.out, Hgr.out⟩
              have hk3 := Nat.lt_of_lt_of_le hk h2.size
              rw [h5.block k (Nat.lt_of_lt_of_le hk3 hb.size) (fun e => by have := h3.ge k e.symm; omega), hb.block k hk3, h2.block k hk y1 y2 y3])
            go_wp2_with (first | (go_at_call 42; refine K.out.mono ?_; rintro e W3 ⟨rfl, t1, t2, t3⟩; obtain ⟨x0, x1, x2⟩ := Hall.out W3 t1 t2 t3; have HT1 := hide t1; have HO3 := hide x1; have HF3 := hide x2; clear t1 t2 t3 x1 x2) | (at_builtin; refine intE.wpB (B := w0.heap.size) (Nat.le_trans HF3.out.size ((Below.refl _ _).alloc (Nat.le_refl _) _).size) (by rfl) _ _ rfl _ _ rfl rfl gs [s] (HO3.out.keep ((Below.refl _ _).alloc (Nat.le_refl _) _)) (int_new _ _ _ rfl) Hn1.out ?_; intro v4 w4 ho4 hg4 _; have HF4 := hide (Hfin.out _ _ _ _ HT1.out HF3.out HO3.out ho4 hg4); clear ho4 hg4))
            go_roundw
            case rel =>
              exact ⟨_, _, _, _, _, _, _, _, _, _, _, _, _, _, _, _, _, _, _, _, _, _, _, _, _, _, _, _, _, _, _, _, _, _, _, _, _, _, _, _, _, ⟨grant T1 i p, gs ++ [s], HF4⟩, rfl⟩
            case measure =>
              have h1 := slen_own HF4.out.own
              have h2 := slen_own HG.out.own
              have h3 := HF4.out.len
              have h4 := HG.out.len
              show T.q.length - slen v4 < T.q.length - slen vg
              rw [h1, h2]
              have h5 := HN.out
              simp only [List.length_append, List.length_cons, List.length_nil] at h3 ⊢
              omega
      · obtain rfl : i = N := by omega
        have j1 : ¬ (i : Int) < (i : Int) := by omega
        have HD : Hid (Gr T T1 gs) := hide (by
          have := HG.out.gr T1 [] (.done T1 (fun j => by
            rcases Nat.lt_or_ge j i with h | h
            · exact HX.out j h
            · exact mayB_out (by rw [HN.out]; exact h)))
          rwa [List.append_nil] at this)
        have HT : Hid (Tbl wB B g gh b T1) := hide ((HG.out.tbl.keep HB.out).apart (fun k hk => .inl (.inl hk)))
        have HF := hide (HG.out.fr.trans (Fr.of_below HB.out))
        have HO := hide (HG.out.own.keep HB.out)
        go_wp2_with fail
        try rw [Exit.noGoto_ret]
        go_ret
        exact ⟨_, rfl, _, _, HO.out, HD.out, HT.out, HF.out⟩
end Go.Proofs.Ytbibegendejnlaa
