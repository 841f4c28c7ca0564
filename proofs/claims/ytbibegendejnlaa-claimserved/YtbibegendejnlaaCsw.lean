/- ClaimServed: the walk. -/
import Derived.Test.YtbibegendejnlaaCsv
import Derived.Deep.WholeRow
namespace Go.Proofs.Ytbibegendejnlaa
open Go.RowKit
set_option linter.unusedVariables false

theorem wpList_store_new {P : Program} {ops : Array Oper} {rest : List Oper} {op : Oper} {a : Act} {w : World} {Q : Exit → Act → World → Prop} (hgd : op.guard = none) (ty : TypeId) (x y : Operand) (ho : op.op = .store ty x y)
    (c : Array Value) (hx : a.eval x = .pointer (some ⟨w.heap.size, 0, none⟩)) (hy : a.eval y = .agg c) (hi : (P.info? ty).map (·.size) = some c.size) (h1 : c.all (·.oneCell') = true)
    (h : wpList P ops Q rest (a.put op.dst undef) (w.alloc (.cells c ty))) : wpList P ops Q (op :: rest) a (w.alloc (.cells c ty)) :=
  wpList_plain hgd fun K hK => by
    unfold Oper.wp execOp
    simp only [ho, hx, hy, Sem.run_bind, Sem.run_pure, run_storeAt_new w ty c c hi rfl h1, Result.andThen_ok]
    exact hK _ _ h

/-- how a claim ends -/
def SCase (N i p : Nat) (X : List Int → Tb → Prop) (G : List Int) (yes : Bool) (code : Int) : Prop :=
  (yes = false ∧ code = 1 ∧ ∃ T, X G T ∧ SV N (i + 1) T G ∧ p = G.length + T.q.length) ∨
  (yes = true ∧ code = 0 ∧ ∃ T, X G T ∧ SV N (i + 1) T (G ++ [(i : Int) + 1]) ∧ p + 1 = (G ++ [(i : Int) + 1]).length + T.q.length) ∨
  (yes = false ∧ code = 0 ∧ ∃ T, X G T ∧ SV N (i + 1) T G ∧ p + 1 = G.length + T.q.length)
/-- where the rounds stand -/
def RD (q0 n : Nat) (T : Tb) : Prop := T.q.length < q0 ∨ (T.q.length = q0 ∧ ∀ k : Int, 0 ≤ k → k < (n : Int) → hat T.hold k = 0)

set_option maxRecDepth 100000 in
set_option maxHeartbeats 8000000 in
theorem served_walk (n0 : Int) (a : Option Addr) (m c : Nat) (zs : List (List Int)) (w : World) (hm : zs.length = m) (hv : Lds w (.slice a m c) zs) : Calls Try.prog 5 #[.int .i64 n0, .slice a m c] w fun e w' => e = .returned (.bool true) ∧ Below w.heap.size w w' := by
  obtain ⟨w0, rfl⟩ : ∃ w0, w0 = w := ⟨_, rfl⟩
  have KA := hide awake_any
  obtain ⟨k, hk, hk40⟩ := few n0 40 (by omega)
  obtain ⟨N, hN⟩ : ∃ N : Nat, (k : Int) + 1 = (N : Int) := ⟨k + 1, by omega⟩
  have hN1 : 1 ≤ N := by omega
  have hN2 : N ≤ 40 := by omega
  have HR : Hid (∀ W, Below w0.heap.size w0 W → Lds W (.slice a m c) zs) := hide (fun W hb => hv.keep hb)
  have Hm := hide hm
  clear hm hv
  go_enter Try.func5, Try.ntmps5
  go_upto_region 4 with (go_at_call 9; refine (KA.out _).mono ?_; rintro e W1 ⟨rfl, hb1⟩; have HB := hide hb1; clear hb1)
  try rw [hN]
  generalize wrap64 ((IntKind.u64.wrap n0).tmod 40) = y1 at *
  generalize (IntKind.u64.wrap n0).tmod 40 = y2 at *
  generalize IntKind.u64.wrap n0 = y3 at *
  clear hk hk40 hN KA
  have KN := hide (new_ok N W1 hN1 hN2)
  go_upto_region 7 with (go_at_call 10; refine KN.out.mono ?_; rintro e WN ⟨g, rfl, gh, hT, hb, h1, h2, h3⟩; have HTN := hide (hT (bl (.slice none 0 0))); have HB2 := hide (HB.out.trans (hb.mono HB.out.size)); have Hg := hide (show W1.heap.size ≤ g ∧ g < WN.heap.size by obtain ⟨_, _, h⟩ := hT no; exact ⟨h.base, h3⟩); have Hgh := hide (show W1.heap.size ≤ gh ∧ gh < WN.heap.size from ⟨h1, h2⟩); clear hT hb h1 h2 h3)
  clear KN
  have HP : Hid (SP w0 W1.heap.size g gh WN.heap.size WN.heap.size) := hide (by
    have h1 := HB.out.size
    have h2 := Hg.out
    have h3 := Hgh.out
    exact ⟨⟨by omega, h2.2⟩, ⟨by omega, h3.2⟩, Nat.le_refl _, h1⟩)
  have HS0 : Hid (SW w0 W1.heap.size g gh WN.heap.size WN.heap.size (.slice none 0 0) [] [] (WN.alloc (.cells ((cntL []).map (Value.int .i64)).toArray 55)) ⟨List.replicate N 0, []⟩) := hide (by
    have hb : Below WN.heap.size WN (WN.alloc (.cells ((cntL []).map (Value.int .i64)).toArray 55)) := (Below.refl _ _).alloc (Nat.le_refl _) _
    exact ⟨HTN.out.keep hb, heap_new _ _, El.Own.nil _ _ _, HB2.out.trans (hb.mono HB2.out.size), hb.size⟩)
  have hnz : ¬ (N = 0) := by omega
  have hnz' : ¬ ((N : Int) = 0) := by omega
  have hwu := wrapu N (by omega)
  have j1 : (N : Int) ≤ 40 := by omega
  have j2 : (1 : Int) ≤ (N : Int) := by omega
  have Hi55 : Hid ((Try.prog.info? 55).map (·.size) = some ((cntL []).map (Value.int .i64)).toArray.size) := hide (by kernel_rfl)
  have Hone : Hid (((cntL []).map (Value.int .i64)).toArray.all (·.oneCell') = true) := hide (by kernel_rfl)
  have Hbz := hide boxz
  generalize ((cntL []).map (Value.int .i64)).toArray = z31 at *
  refine wp_region_list ?_
  refine wpList_plain rfl fun K hK => ?_
  have HK := hide hK
  clear hK
  go_simp
  rw [Hbz.out]
  refine HK.out _ _ ?_
  clear HK K
  refine wpList_plain rfl fun K hK => ?_
  have HK := hide hK
  clear hK
  go_simp
  rw [Hbz.out]
  refine HK.out _ _ ?_
  clear HK K
  refine wpList_store_new rfl 55 (.tmp 7) (.tmp 41) rfl z31 rfl rfl Hi55.out Hone.out ?_
  clear Hi55 Hone Hbz
  unfold wpList
  go_upto_region 10 with fail
  have Hst : Hid (SV N 0 ⟨List.replicate N 0, []⟩ []) := hide (SV.start N (by omega))
  go_loopw [8, 9] (fun v8 v9 wr => ∃ (i p : Nat), v9 = .int .i64 i ∧ i ≤ m ∧ i ≤ 30 ∧ v8 = .int .i64 p ∧ p ≤ i ∧ Hid (∃ G T, SW w0 W1.heap.size g gh WN.heap.size WN.heap.size (.slice none 0 0) [] G wr T ∧ SV N i T G ∧ p = G.length + T.q.length)) (fun _ v9 _ => 40 - (intOf v9).toNat)
  case atStart => exact ⟨0, 0, rfl, by omega, by omega, rfl, by omega, hide ⟨[], _, HS0.out, Hst.out, rfl⟩⟩
  case round =>
    clear HS0 Hst HTN
    obtain ⟨i, p, rfl, him, hi30, rfl, hpi, HX⟩ := hrel
    have q2 : (0 : Int) ≤ (i : Int) := by omega
    have q3 : (0 : Int) ≤ (p : Int) := by omega
    have q4 : (p : Int) ≤ 30 := by omega
    by_cases hgo : i < m ∧ i < 30
    · obtain ⟨zi, hzi⟩ : ∃ z, zs[i]? = some z := ⟨_, List.getElem?_eq_getElem (by rw [Hm.out]; exact hgo.1)⟩
      have Hzi := hide hzi
      obtain ⟨wA, hwA⟩ : ∃ W, W = wr := ⟨_, rfl⟩
      subst hwA
      have q0 : (i : Int) < (m : Int) := by omega
      have q1 : (i : Int) < 30 := by omega
      obtain ⟨G, T, hS, hV, hp⟩ := HX.out
      have HS := hide hS
      have HV := hide hV
      have Hp := hide hp
      obtain ⟨b, off, a', c', rfl, cz, hzr⟩ := (HR.out wA hS.bel).at i zi hzi
      have Hcz : Hid (∀ W, Below w0.heap.size w0 W → W.cell? ⟨b, off + i, none⟩ = some (.slice a' zi.length c') ∧ intE.Rd W (.slice a' zi.length c') zi) := hide (fun W hb => by
        obtain ⟨b2, off2, a2, c2, e2, cz2, hz2⟩ := (HR.out w0 (Below.refl _ _)).at i zi Hzi.out
        cases e2
        have e3 : wA.cell? ⟨b, off + i, none⟩ = w0.cell? ⟨b, off + i, none⟩ := HS.out.bel.cell (p := ⟨b, off + i, none⟩) (cell_lt cz2)
        rw [cz, cz2] at e3
        simp only [Option.some.injEq, Value.slice.injEq] at e3
        obtain ⟨rfl, _, rfl⟩ := e3
        exact ⟨by rw [hb.cell (p := ⟨b, off + i, none⟩) (cell_lt cz2)]; exact cz2, hz2.keep hb⟩)
      obtain ⟨mi, hmi⟩ : ∃ n, zi.length = n := ⟨_, rfl⟩
      rw [hmi] at Hcz
      have Hmi := hide hmi
      clear hzi hS hV hp cz hzr hmi HX hgo
      go_upto_region 14 with fail
      go_loopw [10, 11] (fun v10 v11 wr => ∃ (k : Nat) (ns : List Int), v11 = .int .i64 k ∧ k ≤ mi ∧ k ≤ 6 ∧ Hid (SW w0 W1.heap.size g gh WN.heap.size WN.heap.size v10 ns G wr T) ∧ Hid (ns.length = k ∧ inT N ns)) (fun _ v11 _ => 10 - (intOf v11).toNat)
      case atStart => exact ⟨0, [], rfl, by omega, by omega, HS, hide ⟨rfl, fun n hn => by simp at hn⟩⟩
      case round =>
        clear HS
        obtain ⟨k, ns, rfl, hkm, hk6, HS, Hns⟩ := hrel
        have g0 : (0 : Int) ≤ (k : Int) := by omega
        obtain ⟨d0, hrd⟩ := Hcz.out wr HS.out.bel
        by_cases hgk : k < mi ∧ k < 6
        · obtain ⟨x, hx⟩ : ∃ x, zi[k]? = some x := ⟨_, List.getElem?_eq_getElem (by rw [Hmi.out]; exact hgk.1)⟩
          obtain ⟨bx, ox, rfl, c1⟩ := int_at hrd k x hx
          have HZ : Hid (0 ≤ (wrap64 ((IntKind.u64.wrap x).tmod (N : Int))) ∧ (wrap64 ((IntKind.u64.wrap x).tmod (N : Int))) < (N : Int)) := hide (by obtain ⟨y, hy, hyN⟩ := few x N (by omega); rw [hy]; omega)
          have g1 : (k : Int) < (mi : Int) := by omega
          have g2 : (k : Int) < 6 := by omega
          have Hba : Hid (∀ (o : Obj), Below wr.heap.size wr (wr.alloc o)) := hide (fun o => (Below.refl _ _).alloc (Nat.le_refl _) o)
          have Hl2 : Hid (ns.length + [(wrap64 ((IntKind.u64.wrap x).tmod (N : Int)))].length ≤ 1000000) := hide (by have := Hns.out.1; simp only [List.length_cons, List.length_nil]; omega)
          have Hin : Hid ((ns ++ [(wrap64 ((IntKind.u64.wrap x).tmod (N : Int)))]).length = k + 1 ∧ inT N (ns ++ [(wrap64 ((IntKind.u64.wrap x).tmod (N : Int)))])) := hide ⟨by rw [List.length_append, Hns.out.1]; rfl, fun n hn => by
            rcases List.mem_append.1 hn with hn | hn
            · exact Hns.out.2 n hn
            · rw [List.mem_singleton] at hn; rw [hn]; exact HZ.out⟩
          clear hx hgk hrd
          go_wp2_with (at_builtin; refine intE.wpB (B := WN.heap.size) (Nat.le_trans HS.out.size (Hba.out _).size) (by rfl) _ _ rfl _ _ rfl rfl ns [(wrap64 ((IntKind.u64.wrap x).tmod (N : Int)))] (HS.out.own.keep (Hba.out _)) (int_new _ _ _ rfl) Hl2.out ?_; intro v2 w2 ho2 hg2 hs2; have HS2 := hide (HS.out.app HP.out ho2 hg2 hs2); clear ho2 hg2 hs2)
          go_roundw
          case rel => exact ⟨k + 1, _, by go_num, by omega, by omega, HS2, Hin⟩
          case measure => simp [intOf]; omega
        · have hor : k = mi ∨ (k < mi ∧ k = 6) := by omega
          have Hw1 : Hid (∀ e, ns ≠ [] ∨ ns = []) := hide (fun (e : Nat) => by by_cases h : ns = []; exact .inr h; exact .inl h)
          obtain ⟨a7, c7, hf7⟩ := HS.out.own.rd.form
          rw [Hns.out.1] at hf7
          subst hf7
          have K11 : Hid (Calls Try.prog 11 #[.pointer (some ⟨g, 0, none⟩), .int .i64 ((i : Int) + 1), .slice a7 k c7] wr fun e w' => ∃ yes code, e = .returned (.tuple #[.bool yes, .int .i64 code]) ∧ SCase N i p (fun G T => SW w0 W1.heap.size g gh WN.heap.size WN.heap.size (.slice none 0 0) [] G w' T) G yes code) := hide (by
            by_cases hne : ns = []
            · have hbad : badC T.hold.length ((i : Int) + 1) ns = true := by unfold badC; rw [hne]; simp
              refine (claim_bad HS.out.tbl ((i : Int) + 1) a7 c7 k ns Hns.out.1 HS.out.own.rd (by omega) hbad).mono ?_
              rintro e w' ⟨rfl, rfl⟩
              exact ⟨false, 1, rfl, .inl ⟨rfl, rfl, T, HS.out.nil, HV.out.mono, Hp.out⟩⟩
            · have hbad : badC T.hold.length ((i : Int) + 1) ns = false := badC_yes (by omega) hne (by rw [HV.out.len]; exact Hns.out.2)
              refine (claim_ok HS.out.tbl HV.out.wf (fun j hj => HS.out.own.lt j hj) ((i : Int) + 1) a7 c7 k ns Hns.out.1 HS.out.own.rd (by omega) hbad HV.out.fnd).mono ?_
              rintro e w' ⟨l, rfl, T', hG, hT', hF⟩
              have hwa := Wf.add HV.out.wf (badC_no hbad).1 hne (badC_no hbad).2.2 (by rw [Hns.out.1]; omega) HV.out.fnd
              have hS' := (SW.fr HP.out HS.out hT' hF).nil
              obtain ⟨hc, hl⟩ := HV.out.claim hG hwa
              rcases hc with ⟨e1, e2⟩ | ⟨e1, e2⟩
              · refine ⟨true, 0, by rw [e1]; rfl, .inr (.inl ⟨rfl, rfl, T', hS', e2, ?_⟩)⟩
                have := Hp.out
                rw [List.length_append]
                simp only [List.length_cons, List.length_nil]
                omega
              · refine ⟨false, 0, by rw [e1]; rfl, .inr (.inr ⟨rfl, rfl, T', hS', e2, ?_⟩)⟩
                have := Hp.out
                omega)
          clear hgk hrd Hw1
          rcases hor with hor | hor
          · have g1 : ¬ (k : Int) < (mi : Int) := by omega
            clear hor
            go_upto_region 18 with (go_at_call 11; refine K11.out.mono ?_; rintro e W5 ⟨yes, code, rfl, hC⟩; have HC := hide hC; clear hC)
            clear K11 HS d0
            rcases HC.out with ⟨rfl, rfl, T5, h1, h2, h3⟩ | ⟨rfl, rfl, T5, h1, h2, h3⟩ | ⟨rfl, rfl, T5, h1, h2, h3⟩
            · have HR1 : Hid (∃ G T, SW w0 W1.heap.size g gh WN.heap.size WN.heap.size (.slice none 0 0) [] G W5 T ∧ SV N (i + 1) T G ∧ p = G.length + T.q.length) := hide ⟨G, T5, h1, h2, h3⟩
              clear HC h1 h2 h3
              go_wp2_with fail
              go_roundw
              case rel => exact ⟨i + 1, p, by go_num, by omega, by omega, by first | rfl | trivial, by omega, HR1⟩
              case measure => simp [intOf]; omega
            · have hi1 : (i : Int) + 1 < 31 := by omega
              obtain ⟨z0, z1⟩ := h1.at (i + 1) (by omega)
              have hnew : ((i + 1 : Nat) : Int) ∉ G := fun hm => by
                have := h2.nd
                rw [List.append_assoc, List.nodup_append] at this
                exact this.2.2 _ hm ((i : Int) + 1) (by simp) (by omega)
              rw [if_neg hnew] at z0
              have HR1 : Hid (∃ G T, SW w0 W1.heap.size g gh WN.heap.size WN.heap.size (.slice none 0 0) [] G (W5.setCell ⟨WN.heap.size, i + 1, none⟩ (.int .i64 1)) T ∧ SV N (i + 1) T G ∧ p + 1 = G.length + T.q.length) := hide ⟨_, T5, h1.cnt HP.out (i + 1) (by omega), h2, h3⟩
              clear HC h1 h2 h3 hnew
              go_wp2_with fail
              go_roundw
              case rel => exact ⟨i + 1, p + 1, by go_num, by omega, by omega, by go_num, by omega, HR1⟩
              case measure => simp [intOf]; omega
            · have HR1 : Hid (∃ G T, SW w0 W1.heap.size g gh WN.heap.size WN.heap.size (.slice none 0 0) [] G W5 T ∧ SV N (i + 1) T G ∧ p + 1 = G.length + T.q.length) := hide ⟨G, T5, h1, h2, h3⟩
              clear HC h1 h2 h3
              go_wp2_with fail
              go_roundw
              case rel => exact ⟨i + 1, p + 1, by go_num, by omega, by omega, by go_num, by omega, HR1⟩
              case measure => simp [intOf]; omega
          · have g1 : (k : Int) < (mi : Int) := by omega
            have g2 : ¬ (k : Int) < 6 := by omega
            clear hor
            go_upto_region 18 with (go_at_call 11; refine K11.out.mono ?_; rintro e W5 ⟨yes, code, rfl, hC⟩; have HC := hide hC; clear hC)
            clear K11 HS d0
            rcases HC.out with ⟨rfl, rfl, T5, h1, h2, h3⟩ | ⟨rfl, rfl, T5, h1, h2, h3⟩ | ⟨rfl, rfl, T5, h1, h2, h3⟩
            · have HR1 : Hid (∃ G T, SW w0 W1.heap.size g gh WN.heap.size WN.heap.size (.slice none 0 0) [] G W5 T ∧ SV N (i + 1) T G ∧ p = G.length + T.q.length) := hide ⟨G, T5, h1, h2, h3⟩
              clear HC h1 h2 h3
              go_wp2_with fail
              go_roundw
              case rel => exact ⟨i + 1, p, by go_num, by omega, by omega, by first | rfl | trivial, by omega, HR1⟩
              case measure => simp [intOf]; omega
            · have hi1 : (i : Int) + 1 < 31 := by omega
              obtain ⟨z0, z1⟩ := h1.at (i + 1) (by omega)
              have hnew : ((i + 1 : Nat) : Int) ∉ G := fun hm => by
                have := h2.nd
                rw [List.append_assoc, List.nodup_append] at this
                exact this.2.2 _ hm ((i : Int) + 1) (by simp) (by omega)
              rw [if_neg hnew] at z0
              have HR1 : Hid (∃ G T, SW w0 W1.heap.size g gh WN.heap.size WN.heap.size (.slice none 0 0) [] G (W5.setCell ⟨WN.heap.size, i + 1, none⟩ (.int .i64 1)) T ∧ SV N (i + 1) T G ∧ p + 1 = G.length + T.q.length) := hide ⟨_, T5, h1.cnt HP.out (i + 1) (by omega), h2, h3⟩
              clear HC h1 h2 h3 hnew
              go_wp2_with fail
              go_roundw
              case rel => exact ⟨i + 1, p + 1, by go_num, by omega, by omega, by go_num, by omega, HR1⟩
              case measure => simp [intOf]; omega
            · have HR1 : Hid (∃ G T, SW w0 W1.heap.size g gh WN.heap.size WN.heap.size (.slice none 0 0) [] G W5 T ∧ SV N (i + 1) T G ∧ p + 1 = G.length + T.q.length) := hide ⟨G, T5, h1, h2, h3⟩
              clear HC h1 h2 h3
              go_wp2_with fail
              go_roundw
              case rel => exact ⟨i + 1, p + 1, by go_num, by omega, by omega, by go_num, by omega, HR1⟩
              case measure => simp [intOf]; omega
    · have hor : i = m ∨ (i < m ∧ i = 30) := by omega
      clear hgo
      rcases hor with hor | hor
      · have q0 : ¬ (i : Int) < (m : Int) := by omega
        clear hor
        have HY : Hid (∃ G T, SW w0 W1.heap.size g gh WN.heap.size WN.heap.size (.slice none 0 0) [] G wr T ∧ SV N 30 T G ∧ p = G.length + T.q.length ∧ T.q.length ≤ 30 - 0) := hide (by
          obtain ⟨G, T, h1, h2, h3⟩ := HX.out
          exact ⟨G, T, h1, ⟨h2.wf, h2.set, h2.len, h2.nd, fun x hx => by have := h2.rng x hx; omega⟩, h3, h2.wf.qlen⟩)
        clear HX
        go_upto_region 23 with fail
        go_loopw [14] (fun v14 wr => ∃ (r : Nat), v14 = .int .i64 r ∧ r ≤ 35 ∧ Hid (∃ G T, SW w0 W1.heap.size g gh WN.heap.size WN.heap.size (.slice none 0 0) [] G wr T ∧ SV N 30 T G ∧ p = G.length + T.q.length ∧ T.q.length ≤ 30 - r)) (fun v14 _ => 40 - (intOf v14).toNat)
        case atStart => exact ⟨0, rfl, by omega, HY⟩
        case round =>
          clear HY
          obtain ⟨r, rfl, hr35, HX⟩ := hrel
          have r0 : (0 : Int) ≤ (r : Int) := by omega
          by_cases hrr : r < 35
          · have r1 : (r : Int) < 35 := by omega
            obtain ⟨q0n, Hq0, HX4⟩ : ∃ q0, Hid (q0 ≤ 30 - r) ∧ Hid (∃ G T, SW w0 W1.heap.size g gh WN.heap.size WN.heap.size (.slice none 0 0) [] G wr T ∧ SV N 30 T G ∧ p = G.length + T.q.length ∧ RD q0 0 T) := by
              obtain ⟨G, T, h1, h2, h3, h4⟩ := HX.out
              exact ⟨T.q.length, hide h4, hide ⟨G, T, h1, h2, h3, .inr ⟨rfl, fun k h0 h1 => by omega⟩⟩⟩
            clear HX
            go_upto_region 26 with fail
            go_loopw [15] (fun v15 wr => ∃ (n : Nat), v15 = .int .i64 n ∧ n ≤ N ∧ Hid (∃ G T, SW w0 W1.heap.size g gh WN.heap.size WN.heap.size (.slice none 0 0) [] G wr T ∧ SV N 30 T G ∧ p = G.length + T.q.length ∧ RD q0n n T)) (fun v15 _ => N - (intOf v15).toNat)
            case atStart => exact ⟨0, rfl, by omega, HX4⟩
            case round =>
              clear HX4
              obtain ⟨n, rfl, hnN, HX⟩ := hrel
              have n0' : (0 : Int) ≤ (n : Int) := by omega
              by_cases hnn : n < N
              · have n1' : (n : Int) < (N : Int) := by omega
                obtain ⟨G, T, h1, h2, h3, h4⟩ := HX.out
                have K21 := hide (holder_any h1.tbl (n : Int))
                by_cases hz : hat T.hold (n : Int) = 0
                · rw [hz] at K21
                  have HY : Hid (∃ G T, SW w0 W1.heap.size g gh WN.heap.size WN.heap.size (.slice none 0 0) [] G wr T ∧ SV N 30 T G ∧ p = G.length + T.q.length ∧ RD q0n (n + 1) T) := hide ⟨G, T, h1, h2, h3, by
                    rcases h4 with h4 | ⟨h4, h5⟩
                    · exact .inl h4
                    · refine .inr ⟨h4, fun k hk0 hk1 => ?_⟩
                      by_cases e : k = (n : Int)
                      · rw [e]; exact hz
                      · exact h5 k hk0 (by omega)⟩
                  clear h1 h2 h3 h4 hz HX
                  go_wp2_with (go_at_call 21; refine K21.out.mono ?_; rintro e W6 ⟨rfl, hW⟩; have hW' := hW.symm; clear hW; subst hW')
                  go_roundw
                  case rel => exact ⟨n + 1, by go_num, by omega, HY⟩
                  case measure => simp [intOf]; omega
                · have hin := hat_in h2.wf.hold (n : Int)
                  obtain ⟨h, hh⟩ : ∃ h, hat T.hold (n : Int) = h := ⟨_, rfl⟩
                  have K14 : Hid (Calls Try.prog 14 #[.pointer (some ⟨g, 0, none⟩), .int .i64 h, .int .i64 (n : Int)] wr fun e w' => ∃ v, e = .returned (.tuple #[v, .int .i64 0]) ∧ ∃ l T', intE.Own w' wr.heap.size v l ∧ SW w0 W1.heap.size g gh WN.heap.size WN.heap.size (.slice none 0 0) [] G w' T' ∧ SV N 30 T' (G ++ l) ∧ p = (G ++ l).length + T'.q.length ∧ RD q0n (n + 1) T') := hide (by
                    have hbad : badN T.hold.length h (n : Int) = false := by
                      unfold badN
                      rw [show toteB h = true from decide_eq_true (by omega), show inB T.hold.length (n : Int) = true from decide_eq_true (by rw [h2.len]; omega)]; rfl
                    refine (rel_ok h1.tbl h2.wf h (n : Int) hbad hh).mono ?_
                    rintro e w' ⟨v, rfl, T', l, ho, hG, hT', hF⟩
                    obtain ⟨e1, e2, e3⟩ := h2.rel (n : Int) hG
                    refine ⟨v, rfl, l, T', ho, SW.fr HP.out h1 hT' hF, e1, by rw [List.length_append]; omega, ?_⟩
                    rcases h4 with h4 | ⟨h4, h5⟩
                    · exact .inl (by omega)
                    · cases l with
                      | cons x l => exact .inl (by simp only [List.length_cons] at e2; omega)
                      | nil =>
                        have e4 := e3 rfl
                        subst e4
                        refine .inr ⟨h4, fun k hk0 hk1 => ?_⟩
                        show hat (T.hold.set (n : Int).toNat 0) k = 0
                        rw [hat_set T.hold 0 (n : Int) (by rw [h2.len]; omega)]
                        split
                        · rfl
                        · exact h5 k hk0 (by omega))
                  rw [hh] at K21 hz hin
                  have hz1 : (h == 0) = false := beq_eq_false_iff_ne.2 hz
                  clear h1 h2 h3 h4 hh HX hin
                  go_upto_region 34 with (first | (go_at_call 21; refine K21.out.mono ?_; rintro e W6 ⟨rfl, hW⟩; have hW' := hW.symm; clear hW; subst hW') | (go_at_call 14; refine K14.out.mono ?_; rintro e W7 ⟨v7, rfl, l, T7, ho, hS, hV, hp, hD⟩; obtain ⟨a7, c7, rfl⟩ := ho.rd.form; have HO := hide ho; have HS := hide hS; have HV := hide hV; have HD := hide (show _ ∧ _ from ⟨hp, hD⟩); clear ho hS hV hp hD))
                  obtain ⟨nl, hnl⟩ : ∃ n, l.length = n := ⟨_, rfl⟩
                  have hnl30 : l.length ≤ 30 := by
                    have hnd := HV.out.nd
                    rw [List.append_assoc, List.nodup_append] at hnd
                    have h6 := hnd.2.1
                    rw [List.nodup_append] at h6
                    exact nodup_len 30 l h6.1 (fun x hx => HV.out.rng x (by simp [hx]))
                  rw [hnl] at HO hnl30 ⊢
                  have Hnl := hide hnl
                  have i9 : (nl : Int) ≤ 30 := by omega
                  clear hnl hnl30 K14 K21
                  go_loopw [124] (fun v124 wr => ∃ (j : Nat), v124 = .int .i64 j ∧ j ≤ nl ∧ Hid (∃ B', intE.Own wr B' (.slice a7 nl c7) l) ∧ Hid (SW w0 W1.heap.size g gh WN.heap.size WN.heap.size (.slice none 0 0) [] (G ++ l.take j) wr T7)) (fun v124 _ => nl - (intOf v124).toNat)
                  case atStart => exact ⟨0, rfl, by omega, hide ⟨_, HO.out⟩, hide (by rw [List.take_zero, List.append_nil]; exact HS.out)⟩
                  case round =>
                    clear HO HS
                    obtain ⟨j, rfl, hj, HO, HS⟩ := hrel
                    have g0 : (0 : Int) ≤ (j : Int) := by omega
                    by_cases hjn : j < nl
                    · obtain ⟨x, hx⟩ : ∃ x, l[j]? = some x := ⟨_, List.getElem?_eq_getElem (by rw [Hnl.out]; exact hjn)⟩
                      obtain ⟨B', hO⟩ := HO.out
                      obtain ⟨b5, off5, rfl, e0⟩ := int_at hO.rd j x hx
                      have hxr := HV.out.rng x (by simp [List.mem_of_getElem? hx])
                      obtain ⟨xn, rfl⟩ : ∃ k : Nat, x = (k : Int) := ⟨x.toNat, by omega⟩
                      have hxn : (xn : Int) ∉ G ++ l.take j := fun hm => by
                        have hnd := HV.out.nd
                        rw [List.append_assoc, List.nodup_append] at hnd
                        rcases List.mem_append.1 hm with hm | hm
                        · exact hnd.2.2 _ hm (xn : Int) (by simp [List.mem_of_getElem? hx]) rfl
                        · have h6 := hnd.2.1
                          rw [List.nodup_append] at h6
                          have hlt := idx_lt hx
                          have e : l = l.take j ++ (xn : Int) :: l.drop (j + 1) := by
                            rw [List.getElem?_eq_getElem hlt] at hx
                            have hx' := Option.some.inj hx
                            rw [← hx', List.getElem_cons_drop, List.take_append_drop]
                          have h7 := h6.1
                          rw [e, List.nodup_append] at h7
                          exact h7.2.2 _ hm (xn : Int) (by simp) rfl
                      obtain ⟨z0, z1⟩ := HS.out.at xn (by omega)
                      rw [if_neg hxn] at z0
                      have HS2 : Hid (SW w0 W1.heap.size g gh WN.heap.size WN.heap.size (.slice none 0 0) [] (G ++ l.take (j + 1)) (wr.setCell ⟨WN.heap.size, xn, none⟩ (.int .i64 1)) T7) := hide (by
                        have := HS.out.cnt HP.out xn (by omega)
                        rw [List.append_assoc] at this
                        rw [List.take_add_one, hx]
                        exact this)
                      have HO2 : Hid (∃ B', intE.Own (wr.setCell ⟨WN.heap.size, xn, none⟩ (.int .i64 1)) B' (.slice (some ⟨b5, off5, none⟩) nl c7) l) := hide ⟨B', own_set_other hO (zown_ne hO HS.out.box (by decide))⟩
                      have g1 : (j : Int) < (nl : Int) := by omega
                      have x1 : ¬ ((xn : Int) < 1) := by omega
                      have x2 : ¬ ((xn : Int) > 30) := by omega
                      have x3 : (0 : Int) ≤ (xn : Int) := by omega
                      have x4 : (xn : Int) < 31 := by omega
                      clear hx hxr hxn hO
                      go_wp2_with fail
                      go_roundw
                      case rel => exact ⟨j + 1, by go_num, by omega, HO2, HS2⟩
                      case measure => simp [intOf]; omega
                    · obtain rfl : j = nl := by omega
                      have g1 : ¬ (j : Int) < (j : Int) := by omega
                      have HY : Hid (∃ G T, SW w0 W1.heap.size g gh WN.heap.size WN.heap.size (.slice none 0 0) [] G wr T ∧ SV N 30 T G ∧ p = G.length + T.q.length ∧ RD q0n (n + 1) T) := hide (by
                        have := HS.out
                        rw [List.take_of_length_le (by rw [Hnl.out]; exact Nat.le_refl _)] at this
                        exact ⟨G ++ l, T7, this, HV.out, HD.out.1, HD.out.2⟩)
                      go_wp2_with fail
                      go_roundw
                      case rel => exact ⟨n + 1, by go_num, by omega, HY⟩
                      case measure => simp [intOf]; omega
              · obtain rfl : n = N := by omega
                have n1' : ¬ (n : Int) < (n : Int) := by omega
                have HY : Hid (∃ G T, SW w0 W1.heap.size g gh WN.heap.size WN.heap.size (.slice none 0 0) [] G wr T ∧ SV n 30 T G ∧ p = G.length + T.q.length ∧ T.q.length ≤ 30 - (r + 1)) := hide (by
                  obtain ⟨G, T, h1, h2, h3, h4⟩ := HX.out
                  refine ⟨G, T, h1, h2, h3, ?_⟩
                  have hq := Hq0.out
                  rcases h4 with h4 | ⟨h4, h5⟩
                  · omega
                  · have := h2.free h5
                    rw [this]; simp)
                clear HX
                go_wp2_with fail
                go_roundw
                case rel => exact ⟨r + 1, by go_num, by omega, HY⟩
                case measure => simp [intOf]; omega
          · obtain rfl : r = 35 := by omega
            obtain ⟨G, T, h1, h2, h3, h4⟩ := HX.out
            have hq : T.q = [] := List.eq_nil_of_length_eq_zero (by omega)
            have HI : Hid (∀ k : Nat, k < 31 → ∀ W, (Instr.index 55 (.agg ((cntL G).map (Value.int .i64)).toArray) (.int .i64 (k : Int))).run Try.prog W = .ok (.int .i64 (if (k : Int) ∈ G then 1 else 0)) W) := hide (fun k hk W => index31 G k hk W)
            have Hrg := hide h1.range
            have HGn : Hid (G.Nodup ∧ (∀ x ∈ G, 1 ≤ x ∧ x ≤ 30) ∧ p = G.length) := hide ⟨by have := h2.nd; rw [List.nodup_append] at this; exact this.1, fun x hx => h2.rng x (List.mem_append.2 (.inl hx)), by rw [h3, hq]; rfl⟩
            have HB9 := hide h1.bel
            have K22 : Hid (Calls Try.prog 22 #[.pointer (some ⟨g, 0, none⟩)] wr fun e w' => (∃ a c, e = .returned (.slice a 0 c)) ∧ Below wr.heap.size wr w') := hide (by
              refine (waiting_any h1.tbl (by rw [hq]; simp)).mono ?_
              rintro e w' ⟨⟨v, rfl, ho⟩, hb⟩
              obtain ⟨a', c', hf⟩ := ho.rd.form
              rw [List.length_map, hq] at hf
              exact ⟨⟨a', c', by rw [hf]; rfl⟩, hb⟩)
            clear h1 h2 h3 h4 hq HX
            go_upto_region 40 with fail
            refine wp_region_list ?_
            refine wpList_load_mid rfl 55 (.tmp 7) rfl WN.heap.size 0 rfl _ _ Hrg.out Try.underlying55 rfl (by rw [List.length_map, cntL_len]; kernel_rfl) ?_
            generalize ((cntL G).map (Value.int .i64)).toArray = C at *
            clear Hrg
            go_upto_region 41 with fail
            obtain ⟨wF, hwF⟩ : ∃ W, W = wr := ⟨_, rfl⟩
            subst hwF
            go_loopw [8, 141] (fun v8 v141 wr => ∃ (k : Nat), wr = wF ∧ v141 = .int .i64 k ∧ k ≤ 31 ∧ v8 = .int .i64 (frm G k : Int)) (fun _ v141 _ => 40 - (intOf v141).toNat)
            case atStart => exact ⟨0, rfl, rfl, by omega, by rw [frm_zero (fun x hx => (HGn.out.2.1 x hx).1), ← HGn.out.2.2]⟩
            case round =>
              obtain ⟨k, hw, rfl, hk31, rfl⟩ := hrel
              have hw' := hw.symm
              clear hw
              subst hw'
              have g0 : (0 : Int) ≤ (k : Int) := by omega
              by_cases hk : k < 31
              · have g1 : (k : Int) < 31 := by omega
                have hI := HI.out k hk
                have hfr := frm_step HGn.out.1 k
                obtain ⟨f1, hf1⟩ : ∃ f, frm G (k + 1) = f := ⟨_, rfl⟩
                obtain ⟨f0, hf0⟩ : ∃ f, frm G k = f := ⟨_, rfl⟩
                have hf30 : f0 ≤ 31 := by
                  rw [← hf0]
                  unfold frm
                  refine Nat.le_trans (List.length_filter_le _ _) ?_
                  have := nodup_len 30 G HGn.out.1 HGn.out.2.1
                  omega
                rw [hf1, hf0] at hfr
                rw [hf0]
                have Hf1 := hide hf1
                clear hf1 hf0
                by_cases hm : (k : Int) ∈ G
                · rw [if_pos hm] at hfr hI
                  have e1 : (f0 : Int) - 1 = (f1 : Int) := by omega
                  have e2 : (f0 : Int) ≤ 31 := by omega
                  have e3 : (0 : Int) ≤ (f1 : Int) := by omega
                  clear hfr hm hf30
                  go_wp2_with fail
                  go_roundw
                  case rel => exact ⟨k + 1, trivial, by go_num, by omega, by rw [Hf1.out]⟩
                  case measure => simp [intOf]; omega
                · rw [if_neg hm] at hfr hI
                  have e1 : f0 = f1 := by omega
                  subst e1
                  have e2 : (f0 : Int) ≤ 31 := by omega
                  clear hfr hm hf30
                  go_wp2_with fail
                  go_roundw
                  case rel => exact ⟨k + 1, trivial, by go_num, by omega, by rw [Hf1.out]⟩
                  case measure => simp [intOf]; omega
              · obtain rfl : k = 31 := by omega
                rw [frm_end (fun x hx => (HGn.out.2.1 x hx).2)]
                clear HI
                go_wp2_with (go_at_call 22; refine K22.out.mono ?_; rintro e W9 ⟨⟨a9, c9, rfl⟩, hb⟩; have HB10 := hide (HB9.out.trans (hb.mono HB9.out.size)); clear hb)
                go_ret
                exact ⟨by simp, HB10.out⟩
      · have q0 : (i : Int) < (m : Int) := by omega
        have q1 : ¬ (i : Int) < 30 := by omega
        clear hor
        have HY : Hid (∃ G T, SW w0 W1.heap.size g gh WN.heap.size WN.heap.size (.slice none 0 0) [] G wr T ∧ SV N 30 T G ∧ p = G.length + T.q.length ∧ T.q.length ≤ 30 - 0) := hide (by
          obtain ⟨G, T, h1, h2, h3⟩ := HX.out
          exact ⟨G, T, h1, ⟨h2.wf, h2.set, h2.len, h2.nd, fun x hx => by have := h2.rng x hx; omega⟩, h3, h2.wf.qlen⟩)
        clear HX
        go_upto_region 23 with fail
        go_loopw [14] (fun v14 wr => ∃ (r : Nat), v14 = .int .i64 r ∧ r ≤ 35 ∧ Hid (∃ G T, SW w0 W1.heap.size g gh WN.heap.size WN.heap.size (.slice none 0 0) [] G wr T ∧ SV N 30 T G ∧ p = G.length + T.q.length ∧ T.q.length ≤ 30 - r)) (fun v14 _ => 40 - (intOf v14).toNat)
        case atStart => exact ⟨0, rfl, by omega, HY⟩
        case round =>
          clear HY
          obtain ⟨r, rfl, hr35, HX⟩ := hrel
          have r0 : (0 : Int) ≤ (r : Int) := by omega
          by_cases hrr : r < 35
          · have r1 : (r : Int) < 35 := by omega
            obtain ⟨q0n, Hq0, HX4⟩ : ∃ q0, Hid (q0 ≤ 30 - r) ∧ Hid (∃ G T, SW w0 W1.heap.size g gh WN.heap.size WN.heap.size (.slice none 0 0) [] G wr T ∧ SV N 30 T G ∧ p = G.length + T.q.length ∧ RD q0 0 T) := by
              obtain ⟨G, T, h1, h2, h3, h4⟩ := HX.out
              exact ⟨T.q.length, hide h4, hide ⟨G, T, h1, h2, h3, .inr ⟨rfl, fun k h0 h1 => by omega⟩⟩⟩
            clear HX
            go_upto_region 26 with fail
            go_loopw [15] (fun v15 wr => ∃ (n : Nat), v15 = .int .i64 n ∧ n ≤ N ∧ Hid (∃ G T, SW w0 W1.heap.size g gh WN.heap.size WN.heap.size (.slice none 0 0) [] G wr T ∧ SV N 30 T G ∧ p = G.length + T.q.length ∧ RD q0n n T)) (fun v15 _ => N - (intOf v15).toNat)
            case atStart => exact ⟨0, rfl, by omega, HX4⟩
            case round =>
              clear HX4
              obtain ⟨n, rfl, hnN, HX⟩ := hrel
              have n0' : (0 : Int) ≤ (n : Int) := by omega
              by_cases hnn : n < N
              · have n1' : (n : Int) < (N : Int) := by omega
                obtain ⟨G, T, h1, h2, h3, h4⟩ := HX.out
                have K21 := hide (holder_any h1.tbl (n : Int))
                by_cases hz : hat T.hold (n : Int) = 0
                · rw [hz] at K21
                  have HY : Hid (∃ G T, SW w0 W1.heap.size g gh WN.heap.size WN.heap.size (.slice none 0 0) [] G wr T ∧ SV N 30 T G ∧ p = G.length + T.q.length ∧ RD q0n (n + 1) T) := hide ⟨G, T, h1, h2, h3, by
                    rcases h4 with h4 | ⟨h4, h5⟩
                    · exact .inl h4
                    · refine .inr ⟨h4, fun k hk0 hk1 => ?_⟩
                      by_cases e : k = (n : Int)
                      · rw [e]; exact hz
                      · exact h5 k hk0 (by omega)⟩
                  clear h1 h2 h3 h4 hz HX
                  go_wp2_with (go_at_call 21; refine K21.out.mono ?_; rintro e W6 ⟨rfl, hW⟩; have hW' := hW.symm; clear hW; subst hW')
                  go_roundw
                  case rel => exact ⟨n + 1, by go_num, by omega, HY⟩
                  case measure => simp [intOf]; omega
                · have hin := hat_in h2.wf.hold (n : Int)
                  obtain ⟨h, hh⟩ : ∃ h, hat T.hold (n : Int) = h := ⟨_, rfl⟩
                  have K14 : Hid (Calls Try.prog 14 #[.pointer (some ⟨g, 0, none⟩), .int .i64 h, .int .i64 (n : Int)] wr fun e w' => ∃ v, e = .returned (.tuple #[v, .int .i64 0]) ∧ ∃ l T', intE.Own w' wr.heap.size v l ∧ SW w0 W1.heap.size g gh WN.heap.size WN.heap.size (.slice none 0 0) [] G w' T' ∧ SV N 30 T' (G ++ l) ∧ p = (G ++ l).length + T'.q.length ∧ RD q0n (n + 1) T') := hide (by
                    have hbad : badN T.hold.length h (n : Int) = false := by
                      unfold badN
                      rw [show toteB h = true from decide_eq_true (by omega), show inB T.hold.length (n : Int) = true from decide_eq_true (by rw [h2.len]; omega)]; rfl
                    refine (rel_ok h1.tbl h2.wf h (n : Int) hbad hh).mono ?_
                    rintro e w' ⟨v, rfl, T', l, ho, hG, hT', hF⟩
                    obtain ⟨e1, e2, e3⟩ := h2.rel (n : Int) hG
                    refine ⟨v, rfl, l, T', ho, SW.fr HP.out h1 hT' hF, e1, by rw [List.length_append]; omega, ?_⟩
                    rcases h4 with h4 | ⟨h4, h5⟩
                    · exact .inl (by omega)
                    · cases l with
                      | cons x l => exact .inl (by simp only [List.length_cons] at e2; omega)
                      | nil =>
                        have e4 := e3 rfl
                        subst e4
                        refine .inr ⟨h4, fun k hk0 hk1 => ?_⟩
                        show hat (T.hold.set (n : Int).toNat 0) k = 0
                        rw [hat_set T.hold 0 (n : Int) (by rw [h2.len]; omega)]
                        split
                        · rfl
                        · exact h5 k hk0 (by omega))
                  rw [hh] at K21 hz hin
                  have hz1 : (h == 0) = false := beq_eq_false_iff_ne.2 hz
                  clear h1 h2 h3 h4 hh HX hin
                  go_upto_region 34 with (first | (go_at_call 21; refine K21.out.mono ?_; rintro e W6 ⟨rfl, hW⟩; have hW' := hW.symm; clear hW; subst hW') | (go_at_call 14; refine K14.out.mono ?_; rintro e W7 ⟨v7, rfl, l, T7, ho, hS, hV, hp, hD⟩; obtain ⟨a7, c7, rfl⟩ := ho.rd.form; have HO := hide ho; have HS := hide hS; have HV := hide hV; have HD := hide (show _ ∧ _ from ⟨hp, hD⟩); clear ho hS hV hp hD))
                  obtain ⟨nl, hnl⟩ : ∃ n, l.length = n := ⟨_, rfl⟩
                  have hnl30 : l.length ≤ 30 := by
                    have hnd := HV.out.nd
                    rw [List.append_assoc, List.nodup_append] at hnd
                    have h6 := hnd.2.1
                    rw [List.nodup_append] at h6
                    exact nodup_len 30 l h6.1 (fun x hx => HV.out.rng x (by simp [hx]))
                  rw [hnl] at HO hnl30 ⊢
                  have Hnl := hide hnl
                  have i9 : (nl : Int) ≤ 30 := by omega
                  clear hnl hnl30 K14 K21
                  go_loopw [124] (fun v124 wr => ∃ (j : Nat), v124 = .int .i64 j ∧ j ≤ nl ∧ Hid (∃ B', intE.Own wr B' (.slice a7 nl c7) l) ∧ Hid (SW w0 W1.heap.size g gh WN.heap.size WN.heap.size (.slice none 0 0) [] (G ++ l.take j) wr T7)) (fun v124 _ => nl - (intOf v124).toNat)
                  case atStart => exact ⟨0, rfl, by omega, hide ⟨_, HO.out⟩, hide (by rw [List.take_zero, List.append_nil]; exact HS.out)⟩
                  case round =>
                    clear HO HS
                    obtain ⟨j, rfl, hj, HO, HS⟩ := hrel
                    have g0 : (0 : Int) ≤ (j : Int) := by omega
                    by_cases hjn : j < nl
                    · obtain ⟨x, hx⟩ : ∃ x, l[j]? = some x := ⟨_, List.getElem?_eq_getElem (by rw [Hnl.out]; exact hjn)⟩
                      obtain ⟨B', hO⟩ := HO.out
                      obtain ⟨b5, off5, rfl, e0⟩ := int_at hO.rd j x hx
                      have hxr := HV.out.rng x (by simp [List.mem_of_getElem? hx])
                      obtain ⟨xn, rfl⟩ : ∃ k : Nat, x = (k : Int) := ⟨x.toNat, by omega⟩
                      have hxn : (xn : Int) ∉ G ++ l.take j := fun hm => by
                        have hnd := HV.out.nd
                        rw [List.append_assoc, List.nodup_append] at hnd
                        rcases List.mem_append.1 hm with hm | hm
                        · exact hnd.2.2 _ hm (xn : Int) (by simp [List.mem_of_getElem? hx]) rfl
                        · have h6 := hnd.2.1
                          rw [List.nodup_append] at h6
                          have hlt := idx_lt hx
                          have e : l = l.take j ++ (xn : Int) :: l.drop (j + 1) := by
                            rw [List.getElem?_eq_getElem hlt] at hx
                            have hx' := Option.some.inj hx
                            rw [← hx', List.getElem_cons_drop, List.take_append_drop]
                          have h7 := h6.1
                          rw [e, List.nodup_append] at h7
                          exact h7.2.2 _ hm (xn : Int) (by simp) rfl
                      obtain ⟨z0, z1⟩ := HS.out.at xn (by omega)
                      rw [if_neg hxn] at z0
                      have HS2 : Hid (SW w0 W1.heap.size g gh WN.heap.size WN.heap.size (.slice none 0 0) [] (G ++ l.take (j + 1)) (wr.setCell ⟨WN.heap.size, xn, none⟩ (.int .i64 1)) T7) := hide (by
                        have := HS.out.cnt HP.out xn (by omega)
                        rw [List.append_assoc] at this
                        rw [List.take_add_one, hx]
                        exact this)
                      have HO2 : Hid (∃ B', intE.Own (wr.setCell ⟨WN.heap.size, xn, none⟩ (.int .i64 1)) B' (.slice (some ⟨b5, off5, none⟩) nl c7) l) := hide ⟨B', own_set_other hO (zown_ne hO HS.out.box (by decide))⟩
                      have g1 : (j : Int) < (nl : Int) := by omega
                      have x1 : ¬ ((xn : Int) < 1) := by omega
                      have x2 : ¬ ((xn : Int) > 30) := by omega
                      have x3 : (0 : Int) ≤ (xn : Int) := by omega
                      have x4 : (xn : Int) < 31 := by omega
                      clear hx hxr hxn hO
                      go_wp2_with fail
                      go_roundw
                      case rel => exact ⟨j + 1, by go_num, by omega, HO2, HS2⟩
                      case measure => simp [intOf]; omega
                    · obtain rfl : j = nl := by omega
                      have g1 : ¬ (j : Int) < (j : Int) := by omega
                      have HY : Hid (∃ G T, SW w0 W1.heap.size g gh WN.heap.size WN.heap.size (.slice none 0 0) [] G wr T ∧ SV N 30 T G ∧ p = G.length + T.q.length ∧ RD q0n (n + 1) T) := hide (by
                        have := HS.out
                        rw [List.take_of_length_le (by rw [Hnl.out]; exact Nat.le_refl _)] at this
                        exact ⟨G ++ l, T7, this, HV.out, HD.out.1, HD.out.2⟩)
                      go_wp2_with fail
                      go_roundw
                      case rel => exact ⟨n + 1, by go_num, by omega, HY⟩
                      case measure => simp [intOf]; omega
              · obtain rfl : n = N := by omega
                have n1' : ¬ (n : Int) < (n : Int) := by omega
                have HY : Hid (∃ G T, SW w0 W1.heap.size g gh WN.heap.size WN.heap.size (.slice none 0 0) [] G wr T ∧ SV n 30 T G ∧ p = G.length + T.q.length ∧ T.q.length ≤ 30 - (r + 1)) := hide (by
                  obtain ⟨G, T, h1, h2, h3, h4⟩ := HX.out
                  refine ⟨G, T, h1, h2, h3, ?_⟩
                  have hq := Hq0.out
                  rcases h4 with h4 | ⟨h4, h5⟩
                  · omega
                  · have := h2.free h5
                    rw [this]; simp)
                clear HX
                go_wp2_with fail
                go_roundw
                case rel => exact ⟨r + 1, by go_num, by omega, HY⟩
                case measure => simp [intOf]; omega
          · obtain rfl : r = 35 := by omega
            obtain ⟨G, T, h1, h2, h3, h4⟩ := HX.out
            have hq : T.q = [] := List.eq_nil_of_length_eq_zero (by omega)
            have HI : Hid (∀ k : Nat, k < 31 → ∀ W, (Instr.index 55 (.agg ((cntL G).map (Value.int .i64)).toArray) (.int .i64 (k : Int))).run Try.prog W = .ok (.int .i64 (if (k : Int) ∈ G then 1 else 0)) W) := hide (fun k hk W => index31 G k hk W)
            have Hrg := hide h1.range
            have HGn : Hid (G.Nodup ∧ (∀ x ∈ G, 1 ≤ x ∧ x ≤ 30) ∧ p = G.length) := hide ⟨by have := h2.nd; rw [List.nodup_append] at this; exact this.1, fun x hx => h2.rng x (List.mem_append.2 (.inl hx)), by rw [h3, hq]; rfl⟩
            have HB9 := hide h1.bel
            have K22 : Hid (Calls Try.prog 22 #[.pointer (some ⟨g, 0, none⟩)] wr fun e w' => (∃ a c, e = .returned (.slice a 0 c)) ∧ Below wr.heap.size wr w') := hide (by
              refine (waiting_any h1.tbl (by rw [hq]; simp)).mono ?_
              rintro e w' ⟨⟨v, rfl, ho⟩, hb⟩
              obtain ⟨a', c', hf⟩ := ho.rd.form
              rw [List.length_map, hq] at hf
              exact ⟨⟨a', c', by rw [hf]; rfl⟩, hb⟩)
            clear h1 h2 h3 h4 hq HX
            go_upto_region 40 with fail
            refine wp_region_list ?_
            refine wpList_load_mid rfl 55 (.tmp 7) rfl WN.heap.size 0 rfl _ _ Hrg.out Try.underlying55 rfl (by rw [List.length_map, cntL_len]; kernel_rfl) ?_
            generalize ((cntL G).map (Value.int .i64)).toArray = C at *
            clear Hrg
            go_upto_region 41 with fail
            obtain ⟨wF, hwF⟩ : ∃ W, W = wr := ⟨_, rfl⟩
            subst hwF
            go_loopw [8, 141] (fun v8 v141 wr => ∃ (k : Nat), wr = wF ∧ v141 = .int .i64 k ∧ k ≤ 31 ∧ v8 = .int .i64 (frm G k : Int)) (fun _ v141 _ => 40 - (intOf v141).toNat)
            case atStart => exact ⟨0, rfl, rfl, by omega, by rw [frm_zero (fun x hx => (HGn.out.2.1 x hx).1), ← HGn.out.2.2]⟩
            case round =>
              obtain ⟨k, hw, rfl, hk31, rfl⟩ := hrel
              have hw' := hw.symm
              clear hw
              subst hw'
              have g0 : (0 : Int) ≤ (k : Int) := by omega
              by_cases hk : k < 31
              · have g1 : (k : Int) < 31 := by omega
                have hI := HI.out k hk
                have hfr := frm_step HGn.out.1 k
                obtain ⟨f1, hf1⟩ : ∃ f, frm G (k + 1) = f := ⟨_, rfl⟩
                obtain ⟨f0, hf0⟩ : ∃ f, frm G k = f := ⟨_, rfl⟩
                have hf30 : f0 ≤ 31 := by
                  rw [← hf0]
                  unfold frm
                  refine Nat.le_trans (List.length_filter_le _ _) ?_
                  have := nodup_len 30 G HGn.out.1 HGn.out.2.1
                  omega
                rw [hf1, hf0] at hfr
                rw [hf0]
                have Hf1 := hide hf1
                clear hf1 hf0
                by_cases hm : (k : Int) ∈ G
                · rw [if_pos hm] at hfr hI
                  have e1 : (f0 : Int) - 1 = (f1 : Int) := by omega
                  have e2 : (f0 : Int) ≤ 31 := by omega
                  have e3 : (0 : Int) ≤ (f1 : Int) := by omega
                  clear hfr hm hf30
                  go_wp2_with fail
                  go_roundw
                  case rel => exact ⟨k + 1, trivial, by go_num, by omega, by rw [Hf1.out]⟩
                  case measure => simp [intOf]; omega
                · rw [if_neg hm] at hfr hI
                  have e1 : f0 = f1 := by omega
                  subst e1
                  have e2 : (f0 : Int) ≤ 31 := by omega
                  clear hfr hm hf30
                  go_wp2_with fail
                  go_roundw
                  case rel => exact ⟨k + 1, trivial, by go_num, by omega, by rw [Hf1.out]⟩
                  case measure => simp [intOf]; omega
              · obtain rfl : k = 31 := by omega
                rw [frm_end (fun x hx => (HGn.out.2.1 x hx).2)]
                clear HI
                go_wp2_with (go_at_call 22; refine K22.out.mono ?_; rintro e W9 ⟨⟨a9, c9, rfl⟩, hb⟩; have HB10 := hide (HB9.out.trans (hb.mono HB9.out.size)); clear hb)
                go_ret
                exact ⟨by simp, HB10.out⟩
end Go.Proofs.Ytbibegendejnlaa
