/- ClaimWhole: the walk. -/
import Derived.Test.YtbibegendejnlaaCww
import Derived.Deep.CutBlock
namespace Go.Proofs.Ytbibegendejnlaa
open Go.RowKit Go.Maps Go.ChangeMaps
set_option linter.unusedVariables false

/-- how a claim ends -/
def WCase (N : Nat) (t : Int) (ns : List Int) (T : Tb) (X : Tb → Prop) (yes : Bool) (code : Int) : Prop :=
  (yes = false ∧ (code = 1 ∨ code = 2) ∧ X T) ∨
  (code = 0 ∧ ns ≠ [] ∧ fnd t T.q < 0 ∧ ∃ T', X T' ∧ GP N (if yes = true then [t] else []) T' (T.q ++ [⟨t, onc ns⟩]))
theorem whole_claim {w0 w : World} {B g gh mb Bn n k : Nat} {a : Option Addr} {c : Nat} {ns : List Int} {T : Tb} {f : Int → Option Value} {N : Nat} {t : Int} (P : WP w0 B g gh mb Bn) (h : WW w0 B g gh mb Bn (.slice a k c) ns w T T.q n f) (hw : Wf T) (hs : Set' T) (hl : T.hold.length = N) (hk : ns.length = k) (hk5 : k ≤ 5) (hin : inT N ns) (ht : 1 ≤ t ∧ t ≤ 30) :
    Calls Try.prog 11 #[.pointer (some ⟨g, 0, none⟩), .int .i64 t, .slice a k c] w fun e w' => ∃ yes code, e = .returned (.tuple #[.bool yes, .int .i64 code]) ∧ WCase N t ns T (fun T' => WW w0 B g gh mb Bn (.slice a k c) ns w' T' T.q n f) yes code := by
  by_cases hne : ns = []
  · have hbad : badC T.hold.length t ns = true := by unfold badC; rw [hne]; simp
    refine (claim_bad h.tbl t a c k ns hk h.own.rd (by omega) hbad).mono ?_
    rintro e w' ⟨rfl, rfl⟩
    exact ⟨false, 1, rfl, .inl ⟨rfl, .inl rfl, h⟩⟩
  · have hbad : badC T.hold.length t ns = false := badC_yes ht hne (by rw [hl]; exact hin)
    by_cases hf : fnd t T.q < 0
    · refine (claim_ok h.tbl hw (fun j hj => h.own.lt j hj) t a c k ns hk h.own.rd (by omega) hbad hf).mono ?_
      rintro e w' ⟨l, rfl, T', hG, hT', hF⟩
      have hwa := Wf.add hw (badC_no hbad).1 hne (badC_no hbad).2.2 (by omega) hf
      have hgp := GP.of hG hwa hl
      refine ⟨_, 0, rfl, .inr ⟨rfl, hne, hf, T', WW.fr P h hT' hF, ?_⟩⟩
      rcases gr_add hs hwa hG with ⟨_, e1, _⟩ | ⟨_, e1, _⟩
      · rw [e1] at hgp ⊢
        exact hgp
      · rw [e1] at hgp ⊢
        exact hgp
    · refine (claim_twice h.tbl hw t a c k ns hk h.own.rd (by omega) hbad (by omega)).mono ?_
      rintro e w' ⟨rfl, hb⟩
      exact ⟨false, 2, rfl, .inl ⟨rfl, .inr rfl, h.keep hb⟩⟩
theorem whole_rel {w0 w : World} {B g gh mb Bn n : Nat} {T : Tb} {f : Int → Option Value} {N : Nat} {t d : Int} (P : WP w0 B g gh mb Bn) (h : WW w0 B g gh mb Bn (.slice none 0 0) [] w T T.q n f) (hw : Wf T) (hs : Set' T) (hl : T.hold.length = N) (ht : 1 ≤ t ∧ t ≤ 30) (hd : 0 ≤ d ∧ d < (N : Int)) :
    Calls Try.prog 14 #[.pointer (some ⟨g, 0, none⟩), .int .i64 t, .int .i64 d] w fun e w' => ∃ v code, e = .returned (.tuple #[v, .int .i64 code]) ∧ ∃ l T' B', intE.Own w' B' v l ∧ WW w0 B g gh mb Bn (.slice none 0 0) [] w' T' T.q n f ∧ GP N l T' T.q := by
  have hbad : badN T.hold.length t d = false := by
    unfold badN
    rw [show toteB t = true from decide_eq_true ht, show inB T.hold.length d = true from decide_eq_true (by rw [hl]; exact hd)]; rfl
  by_cases he : hat T.hold d = t
  · refine (rel_ok h.tbl hw t d hbad he).mono ?_
    rintro e w' ⟨v, rfl, T', l, ho, hG, hT', hF⟩
    exact ⟨v, 0, rfl, l, T', _, ho, WW.fr P h hT' hF, GP.of (T1 := ⟨T.hold.set d.toNat 0, T.q⟩) hG (hw.setH 0 (by omega) [d]) (by show (T.hold.set _ _).length = N; rw [List.length_set, hl])⟩
  · refine (rel_none h.tbl t d hbad he).mono ?_
    rintro e w' ⟨rfl, rfl⟩
    exact ⟨_, 4, rfl, [], T, 0, El.Own.nil _ _ _, h, GP.same hw hs hl⟩
theorem whole_drop {w0 w : World} {B g gh mb Bn n : Nat} {T : Tb} {f : Int → Option Value} {N : Nat} {t : Int} (P : WP w0 B g gh mb Bn) (h : WW w0 B g gh mb Bn (.slice none 0 0) [] w T T.q n f) (hw : Wf T) (hs : Set' T) (hl : T.hold.length = N) (ht : 1 ≤ t ∧ t ≤ 30) :
    Calls Try.prog 16 #[.pointer (some ⟨g, 0, none⟩), .int .i64 t] w fun e w' => ∃ v code, e = .returned (.tuple #[v, .int .i64 code]) ∧ ((code = 4 ∧ v = .slice none 0 0 ∧ WW w0 B g gh mb Bn (.slice none 0 0) [] w' T T.q n f) ∨ (code = 0 ∧ ∃ l T' B' Q w2 f', intE.Own w' B' v l ∧ (∀ ty, (Builtin.delete_ #[51, 3] ty #[.map (some mb), .int .i64 t]).run Try.prog w' = .ok (.tuple #[]) w2) ∧ intE.Own w2 B' v l ∧ WW w0 B g gh mb Bn (.slice none 0 0) [] w2 T' Q n f' ∧ GP N l T' Q)) := by
  rcases ix_cases (fun d => decide (d.tote = t)) T.q with ⟨i, c, hi, hc, _, he⟩ | ⟨_, he⟩
  · have hct : c.tote = t := of_decide_eq_true hc
    refine (drop_ok h.tbl hw t (decide_eq_true ht) i (idx_lt hi) he).mono ?_
    rintro e w' ⟨v, rfl, T', l, ho, hG, hT', hF⟩
    have h1 := WW.fr P h hT' hF
    have hcm := List.mem_of_getElem? hi
    obtain ⟨w2, hr, h2, hO, hob⟩ := h1.del (Q' := T.q.take i ++ T.q.drop (i + 1)) P hcm hct (fun d => by rw [del_mem hw hi, hct]) (by have := idx_lt hi; rw [List.length_append, List.length_take, List.length_drop]; omega)
    exact ⟨v, 0, rfl, .inr ⟨rfl, l, T', _, _, w2, _, ho, hr, hO.own ho hob, h2, GP.of (T1 := ⟨T.hold, T.q.take i ++ T.q.drop (i + 1)⟩) hG (hw.del i) hl⟩⟩
  · refine (drop_none h.tbl hw t (decide_eq_true ht) (by unfold fnd; rw [he]; decide)).mono ?_
    rintro e w' ⟨rfl, hb⟩
    exact ⟨_, 4, rfl, .inl ⟨rfl, rfl, h.keep hb⟩⟩

set_option maxRecDepth 100000 in
set_option maxHeartbeats 16000000 in
theorem whole_walk (n0 : Int) (a : Option Addr) (m c : Nat) (zs : List Op) (w : World) (hm : zs.length = m) (hv : Ops w (.slice a m c) zs) : Calls Try.prog 4 #[.int .i64 n0, .slice a m c] w fun e w' => e = .returned (.bool true) ∧ Below w.heap.size w w' := by
  obtain ⟨w0, rfl⟩ : ∃ w0, w0 = w := ⟨_, rfl⟩
  have KA := hide awake_any
  obtain ⟨k, hk, hk40⟩ := few n0 40 (by omega)
  obtain ⟨N, hN⟩ : ∃ N : Nat, (k : Int) + 1 = (N : Int) := ⟨k + 1, by omega⟩
  have hN1 : 1 ≤ N := by omega
  have hN2 : N ≤ 40 := by omega
  have HR : Hid (∀ W, Below w0.heap.size w0 W → Ops W (.slice a m c) zs) := hide (fun W hb => hv.keep hb)
  have Hm := hide hm
  clear hm hv
  go_enter Try.func4, Try.ntmps4
  go_upto_region 4 with (go_at_call 9; refine (KA.out _).mono ?_; rintro e W1 ⟨rfl, hb1⟩; have HB := hide hb1; clear hb1)
  try rw [hN]
  generalize wrap64 ((IntKind.u64.wrap n0).tmod 40) = y1 at *
  generalize (IntKind.u64.wrap n0).tmod 40 = y2 at *
  generalize IntKind.u64.wrap n0 = y3 at *
  clear hk hk40 hN KA
  have KN := hide (new_ok N W1 hN1 hN2)
  go_upto_region 7 with (go_at_call 10; refine KN.out.mono ?_; rintro e WN ⟨g, rfl, gh, hT, hb, h1, h2, h3⟩; have HTN := hide (hT (bl (.slice none 0 0))); have HB2 := hide (HB.out.trans (hb.mono HB.out.size)); have Hg := hide (show W1.heap.size ≤ g ∧ g < WN.heap.size by obtain ⟨_, _, h⟩ := hT no; exact ⟨h.base, h3⟩); have Hgh := hide (show W1.heap.size ≤ gh ∧ gh < WN.heap.size from ⟨h1, h2⟩); clear hT hb h1 h2 h3)
  clear KN
  have HP : Hid (WP w0 W1.heap.size g gh WN.heap.size WN.heap.size) := hide (by
    have h1 := HB.out.size
    have h2 := Hg.out
    have h3 := Hgh.out
    exact ⟨⟨by omega, h2.2⟩, ⟨by omega, h3.2⟩, Nat.le_refl _, h1⟩)
  have HS0 : Hid (WW w0 W1.heap.size g gh WN.heap.size WN.heap.size (.slice none 0 0) [] (WN.alloc (.map #[] 0)) ⟨List.replicate N 0, []⟩ [] 0 (fun _ => none)) := hide (by
    have hb : Below WN.heap.size WN (WN.alloc (.map #[] 0)) := (Below.refl _ _).alloc (Nat.le_refl _) _
    exact ⟨HTN.out.keep hb, Mp.made WN, El.Own.nil _ _ _, HB2.out.trans (hb.mono HB2.out.size), hb.size, (fun c hc => by simp at hc), (fun x _ _ _ => rfl), (fun c hc => by simp at hc)⟩)
  have Hst : Hid (Wf ⟨List.replicate N 0, []⟩ ∧ Set' ⟨List.replicate N 0, []⟩ ∧ (List.replicate N (0 : Int)).length = N) := hide ⟨wf_new N (by omega), fun i => mayB_out (by simp), by simp⟩
  have hnz : ¬ (N = 0) := by omega
  have hnz' : ¬ ((N : Int) = 0) := by omega
  have hwu := wrapu N (by omega)
  have j1 : (N : Int) ≤ 40 := by omega
  have j2 : (1 : Int) ≤ (N : Int) := by omega
  have hmk : ∀ t W, (Instr.makeMap t none).run Try.prog W = .ok (.map (some W.heap.size)) (W.alloc (.map #[] 0)) := fun t W => run_makeMap t W
  go_upto_region 9 with fail
  clear hmk
  go_loopw [8] (fun v8 wr => ∃ (i : Nat), v8 = .int .i64 i ∧ i ≤ m ∧ i ≤ 150 ∧ Hid (∃ T n f, WW w0 W1.heap.size g gh WN.heap.size WN.heap.size (.slice none 0 0) [] wr T T.q n f ∧ Wf T ∧ Set' T ∧ T.hold.length = N ∧ n ≤ i)) (fun v8 _ => 160 - (intOf v8).toNat)
  case atStart => exact ⟨0, rfl, by omega, by omega, hide ⟨_, _, _, HS0.out, Hst.out.1, Hst.out.2.1, Hst.out.2.2, by omega⟩⟩
  case round =>
    clear HS0 Hst HTN
    obtain ⟨i, rfl, him, hi150, HX⟩ := hrel
    have q2 : (0 : Int) ≤ (i : Int) := by omega
    by_cases hgo : i < m ∧ i < 150
    · obtain ⟨o, ho⟩ : ∃ z, zs[i]? = some z := ⟨_, List.getElem?_eq_getElem (by rw [Hm.out]; exact hgo.1)⟩
      obtain ⟨wA, hwA⟩ : ∃ W, W = wr := ⟨_, rfl⟩
      subst hwA
      have q0 : (i : Int) < (m : Int) := by omega
      have q1 : (i : Int) < 150 := by omega
      obtain ⟨T, n, f, hS, hW, hSt, hL, hn⟩ := HX.out
      obtain ⟨b, off, a', c', rfl, z0, z1, z2, z3, hzr⟩ := (HR.out wA hS.bel).at i o ho
      have Hi : Hid (Wf T ∧ Set' T ∧ T.hold.length = N ∧ n ≤ i) := hide ⟨hW, hSt, hL, hn⟩
      obtain ⟨kd, ox, nd, nodes⟩ := o
      simp only at z0 z1 z2 z3 hzr
      obtain ⟨mi, hmi⟩ : ∃ n, nodes.length = n := ⟨_, rfl⟩
      rw [hmi] at z3 hzr
      have Hmi := hide hmi
      obtain ⟨k, hk, hk30⟩ := few ox 30 (by omega)
      obtain ⟨t, ht⟩ : ∃ t : Int, (k : Int) + 1 = t := ⟨_, rfl⟩
      have Ht : Hid (1 ≤ t ∧ t ≤ 30) := hide (by omega)
      obtain ⟨WA, hWA⟩ : ∃ W, W = wA.alloc (.cells #[.int .i64 kd, .int .i64 ox, .int .i64 nd, .slice a' mi c'] 33) := ⟨_, rfl⟩
      have hbA : Below wA.heap.size wA WA := by rw [hWA]; exact (Below.refl _ _).alloc (Nat.le_refl _) _
      obtain ⟨q, hq⟩ : ∃ q, wA.heap.size = q := ⟨_, rfl⟩
      have HS := hide (hS.keep hbA)
      have Hbx : Hid (WA.heap[q]? = some (.cells #[.int .i64 kd, .int .i64 ox, .int .i64 nd, .slice a' mi c'] 33)) := hide (by rw [hWA, ← hq]; exact heap_new _ _)
      have x0 := (cells_at Hbx.out 0).1
      have x1 := (cells_at Hbx.out 1).1
      have x2 := (cells_at Hbx.out 2).1
      have x3 := (cells_at Hbx.out 3).1
      simp only [List.getElem?_toArray, List.getElem?_cons_zero, List.getElem?_cons_succ] at x0 x1 x2 x3
      have Hzr : Hid (∀ W, Below w0.heap.size w0 W → intE.Rd W (.slice a' mi c') nodes) := hide (fun W hb => by
        obtain ⟨b2, off2, a2, c2, e2, _, _, _, y3, hz2⟩ := (HR.out w0 (Below.refl _ _)).at i _ ho
        cases e2
        have e3 : wA.cell? ⟨b, off + i * 4 + 3, none⟩ = w0.cell? ⟨b, off + i * 4 + 3, none⟩ := hS.bel.cell (p := ⟨b, off + i * 4 + 3, none⟩) (cell_lt y3)
        rw [z3, y3] at e3
        simp only [Option.some.injEq, Value.slice.injEq] at e3
        obtain ⟨rfl, e4, rfl⟩ := e3
        rw [e4]
        exact hz2.keep hb)
      have HWA := hide hWA
      have Hq := hide hq
      clear hS hW hSt hL hn ho hmi HX hgo hbA hzr hWA
      go_upto_region 12 with fail
      rw [← HWA.out]
      try rw [hq]
      clear HWA hq z0 z1 z2 z3
      go_upto_block 2 with fail
      generalize wrap64 ((IntKind.u64.wrap ox).tmod 30) = y4 at *
      generalize (IntKind.u64.wrap ox).tmod 30 = y5 at *
      generalize IntKind.u64.wrap ox = y6 at *
      clear hk ht hk30
      go_cut [11] (fun v11 wx => ∃ (l : List Int) (T' : Tb) (Q : List Cl) (n' : Nat) (f' : Int → Option Value), Hid (∃ B', intE.Own wx B' v11 l) ∧ Hid (WW w0 W1.heap.size g gh WN.heap.size WN.heap.size (.slice none 0 0) [] wx T' Q n' f') ∧ Hid (GP N l T' Q) ∧ n' ≤ i + 1)
      case first =>
        as_aux_lemma =>
         by_cases k1 : kd = 1
         · subst k1
           clear x0 x1 x2 x3
           go_upto_region 18 with fail
           go_loopw [12, 13] (fun v12 v13 wr => ∃ (k : Nat) (ns : List Int), v13 = .int .i64 k ∧ k ≤ mi ∧ k ≤ 5 ∧ Hid (WW w0 W1.heap.size g gh WN.heap.size WN.heap.size v12 ns wr T T.q n f) ∧ Hid (ns.length = k ∧ inT N ns) ∧ Hid (wr.heap[q]? = some (.cells #[.int .i64 1, .int .i64 ox, .int .i64 nd, .slice a' mi c'] 33))) (fun _ v13 _ => 10 - (intOf v13).toNat)
           case atStart => exact ⟨0, [], rfl, by omega, by omega, HS, hide ⟨rfl, fun n hn => by simp at hn⟩, Hbx⟩
           case round =>
             clear HS Hbx
             obtain ⟨k, ns, rfl, hkm, hk5, HS, Hns, Hbx⟩ := hrel
             have g0 : (0 : Int) ≤ (k : Int) := by omega
             have x3 := (cells_at Hbx.out 3).1
             simp only [List.getElem?_toArray, List.getElem?_cons_zero, List.getElem?_cons_succ] at x3
             by_cases hgk : k < mi ∧ k < 5
             · obtain ⟨x, hx⟩ : ∃ x, nodes[k]? = some x := ⟨_, List.getElem?_eq_getElem (by rw [Hmi.out]; exact hgk.1)⟩
               obtain ⟨bx, ox', rfl, c1⟩ := int_at (Hzr.out wr HS.out.bel) k x hx
               have HZ : Hid (0 ≤ (wrap64 ((IntKind.u64.wrap x).tmod (N : Int))) ∧ (wrap64 ((IntKind.u64.wrap x).tmod (N : Int))) < (N : Int)) := hide (by obtain ⟨y, hy, hyN⟩ := few x N (by omega); rw [hy]; omega)
               have g1 : (k : Int) < (mi : Int) := by omega
               have g2 : (k : Int) < 5 := by omega
               have Hba : Hid (∀ (o : Obj), Below wr.heap.size wr (wr.alloc o)) := hide (fun o => (Below.refl _ _).alloc (Nat.le_refl _) o)
               have Hl2 : Hid (ns.length + [(wrap64 ((IntKind.u64.wrap x).tmod (N : Int)))].length ≤ 1000000) := hide (by have := Hns.out.1; simp only [List.length_cons, List.length_nil]; omega)
               have Hin : Hid ((ns ++ [(wrap64 ((IntKind.u64.wrap x).tmod (N : Int)))]).length = k + 1 ∧ inT N (ns ++ [(wrap64 ((IntKind.u64.wrap x).tmod (N : Int)))])) := hide ⟨by rw [List.length_append, Hns.out.1]; rfl, fun n hn => by
                 rcases List.mem_append.1 hn with hn | hn
                 · exact Hns.out.2 n hn
                 · rw [List.mem_singleton] at hn; rw [hn]; exact HZ.out⟩
               have Hbq : Hid (∀ (w2 : World) (o : Obj), (wr.alloc o).grownBy w2 u12.ownBlock → w2.heap[q]? = some (.cells #[.int .i64 1, .int .i64 ox, .int .i64 nd, .slice (some ⟨bx, ox', none⟩) mi c'] 33)) := hide (fun w2 o hg => by
                 rw [hg.block q (Nat.lt_of_lt_of_le (heap_lt Hbx.out) (Hba.out o).size) (fun e => zown_ne HS.out.own Hbx.out (by decide) e.symm), (Hba.out o).block q (heap_lt Hbx.out)]
                 exact Hbx.out)
               clear hx hgk
               go_wp2_with (at_builtin; refine intE.wpB (B := WN.heap.size) (Nat.le_trans HS.out.size (Hba.out _).size) (by rfl) _ _ rfl _ _ rfl rfl ns [(wrap64 ((IntKind.u64.wrap x).tmod (N : Int)))] (HS.out.own.keep (Hba.out _)) (int_new _ _ _ rfl) Hl2.out ?_; intro v2 w2 ho2 hg2 hs2; have HS2 := hide (HS.out.app HP.out ho2 hg2 hs2); have Hb2 := hide (Hbq.out _ _ hg2); clear ho2 hg2 hs2)
               go_roundw
               case rel => exact ⟨k + 1, _, by go_num, by omega, by omega, HS2, Hin, Hb2⟩
               case measure => simp [intOf]; omega
             · have hor : k = mi ∨ (k < mi ∧ k = 5) := by omega
               obtain ⟨a7, c7, hf7⟩ := HS.out.own.rd.form
               rw [Hns.out.1] at hf7
               subst hf7
               have K11 := hide (whole_claim HP.out HS.out Hi.out.1 Hi.out.2.1 Hi.out.2.2.1 Hns.out.1 hk5 Hns.out.2 Ht.out)
               clear hgk
               rcases hor with hor | hor
               · have g1 : ¬ (k : Int) < (mi : Int) := by omega
                 clear hor
                 go_upto_region 22 with (go_at_call 11; refine K11.out.mono ?_; rintro e W5 ⟨yes, code, rfl, hC⟩; have HC := hide hC; clear hC)
                 clear K11 HS Hbx x3
                 have hni : n ≤ i + 1 := by have := Hi.out.2.2.2; omega
                 rcases HC.out with ⟨rfl, hcd, h1⟩ | ⟨rfl, hne, hf, T', h1, hG⟩
                 · have HS5 := hide h1.nil
                   have HO5 : Hid (∃ B', intE.Own W5 B' (.slice none 0 0) []) := hide ⟨0, El.Own.nil _ _ _⟩
                   have HG5 := hide (GP.same Hi.out.1 Hi.out.2.1 Hi.out.2.2.1)
                   clear HC h1
                   rcases hcd with rfl | rfl
                   · go_wp2_with fail
                     go_meet
                     exact ⟨[], T, T.q, n, f, HO5, HS5, HG5, hni⟩
                   · go_wp2_with fail
                     go_meet
                     exact ⟨[], T, T.q, n, f, HO5, HS5, HG5, hni⟩
                 · obtain ⟨W6, hput, h6⟩ := h1.nil.put HP.out Ht.out.1 Ht.out.2 h1.own (fun m => (onc_mem ns m).symm) hne (by rw [Hns.out.1]; exact hk5) (by have := Hi.out.2.2.2; omega) (fnd_not hf)
                   have HS6 := hide h6
                   have hn1 : n + 1 ≤ i + 1 := by have := Hi.out.2.2.2; omega
                   have HG := hide hG
                   clear h1 h6 hG hf HC hne
                   cases yes with
                   | false =>
                     have HO5 : Hid (∃ B', intE.Own W6 B' (.slice none 0 0) []) := hide ⟨0, El.Own.nil _ _ _⟩
                     go_wp2_with fail
                     go_meet
                     exact ⟨[], T', _, n + 1, _, HO5, HS6, HG, hn1⟩
                   | true =>
                     have HO5 : Hid (∃ B', intE.Own (W6.alloc (.cells #[.int .i64 t] 3)) B' (.slice (some ⟨W6.heap.size, 0, none⟩) 1 1) [t]) := hide ⟨_, row_new W6 [t] #[.int .i64 t] rfl (by simp) _ 1 1 rfl rfl rfl⟩
                     have HS7 := hide (HS6.out.keep ((Below.refl _ _).alloc (Nat.le_refl _) (.cells #[.int .i64 t] 3)))
                     go_wp2_with fail
                     go_meet
                     exact ⟨[t], T', _, n + 1, _, HO5, HS7, HG, hn1⟩
               · have g1 : (k : Int) < (mi : Int) := by omega
                 have g2 : ¬ (k : Int) < 5 := by omega
                 clear hor
                 go_upto_region 22 with (go_at_call 11; refine K11.out.mono ?_; rintro e W5 ⟨yes, code, rfl, hC⟩; have HC := hide hC; clear hC)
                 clear K11 HS Hbx x3
                 have hni : n ≤ i + 1 := by have := Hi.out.2.2.2; omega
                 rcases HC.out with ⟨rfl, hcd, h1⟩ | ⟨rfl, hne, hf, T', h1, hG⟩
                 · have HS5 := hide h1.nil
                   have HO5 : Hid (∃ B', intE.Own W5 B' (.slice none 0 0) []) := hide ⟨0, El.Own.nil _ _ _⟩
                   have HG5 := hide (GP.same Hi.out.1 Hi.out.2.1 Hi.out.2.2.1)
                   clear HC h1
                   rcases hcd with rfl | rfl
                   · go_wp2_with fail
                     go_meet
                     exact ⟨[], T, T.q, n, f, HO5, HS5, HG5, hni⟩
                   · go_wp2_with fail
                     go_meet
                     exact ⟨[], T, T.q, n, f, HO5, HS5, HG5, hni⟩
                 · obtain ⟨W6, hput, h6⟩ := h1.nil.put HP.out Ht.out.1 Ht.out.2 h1.own (fun m => (onc_mem ns m).symm) hne (by rw [Hns.out.1]; exact hk5) (by have := Hi.out.2.2.2; omega) (fnd_not hf)
                   have HS6 := hide h6
                   have hn1 : n + 1 ≤ i + 1 := by have := Hi.out.2.2.2; omega
                   have HG := hide hG
                   clear h1 h6 hG hf HC hne
                   cases yes with
                   | false =>
                     have HO5 : Hid (∃ B', intE.Own W6 B' (.slice none 0 0) []) := hide ⟨0, El.Own.nil _ _ _⟩
                     go_wp2_with fail
                     go_meet
                     exact ⟨[], T', _, n + 1, _, HO5, HS6, HG, hn1⟩
                   | true =>
                     have HO5 : Hid (∃ B', intE.Own (W6.alloc (.cells #[.int .i64 t] 3)) B' (.slice (some ⟨W6.heap.size, 0, none⟩) 1 1) [t]) := hide ⟨_, row_new W6 [t] #[.int .i64 t] rfl (by simp) _ 1 1 rfl rfl rfl⟩
                     have HS7 := hide (HS6.out.keep ((Below.refl _ _).alloc (Nat.le_refl _) (.cells #[.int .i64 t] 3)))
                     go_wp2_with fail
                     go_meet
                     exact ⟨[t], T', _, n + 1, _, HO5, HS7, HG, hn1⟩
         · have k1' : (kd == 1) = false := beq_eq_false_iff_ne.2 k1
           by_cases k2 : kd = 2
           · subst k2
             have HZ : Hid (0 ≤ (wrap64 ((IntKind.u64.wrap nd).tmod (N : Int))) ∧ (wrap64 ((IntKind.u64.wrap nd).tmod (N : Int))) < (N : Int)) := hide (by obtain ⟨y, hy, hyN⟩ := few nd N (by omega); rw [hy]; omega)
             have K14 := hide (whole_rel (d := (wrap64 ((IntKind.u64.wrap nd).tmod (N : Int)))) HP.out HS.out Hi.out.1 Hi.out.2.1 Hi.out.2.2.1 Ht.out HZ.out)
             have hni : n ≤ i + 1 := by have := Hi.out.2.2.2; omega
             clear HZ
             go_wp2_with (go_at_call 14; refine K14.out.mono ?_; rintro e W5 ⟨v5, code, rfl, l, T', B', ho, hS, hG⟩; have HO5 : Hid (∃ B', intE.Own W5 B' v5 l) := hide ⟨B', ho⟩; have HS5 := hide hS; have HG5 := hide hG; clear ho hS hG)
             go_meet
             exact ⟨l, T', T.q, n, f, HO5, HS5, HG5, hni⟩
           · have k2' : (kd == 2) = false := beq_eq_false_iff_ne.2 k2
             by_cases k3 : kd = 3
             · subst k3
               have K16 := hide (whole_drop HP.out HS.out Hi.out.1 Hi.out.2.1 Hi.out.2.2.1 Ht.out)
               have hni : n ≤ i + 1 := by have := Hi.out.2.2.2; omega
               go_upto_region 30 with (go_at_call 16; refine K16.out.mono ?_; rintro e W5 ⟨v5, code, rfl, hC⟩; have HC := hide hC; clear hC)
               rcases HC.out with ⟨rfl, rfl, h1⟩ | ⟨rfl, l, T', B', Q, W6, f', h1, h2, h3, h4, h5⟩
               · have HO5 : Hid (∃ B', intE.Own W5 B' (.slice none 0 0) []) := hide ⟨0, El.Own.nil _ _ _⟩
                 have HS5 := hide h1
                 have HG5 := hide (GP.same Hi.out.1 Hi.out.2.1 Hi.out.2.2.1)
                 clear h1 HC
                 go_wp2_with fail
                 go_meet
                 exact ⟨[], T, T.q, n, f, HO5, HS5, HG5, hni⟩
               · have hdel := h2 0
                 have HO5 : Hid (∃ B', intE.Own W6 B' v5 l) := hide ⟨B', h3⟩
                 have HS5 := hide h4
                 have HG5 := hide h5
                 clear h1 h2 h3 h4 h5 HC
                 go_wp2_with fail
                 go_meet
                 exact ⟨l, T', Q, n, f', HO5, HS5, HG5, hni⟩
             · have k3' : (kd == 3) = false := beq_eq_false_iff_ne.2 k3
               have hni : n ≤ i + 1 := by have := Hi.out.2.2.2; omega
               have HO5 : Hid (∃ B', intE.Own WA B' (.slice none 0 0) []) := hide ⟨0, El.Own.nil _ _ _⟩
               have HG5 := hide (GP.same Hi.out.1 Hi.out.2.1 Hi.out.2.2.1)
               go_wp2_with fail
               go_meet
               exact ⟨[], T, T.q, n, f, HO5, HS, HG5, hni⟩
      case rest =>
        as_aux_lemma =>
         obtain ⟨l, T', Q0, n', f0, HO, HS1, HG, hn'⟩ := hcut
         clear HS Hi Hbx Hzr Hmi x0 x1 x2 x3
         obtain ⟨B0, hO0⟩ := HO.out
         obtain ⟨a7, c7, hf7⟩ := hO0.rd.form
         obtain ⟨nl, hnl⟩ : ∃ n, l.length = n := ⟨_, rfl⟩
         rw [hnl] at hf7
         subst hf7
         have Hnl := hide hnl
         have hnl30 : l.length ≤ 30 := nodup_len 30 l HG.out.nd (fun x hx => by
           obtain ⟨c, hc, e, _⟩ := HG.out.from' x hx
           rw [← e]
           exact HS1.out.tot c hc)
         have i9 : (nl : Int) ≤ 30 := by omega
         have HJ0 := hide (GJ.start HG.out)
         clear hnl hnl30 hO0
         go_upto_region 33 with fail
         go_loopw [141] (fun v141 wr => ∃ (j : Nat) (Q : List Cl) (f : Int → Option Value), v141 = .int .i64 j ∧ j ≤ nl ∧ Hid (∃ B', intE.Own wr B' (.slice a7 nl c7) l) ∧ Hid (WW w0 W1.heap.size g gh WN.heap.size WN.heap.size (.slice none 0 0) [] wr T' Q n' f) ∧ Hid (GJ N l j T' Q0 Q)) (fun v141 _ => nl - (intOf v141).toNat)
         case atStart => exact ⟨0, Q0, f0, rfl, by omega, HO, HS1, HJ0⟩
         case round =>
           clear HO HS1 HJ0
           obtain ⟨j, Q, f1, rfl, hj, HO, HS1, HJ⟩ := hrel
           have g0 : (0 : Int) ≤ (j : Int) := by omega
           by_cases hjn : j < nl
           · obtain ⟨x, hx⟩ : ∃ x, l[j]? = some x := ⟨_, List.getElem?_eq_getElem (by rw [Hnl.out]; exact hjn)⟩
             obtain ⟨B', hO⟩ := HO.out
             obtain ⟨b5, off5, rfl, e0⟩ := int_at hO.rd j x hx
             obtain ⟨cl, Q', hcl, hct, hhold, hQm, hQl, hJ2⟩ := GJ.step HG.out HJ.out hx
             obtain ⟨a2, ns, cp, hlook, hown, hmem, hnn, hn5⟩ := HS1.out.look hcl
             rw [hct] at hlook
             obtain ⟨W6, hdel, hS6, hO6, hob⟩ := HS1.out.del HP.out hcl hct hQm hQl
             have hdel0 := hdel 0
             have HS6 := hide hS6
             have HJ2 := hide hJ2
             have HO6 : Hid (∃ B', intE.Own W6 B' (.slice (some ⟨b5, off5, none⟩) nl c7) l) := hide ⟨B', hO6.own hO hob⟩
             have Hown := hide hown
             obtain ⟨ml, hml⟩ : ∃ n, ns.length = n := ⟨_, rfl⟩
             have hml0 : ¬ (ml = 0) := fun e => hnn (List.eq_nil_of_length_eq_zero (by rw [hml]; exact e))
             have hml1 : ((ml : Int) == 0) = false := beq_eq_false_iff_ne.2 (by omega)
             have hml5 : (ml : Int) ≤ 5 := by omega
             have Hhat : Hid (∀ k m, ns[k]? = some m → hat T'.hold m = x) := hide (fun k m hm => hhold m ((hmem m).1 (List.mem_of_getElem? hm)))
             have Hml := hide hml
             rw [hml] at hlook Hown
             have g1 : (j : Int) < (nl : Int) := by omega
             obtain ⟨wA, hwA⟩ : ∃ W, W = wr := ⟨_, rfl⟩
             subst hwA
             clear hx hcl hct hhold hQm hQl hJ2 hown hmem hnn hn5 hml hdel hS6 hO6 hob hO
             go_upto_region 36 with fail
             go_loopw [149] (fun v149 wr => ∃ (k : Nat), wr = wA ∧ v149 = .int .i64 k ∧ k ≤ ml) (fun v149 _ => ml - (intOf v149).toNat)
             case atStart => exact ⟨0, rfl, rfl, by omega⟩
             case round =>
               obtain ⟨k, hw, rfl, hkm⟩ := hrel
               have hw' := hw.symm
               clear hw
               subst hw'
               have g2 : (0 : Int) ≤ (k : Int) := by omega
               by_cases hk : k < ml
               · obtain ⟨mm, hmm⟩ : ∃ x, ns[k]? = some x := ⟨_, List.getElem?_eq_getElem (by rw [Hml.out]; exact hk)⟩
                 obtain ⟨b6, off6, rfl, e1⟩ := int_at Hown.out.rd k mm hmm
                 have K21 := hide (holder_any HS1.out.tbl mm)
                 rw [Hhat.out k mm hmm] at K21
                 have g3 : (k : Int) < (ml : Int) := by omega
                 have qx : (x != x) = false := bne_self_eq_false _
                 clear hmm
                 go_wp2_with (go_at_call 21; refine K21.out.mono ?_; rintro e W8 ⟨rfl, hW⟩; have hW' := hW.symm; clear hW; subst hW')
                 go_roundw
                 case rel => exact ⟨k + 1, trivial, by go_num, by omega⟩
                 case measure => simp [intOf]; omega
               · obtain rfl : k = ml := by omega
                 have g3 : ¬ (k : Int) < (k : Int) := by omega
                 go_wp2_with fail
                 go_roundw
                 case rel => exact ⟨j + 1, Q', _, by go_num, by omega, HO6, HS6, HJ2⟩
                 case measure => simp [intOf]; omega
           · obtain rfl : j = nl := by omega
             have g1 : ¬ (j : Int) < (j : Int) := by omega
             obtain ⟨W9, HS9, K22, n9e⟩ : ∃ W : World, Hid (WW w0 W1.heap.size g gh WN.heap.size WN.heap.size (.slice none 0 0) [] W T' T'.q n' f1) ∧ Hid (Calls Try.prog 22 #[.pointer (some ⟨g, 0, none⟩)] W fun e w' => (∃ v, e = .returned v ∧ intE.Own w' W.heap.size v (T'.q.map (·.tote))) ∧ Below W.heap.size W w') ∧ wr = W := by
               have hfin := GJ.fin HG.out (by rw [Hnl.out]; exact HJ.out)
               have h1 := HS1.out.perm hfin.1 hfin.2
               exact ⟨wr, hide h1, hide (waiting_any h1.tbl (by have := HG.out.wf.qlen; omega)), rfl⟩
             subst n9e
             clear HS1 HJ HO
             go_upto_region 46 with (go_at_call 22; refine K22.out.mono ?_; rintro e W8 ⟨⟨v8, rfl, ho⟩, hb⟩; have HO8 := hide ho; have HS8 := hide (HS9.out.keep hb); clear ho hb)
             clear K22 HS9
             obtain ⟨nw, hnw⟩ : ∃ n, T'.q.length = n := ⟨_, rfl⟩
             obtain ⟨a8, c8, hf8⟩ := HO8.out.rd.form
             rw [List.length_map, hnw] at hf8
             subst hf8
             have hlen := HS8.out.map.len 3
             rw [hnw] at hlen
             have hnw30 : (nw : Int) ≤ 30 := by have := HG.out.wf.qlen; omega
             have hne0 : ((nw : Int) != (nw : Int)) = false := bne_self_eq_false _
             have Hnw := hide hnw
             clear hnw
             go_upto_region 49 with fail
             clear hlen
             go_loopw [176] (fun v176 wr => ∃ (k : Nat), wr = W8 ∧ v176 = .int .i64 k ∧ k ≤ nw) (fun v176 _ => nw - (intOf v176).toNat)
             case atStart => exact ⟨0, rfl, rfl, by omega⟩
             case round =>
               as_aux_lemma =>
                obtain ⟨k, hw, rfl, hkw⟩ := hrel
                have hw' := hw.symm
                clear hw
                subst hw'
                have g2 : (0 : Int) ≤ (k : Int) := by omega
                by_cases hk : k < nw
                · obtain ⟨cl, hcl⟩ : ∃ x, T'.q[k]? = some x := ⟨_, List.getElem?_eq_getElem (by rw [Hnw.out]; exact hk)⟩
                  obtain ⟨b8, off8, rfl, e1⟩ := int_at HO8.out.rd k cl.tote (by rw [List.getElem?_map, hcl]; rfl)
                  obtain ⟨a2, ns, cp, hlook, hown, hmem, hnn, hn5⟩ := HS8.out.look (List.mem_of_getElem? hcl)
                  have Hbar : Hid (ns.any (fun m => barB T'.hold (T'.q.take k) cl.tote m) = true) := hide (by
                    have := HG.out.set k
                    rw [mayB_at hcl] at this
                    unfold mayC at this
                    rw [List.all_eq_false] at this
                    obtain ⟨m, hm, hb⟩ := this
                    rw [List.any_eq_true]
                    exact ⟨m, (hmem m).2 hm, by simpa using hb⟩)
                  obtain ⟨ml, hml⟩ : ∃ n, ns.length = n := ⟨_, rfl⟩
                  have hml5 : (ml : Int) ≤ 5 := by omega
                  have Hml := hide hml
                  have Hown := hide hown
                  rw [hml] at hlook Hown
                  obtain ⟨tg, htg⟩ : ∃ t, cl.tote = t := ⟨_, rfl⟩
                  rw [htg] at hlook e1 Hbar
                  have g3 : (k : Int) < (nw : Int) := by omega
                  have Hcap : Hid (nw ≤ c8) := hide (by
                    obtain ⟨_, cc, hform, hc1, _⟩ := HO8.out.some (fun e => by
                      have : (T'.q.map (·.tote)).length = 0 := by rw [e]; rfl
                      rw [List.length_map, Hnw.out] at this
                      omega)
                    simp only [Value.slice.injEq] at hform
                    rw [List.length_map, Hnw.out] at hc1
                    omega)
                  have g4 : (k : Int) ≤ (c8 : Int) := by have := Hcap.out; omega
                  clear hcl hown hmem hnn hn5 hml htg
                  go_upto_region 53 with fail
                  clear hlook e1
                  go_loopw [23, 185] (fun v23 v185 wr => ∃ (p : Nat), wr = W8 ∧ v185 = .int .i64 p ∧ p ≤ ml ∧ v23 = .bool ((ns.take p).any (fun m => barB T'.hold (T'.q.take k) tg m))) (fun _ v185 _ => ml - (intOf v185).toNat)
                  case atStart => exact ⟨0, rfl, rfl, by omega, by simp⟩
                  case round =>
                    obtain ⟨p, hw, rfl, hpm, rfl⟩ := hrel
                    have hw' := hw.symm
                    clear hw
                    subst hw'
                    have g5 : (0 : Int) ≤ (p : Int) := by omega
                    by_cases hp : p < ml
                    · obtain ⟨mm, hmm⟩ : ∃ x, ns[p]? = some x := ⟨_, List.getElem?_eq_getElem (by rw [Hml.out]; exact hp)⟩
                      obtain ⟨b6, off6, rfl, e2⟩ := int_at Hown.out.rd p mm hmm
                      have K21 := hide (holder_any HS8.out.tbl mm)
                      have Hacc : Hid ((ns.take (p + 1)).any (fun m => barB T'.hold (T'.q.take k) tg m) = ((ns.take p).any (fun m => barB T'.hold (T'.q.take k) tg m) || heldB T'.hold tg mm || wantB (T'.q.take k) mm)) := hide (by
                        rw [List.take_add_one, hmm, List.any_append]
                        unfold barB
                        simp [Bool.or_assoc])
                      generalize hacc : (ns.take p).any (fun m => barB T'.hold (T'.q.take k) tg m) = acc at *
                      have Hhb : Hid (heldB T'.hold tg mm = decide (hat T'.hold mm ≠ 0 ∧ hat T'.hold mm ≠ tg)) := hide rfl
                      generalize hat T'.hold mm = hx at *
                      generalize heldB T'.hold tg mm = hb at *
                      have g6 : (p : Int) < (ml : Int) := by omega
                      clear hmm hacc
                      go_upto_region 55 with fail
                      go_cut [23] (fun v23 wx => wx = W8 ∧ v23 = .bool (acc || hb))
                      case first =>
                        cases acc with
                        | true =>
                          go_wp2_with fail
                          go_meet
                          exact ⟨rfl, rfl⟩
                        | false =>
                          by_cases z0 : hx = 0
                          · subst z0
                            have hbf : hb = false := by rw [Hhb.out]; exact decide_eq_false (fun h => h.1 rfl)
                            subst hbf
                            go_wp2_with (go_at_call 21; refine K21.out.mono ?_; rintro e W9 ⟨rfl, hW⟩; have hW' := hW.symm; clear hW; subst hW')
                            go_meet
                            exact ⟨rfl, rfl⟩
                          · have z1 : (hx != 0) = true := bne_iff_ne.2 z0
                            by_cases z2 : hx = tg
                            · have hbf : hb = false := by rw [Hhb.out]; exact decide_eq_false (fun h => h.2 z2)
                              subst hbf
                              have z3 : (hx != tg) = false := by rw [z2]; exact bne_self_eq_false _
                              clear z2
                              go_wp2_with (go_at_call 21; refine K21.out.mono ?_; rintro e W9 ⟨rfl, hW⟩; have hW' := hW.symm; clear hW; subst hW')
                              go_meet
                              exact ⟨rfl, by simp⟩
                            · have hbf : hb = true := by rw [Hhb.out]; exact decide_eq_true ⟨z0, z2⟩
                              subst hbf
                              have z3 : (hx != tg) = true := bne_iff_ne.2 z2
                              go_wp2_with (go_at_call 21; refine K21.out.mono ?_; rintro e W9 ⟨rfl, hW⟩; have hW' := hW.symm; clear hW; subst hW')
                              go_meet
                              exact ⟨rfl, by simp⟩
                      case rest =>
                        obtain ⟨hwc, hv23⟩ := hcut
                        have hwc' := hwc.symm
                        clear hwc
                        subst hwc'
                        subst hv23
                        clear Hhb K21
                        generalize (acc || hb) = a1 at *
                        go_upto_region 57 with fail
                        go_loopw [23, 207] (fun v23 v207 wr => ∃ (p : Nat), wr = W8 ∧ v207 = .int .i64 p ∧ p ≤ k ∧ v23 = .bool (a1 || wantB (T'.q.take p) mm)) (fun _ v207 _ => k - (intOf v207).toNat)
                        case atStart => exact ⟨0, rfl, rfl, by omega, by simp [wantB]⟩
                        case round =>
                          obtain ⟨r, hw, rfl, hrk, rfl⟩ := hrel
                          have hw' := hw.symm
                          clear hw
                          subst hw'
                          have g7 : (0 : Int) ≤ (r : Int) := by omega
                          by_cases hr : r < k
                          · obtain ⟨dl, hdl⟩ : ∃ x, T'.q[r]? = some x := ⟨_, List.getElem?_eq_getElem (by rw [Hnw.out]; omega)⟩
                            obtain ⟨b9, off9, hb9, e3⟩ := int_at HO8.out.rd r dl.tote (by rw [List.getElem?_map, hdl]; rfl)
                            cases hb9
                            obtain ⟨a3, xs, cp3, hlook, hown3, hmem3, _, hn53⟩ := HS8.out.look (List.mem_of_getElem? hdl)
                            obtain ⟨mx, hmx⟩ : ∃ n, xs.length = n := ⟨_, rfl⟩
                            have hmx5 : (mx : Int) ≤ 5 := by omega
                            have Hmx := hide hmx
                            have Hown3 := hide hown3
                            rw [hmx] at hlook Hown3
                            have Hwt : Hid (wantB (T'.q.take (r + 1)) mm = (wantB (T'.q.take r) mm || decide (mm ∈ xs))) := hide (by
                              unfold wantB
                              rw [List.take_add_one, hdl, List.any_append]
                              simp [hmem3])
                            obtain ⟨td, htd⟩ : ∃ t, dl.tote = t := ⟨_, rfl⟩
                            rw [htd] at hlook e3
                            generalize hac : (a1 || wantB (T'.q.take r) mm) = a2 at *
                            have Hac := hide hac
                            have g8 : (r : Int) < (k : Int) := by omega
                            clear hdl hown3 hmem3 hn53 hmx htd hac
                            go_upto_region 60 with fail
                            clear hlook e3
                            go_loopw [23, 215] (fun v23 v215 wr => ∃ (s : Nat), wr = W8 ∧ v215 = .int .i64 s ∧ s ≤ mx ∧ v23 = .bool (a2 || decide (mm ∈ xs.take s))) (fun _ v215 _ => mx - (intOf v215).toNat)
                            case atStart => exact ⟨0, rfl, rfl, by omega, by simp⟩
                            case round =>
                              obtain ⟨s, hw, rfl, hsm, rfl⟩ := hrel
                              have hw' := hw.symm
                              clear hw
                              subst hw'
                              have g9 : (0 : Int) ≤ (s : Int) := by omega
                              by_cases hs : s < mx
                              · obtain ⟨xx, hxx⟩ : ∃ x, xs[s]? = some x := ⟨_, List.getElem?_eq_getElem (by rw [Hmx.out]; exact hs)⟩
                                obtain ⟨b10, off10, rfl, e4⟩ := int_at Hown3.out.rd s xx hxx
                                have Htk : Hid (decide (mm ∈ xs.take (s + 1)) = (decide (mm ∈ xs.take s) || decide (mm = xx))) := hide (by
                                  rw [List.take_add_one, hxx, ← Bool.decide_or]
                                  exact decide_eq_decide.2 (by simp))
                                have g10 : (s : Int) < (mx : Int) := by omega
                                clear hxx
                                cases hb2 : (a2 || decide (mm ∈ xs.take s)) with
                                | true =>
                                  have HE : Hid ((a2 || decide (mm ∈ xs.take (s + 1))) = true) := hide (by rw [Htk.out, ← Bool.or_assoc, hb2]; rfl)
                                  clear hb2
                                  go_wp2_with fail
                                  go_roundw
                                  case rel => exact ⟨s + 1, trivial, by go_num, by omega, by rw [HE.out]⟩
                                  case measure => simp [intOf]; omega
                                | false =>
                                  by_cases he : xx = mm
                                  · have he2 : (xx == mm) = true := beq_iff_eq.2 he
                                    have HE : Hid ((a2 || decide (mm ∈ xs.take (s + 1))) = true) := hide (by rw [Htk.out, ← Bool.or_assoc, hb2, show decide (mm = xx) = true from decide_eq_true he.symm]; rfl)
                                    clear hb2
                                    go_wp2_with fail
                                    go_roundw
                                    case rel => exact ⟨s + 1, trivial, by go_num, by omega, by rw [HE.out]⟩
                                    case measure => simp [intOf]; omega
                                  · have he2 : (xx == mm) = false := beq_eq_false_iff_ne.2 he
                                    have HE : Hid ((a2 || decide (mm ∈ xs.take (s + 1))) = false) := hide (by rw [Htk.out, ← Bool.or_assoc, hb2, show decide (mm = xx) = false from decide_eq_false (fun e => he e.symm)]; rfl)
                                    clear hb2
                                    go_wp2_with fail
                                    go_roundw
                                    case rel => exact ⟨s + 1, trivial, by go_num, by omega, by rw [HE.out]⟩
                                    case measure => simp [intOf]; omega
                              · obtain rfl : s = mx := by omega
                                have g10 : ¬ (s : Int) < (s : Int) := by omega
                                have HE : Hid ((a2 || decide (mm ∈ xs.take s)) = (a1 || wantB (T'.q.take (r + 1)) mm)) := hide (by rw [List.take_of_length_le (by rw [Hmx.out]; exact Nat.le_refl _), Hwt.out, ← Bool.or_assoc, Hac.out])
                                rw [HE.out]
                                generalize hz9 : (a1 || wantB (T'.q.take (r + 1)) mm) = z9 at *
                                have Hz9 := hide hz9
                                clear hz9 HE
                                go_wp2_with fail
                                go_roundw
                                case rel => exact ⟨r + 1, trivial, by go_num, by omega, by rw [Hz9.out]⟩
                                case measure => simp [intOf]; omega
                          · obtain rfl : r = k := by omega
                            have g8 : ¬ (r : Int) < (r : Int) := by omega
                            generalize hz9 : (a1 || wantB (T'.q.take r) mm) = z9 at *
                            have Hz9 := hide hz9
                            clear hz9
                            go_wp2_with fail
                            go_roundw
                            case rel => exact ⟨p + 1, trivial, by go_num, by omega, by first | rw [Hacc.out] | rw [Hacc.out, Hz9.out]⟩
                            case measure => simp [intOf]; omega
                    · obtain rfl : p = ml := by omega
                      have g6 : ¬ (p : Int) < (p : Int) := by omega
                      have e0 : ns.take p = ns := List.take_of_length_le (by rw [Hml.out]; exact Nat.le_refl _)
                      rw [e0, Hbar.out]
                      clear e0
                      go_wp2_with fail
                      go_roundw
                      case rel => exact ⟨k + 1, trivial, by go_num, by omega⟩
                      case measure => simp [intOf]; omega
                · obtain rfl : k = nw := by omega
                  have g3 : ¬ (k : Int) < (k : Int) := by omega
                  have HY : Hid (∃ T n f, WW w0 W1.heap.size g gh WN.heap.size WN.heap.size (.slice none 0 0) [] W8 T T.q n f ∧ Wf T ∧ Set' T ∧ T.hold.length = N ∧ n ≤ i + 1) := hide ⟨T', n', _, HS8.out, HG.out.wf, HG.out.set, HG.out.len, hn'⟩
                  go_wp2_with fail
                  go_roundw
                  case rel => exact ⟨i + 1, by go_num, by omega, by omega, HY⟩
                  case measure => simp [intOf]; omega
    · have hor : i = m ∨ (i < m ∧ i = 150) := by omega
      clear hgo
      have HBF : Hid (Below w0.heap.size w0 wr) := hide (by obtain ⟨T, n, f, hS, _⟩ := HX.out; exact hS.bel)
      rcases hor with hor | hor
      · have q0 : ¬ (i : Int) < (m : Int) := by omega
        clear hor
        go_wp2_with fail
        go_ret
        exact ⟨rfl, HBF.out⟩
      · have q0 : (i : Int) < (m : Int) := by omega
        have q1 : ¬ (i : Int) < 150 := by omega
        clear hor
        go_wp2_with fail
        go_ret
        exact ⟨rfl, HBF.out⟩
end Go.Proofs.Ytbibegendejnlaa
