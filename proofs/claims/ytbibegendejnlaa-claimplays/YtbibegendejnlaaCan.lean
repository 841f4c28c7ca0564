/- ClaimAgain: the walk. -/
import Derived.Test.YtbibegendejnlaaCap
namespace Go.Proofs.Ytbibegendejnlaa
open Go.RowKit
set_option linter.unusedVariables false

theorem wrapu (N : Nat) (h : N ≤ 100) : IntKind.u64.wrap (N : Int) = (N : Int) := by simp [IntKind.wrap, IntKind.bits, IntKind.signed]; omega

/-- where none waits, nothing need be kept apart -/
theorem Tbl.free {w : World} {B g gh : Nat} {b b' : Nat → Prop} {T : Tb} (h : Tbl w B g gh b T) (hq : T.q = []) : Tbl w B g gh b' T := by
  obtain ⟨vw, cs, h⟩ := h
  exact ⟨vw, cs, h.base, h.box, h.hold, h.qs.row, h.qs.len, fun i x p hx hp => by rw [hq] at hp; simp at hp⟩
/-- a row of numbers that came behind the table grows -/
theorem Tbl.growE {w w' : World} {B g gh B' : Nat} {T : Tb} {v : Value} {xs : List Int} (h : Tbl w B g gh no T) (hq : T.q = []) (ho : intE.Own w B' v xs) (hg : w.grownBy w' v.ownBlock) (h1 : g < B') (h2 : gh < B') : Tbl w' B g gh no T := by
  refine ((h.free (b' := fun k => v.ownBlock = some k) hq).grown hg (fun k hk => ?_)).free hq
  have := ho.ge k hk
  refine ⟨by omega, by omega, hk, fun cur hc => ?_⟩
  obtain ⟨cur', hc'⟩ := own_type ho k hk
  rw [hc] at hc'
  simp only [Option.some.injEq, Obj.cells.injEq] at hc'
  exact absurd hc'.2.1 (show ¬ (67 : TypeId) = 3 by decide)
theorem Fr.ownN {B g gh B' : Nat} {w w' : World} (x : Fr B g gh w w') {v : Value} {xs : List Int} (ho : intE.Own w B' v xs) (h1 : g < B') (h2 : gh < B') : intE.Own w' B' v xs :=
  x.own (by decide) ho (fun e => by have := ho.ge _ e; omega) (fun e => by have := ho.ge _ e; omega)

/-- a table of one tote -/
structure AG (N : Nat) (t : Int) (T : Tb) : Prop where
  wf : Wf T
  q : T.q = []
  len : T.hold.length = N
  all : ∀ k, hat T.hold k = 0 ∨ hat T.hold k = t
theorem AG.claim {N : Nat} {t : Int} {T T' : Tb} {l ns : List Int} (h : AG N t T) (hin : inT N ns) (hw : Wf T') (hG : Gr ⟨T.hold, T.q ++ [⟨t, onc ns⟩]⟩ T' l) (hwa : Wf ⟨T.hold, T.q ++ [⟨t, onc ns⟩]⟩) : l.length = 1 ∧ AG N t T' ∧ ∀ k, hat T'.hold k = if k ∈ ns then t else hat T.hold k := by
  have hset : Set' T := fun i => mayB_out (by rw [h.q]; simp)
  rcases gr_add hset hwa hG with ⟨_, e1, e2⟩ | ⟨hm, _, _⟩
  · subst e2
    have hh : ∀ k, hat (setL T.hold t (onc ns)) k = if k ∈ ns then t else hat T.hold k := fun k => by
      rw [hat_setL _ _ _ (fun m hm => by rw [h.len]; exact hin m ((onc_mem _ _).1 hm))]
      by_cases hk : k ∈ ns
      · rw [if_pos hk, if_pos ((onc_mem _ _).2 hk)]
      · rw [if_neg hk, if_neg (fun e => hk ((onc_mem _ _).1 e))]
    refine ⟨by rw [e1]; rfl, ⟨hw, h.q, by show (setL _ _ _).length = _; rw [setL_len, h.len], fun k => ?_⟩, hh⟩
    have := hh k
    show hat (setL T.hold t (onc ns)) k = 0 ∨ _
    rw [this]
    split
    · exact .inr rfl
    · exact h.all k
  · have : mayC T.hold T.q ⟨t, onc ns⟩ = true := mayC_true fun n hn => ⟨h.all n, fun d hd => by rw [h.q] at hd; simp at hd⟩
    rw [this] at hm; cases hm
theorem AG.rel {N : Nat} {t : Int} {T T' : Tb} {l : List Int} (h : AG N t T) (n : Int) (hn : 0 ≤ n ∧ n < (N : Int)) (hG : Gr ⟨T.hold.set n.toNat 0, T.q⟩ T' l) : l = [] ∧ AG N t T' ∧ ∀ k, hat T'.hold k = if k = n then 0 else hat T.hold k := by
  have : Gr ⟨T.hold.set n.toNat 0, T.q⟩ ⟨T.hold.set n.toNat 0, T.q⟩ [] := .done _ (fun i => mayB_out (by show T.q.length ≤ i; rw [h.q]; simp))
  obtain ⟨e1, e2⟩ := hG.uniq this
  subst e1
  have hh := hat_set T.hold 0 n (by rw [h.len]; exact hn)
  refine ⟨e2, ⟨h.wf.setH 0 (by omega) [n], h.q, by show (T.hold.set _ _).length = _; rw [List.length_set, h.len], fun k => ?_⟩, hh⟩
  show hat (T.hold.set n.toNat 0) k = 0 ∨ _
  rw [hh k]
  split
  · exact .inl rfl
  · exact h.all k
theorem hld_nodup (t : Int) (h : List Int) (k : Nat) : (hld t h k).Nodup := by
  induction k with
  | zero => unfold hld; simp
  | succ k ih =>
    by_cases e : hat h (k : Int) = t
    · rw [hld_yes e, List.nodup_append]
      refine ⟨ih, by simp, fun a ha b hb => ?_⟩
      simp at hb
      subst hb
      rintro rfl
      unfold hld at ha
      obtain ⟨i, hi, e'⟩ := List.mem_map.1 ha
      rw [List.mem_filter, List.mem_range] at hi
      have : (i : Int) = (k : Int) := e'
      omega
    · rw [hld_no e]; exact ih
theorem drop_mem {l : List Int} {j : Nat} {x : Int} (hn : l.Nodup) (hx : l[j]? = some x) (m : Int) : m ∈ l.drop (j + 1) ↔ m ∈ l.drop j ∧ m ≠ x := by
  have e : l.drop j = x :: l.drop (j + 1) := by
    have hj := idx_lt hx
    rw [List.getElem?_eq_getElem hj] at hx
    cases hx
    exact List.drop_eq_getElem_cons hj
  have hd : (l.drop j).Nodup := hn.sublist (List.drop_sublist _ _)
  rw [e] at hd ⊢
  rw [List.nodup_cons] at hd
  constructor
  · intro h
    exact ⟨List.mem_cons_of_mem _ h, fun e' => hd.1 (e' ▸ h)⟩
  · rintro ⟨h1, h2⟩
    rcases List.mem_cons.1 h1 with h | h
    · exact absurd h h2
    · exact h

set_option maxRecDepth 100000 in
set_option maxHeartbeats 8000000 in
theorem again_walk (n0 n1 : Int) (a : Option Addr) (m c : Nat) (zs : List Int) (w : World) (hm : zs.length = m) (hv : intE.Rd w (.slice a m c) zs) : Calls Try.prog 7 #[.int .i64 n0, .int .i64 n1, .slice a m c] w fun e w' => e = .returned (.bool true) ∧ Below w.heap.size w w' := by
  obtain ⟨w0, rfl⟩ : ∃ w0, w0 = w := ⟨_, rfl⟩
  have KA := hide awake_any
  obtain ⟨k, hk, hk39⟩ := few n0 39 (by omega)
  obtain ⟨k', hk', hk30⟩ := few n1 30 (by omega)
  obtain ⟨N, hN⟩ : ∃ N : Nat, (k : Int) + 2 = (N : Int) := ⟨k + 2, by omega⟩
  obtain ⟨t, ht⟩ : ∃ t : Int, (k' : Int) + 1 = t := ⟨_, rfl⟩
  have hN1 : 2 ≤ N := by omega
  have hN2 : N ≤ 40 := by omega
  have ht1 : 1 ≤ t := by omega
  have ht2 : t ≤ 30 := by omega
  have HR : Hid (∀ W, Below w0.heap.size w0 W → intE.Rd W (.slice a m c) zs) := hide (fun W hb => hv.keep hb)
  have Hm := hide hm
  clear hm hv
  go_enter Try.func7, Try.ntmps7
  go_upto_region 4 with (go_at_call 9; refine (KA.out _).mono ?_; rintro e W1 ⟨rfl, hb1⟩; have HB := hide hb1; clear hb1)
  try rw [hN]
  try rw [ht]
  generalize wrap64 ((IntKind.u64.wrap n0).tmod 39) = y1 at *
  generalize (IntKind.u64.wrap n0).tmod 39 = y2 at *
  generalize IntKind.u64.wrap n0 = y3 at *
  generalize wrap64 ((IntKind.u64.wrap n1).tmod 30) = y4 at *
  generalize (IntKind.u64.wrap n1).tmod 30 = y5 at *
  generalize IntKind.u64.wrap n1 = y6 at *
  clear hk hk39 hN KA hk' hk30 ht
  have KN := hide (new_ok N W1 (by omega) (by omega))
  go_upto_region 5 with (go_at_call 10; refine KN.out.mono ?_; rintro e WN ⟨g, rfl, gh, hT, hb, h1, h2, h3⟩; have HTN := hide (hT no); have HB2 := hide (HB.out.trans (hb.mono HB.out.size)); have Hg := hide (show W1.heap.size ≤ g ∧ g < WN.heap.size by obtain ⟨_, _, h⟩ := hT no; exact ⟨h.base, h3⟩); have Hgh := hide (show W1.heap.size ≤ gh ∧ gh < WN.heap.size from ⟨h1, h2⟩); clear hT hb h1 h2 h3)
  have hBF : Hid (∀ W, Below w0.heap.size w0 W → ∀ W', Fr W1.heap.size g gh W W' → Below w0.heap.size w0 W') := hide (fun W hb W' hf => by
    have h1 := HB.out.size
    have h2 := Hg.out.1
    have h3 := Hgh.out.1
    exact hf.below hb hb.size (by omega) (by omega) (by omega))
  have K18 : Hid (Calls Try.prog 18 #[.pointer (some ⟨g, 0, none⟩), .int .i64 t, .int .i64 0] WN fun e w' => e = .returned (.int .i64 0) ∧ (∃ T, Tbl w' W1.heap.size g gh no T ∧ AG N t T ∧ hat T.hold 0 = t) ∧ Fr W1.heap.size g gh WN w') := hide (by
    have hz : (List.replicate N (0 : Int)).length = N := List.length_replicate
    have hbad : badN (List.replicate N (0 : Int)).length t 0 = false := by
      unfold badN
      rw [show toteB t = true from decide_eq_true ⟨ht1, ht2⟩, show inB (List.replicate N (0 : Int)).length 0 = true from decide_eq_true ⟨by omega, by rw [hz]; omega⟩]; rfl
    refine (seize_ok HTN.out t 0 hbad (decide_eq_false (fun e => e.1 (hat_rep _ _)))).mono ?_
    rintro e w' ⟨rfl, hT, hF⟩
    have hh := hat_set (List.replicate N 0) t 0 (by rw [hz]; omega)
    refine ⟨rfl, ⟨_, hT, ⟨(wf_new N (by omega)).setH t (by omega) [0], rfl, by show (List.set _ _ _).length = _; rw [List.length_set, hz], fun k => ?_⟩, ?_⟩, hF⟩
    · show hat ((List.replicate N 0).set (Int.toNat 0) t) k = 0 ∨ _
      rw [hh k, hat_rep]
      split
      · exact .inr rfl
      · exact .inl rfl
    · exact (hh 0).trans (if_pos rfl))
  have j1 : (N : Int) ≤ 40 := by omega
  have j2 : (2 : Int) ≤ (N : Int) := by omega
  go_upto_region 7 with (go_at_call 18; refine K18.out.mono ?_; rintro e WA ⟨rfl, hT, hF⟩; have HTA := hide hT; have HB3 := hide (hBF.out _ HB2.out _ hF); have HsA := hide hF.size; clear hT hF)
  clear K18 KN HTN
  have Hnew : Hid (intE.Own (WA.alloc (.cells #[.int .i64 0] 3)) WN.heap.size (.slice (some ⟨WA.heap.size, 0, none⟩) 1 1) [0]) := hide ((row_new WA [0] #[.int .i64 0] rfl (by simp) _ 1 1 rfl rfl rfl).mono HsA.out)
  have HTA1 : Hid (∃ T, Tbl (WA.alloc (.cells #[.int .i64 0] 3)) W1.heap.size g gh no T ∧ AG N t T ∧ hat T.hold 0 = t) := hide (by
    obtain ⟨T, h1, h2, h3⟩ := HTA.out
    exact ⟨T, h1.keep ((Below.refl _ _).alloc (Nat.le_refl _) _), h2, h3⟩)
  have HB3a : Hid (Below w0.heap.size w0 (WA.alloc (.cells #[.int .i64 0] 3))) := hide (HB3.out.alloc HB3.out.size _)
  have hnz : ¬ (N = 0) := by omega
  have hnz' : ¬ ((N : Int) = 0) := by omega
  have hwu := wrapu N (by omega)
  go_upto_region 9 with fail
  go_loopw [9, 10] (fun v9 v10 wr => ∃ (i : Nat) (ns : List Int), v10 = .int .i64 i ∧ i ≤ m ∧ i ≤ 10 ∧ Hid (intE.Own wr WN.heap.size v9 ns ∧ ns ≠ [] ∧ ns.length = i + 1 ∧ inT N ns) ∧ Hid (∃ T, Tbl wr W1.heap.size g gh no T ∧ AG N t T ∧ hat T.hold 0 = t) ∧ Hid (Below w0.heap.size w0 wr) ∧ Hid (WN.heap.size ≤ wr.heap.size)) (fun _ v10 _ => 20 - (intOf v10).toNat)
  case atStart => exact ⟨0, [0], rfl, by omega, by omega, hide ⟨Hnew.out, by simp, rfl, fun n hn => by simp at hn; omega⟩, HTA1, HB3a, hide (Nat.le_trans HsA.out ((Below.refl _ _).alloc (Nat.le_refl _) _).size)⟩
  case round =>
    clear Hnew HTA1 HB3a HTA HB3
    obtain ⟨i, ns, rfl, him, hi10, HO, HT, HB4, HsW⟩ := hrel
    have q2 : (0 : Int) ≤ (i : Int) := by omega
    by_cases hgo : i < m ∧ i < 10
    · obtain ⟨x, hx⟩ : ∃ x, zs[i]? = some x := ⟨_, List.getElem?_eq_getElem (by rw [Hm.out]; exact hgo.1)⟩
      obtain ⟨b, off, rfl, c0⟩ := int_at (HR.out wr HB4.out) i x hx
      have HZ : Hid (0 ≤ (wrap64 ((IntKind.u64.wrap x).tmod (N : Int))) ∧ (wrap64 ((IntKind.u64.wrap x).tmod (N : Int))) < (N : Int)) := hide (by obtain ⟨y, hy, hyN⟩ := few x N (by omega); rw [hy]; omega)
      have q0 : (i : Int) < (m : Int) := by omega
      have q1 : (i : Int) < 10 := by omega
      have Hba : Hid (∀ (o : Obj), Below wr.heap.size wr (wr.alloc o)) := hide (fun o => (Below.refl _ _).alloc (Nat.le_refl _) o)
      have Hns : Hid (ns.length + [(wrap64 ((IntKind.u64.wrap x).tmod (N : Int)))].length ≤ 1000000) := hide (by have := HO.out.2.2.1; simp only [List.length_cons, List.length_nil]; omega)
      have Hin : Hid (inT N (ns ++ [(wrap64 ((IntKind.u64.wrap x).tmod (N : Int)))]) ∧ (ns ++ [(wrap64 ((IntKind.u64.wrap x).tmod (N : Int)))]) ≠ [] ∧ (ns ++ [(wrap64 ((IntKind.u64.wrap x).tmod (N : Int)))]).length = i + 2) := hide ⟨fun n hn => by
        rcases List.mem_append.1 hn with hn | hn
        · exact HO.out.2.2.2 n hn
        · rw [List.mem_singleton] at hn; rw [hn]; exact HZ.out, by simp, by rw [List.length_append, HO.out.2.2.1]; rfl⟩
      have Hstep : Hid (∀ (w2 : World) (v2 : Value) (o : Obj), intE.Own w2 WN.heap.size v2 (ns ++ [(wrap64 ((IntKind.u64.wrap x).tmod (N : Int)))]) → (wr.alloc o).grownBy w2 u9.ownBlock → Below w0.heap.size w0 w2 ∧ ∃ T, Tbl w2 W1.heap.size g gh no T ∧ AG N t T ∧ hat T.hold 0 = t) := hide (fun w2 v2 o ho hg => by
        obtain ⟨T, h1, h2, h3⟩ := HT.out
        have hO := HO.out.1.keep (Hba.out o)
        have hb := HB4.out.trans ((Hba.out o).mono HB4.out.size)
        refine ⟨hb.grown hg hb.size (fun k hk => ?_), T, (h1.keep (Hba.out o)).growE h2.q hO hg Hg.out.2 Hgh.out.2, h2, h3⟩
        have e1 := hO.ge k hk
        have e2 := HB2.out.size
        omega)
      have Kc : Hid (∀ (w2 : World) (v2 : Value), intE.Own w2 WN.heap.size v2 (ns ++ [(wrap64 ((IntKind.u64.wrap x).tmod (N : Int)))]) → (∃ T, Tbl w2 W1.heap.size g gh no T ∧ AG N t T ∧ hat T.hold 0 = t) → Calls Try.prog 11 #[.pointer (some ⟨g, 0, none⟩), .int .i64 t, v2] w2 fun e w' => e = .returned (.tuple #[.bool true, .int .i64 0]) ∧ (∃ T, Tbl w' W1.heap.size g gh no T ∧ AG N t T ∧ hat T.hold 0 = t) ∧ intE.Own w' WN.heap.size v2 (ns ++ [(wrap64 ((IntKind.u64.wrap x).tmod (N : Int)))]) ∧ Fr W1.heap.size g gh w2 w') := hide (fun w2 v2 ho hTT => by
        obtain ⟨T, h1, h2, h3⟩ := hTT
        obtain ⟨a2, c2, rfl⟩ := ho.rd.form
        have hbad : badC T.hold.length t (ns ++ [(wrap64 ((IntKind.u64.wrap x).tmod (N : Int)))]) = false := badC_yes ⟨ht1, ht2⟩ Hin.out.2.1 (by rw [h2.len]; exact Hin.out.1)
        have hf : fnd t T.q < 0 := by rw [h2.q]; exact fnd_neg (by simp)
        have hl : (ns ++ [(wrap64 ((IntKind.u64.wrap x).tmod (N : Int)))]).length ≤ 100000 := by rw [Hin.out.2.2]; omega
        refine (claim_ok h1 h2.wf (fun k hk => hk.elim) t a2 c2 _ _ rfl ho.rd hl hbad hf).mono ?_
        rintro e w' ⟨l, rfl, T', hG, hT', hF⟩
        have hwa := Wf.add h2.wf (badC_no hbad).1 Hin.out.2.1 (badC_no hbad).2.2 hl hf
        obtain ⟨e1, e2, e3⟩ := h2.claim Hin.out.1 (hG.wf hwa) hG hwa
        refine ⟨by rw [e1]; rfl, ⟨T', hT', e2, ?_⟩, hF.ownN ho Hg.out.2 Hgh.out.2, hF⟩
        rw [e3]
        split
        · rfl
        · exact h3)
      clear hx hgo
      go_upto_region 12 with (at_builtin; refine intE.wpB (B := WN.heap.size) (Nat.le_trans HsW.out (Hba.out _).size) (by rfl) _ _ rfl _ _ rfl rfl ns [(wrap64 ((IntKind.u64.wrap x).tmod (N : Int)))] (HO.out.1.keep (Hba.out _)) (int_new _ _ _ rfl) Hns.out ?_; intro v2 w2 ho2 hg2 _; have HS := hide (Hstep.out _ _ _ ho2 hg2); have HO2 := hide ho2; have HsX := hide (Nat.le_trans (Nat.le_trans HsW.out (Hba.out _).size) hg2.size); clear ho2 hg2)
      have Kc1 := hide (Kc.out _ _ HO2.out HS.out.2)
      have HB5 := hide HS.out.1
      clear Kc Hstep HS
      generalize (wrap64 ((IntKind.u64.wrap x).tmod (N : Int))) = z at *
      generalize (IntKind.u64.wrap x).tmod (N : Int) = z1 at *
      generalize IntKind.u64.wrap x = z2 at *
      go_wp2_with (go_at_call 11; refine Kc1.out.mono ?_; rintro e W5 ⟨rfl, hT, ho, hF⟩; have HT5 := hide hT; have HO5 := hide ho; have HB6 := hide (hBF.out _ HB5.out _ hF); have Hs5 := hide (Nat.le_trans HsX.out hF.size); clear hT ho hF)
      go_roundw
      case rel => exact ⟨i + 1, _, by go_num, by omega, by omega, hide ⟨HO5.out, Hin.out.2.1, Hin.out.2.2, Hin.out.1⟩, HT5, HB6, Hs5⟩
      case measure => simp [intOf]; omega
    · have hor : i = m ∨ (i < m ∧ i = 10) := by omega
      obtain ⟨r, hr⟩ : ∃ r, t.tmod 30 = r := ⟨_, rfl⟩
      obtain ⟨o, ho⟩ : ∃ o, r + 1 = o := ⟨_, rfl⟩
      have hrr : 0 ≤ r ∧ r < 30 ∧ (t = 30 → r = 0) ∧ (t < 30 → r = t) := by
        rw [Int.tmod_eq_emod_of_nonneg (by omega)] at hr
        omega
      have Hot : Hid (o ≠ t) := hide (by omega)
      have HbadN : Hid (∀ T : Tb, T.hold.length = N → badN T.hold.length o 0 = false) := hide (fun T hl => by
        unfold badN
        rw [show toteB o = true from decide_eq_true (by omega), show inB T.hold.length 0 = true from decide_eq_true ⟨by omega, by rw [hl]; omega⟩]; rfl)
      have hr1 : 0 ≤ r := hrr.1
      have hr2 : r < 30 := hrr.2.1
      have ho1 : 1 ≤ o := by omega
      have ho2 : o ≤ 30 := by omega
      clear hrr hgo
      rcases hor with hor | hor
      · have q0 : ¬ (i : Int) < (m : Int) := by omega
        clear hor
        obtain ⟨T, hT, hA, h0⟩ := HT.out
        have HT1 := hide hT
        have HA := hide hA
        have H0 := hide h0
        clear hT hA h0 HT HO
        have K18 : Hid (∀ W, Tbl W W1.heap.size g gh no T → Calls Try.prog 18 #[.pointer (some ⟨g, 0, none⟩), .int .i64 o, .int .i64 0] W fun e w' => e = .returned (.int .i64 100) ∧ w' = W) := hide (fun W h => seize_held h o 0 (HbadN.out T HA.out.len) (heldB_true.2 ⟨by rw [H0.out]; omega, by rw [H0.out]; exact fun e => Hot.out e.symm⟩))
        have K23 : Hid (∀ W T, Tbl W W1.heap.size g gh no T → AG N t T → Calls Try.prog 23 #[.pointer (some ⟨g, 0, none⟩), .int .i64 t] W fun e w' => (∃ v, e = .returned v ∧ intE.Own w' W.heap.size v (heldL t T.hold)) ∧ Below W.heap.size W w') := hide (fun W T h hA => heldL_any h hA.wf.len t)
        obtain ⟨L, hL⟩ : ∃ L, heldL t T.hold = L := ⟨_, rfl⟩
        have HL : Hid (L.Nodup ∧ (∀ k, k ∈ L ↔ (0 ≤ k ∧ k < (N : Int)) ∧ hat T.hold k = t) ∧ L.length ≤ 1000) := hide (by
          rw [← hL]
          unfold heldL
          rw [if_pos (show toteB t = true from decide_eq_true ⟨ht1, ht2⟩)]
          refine ⟨hld_nodup _ _ _, fun k => ?_, Nat.le_trans (hld_len _ _ _) HA.out.wf.len⟩
          rw [hld_mem, HA.out.len])
        have K1 := hide (K23.out wr T HT1.out HA.out)
        rw [hL] at K1
        have HLl : Hid (L.length ≤ 1000) := hide HL.out.2.2
        clear hL
        go_upto_region 18 with (go_at_call 18; refine (K18.out _ HT1.out).mono ?_; rintro e W2 ⟨rfl, hW⟩; have hW' := hW.symm; clear hW; subst hW')
        clear K18
        have HsN := hide HsW.out
        go_upto_region 19 with (go_at_call 23; refine K1.out.mono ?_; rintro e W2 ⟨⟨v2, rfl, ho⟩, hb⟩; obtain ⟨a2, c2, rfl⟩ := ho.rd.form; have HO2 := hide (ho.mono HsN.out); have HT2 := hide (HT1.out.keep hb); have HB5 := hide (HB4.out.trans (hb.mono HB4.out.size)); clear ho hb)
        obtain ⟨n2, hn2⟩ : ∃ n, L.length = n := ⟨_, rfl⟩
        rw [hn2] at HO2 HLl ⊢
        have Hn2 := hide hn2
        have i9 : (n2 : Int) ≤ 1000 := by have := HLl.out; omega
        clear hn2 K1
        go_loopw [94] (fun v94 wr => ∃ (j : Nat) (T : Tb), v94 = .int .i64 j ∧ j ≤ n2 ∧ Hid (Tbl wr W1.heap.size g gh no T ∧ AG N t T ∧ ∀ k, hat T.hold k = if k ∈ L.drop j then t else 0) ∧ Hid (intE.Own wr WN.heap.size (.slice a2 n2 c2) L) ∧ Hid (Below w0.heap.size w0 wr)) (fun v94 _ => n2 - (intOf v94).toNat)
        case atStart =>
          refine ⟨0, T, rfl, by omega, hide ⟨HT2.out, HA.out, fun k => ?_⟩, HO2, HB5⟩
          rw [List.drop_zero]
          by_cases hk : k ∈ L
          · rw [if_pos hk]; exact ((HL.out.2.1 k).1 hk).2
          · rw [if_neg hk]
            rcases HA.out.all k with h | h
            · exact h
            · refine hat_out (fun hk' => hk ((HL.out.2.1 k).2 ⟨by rw [← HA.out.len]; exact hk', h⟩))
        case round =>
          clear HO2 HT2 HB5 HT1 HB4
          obtain ⟨j, T5, rfl, hj, HX, HO5, HB5⟩ := hrel
          have g0 : (0 : Int) ≤ (j : Int) := by omega
          by_cases hjn : j < n2
          · obtain ⟨x, hx⟩ : ∃ x, L[j]? = some x := ⟨_, List.getElem?_eq_getElem (by rw [Hn2.out]; exact hjn)⟩
            obtain ⟨b5, off5, rfl, e0⟩ := int_at HO5.out.rd j x hx
            have hxm : x ∈ L.drop j := List.mem_of_getElem? (i := 0) (by rw [List.getElem?_drop]; exact hx)
            have hxr := ((HL.out.2.1 x).1 (List.mem_of_getElem? hx)).1
            have K14 : Hid (Calls Try.prog 14 #[.pointer (some ⟨g, 0, none⟩), .int .i64 t, .int .i64 x] wr fun e w' => ∃ v, e = .returned (.tuple #[v, .int .i64 0]) ∧ (∃ a c, v = .slice a 0 c) ∧ (∃ T, Tbl w' W1.heap.size g gh no T ∧ AG N t T ∧ ∀ k, hat T.hold k = if k ∈ L.drop (j + 1) then t else 0) ∧ intE.Own w' WN.heap.size (.slice (some ⟨b5, off5, none⟩) n2 c2) L ∧ Fr W1.heap.size g gh wr w') := hide (by
              obtain ⟨h1, h2, h3⟩ := HX.out
              have hbad : badN T5.hold.length t x = false := by
                unfold badN
                rw [show toteB t = true from decide_eq_true ⟨ht1, ht2⟩, show inB T5.hold.length x = true from decide_eq_true (by rw [h2.len]; exact hxr)]; rfl
              refine (rel_ok h1 h2.wf t x hbad (by rw [h3, if_pos hxm])).mono ?_
              rintro e w' ⟨v, rfl, T', l, ho, hG, hT', hF⟩
              obtain ⟨e1, e2, e3⟩ := h2.rel x hxr hG
              subst e1
              obtain ⟨a6, c6, e6⟩ := ho.rd.form
              refine ⟨v, rfl, ⟨a6, c6, e6⟩, ⟨T', hT', e2, fun k => ?_⟩, hF.ownN HO5.out Hg.out.2 Hgh.out.2, hF⟩
              rw [e3 k, h3 k]
              have hd := drop_mem HL.out.1 hx k
              by_cases hkx : k = x
              · rw [if_pos hkx, if_neg (fun h => (hd.1 h).2 hkx)]
              · rw [if_neg hkx]
                by_cases hk : k ∈ L.drop j
                · rw [if_pos hk, if_pos (hd.2 ⟨hk, hkx⟩)]
                · rw [if_neg hk, if_neg (fun h => hk (hd.1 h).1)])
            have g1 : (j : Int) < (n2 : Int) := by omega
            clear hx hxm hxr
            go_wp2_with (go_at_call 14; refine K14.out.mono ?_; rintro e W6 ⟨v6, rfl, ⟨a6, c6, rfl⟩, hT, ho, hF⟩; have HT6 := hide hT; have HO6 := hide ho; have HB6 := hide (hBF.out _ HB5.out _ hF); clear hT ho hF)
            obtain ⟨T6, hT6⟩ := HT6.out
            have HT7 := hide hT6
            clear hT6
            go_roundw
            case rel => exact ⟨j + 1, T6, by go_num, by omega, HT7, HO6, HB6⟩
            case measure => simp [intOf]; omega
          · obtain rfl : j = n2 := by omega
            have g1 : ¬ (j : Int) < (j : Int) := by omega
            obtain ⟨h1, h2, h3⟩ := HX.out
            have hz : ∀ k, hat T5.hold k = 0 := fun k => by
              rw [h3 k, if_neg]
              rw [List.drop_of_length_le (by rw [Hn2.out]; exact Nat.le_refl _)]
              simp
            have K23a := hide (K23.out wr T5 h1 h2)
            have hh : heldL t T5.hold = [] := by
              unfold heldL
              rw [if_pos (show toteB t = true from decide_eq_true ⟨ht1, ht2⟩)]
              cases e : hld t T5.hold T5.hold.length with
              | nil => rfl
              | cons x l =>
                have := (hld_mem t T5.hold x).1 (by rw [e]; simp)
                rw [hz] at this
                omega
            rw [hh] at K23a
            have H1 := hide h1
            have K18 : Hid (∀ W, Tbl W W1.heap.size g gh no T5 → Calls Try.prog 18 #[.pointer (some ⟨g, 0, none⟩), .int .i64 o, .int .i64 0] W fun e w' => e = .returned (.int .i64 0) ∧ (∃ T, Tbl w' W1.heap.size g gh no T ∧ hat T.hold 0 = o) ∧ Fr W1.heap.size g gh W w') := hide (fun W h => by
              refine (seize_ok h o 0 (HbadN.out T5 h2.len) (decide_eq_false (fun e => e.1 (hz 0)))).mono ?_
              rintro e w' ⟨rfl, hT, hF⟩
              exact ⟨rfl, ⟨_, hT, (hat_set T5.hold o 0 (by rw [h2.len]; omega) 0).trans (if_pos rfl)⟩, hF⟩)
            have K21 : Hid (∀ W, (∃ T, Tbl W W1.heap.size g gh no T ∧ hat T.hold 0 = o) → Calls Try.prog 21 #[.pointer (some ⟨g, 0, none⟩), .int .i64 0] W fun e w' => e = .returned (.int .i64 o) ∧ w' = W) := hide (fun W h => by
              obtain ⟨T, h, e⟩ := h
              rw [← e]
              exact holder_any h 0)
            clear h1 h2 h3 hz hh
            go_wp2_with (first
              | (go_at_call 23; refine K23a.out.mono ?_; rintro e W7 ⟨⟨v7, rfl, ho⟩, hb⟩; obtain ⟨a7, c7, rfl⟩ := ho.rd.form; have HT7 := hide (H1.out.keep hb); have HB7 := hide (HB5.out.trans (hb.mono HB5.out.size)); clear ho hb)
              | (go_at_call 18; refine (K18.out _ HT7.out).mono ?_; rintro e W8 ⟨rfl, hT, hF⟩; have HT8 := hide hT; have HB8 := hide (hBF.out _ HB7.out _ hF); clear hT hF)
              | (go_at_call 21; refine (K21.out _ HT8.out).mono ?_; rintro e W9 ⟨rfl, hW⟩; have hW' := hW.symm; clear hW; subst hW'))
            go_ret
            exact ⟨by simp, HB8.out⟩
      · have q0 : (i : Int) < (m : Int) := by omega
        have q1 : ¬ (i : Int) < 10 := by omega
        clear hor
        obtain ⟨T, hT, hA, h0⟩ := HT.out
        have HT1 := hide hT
        have HA := hide hA
        have H0 := hide h0
        clear hT hA h0 HT HO
        have K18 : Hid (∀ W, Tbl W W1.heap.size g gh no T → Calls Try.prog 18 #[.pointer (some ⟨g, 0, none⟩), .int .i64 o, .int .i64 0] W fun e w' => e = .returned (.int .i64 100) ∧ w' = W) := hide (fun W h => seize_held h o 0 (HbadN.out T HA.out.len) (heldB_true.2 ⟨by rw [H0.out]; omega, by rw [H0.out]; exact fun e => Hot.out e.symm⟩))
        have K23 : Hid (∀ W T, Tbl W W1.heap.size g gh no T → AG N t T → Calls Try.prog 23 #[.pointer (some ⟨g, 0, none⟩), .int .i64 t] W fun e w' => (∃ v, e = .returned v ∧ intE.Own w' W.heap.size v (heldL t T.hold)) ∧ Below W.heap.size W w') := hide (fun W T h hA => heldL_any h hA.wf.len t)
        obtain ⟨L, hL⟩ : ∃ L, heldL t T.hold = L := ⟨_, rfl⟩
        have HL : Hid (L.Nodup ∧ (∀ k, k ∈ L ↔ (0 ≤ k ∧ k < (N : Int)) ∧ hat T.hold k = t) ∧ L.length ≤ 1000) := hide (by
          rw [← hL]
          unfold heldL
          rw [if_pos (show toteB t = true from decide_eq_true ⟨ht1, ht2⟩)]
          refine ⟨hld_nodup _ _ _, fun k => ?_, Nat.le_trans (hld_len _ _ _) HA.out.wf.len⟩
          rw [hld_mem, HA.out.len])
        have K1 := hide (K23.out wr T HT1.out HA.out)
        rw [hL] at K1
        have HLl : Hid (L.length ≤ 1000) := hide HL.out.2.2
        clear hL
        go_upto_region 18 with (go_at_call 18; refine (K18.out _ HT1.out).mono ?_; rintro e W2 ⟨rfl, hW⟩; have hW' := hW.symm; clear hW; subst hW')
        clear K18
        have HsN := hide HsW.out
        go_upto_region 19 with (go_at_call 23; refine K1.out.mono ?_; rintro e W2 ⟨⟨v2, rfl, ho⟩, hb⟩; obtain ⟨a2, c2, rfl⟩ := ho.rd.form; have HO2 := hide (ho.mono HsN.out); have HT2 := hide (HT1.out.keep hb); have HB5 := hide (HB4.out.trans (hb.mono HB4.out.size)); clear ho hb)
        obtain ⟨n2, hn2⟩ : ∃ n, L.length = n := ⟨_, rfl⟩
        rw [hn2] at HO2 HLl ⊢
        have Hn2 := hide hn2
        have i9 : (n2 : Int) ≤ 1000 := by have := HLl.out; omega
        clear hn2 K1
        go_loopw [94] (fun v94 wr => ∃ (j : Nat) (T : Tb), v94 = .int .i64 j ∧ j ≤ n2 ∧ Hid (Tbl wr W1.heap.size g gh no T ∧ AG N t T ∧ ∀ k, hat T.hold k = if k ∈ L.drop j then t else 0) ∧ Hid (intE.Own wr WN.heap.size (.slice a2 n2 c2) L) ∧ Hid (Below w0.heap.size w0 wr)) (fun v94 _ => n2 - (intOf v94).toNat)
        case atStart =>
          refine ⟨0, T, rfl, by omega, hide ⟨HT2.out, HA.out, fun k => ?_⟩, HO2, HB5⟩
          rw [List.drop_zero]
          by_cases hk : k ∈ L
          · rw [if_pos hk]; exact ((HL.out.2.1 k).1 hk).2
          · rw [if_neg hk]
            rcases HA.out.all k with h | h
            · exact h
            · refine hat_out (fun hk' => hk ((HL.out.2.1 k).2 ⟨by rw [← HA.out.len]; exact hk', h⟩))
        case round =>
          clear HO2 HT2 HB5 HT1 HB4
          obtain ⟨j, T5, rfl, hj, HX, HO5, HB5⟩ := hrel
          have g0 : (0 : Int) ≤ (j : Int) := by omega
          by_cases hjn : j < n2
          · obtain ⟨x, hx⟩ : ∃ x, L[j]? = some x := ⟨_, List.getElem?_eq_getElem (by rw [Hn2.out]; exact hjn)⟩
            obtain ⟨b5, off5, rfl, e0⟩ := int_at HO5.out.rd j x hx
            have hxm : x ∈ L.drop j := List.mem_of_getElem? (i := 0) (by rw [List.getElem?_drop]; exact hx)
            have hxr := ((HL.out.2.1 x).1 (List.mem_of_getElem? hx)).1
            have K14 : Hid (Calls Try.prog 14 #[.pointer (some ⟨g, 0, none⟩), .int .i64 t, .int .i64 x] wr fun e w' => ∃ v, e = .returned (.tuple #[v, .int .i64 0]) ∧ (∃ a c, v = .slice a 0 c) ∧ (∃ T, Tbl w' W1.heap.size g gh no T ∧ AG N t T ∧ ∀ k, hat T.hold k = if k ∈ L.drop (j + 1) then t else 0) ∧ intE.Own w' WN.heap.size (.slice (some ⟨b5, off5, none⟩) n2 c2) L ∧ Fr W1.heap.size g gh wr w') := hide (by
              obtain ⟨h1, h2, h3⟩ := HX.out
              have hbad : badN T5.hold.length t x = false := by
                unfold badN
                rw [show toteB t = true from decide_eq_true ⟨ht1, ht2⟩, show inB T5.hold.length x = true from decide_eq_true (by rw [h2.len]; exact hxr)]; rfl
              refine (rel_ok h1 h2.wf t x hbad (by rw [h3, if_pos hxm])).mono ?_
              rintro e w' ⟨v, rfl, T', l, ho, hG, hT', hF⟩
              obtain ⟨e1, e2, e3⟩ := h2.rel x hxr hG
              subst e1
              obtain ⟨a6, c6, e6⟩ := ho.rd.form
              refine ⟨v, rfl, ⟨a6, c6, e6⟩, ⟨T', hT', e2, fun k => ?_⟩, hF.ownN HO5.out Hg.out.2 Hgh.out.2, hF⟩
              rw [e3 k, h3 k]
              have hd := drop_mem HL.out.1 hx k
              by_cases hkx : k = x
              · rw [if_pos hkx, if_neg (fun h => (hd.1 h).2 hkx)]
              · rw [if_neg hkx]
                by_cases hk : k ∈ L.drop j
                · rw [if_pos hk, if_pos (hd.2 ⟨hk, hkx⟩)]
                · rw [if_neg hk, if_neg (fun h => hk (hd.1 h).1)])
            have g1 : (j : Int) < (n2 : Int) := by omega
            clear hx hxm hxr
            go_wp2_with (go_at_call 14; refine K14.out.mono ?_; rintro e W6 ⟨v6, rfl, ⟨a6, c6, rfl⟩, hT, ho, hF⟩; have HT6 := hide hT; have HO6 := hide ho; have HB6 := hide (hBF.out _ HB5.out _ hF); clear hT ho hF)
            obtain ⟨T6, hT6⟩ := HT6.out
            have HT7 := hide hT6
            clear hT6
            go_roundw
            case rel => exact ⟨j + 1, T6, by go_num, by omega, HT7, HO6, HB6⟩
            case measure => simp [intOf]; omega
          · obtain rfl : j = n2 := by omega
            have g1 : ¬ (j : Int) < (j : Int) := by omega
            obtain ⟨h1, h2, h3⟩ := HX.out
            have hz : ∀ k, hat T5.hold k = 0 := fun k => by
              rw [h3 k, if_neg]
              rw [List.drop_of_length_le (by rw [Hn2.out]; exact Nat.le_refl _)]
              simp
            have K23a := hide (K23.out wr T5 h1 h2)
            have hh : heldL t T5.hold = [] := by
              unfold heldL
              rw [if_pos (show toteB t = true from decide_eq_true ⟨ht1, ht2⟩)]
              cases e : hld t T5.hold T5.hold.length with
              | nil => rfl
              | cons x l =>
                have := (hld_mem t T5.hold x).1 (by rw [e]; simp)
                rw [hz] at this
                omega
            rw [hh] at K23a
            have H1 := hide h1
            have K18 : Hid (∀ W, Tbl W W1.heap.size g gh no T5 → Calls Try.prog 18 #[.pointer (some ⟨g, 0, none⟩), .int .i64 o, .int .i64 0] W fun e w' => e = .returned (.int .i64 0) ∧ (∃ T, Tbl w' W1.heap.size g gh no T ∧ hat T.hold 0 = o) ∧ Fr W1.heap.size g gh W w') := hide (fun W h => by
              refine (seize_ok h o 0 (HbadN.out T5 h2.len) (decide_eq_false (fun e => e.1 (hz 0)))).mono ?_
              rintro e w' ⟨rfl, hT, hF⟩
              exact ⟨rfl, ⟨_, hT, (hat_set T5.hold o 0 (by rw [h2.len]; omega) 0).trans (if_pos rfl)⟩, hF⟩)
            have K21 : Hid (∀ W, (∃ T, Tbl W W1.heap.size g gh no T ∧ hat T.hold 0 = o) → Calls Try.prog 21 #[.pointer (some ⟨g, 0, none⟩), .int .i64 0] W fun e w' => e = .returned (.int .i64 o) ∧ w' = W) := hide (fun W h => by
              obtain ⟨T, h, e⟩ := h
              rw [← e]
              exact holder_any h 0)
            clear h1 h2 h3 hz hh
            go_wp2_with (first
              | (go_at_call 23; refine K23a.out.mono ?_; rintro e W7 ⟨⟨v7, rfl, ho⟩, hb⟩; obtain ⟨a7, c7, rfl⟩ := ho.rd.form; have HT7 := hide (H1.out.keep hb); have HB7 := hide (HB5.out.trans (hb.mono HB5.out.size)); clear ho hb)
              | (go_at_call 18; refine (K18.out _ HT7.out).mono ?_; rintro e W8 ⟨rfl, hT, hF⟩; have HT8 := hide hT; have HB8 := hide (hBF.out _ HB7.out _ hF); clear hT hF)
              | (go_at_call 21; refine (K21.out _ HT8.out).mono ?_; rintro e W9 ⟨rfl, hW⟩; have hW' := hW.symm; clear hW; subst hW'))
            go_ret
            exact ⟨by simp, HB8.out⟩
end Go.Proofs.Ytbibegendejnlaa
