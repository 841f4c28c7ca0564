/- The document's Served. -/
import Derived.Test.YtfmpipihjnpimaaBra
namespace Go.Proofs.Ytfmpipihjnpimaa
open Go.RowKit
set_option linter.unusedVariables false
section
variable {aA aD : Option Addr} {nA cA nD cD : Nat}

theorem find_stn {l : List En} {x : Int} {e : En} (h : fnd l x = some e) : stn l x = e.r.st := by unfold stn; rw [h]
set_option maxRecDepth 100000 in
set_option maxHeartbeats 4000000 in
theorem rserved_any (l : List En) (D : List Int) (s : Int) (w : World) (hn : l.length = nA) (hv : enE.Rd w (.slice aA nA cA) l) (hl : nA ≤ 10000) (hnd : D.length = nD) (hvd : intE.Rd w (.slice aD nD cD) D) (hld : nD ≤ 10000) (hkn : ∀ x ∈ D, ∃ e, fnd l x = some e) :
    Calls Try.prog 31 #[.agg #[.slice aA nA cA, .slice aD nD cD], .int .i64 s] w fun r w' => ∃ a' c', r = .returned (.slice a' (Bk.sv ⟨l, D⟩ s).length c') ∧ intE.Own w' w.heap.size (.slice a' (Bk.sv ⟨l, D⟩ s).length c') (Bk.sv ⟨l, D⟩ s) ∧ Below w.heap.size w w' := by
  obtain ⟨w0, rfl⟩ : ∃ w0, w0 = w := ⟨_, rfl⟩
  have hB : Below w0.heap.size w0 (w0.alloc (.cells #[.slice aA nA cA, .slice aD nD cD] 29)) := below_new w0 _
  have HV : Hid (∀ W, Below w0.heap.size w0 W → enE.Rd W (.slice aA nA cA) l ∧ intE.Rd W (.slice aD nD cD) D) := hide (fun W h => ⟨hv.keep h, hvd.keep h⟩)
  have hb : (w0.alloc (.cells #[.slice aA nA cA, .slice aD nD cD] 29)).heap[w0.heap.size]? = some (.cells #[.slice aA nA cA, .slice aD nD cD] 29) := heap_new w0 _
  have HB := hide hB
  have Hsz : Hid ((w0.alloc (.cells #[.slice aA nA cA, .slice aD nD cD] 29)).heap.size = w0.heap.size + 1) := hide (by simp)
  have c1 : (w0.alloc (.cells #[.slice aA nA cA, .slice aD nD cD] 29)).cell? ⟨w0.heap.size, 1, none⟩ = some (.slice aD nD cD) := (cells_at hb 1).1
  have Hb := hide hb
  have Hn := hide hn
  have Hnd := hide hnd
  have Hl : Hid (nA ≤ 10000 ∧ nD ≤ 10000) := hide ⟨hl, hld⟩
  have Hkn := hide hkn
  have i0 : (nA : Int) ≤ 10000 := by omega
  have i1 : (nD : Int) ≤ 10000 := by omega
  have KAt : Hid (∀ W x, enE.Rd W (.slice aA nA cA) l → Calls Try.prog 25 #[.agg #[.slice aA nA cA, .slice aD nD cD], .int .i64 x] W fun r w' => r = .returned (.int .i64 (atI l x)) ∧ Below W.heap.size W w') := hide (fun W x h => at_any l x W hn h (by omega))
  clear hn hv hl hB hb hnd hvd hld hkn
  go_enter Try.func31, Try.ntmps31
  go_upto_region 1 with fail
  generalize w0.alloc (.cells #[.slice aA nA cA, .slice aD nD cD] 29) = W1 at *
  obtain ⟨bb, hbb⟩ : ∃ bb, w0.heap.size = bb := ⟨_, rfl⟩
  rw [hbb] at c1 ⊢
  have Hbb := hide hbb
  clear hbb
  go_wp2_with fail
  go_loopw [5, 10] (fun v5 v10 wr => ∃ (k : Nat) (v : Value), k ≤ nD ∧ v = v5 ∧ v10 = .int .i64 k ∧ Hid (intE.Own wr (w0.heap.size + 1) v (Bk.sv ⟨l, D.take k⟩ s)) ∧ Hid (Below w0.heap.size w0 wr) ∧ Hid (Below (w0.heap.size + 1) W1 wr)) (fun _ v10 _ => nD - (intOf v10).toNat)
  case atStart => exact ⟨0, _, by omega, rfl, rfl, hide (El.Own.nil _ _ _), HB, hide (Below.refl _ _)⟩
  case round =>
    obtain ⟨k, v, hk, hv, rfl, HO, HB1, HB2⟩ := hrel
    subst hv
    have hcw : wr.heap[bb]? = some (.cells #[.slice aA nA cA, .slice aD nD cD] 29) := by rw [← Hbb.out, HB2.out.block _ (by omega)]; exact Hb.out
    by_cases hlt : k < nD
    · obtain ⟨x, hp⟩ : ∃ x, D[k]? = some x := ⟨_, List.getElem?_eq_getElem (by rw [Hnd.out]; exact hlt)⟩
      obtain ⟨e, he⟩ := Hkn.out x (List.mem_of_getElem? hp)
      obtain ⟨ix, hix, hge⟩ := atI_some he
      have hixn : ix < nA := by rw [← Hn.out]; exact idx_lt hge
      obtain ⟨bd, od, rfl, y0⟩ := int_at (HV.out wr HB1.out).2 k x hp
      obtain ⟨ba, oa, rfl, _, y1, _, _⟩ := en_at (HV.out wr HB1.out).1 ix e hge
      have j0 : (0 : Int) ≤ (k : Int) := by omega
      have j1 : (k : Int) < (nD : Int) := by omega
      have j2 : (0 : Int) ≤ (ix : Int) := by omega
      have j3 : (ix : Int) < (nA : Int) := by omega
      have hst := find_stn he
      have HSF : Hid (∀ W' : World, Below wr.heap.size wr W' → W'.cell? ⟨bb, 0, none⟩ = some (.slice (some ⟨ba, oa, none⟩) nA cA) ∧ W'.cell? ⟨bb, 1, none⟩ = some (.slice (some ⟨bd, od, none⟩) nD cD) ∧ W'.cell? ⟨bd, od + k, none⟩ = some (.int .i64 x) ∧ W'.cell? ⟨ba, oa + ix * 4 + 1, none⟩ = some (.int .i64 e.r.st)) := hide (fun W' h => by
        have hc' : W'.heap[bb]? = _ := (h.block bb (heap_lt hcw)).trans hcw
        exact ⟨(cells_at hc' 0).1, (cells_at hc' 1).1, by rw [h.cell (p := ⟨bd, od + k, none⟩) (cell_lt y0)]; exact y0, by rw [h.cell (p := ⟨ba, oa + ix * 4 + 1, none⟩) (cell_lt y1)]; exact y1⟩)
      have KA : Hid (∀ W, Below wr.heap.size wr W → Calls Try.prog 25 #[.agg #[.slice (some ⟨ba, oa, none⟩) nA cA, .slice (some ⟨bd, od, none⟩) nD cD], .int .i64 x] W fun r w' => r = .returned (.int .i64 (ix : Int)) ∧ Below wr.heap.size wr w') := hide (fun W h => by
        have h2 : Below w0.heap.size w0 W := (Frm.of_below (f := fun _ => False) h).below HB1.out HB1.out.size (fun _ q => q.elim)
        refine (KAt.out W x (HV.out W h2).1).mono ?_
        rintro r w' ⟨rfl, hw⟩
        rw [hix]
        exact ⟨rfl, (Frm.of_below (f := fun _ => False) hw).below h h.size (fun _ q => q.elim)⟩)
      have HK2 : Hid (∀ W, Below wr.heap.size wr W → intE.Own W (w0.heap.size + 1) v (Bk.sv ⟨l, D.take k⟩ s) ∧ Below w0.heap.size w0 W ∧ Below (w0.heap.size + 1) W1 W) := hide (fun W h => ⟨HO.out.keep h, (Frm.of_below (f := fun _ => False) h).below HB1.out HB1.out.size (fun _ q => q.elim), (Frm.of_below (f := fun _ => False) h).below HB2.out (by rw [← Hsz.out]; exact HB2.out.size) (fun _ q => q.elim)⟩)
      have hSR : Below wr.heap.size wr wr.drew := below_drew wr 1
      have HT : Hid (Bk.sv ⟨l, D.take (k + 1)⟩ s = Bk.sv ⟨l, D.take k⟩ s ++ (if e.r.st = s then [x] else [])) := hide (by
        unfold Bk.sv
        rw [List.take_add_one, hp, List.filter_append]
        congr 1
        simp only [Option.toList_some, List.filter_cons, List.filter_nil, hst]
        by_cases q : e.r.st = s <;> simp [q])
      have Hln : Hid ((Bk.sv ⟨l, D.take k⟩ s).length ≤ 10000) := hide (by
        have h1 : (Bk.sv ⟨l, D.take k⟩ s).length ≤ (D.take k).length := List.length_filter_le _ _
        have h2 : (D.take k).length ≤ k := by rw [List.length_take]; omega
        have := Hl.out
        omega)
      have HszW : Hid (w0.heap.size + 1 ≤ wr.heap.size) := hide (by rw [← Hsz.out]; exact HB2.out.size)
      clear hcw hp he hix hge hst y0 y1
      go_upto_region 5 with fail
      refine wp_region_held_drew (S := (fun W : World => Below wr.heap.size wr W)) (by kernel_rfl) hSR (fun hS => ?_)
      refine wpAnyH_take (i := 0) (v := .pointer (some ⟨bb, 0, none⟩)) rfl (by kernel_rfl) (by kernel_rfl) (by kernel_rfl) (fun _ _ _ h => h) (Or.inl ⟨by kernel_rfl, fun W' hW => by go_simp⟩) hS ?_
      refine wpAnyH_take (i := 1) (v := .slice (some ⟨ba, oa, none⟩) nA cA) rfl (by kernel_rfl) (by kernel_rfl) (by kernel_rfl) (fun _ _ _ h => h) (Or.inl ⟨by kernel_rfl, fun W' hW => by have z0 := (HSF.out W' hW).1; have z1 := (HSF.out W' hW).2.1; go_simp⟩) hS ?_
      refine wpAnyH_take (i := 2) (v := .agg #[.slice (some ⟨ba, oa, none⟩) nA cA, .slice (some ⟨bd, od, none⟩) nD cD]) rfl (by kernel_rfl) (by kernel_rfl) (by kernel_rfl) (fun _ _ _ h => h) (Or.inl ⟨by kernel_rfl, fun W' hW => by have z0 := (HSF.out W' hW).1; have z1 := (HSF.out W' hW).2.1; go_simp⟩) hS ?_
      refine wpAnyH_take (i := 3) (v := .pointer (some ⟨bb, 1, none⟩)) rfl (by kernel_rfl) (by kernel_rfl) (by kernel_rfl) (fun _ _ _ h => h) (Or.inl ⟨by kernel_rfl, fun W' hW => by go_simp⟩) hS ?_
      refine wpAnyH_take (i := 4) (v := .slice (some ⟨bd, od, none⟩) nD cD) rfl (by kernel_rfl) (by kernel_rfl) (by kernel_rfl) (fun _ _ _ h => h) (Or.inl ⟨by kernel_rfl, fun W' hW => by have z0 := (HSF.out W' hW).1; have z1 := (HSF.out W' hW).2.1; go_simp⟩) hS ?_
      refine wpAnyH_take (i := 5) (v := .int .i64 k) rfl (by kernel_rfl) (by kernel_rfl) (by kernel_rfl) (fun _ _ _ h => h) (Or.inl ⟨by kernel_rfl, fun W' hW => by go_simp⟩) hS ?_
      refine wpAnyH_take (i := 6) (v := .pointer (some ⟨bd, od + k, none⟩)) rfl (by kernel_rfl) (by kernel_rfl) (by kernel_rfl) (fun _ _ _ h => h) (Or.inl ⟨by kernel_rfl, fun W' hW => by go_simp⟩) hS ?_
      refine wpAnyH_take (i := 7) (v := .int .i64 x) rfl (by kernel_rfl) (by kernel_rfl) (by kernel_rfl) (fun _ _ _ h => h) (Or.inl ⟨by kernel_rfl, fun W' hW => by have z0 := (HSF.out W' hW).2.2.1; go_simp⟩) hS ?_
      refine wpAnyH_take (i := 13) (v := .int .i64 s) rfl (by kernel_rfl) (by kernel_rfl) (by kernel_rfl) (fun _ _ _ h => h) (Or.inl ⟨by kernel_rfl, fun W' hW => by go_simp⟩) hS ?_
      refine wpAnyH_ready (rs := [8]) (by kernel_rfl) (by simp) ?_
      refine AllReadyH.cons rfl (fun K hK => ?_) AllReadyH.nil
      go_simp
      go_at_call 25
      refine (KA.out _ hS).mono ?_; rintro e W5 ⟨rfl, hb5⟩; have q5 : Below wr.heap.size wr W5 := hb5; clear hb5
      go_simp
      refine hK.out _ _ q5 (fun _ => ?_)
      clear hK K
      refine wpAnyH_take (i := 9) (v := .pointer (some ⟨ba, oa + ix * 4, none⟩)) rfl (by kernel_rfl) (by kernel_rfl) (by kernel_rfl) (fun _ _ _ h => h) (Or.inl ⟨by kernel_rfl, fun W' hW => by go_simp⟩) q5 ?_
      refine wpAnyH_take (i := 10) (v := .pointer (some ⟨ba, oa + ix * 4, none⟩)) rfl (by kernel_rfl) (by kernel_rfl) (by kernel_rfl) (fun _ _ _ h => h) (Or.inl ⟨by kernel_rfl, fun W' hW => by go_simp⟩) q5 ?_
      refine wpAnyH_take (i := 11) (v := .pointer (some ⟨ba, oa + ix * 4 + 1, none⟩)) rfl (by kernel_rfl) (by kernel_rfl) (by kernel_rfl) (fun _ _ _ h => h) (Or.inl ⟨by kernel_rfl, fun W' hW => by go_simp⟩) q5 ?_
      refine wpAnyH_take (i := 12) (v := .int .i64 e.r.st) rfl (by kernel_rfl) (by kernel_rfl) (by kernel_rfl) (fun _ _ _ h => h) (Or.inl ⟨by kernel_rfl, fun W' hW => by have z0 := (HSF.out W' hW).2.2.2; go_simp⟩) q5 ?_
      refine wpAnyH_ready (rs := [14]) (by kernel_rfl) (by simp) ?_
      refine AllReadyH.cons rfl (fun K hK => ?_) AllReadyH.nil
      go_simp
      refine hK.out _ _ q5 (fun _ => ?_)
      clear hK K
      refine wpAnyH_done (by kernel_rfl) ?_ _

      obtain ⟨HO5, HB5, HB6⟩ := HK2.out W5 q5
      obtain ⟨m0, m1, m2, m3⟩ := HSF.out W5 q5
      have HO5' := hide HO5
      have HB5' := hide HB5
      have HB6' := hide HB6
      have hs5 : w0.heap.size + 1 ≤ W5.heap.size := Nat.le_trans HszW.out q5.size
      by_cases q : e.r.st = s
      · have hq : (e.r.st == s) = true := beq_iff_eq.2 q
        have HT1 : Hid (Bk.sv ⟨l, D.take k⟩ s ++ [x] = Bk.sv ⟨l, D.take (k + 1)⟩ s) := hide (by rw [HT.out, if_pos q])
        have HR5 := hide (int_new W5 x _ rfl)
        have HX5 : Hid (intE.Own (W5.alloc (.cells #[.int .i64 x] 3)) (w0.heap.size + 1) v (Bk.sv ⟨l, D.take k⟩ s)) := hide (HO5.keep (below_new W5 _))
        have HNm : Hid ((Bk.sv ⟨l, D.take k⟩ s).length + [x].length ≤ 1000000) := hide (by have := Hln.out; simp only [List.length_cons, List.length_nil]; omega)
        have HS3 : Hid (w0.heap.size + 1 ≤ (W5.alloc (.cells #[.int .i64 x] 3)).heap.size) := hide (by simp; omega)
        have HG : Hid (∀ w2 : World, (W5.alloc (.cells #[.int .i64 x] 3)).grownBy w2 v.ownBlock → Below w0.heap.size w0 w2 ∧ Below (w0.heap.size + 1) W1 w2) := hide (fun w2 hg => by
          have hge : ∀ k, v.ownBlock = some k → w0.heap.size + 1 ≤ k := fun k hk => HX5.out.ge k hk
          exact ⟨(Frm.of_grown hg).below (HB5.alloc HB5.size _) (by have := HS3.out; omega) (fun k hk => by have := hge k hk; omega), (Frm.of_grown hg).below (HB6.alloc hs5 _) HS3.out hge⟩)
        clear q HT HO5 HB5 HB6 hs5 KA HK2 HSF hSR q5
        go_wp2_with (at_builtin; refine intE.wpB (B := w0.heap.size + 1) HS3.out (by rfl) _ _ rfl _ _ rfl rfl _ [x] HX5.out HR5.out HNm.out ?_; intro v1 w2 ho hg hs; rw [HT1.out] at ho; have Ho := hide ho; obtain ⟨q1, q2⟩ := HG.out w2 hg; have HQ1 := hide q1; have HQ2 := hide q2; clear ho hg hs q1 q2)
        go_roundw
        case rel => exact ⟨k + 1, _, by omega, rfl, by go_num, Ho, HQ1, HQ2⟩
        case measure => simp [intOf]; omega
      · have hq : (e.r.st == s) = false := beq_eq_false_iff_ne.2 q
        have HT1 : Hid (Bk.sv ⟨l, D.take (k + 1)⟩ s = Bk.sv ⟨l, D.take k⟩ s) := hide (by rw [HT.out, if_neg q, List.append_nil])
        clear q HT HO5 HB5 HB6 hs5 KA HK2 HSF hSR q5
        go_wp2_with fail
        go_roundw
        case rel => exact ⟨k + 1, v, by omega, rfl, by go_num, hide (by rw [HT1.out]; exact HO5'.out), HB5', HB6'⟩
        case measure => simp [intOf]; omega
    · obtain rfl : k = nD := by omega
      have j1 : ¬ (k : Int) < (k : Int) := by omega
      have ho := HO.out
      rw [List.take_of_length_le (by rw [Hnd.out]; omega)] at ho
      obtain ⟨a', c', e⟩ := ho.rd.form
      subst e
      have Ho := hide (ho.mono (show w0.heap.size ≤ w0.heap.size + 1 by omega))
      clear ho HO hcw
      go_wp2_with fail
      go_ret
      rw [← Hbb.out]
      exact ⟨_, _, rfl, Ho.out, HB1.out⟩
end
end Go.Proofs.Ytfmpipihjnpimaa
