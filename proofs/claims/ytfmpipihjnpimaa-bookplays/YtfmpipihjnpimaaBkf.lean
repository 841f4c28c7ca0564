/- Serve. -/
import Derived.Test.YtfmpipihjnpimaaBke
namespace Go.Proofs.Ytfmpipihjnpimaa
open Go.RowKit Go.Maps Go.ChangeMaps
set_option linter.unusedVariables false

section
variable {w0 w : World} {g : Nat} {H : Hb} {S : Bk} {l : List It}
/-- the map of those that were served is told -/
theorem serve_end {W w1 : World} {x : Int} {e : En} {v' : Value} (h : Its w0 (.book w0.heap.size g H ⟨setE S.all x 2, S.done⟩ :: l) W) (hok : Bk.Ok ⟨setE S.all x 2, S.done ++ [x]⟩) (hf : fnd S.all x = some e) (hd : S.done.length ≤ 1000000) (hi : I64 e.r.st)
    (ho : intE.Own w1 w0.heap.size v' (Bk.sv ⟨setE S.all x 2, S.done⟩ e.r.st ++ [x])) (hfr : Frm (fun k => ((H.fs e.r.st).getD (.slice none 0 0)).ownBlock = some k) W w1)
    (hb : ∀ k, v'.ownBlock = some k → ((H.fs e.r.st).getD (.slice none 0 0)).ownBlock = some k ∨ W.heap.size ≤ k) :
    ∃ w2, (Instr.mapUpdate 59 (.map (some H.sb)) (.int .i64 e.r.st) v').run Try.prog w1 = .ok () w2 ∧ ∃ H', Its w0 (.book w0.heap.size g H' ⟨setE S.all x 2, S.done ++ [x]⟩ :: l) w2 := by
  obtain ⟨hl, hlie⟩ := h.bopen
  obtain ⟨w2, h1, h2, h3, h4⟩ := srv_app (bk_srv h.one) h.size ho hfr hb hi hd
  refine ⟨w2, h1, ⟨H.kb, H.sb, H.vo, fun y => if y = e.r.st then some v' else H.fs y, H.T⟩, ?_⟩
  have h5 := (hl.rot4.chg (x' := .srv w0.heap.size H.sb (S.done.length + 1) (fun y => if y = e.r.st then some v' else H.fs y) (fun y => if y = e.r.st then Bk.sv ⟨setE S.all x 2, S.done⟩ e.r.st ++ [x] else Bk.sv ⟨setE S.all x 2, S.done⟩ y)) h2 h4 h3).rot4'
  have e1 : (fun y => if y = e.r.st then Bk.sv ⟨setE S.all x 2, S.done⟩ e.r.st ++ [x] else Bk.sv ⟨setE S.all x 2, S.done⟩ y) = Bk.sv ⟨setE S.all x 2, S.done ++ [x]⟩ := funext fun y => (sv_se hf y).symm
  have e2 : S.done.length + 1 = (S.done ++ [x]).length := by simp
  rw [e1, e2] at h5
  exact Its.bshut (H := ⟨H.kb, H.sb, H.vo, fun y => if y = e.r.st then some v' else H.fs y, H.T⟩) (S := ⟨setE S.all x 2, S.done ++ [x]⟩) h5 ⟨hok, hlie.2.1, hlie.2.2⟩
/-- where one is open there is a first one -/
theorem fst_some {x : Int} {e : En} (hf : fnd S.all x = some e) (he : e.en = 1) : ∃ r, fst S.all e.r.st = some r ∧ r.st = e.r.st := by
  have hm : e.r ∈ ops S.all := ops_mem.2 ⟨e, (fnd_some hf).1, he, rfl⟩
  cases q : fst S.all e.r.st with
  | none => exact absurd (List.find?_eq_none.1 q e.r hm) (by simp)
  | some r => exact ⟨r, rfl, by have := List.find?_some q; simpa using this⟩

set_option maxRecDepth 100000 in
set_option maxHeartbeats 4000000 in
theorem serve_any (h : Its w0 (.book w0.heap.size g H S :: l) w) {x : Int} (hx : I64 x) (hd : S.done.length ≤ 10000) : Calls Try.prog 14 #[.pointer (some ⟨g, 0, none⟩), .int .i64 x] w fun e w' => e = .returned (.int .i64 (S.seC x)) ∧ ∃ H', Its w0 (.book w0.heap.size g H' (S.se x) :: l) w' := by
  have hlie := bk_lie h.one
  obtain ⟨c0, c1, c2, _⟩ := bk_cells h.one
  have hl := (bk_mp h.one).look hx
  have HI := hide h
  cases hT : fnT H.T x with
  | none =>
    have hf := lie_none hlie hT
    have e1 : S.seC x = 4 := by unfold Bk.seC; rw [hf]
    rw [Bk.se_no (by rw [e1]; decide), e1]
    rw [kn_none hT] at hl
    simp only [Option.getD_none, Option.isSome_none] at hl
    clear h hf e1 hT hlie hx
    go_enter Try.func14, Try.ntmps14
    go_wp2_with fail
    go_ret
    exact ⟨rfl, _, HI.out⟩
  | some p =>
    have hf := lie_some hlie hT
    rw [kn_some hT] at hl
    simp only [Option.getD_some, Option.isSome_some] at hl
    obtain ⟨d0, d1, d2, d3, _⟩ := bk_ent h.one (fnT_mem hT)
    by_cases hen : p.2.en = 1
    · obtain ⟨r0, hr0, hst⟩ := fst_some hf hen
      have K1 := hide (firstB_any h.one p.2.r.st)
      rw [hr0] at K1
      have hheap := bk_ents h.one p (fnT_mem hT)
      have hseC : S.seC x = if r0 = p.2.r then 0 else 110 := by
        unfold Bk.seC
        rw [hf]
        simp only [if_pos hen, hr0, Option.some.injEq]
      have HC : Hid (∀ W, Below w.heap.size w W → (∀ o q, (((W.alloc o).drewN q).heap[p.1]? = some (.cells (enC p.2) 67))) ∧ ∀ o q, Its w0 (.book w0.heap.size g H S :: l) ((W.alloc o).drewN q)) := hide (fun W hb => by
        have hx2 : Its w0 (.book w0.heap.size g H S :: l) W := h.keep hb
        exact ⟨fun o q => bk_ents ((hx2.alloc o).drew q).one p (fnT_mem hT), fun o q => (hx2.alloc o).drew q⟩)
      rw [hen] at d3
      by_cases hr : r0 = p.2.r
      · rw [if_pos hr] at hseC
        rw [Bk.se_yes hseC, hseC]
        have hok : Bk.Ok ⟨setE S.all x 2, S.done ++ [x]⟩ := hlie.1.set (.inl rfl) (by rw [Bk.sta_of hf]; exact hen) _ (.inr ⟨rfl, rfl⟩)
        have hi : I64 p.2.r.st := by
          obtain ⟨⟨q1, q2, _⟩, _⟩ := hlie.1.rg p.2 (fnd_some hf).1
          unfold I64; omega
        have KF : Hid (∀ W, Its w0 (.book w0.heap.size g H S :: l) W → Calls Try.prog 28 #[.pointer (some ⟨g, 0, none⟩), .pointer (some ⟨p.1, 0, none⟩), .int .i64 2] W fun e w' => e = .returned (.tuple #[]) ∧ ∃ H', Its w0 (.book w0.heap.size g H' ⟨setE S.all x 2, S.done⟩ :: l) w' ∧ fnT H'.T x = some (p.1, ⟨p.2.r, 2⟩)) := hide (fun W hW => finish_any hW hT hen (v := 2) (.inl rfl))
        have HE : Hid (∀ (H : Hb) (W w1 : World) (v' : Value), Its w0 (.book w0.heap.size g H ⟨setE S.all x 2, S.done⟩ :: l) W → intE.Own w1 w0.heap.size v' (Bk.sv ⟨setE S.all x 2, S.done⟩ p.2.r.st ++ [x]) → Frm (fun k => ((H.fs p.2.r.st).getD (.slice none 0 0)).ownBlock = some k) W w1 → (∀ k, v'.ownBlock = some k → ((H.fs p.2.r.st).getD (.slice none 0 0)).ownBlock = some k ∨ W.heap.size ≤ k) →
            ∃ w2, (Instr.mapUpdate 59 (.map (some H.sb)) (.int .i64 p.2.r.st) v').run Try.prog w1 = .ok () w2 ∧ ∃ H', Its w0 (.book w0.heap.size g H' ⟨setE S.all x 2, S.done ++ [x]⟩ :: l) w2) := hide (fun H W w1 v' hI ho hfr hb => serve_end hI hok hf (by omega) hi ho hfr hb)
        have HN : Hid ((Bk.sv ⟨setE S.all x 2, S.done⟩ p.2.r.st).length + [x].length ≤ 1000000) := hide (by
          have : (Bk.sv ⟨setE S.all x 2, S.done⟩ p.2.r.st).length ≤ S.done.length := List.length_filter_le _ _
          simp only [List.length_cons, List.length_nil]; omega)
        have Hi := hide hi
        obtain ⟨b, ⟨⟨i, s, t⟩, en⟩⟩ := p
        subst hr
        simp only at *
        have heq := fun W => rq_equal W (⟨i, s, t⟩ : Rq) ⟨i, s, t⟩
        simp only [decide_true] at heq
        simp only [rqV, Option.isSome_some] at K1
        clear h hlie hx hd hf hseC hT hen hr0 hst hheap hok hi
        go_enter Try.func14, Try.ntmps14
        go_upto_region 7 with (go_at_call 22; refine K1.out.mono ?_; rintro e w1 ⟨rfl, hb⟩; have HB1 := hide hb; clear hb)
        generalize hO : w1.alloc (.cells #[.int .i64 i, .int .i64 s, .int .i64 t] 31) = W2 at *
        have HO := hide hO
        have HT2 : Hid (∀ q, (W2.drewN q).heap[b]? = some (.cells #[.int .i64 i, .int .i64 s, .int .i64 t, .int .i64 en] 67)) := hide (fun q => by rw [← HO.out]; exact (HC.out w1 HB1.out).1 _ q)
        have HI2 : Hid (∀ q, Its w0 (.book w0.heap.size g H S :: l) (W2.drewN q)) := hide (fun q => by rw [← HO.out]; exact (HC.out w1 HB1.out).2 _ q)
        have hx2 : W2.heap[w1.heap.size]? = some (.cells #[.int .i64 i, .int .i64 s, .int .i64 t] 31) := by rw [← hO]; exact heap_new _ _
        obtain ⟨x0, _⟩ := cells_at hx2 0
        obtain ⟨x1, _⟩ := cells_at hx2 1
        obtain ⟨x2, _⟩ := cells_at hx2 2
        have x0 : W2.cell? ⟨w1.heap.size, 0, none⟩ = some (.int .i64 i) := (cells_at hx2 0).1
        have x1 : W2.cell? ⟨w1.heap.size, 1, none⟩ = some (.int .i64 s) := (cells_at hx2 1).1
        have x2 : W2.cell? ⟨w1.heap.size, 2, none⟩ = some (.int .i64 t) := (cells_at hx2 2).1
        have y0 : W2.cell? ⟨b, 0, none⟩ = some (.int .i64 i) := (cells_at (HT2.out 0) 0).1
        have y1 : W2.cell? ⟨b, 1, none⟩ = some (.int .i64 s) := (cells_at (HT2.out 0) 1).1
        have y2 : W2.cell? ⟨b, 2, none⟩ = some (.int .i64 t) := (cells_at (HT2.out 0) 2).1
        clear hx2 hO c0 c1 c2 d0 d1 d2 d3 hl
        go_quiet (fail)
        go_upto_region 10 with (go_at_call 28; refine (KF.out _ (HI2.out _)).mono ?_; rintro e w3 ⟨rfl, H3, h3, hT3⟩; have HI3 := hide h3; have HT3 := hide hT3; clear h3 hT3)
        obtain ⟨v3, hv3⟩ : ∃ v3, (H3.fs s).getD (.slice none 0 0) = v3 := ⟨_, rfl⟩
        have HV3 := hide hv3
        have hsrv := bk_srv HI3.out.one
        have HV : Hid (intE.Own w3 w0.heap.size v3 (Bk.sv ⟨setE S.all x 2, S.done⟩ s)) := hide (by
          rw [← hv3]
          cases q : H3.fs s with
          | none => rw [hsrv.no s q]; exact El.Own.nil _ _ _
          | some u => exact hsrv.row s u q)
        obtain ⟨SS, hSS⟩ : ∃ SS : World → Prop, SS = fun W => W.heap[g]? = w3.heap[g]? ∧ W.heap[b]? = w3.heap[b]? ∧ W.heap[H3.sb]? = w3.heap[H3.sb]? := ⟨_, rfl⟩
        have hgb : w3.heap[g]? = some (.cells #[.map (some H3.kb), H3.vo, .map (some H3.sb)] 62) := bk_box HI3.out.one
        have hbb : w3.heap[b]? = some (.cells #[.int .i64 i, .int .i64 s, .int .i64 t, .int .i64 2] 67) := bk_ents HI3.out.one _ (fnT_mem HT3.out)
        have s1 : ∀ W, SS W → W.cell? ⟨g, 2, none⟩ = some (.map (some H3.sb)) := fun W hW => by
          rw [hSS] at hW
          exact (cells_at (hW.1.trans hgb) 2).1
        have s2 : ∀ W, SS W → W.cell? ⟨b, 1, none⟩ = some (.int .i64 s) := fun W hW => by
          rw [hSS] at hW
          exact (cells_at (hW.2.1.trans hbb) 1).1
        have s3 : ∀ W, SS W → (Instr.lookup 59 (.map (some H3.sb)) (.int .i64 s) false).run Try.prog W = .ok v3 W := fun W hW => by
          rw [hSS] at hW
          rw [← hv3]
          exact (hsrv.mp.keep hW.2.2).look59 Hi.out
        have hS0 : SS w3.drew := by rw [hSS]; exact ⟨rfl, rfl, rfl⟩
        have hS1 : SS (w3.drew.alloc (.cells #[.int .i64 x] 3)) := by
          have hb := below_new w3.drew (.cells #[.int .i64 x] 3)
          rw [hSS]
          exact ⟨hb.block g (heap_lt hgb), hb.block b (heap_lt hbb), hb.block _ hsrv.mp.lt⟩
        have hno : v3.ownBlock ≠ some g ∧ v3.ownBlock ≠ some b ∧ v3.ownBlock ≠ some H3.sb := ⟨zown_ne HV.out hgb (by decide), zown_ne HV.out hbb (by decide), fun e => by
          obtain ⟨cur, hc⟩ := own_type HV.out _ e
          exact hsrv.mp.obj _ _ hc⟩
        have HS2 : Hid (∀ W, (w3.drew.alloc (.cells #[.int .i64 x] 3)).grownBy W v3.ownBlock → SS W) := hide (fun W hg => by
          have hS1' := hS1
          rw [hSS] at hS1' ⊢
          have hsz : (w3.drew.alloc (.cells #[.int .i64 x] 3)).heap.size = w3.heap.size + 1 := by simp
          exact ⟨(hg.block g (by rw [hsz]; have := heap_lt hgb; omega) (fun e => hno.1 e.symm)).trans hS1'.1, (hg.block b (by rw [hsz]; have := heap_lt hbb; omega) (fun e => hno.2.1 e.symm)).trans hS1'.2.1, (hg.block _ (by rw [hsz]; have := hsrv.mp.lt; omega) (fun e => hno.2.2 e.symm)).trans hS1'.2.2⟩)
        have HB4 : Hid (Below w0.heap.size w0 (w3.drew.alloc (.cells #[.int .i64 x] 3))) := hide ((HI3.out.drew 1).alloc _).bel
        have HV4 : Hid (intE.Own (w3.drew.alloc (.cells #[.int .i64 x] 3)) w0.heap.size v3 (Bk.sv ⟨setE S.all x 2, S.done⟩ s)) := hide (own_stay HV.out fun k hk _ => (below_new w3.drew _).block k (HV.out.lt k hk))
        have HR4 : Hid (intE.Rd (w3.drew.alloc (.cells #[.int .i64 x] 3)) (.slice (some ⟨w3.heap.size, 0, none⟩) 1 1) [x]) := hide (int_new w3.drew x _ rfl)
        have HEE : Hid (∀ v' W, intE.Own W w0.heap.size v' (Bk.sv ⟨setE S.all x 2, S.done⟩ s ++ [x]) → (w3.drew.alloc (.cells #[.int .i64 x] 3)).grownBy W v3.ownBlock → (v'.ownBlock = v3.ownBlock ∨ v'.ownBlock = some (w3.drew.alloc (.cells #[.int .i64 x] 3)).heap.size) → ∃ w2, (Instr.mapUpdate 59 (.map (some H3.sb)) (.int .i64 s) v').run Try.prog W = .ok () w2 ∧ ∃ H', Its w0 (.book w0.heap.size g H' ⟨setE S.all x 2, S.done ++ [x]⟩ :: l) w2) := hide (fun v' W ho hg hb => by
          refine HE.out H3 w3 W v' HI3.out ho ?_ ?_
          · rw [HV3.out]
            exact (Frm.of_below (f := fun k => v3.ownBlock = some k) ((below_drew w3 1).alloc (Nat.le_refl _) (.cells #[.int .i64 x] 3))).trans (Frm.of_grown hg)
          · rw [HV3.out]
            intro k hk
            rcases hb with q | q
            · exact .inl (q ▸ hk)
            · rw [q] at hk
              cases hk
              exact .inr (by simp))
        clear hsrv hgb hbb hno hv3 hSS HI2 HT2 HI3 HT3 HO HB1 x0 x1 x2 y0 y1 y2
        refine wp_region_E SS 22 (by kernel_rfl) ?_
        refine wpAnyE_take (i := 0) (v := .pointer (some ⟨g, 0, none⟩)) rfl (by kernel_rfl) (by kernel_rfl) (by kernel_rfl) (by kernel_rfl) (fun _ _ _ h => h) (Or.inl ⟨by rfl, fun W' hW => by go_simp⟩) hS0 ?_
        refine wpAnyE_take (i := 1) (v := .pointer (some ⟨g, 0, none⟩)) rfl (by kernel_rfl) (by kernel_rfl) (by kernel_rfl) (by kernel_rfl) (fun _ _ _ h => h) (Or.inl ⟨by rfl, fun W' hW => by go_simp⟩) hS0 ?_
        refine wpAnyE_take (i := 2) (v := .pointer (some ⟨g, 2, none⟩)) rfl (by kernel_rfl) (by kernel_rfl) (by kernel_rfl) (by kernel_rfl) (fun _ _ _ h => h) (Or.inl ⟨by rfl, fun W' hW => by go_simp⟩) hS0 ?_
        refine wpAnyE_take (i := 3) (v := .map (some H3.sb)) rfl (by kernel_rfl) (by kernel_rfl) (by kernel_rfl) (by kernel_rfl) (fun _ _ _ h => h) (Or.inl ⟨by rfl, fun W' hW => by have z0 := s1 W' hW; go_simp⟩) hS0 ?_
        refine wpAnyE_take (i := 4) (v := .pointer (some ⟨b, 0, none⟩)) rfl (by kernel_rfl) (by kernel_rfl) (by kernel_rfl) (by kernel_rfl) (fun _ _ _ h => h) (Or.inl ⟨by rfl, fun W' hW => by go_simp⟩) hS0 ?_
        refine wpAnyE_take (i := 5) (v := .pointer (some ⟨b, 0, none⟩)) rfl (by kernel_rfl) (by kernel_rfl) (by kernel_rfl) (by kernel_rfl) (fun _ _ _ h => h) (Or.inl ⟨by rfl, fun W' hW => by go_simp⟩) hS0 ?_
        refine wpAnyE_take (i := 6) (v := .pointer (some ⟨b, 0, none⟩)) rfl (by kernel_rfl) (by kernel_rfl) (by kernel_rfl) (by kernel_rfl) (fun _ _ _ h => h) (Or.inl ⟨by rfl, fun W' hW => by go_simp⟩) hS0 ?_
        refine wpAnyE_take (i := 7) (v := .pointer (some ⟨b, 1, none⟩)) rfl (by kernel_rfl) (by kernel_rfl) (by kernel_rfl) (by kernel_rfl) (fun _ _ _ h => h) (Or.inl ⟨by rfl, fun W' hW => by go_simp⟩) hS0 ?_
        refine wpAnyE_take (i := 8) (v := .int .i64 s) rfl (by kernel_rfl) (by kernel_rfl) (by kernel_rfl) (by kernel_rfl) (fun _ _ _ h => h) (Or.inl ⟨by rfl, fun W' hW => by have z0 := s2 W' hW; go_simp⟩) hS0 ?_
        refine wpAnyE_take (i := 9) (v := .pointer (some ⟨g, 0, none⟩)) rfl (by kernel_rfl) (by kernel_rfl) (by kernel_rfl) (by kernel_rfl) (fun _ _ _ h => h) (Or.inl ⟨by rfl, fun W' hW => by go_simp⟩) hS0 ?_
        refine wpAnyE_take (i := 10) (v := .pointer (some ⟨g, 0, none⟩)) rfl (by kernel_rfl) (by kernel_rfl) (by kernel_rfl) (by kernel_rfl) (fun _ _ _ h => h) (Or.inl ⟨by rfl, fun W' hW => by go_simp⟩) hS0 ?_
        refine wpAnyE_take (i := 11) (v := .pointer (some ⟨g, 2, none⟩)) rfl (by kernel_rfl) (by kernel_rfl) (by kernel_rfl) (by kernel_rfl) (fun _ _ _ h => h) (Or.inl ⟨by rfl, fun W' hW => by go_simp⟩) hS0 ?_
        refine wpAnyE_take (i := 12) (v := .map (some H3.sb)) rfl (by kernel_rfl) (by kernel_rfl) (by kernel_rfl) (by kernel_rfl) (fun _ _ _ h => h) (Or.inl ⟨by rfl, fun W' hW => by have z0 := s1 W' hW; go_simp⟩) hS0 ?_
        refine wpAnyE_take (i := 13) (v := .pointer (some ⟨b, 0, none⟩)) rfl (by kernel_rfl) (by kernel_rfl) (by kernel_rfl) (by kernel_rfl) (fun _ _ _ h => h) (Or.inl ⟨by rfl, fun W' hW => by go_simp⟩) hS0 ?_
        refine wpAnyE_take (i := 14) (v := .pointer (some ⟨b, 0, none⟩)) rfl (by kernel_rfl) (by kernel_rfl) (by kernel_rfl) (by kernel_rfl) (fun _ _ _ h => h) (Or.inl ⟨by rfl, fun W' hW => by go_simp⟩) hS0 ?_
        refine wpAnyE_take (i := 15) (v := .pointer (some ⟨b, 0, none⟩)) rfl (by kernel_rfl) (by kernel_rfl) (by kernel_rfl) (by kernel_rfl) (fun _ _ _ h => h) (Or.inl ⟨by rfl, fun W' hW => by go_simp⟩) hS0 ?_
        refine wpAnyE_take (i := 16) (v := .pointer (some ⟨b, 1, none⟩)) rfl (by kernel_rfl) (by kernel_rfl) (by kernel_rfl) (by kernel_rfl) (fun _ _ _ h => h) (Or.inl ⟨by rfl, fun W' hW => by go_simp⟩) hS0 ?_
        refine wpAnyE_take (i := 17) (v := .int .i64 s) rfl (by kernel_rfl) (by kernel_rfl) (by kernel_rfl) (by kernel_rfl) (fun _ _ _ h => h) (Or.inl ⟨by rfl, fun W' hW => by have z0 := s2 W' hW; go_simp⟩) hS0 ?_
        refine wpAnyE_take (i := 18) (v := v3) rfl (by kernel_rfl) (by kernel_rfl) (by kernel_rfl) (by kernel_rfl) (fun _ _ _ h => h) (Or.inl ⟨by rfl, fun W' hW => by have z0 := s3 W' hW; go_simp⟩) hS0 ?_
        refine wpAnyE_take (i := 19) (v := .int .i64 x) rfl (by kernel_rfl) (by kernel_rfl) (by kernel_rfl) (by kernel_rfl) (fun _ _ _ h => h) (Or.inl ⟨by rfl, fun W' hW => by go_simp⟩) hS0 ?_
        refine wpAnyE_ready (rs := [20]) (by kernel_rfl) (by simp) ?_
        refine AllReadyE.cons rfl (fun K hK => ?_) AllReadyE.nil
        go_simp
        refine hK.out _ _ (fun _ => hS1) ?_
        clear hK K
        refine wpAnyE_ready (rs := [21]) (by kernel_rfl) (by simp) ?_
        refine AllReadyE.cons rfl (fun K hK => ?_) AllReadyE.nil
        refine intE.step (w0 := w0) HB4.out rfl _ _ rfl _ _ rfl rfl _ [x] HV4.out HR4.out HN.out ?_
        intro v5 W5 ho5 hg5 hs5 hb5
        obtain ⟨W6, hput, H6, h6⟩ := HEE.out v5 W5 ho5 hg5 hs5
        have hS5 := HS2.out W5 hg5
        have HI6 := hide h6
        refine hK.out _ _ (fun _ => hS5) ?_
        clear hK K ho5 hg5 hs5 hb5 h6 HE HEE
        refine wpAnyE_ready (rs := [22]) (by kernel_rfl) (by simp) ?_
        refine AllReadyE.cons rfl (fun K hK => ?_) AllReadyE.nil
        go_simp
        refine hK.out _ _ (fun h => absurd rfl h) ?_
        clear hK K
        refine wpAnyE_done (by kernel_rfl) ?_ _
        go_wp2_with fail
        go_ret
        exact ⟨rfl, _, HI6.out⟩
      · rw [if_neg hr] at hseC
        rw [Bk.se_no (by rw [hseC]; decide), hseC]
        obtain ⟨b, ⟨⟨i, s, t⟩, en⟩⟩ := p
        obtain ⟨i', s', t'⟩ := r0
        simp only at *
        have heq := fun W => rq_equal W (⟨i', s', t'⟩ : Rq) ⟨i, s, t⟩
        rw [decide_eq_false hr] at heq
        simp only [rqV, Option.isSome_some] at K1
        clear h hlie hx hd hf hseC hT hen hr0 hst hheap hr
        go_enter Try.func14, Try.ntmps14
        go_upto_region 7 with (go_at_call 22; refine K1.out.mono ?_; rintro e w1 ⟨rfl, hb⟩; have HB1 := hide hb; clear hb)
        generalize hO : w1.alloc (.cells #[.int .i64 i', .int .i64 s', .int .i64 t'] 31) = W2 at *
        have HO := hide hO
        have HT2 : Hid (∀ q, (W2.drewN q).heap[b]? = some (.cells #[.int .i64 i, .int .i64 s, .int .i64 t, .int .i64 en] 67)) := hide (fun q => by rw [← HO.out]; exact (HC.out w1 HB1.out).1 _ q)
        have HI2 : Hid (∀ q, Its w0 (.book w0.heap.size g H S :: l) (W2.drewN q)) := hide (fun q => by rw [← HO.out]; exact (HC.out w1 HB1.out).2 _ q)
        have hx2 : W2.heap[w1.heap.size]? = some (.cells #[.int .i64 i', .int .i64 s', .int .i64 t'] 31) := by rw [← hO]; exact heap_new _ _
        have x0 : W2.cell? ⟨w1.heap.size, 0, none⟩ = some (.int .i64 i') := (cells_at hx2 0).1
        have x1 : W2.cell? ⟨w1.heap.size, 1, none⟩ = some (.int .i64 s') := (cells_at hx2 1).1
        have x2 : W2.cell? ⟨w1.heap.size, 2, none⟩ = some (.int .i64 t') := (cells_at hx2 2).1
        have y0 : W2.cell? ⟨b, 0, none⟩ = some (.int .i64 i) := (cells_at (HT2.out 0) 0).1
        have y1 : W2.cell? ⟨b, 1, none⟩ = some (.int .i64 s) := (cells_at (HT2.out 0) 1).1
        have y2 : W2.cell? ⟨b, 2, none⟩ = some (.int .i64 t) := (cells_at (HT2.out 0) 2).1
        clear hx2 hO c0 c1 c2 d0 d1 d2 d3 hl
        go_quiet (fail)
        go_wp2_with fail
        go_ret
        exact ⟨rfl, _, HI2.out _⟩
    · have e1 : S.seC x = 140 := by unfold Bk.seC; rw [hf]; simp [hen]
      rw [Bk.se_no (by rw [e1]; decide), e1]
      obtain ⟨b, e⟩ := p
      simp only at *
      have hbe : (e.en != 1) = true := bne_iff_ne.2 hen
      clear h hf e1 hT hlie hx d0 d1 d2 hen
      go_enter Try.func14, Try.ntmps14
      go_wp2_with fail
      go_ret
      exact ⟨rfl, _, HI.out⟩
end
end Go.Proofs.Ytfmpipihjnpimaa
