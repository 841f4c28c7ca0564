/- Inside: a channel looked at by going round it once. -/
import Derived.Test.YtdnkgfljkdbckaaGtb
namespace Go.Proofs.Ytdnkgfljkdbckaa
open Go.Conc Go.RowKit
set_option linter.unusedVariables false

/-- the channel's content, and the numbers that were told so far -/
structure Gin (w W : World) (c cr : Nat) (q : List Int) (v : Value) (ids : List Int) : Prop where
  frm : Frm (fun k => k = c) w W
  lt : c < w.heap.size
  ch : ∃ s r, W.heap[c]? = some (.chan cr (q.map (Value.int .i64)).toArray false s r false)
  own : intE.Own W w.heap.size v ids
theorem ext1 (v : Value) (buf : List Value) : (v :: buf).toArray.extract 1 (v :: buf).toArray.size = buf.toArray := by simp
theorem Gin.chan {w W : World} {c cr : Nat} {q : List Int} {v : Value} {ids : List Int} (h : Gin w W c cr q v ids) (q' : List Int) (s r : Nat) : Gin w (W.setChan c cr (q'.map (Value.int .i64)).toArray false s r false) c cr q' v ids := by
  obtain ⟨s0, r0, hc⟩ := h.ch
  have st : ∀ k, k ≠ c → (W.setChan c cr (q'.map (Value.int .i64)).toArray false s r false).heap[k]? = W.heap[k]? := fun k hk => by simp [World.setChan, hk.symm]
  refine ⟨h.frm.trans ⟨rfl, rfl, rfl, by simp [World.setChan], fun k _ hk => st k hk⟩, h.lt, ⟨s, r, heap_setChan W c _ _ false s r false (heap_lt hc)⟩, own_stay h.own fun k hk _ => st k (fun e => ?_)⟩
  obtain ⟨cur, hh⟩ := own_type h.own k hk
  rw [e, hc] at hh; cases hh
theorem Gin.alloc {w W : World} {c cr : Nat} {q : List Int} {v : Value} {ids : List Int} (h : Gin w W c cr q v ids) (o : Obj) : Gin w (W.alloc o) c cr q v ids := by
  obtain ⟨s0, r0, hc⟩ := h.ch
  exact ⟨h.frm.trans (Frm.of_below (below_new W o)), h.lt, ⟨s0, r0, by rw [Below.heap_alloc _ _ _ (heap_lt hc)]; exact hc⟩, h.own.keep (below_new W o)⟩
theorem Gin.grow {w W W' : World} {c cr : Nat} {q : List Int} {v v' : Value} {ids ids' : List Int} (h : Gin w W c cr q v ids) (ho : intE.Own W' w.heap.size v' ids') (hg : W.grownBy W' v.ownBlock) : Gin w W' c cr q v' ids' := by
  obtain ⟨s0, r0, hc⟩ := h.ch
  refine ⟨h.frm.trans' (Frm.of_grown hg) (fun k hk e => ?_), h.lt, ⟨s0, r0, ?_⟩, ho⟩
  · have := h.own.ge k e; omega
  · rw [hg.block c (heap_lt hc) (fun e => ?_)]
    · exact hc
    · have := h.own.ge c e.symm
      have := h.lt
      omega

set_option maxRecDepth 100000 in
set_option maxHeartbeats 4000000 in
theorem inside_walk {w : World} {B g c : Nat} {vw : Value} {S : Gt} (H : Gat w B g c vw S) : Calls Try.prog 20 #[.pointer (some ⟨g, 0, none⟩)] w fun e w' => ∃ v, e = .returned v ∧ Gin w w' c S.cr S.ins v S.ins := by
  obtain ⟨s0, r0, hc0⟩ := H.ch
  have hgc : g ≠ c := H.ne.1
  have hglt : g < w.heap.size := heap_lt H.box
  have hC : Hid (∀ W, Frm (fun k => k = c) w W → W.cell? ⟨g, 1, none⟩ = some (.chan (some c))) := hide (fun W hf => by
    have hb : W.heap[g]? = _ := (hf.block g hglt hgc).trans H.box
    exact (cells_at hb 1).1)
  have i0 := H.ok.c1
  have i1 := H.ok.il
  obtain ⟨n, hn⟩ : ∃ n, S.ins.length = n := ⟨_, rfl⟩
  have hr : ∀ ty, (Builtin.len_ #[51] ty #[.chan (some c)]).run Try.prog w = .ok (.int .i64 n) w := by
    intro ty
    rw [run_len_chan 51 ty Try.underlying51 hc0]
    simp [goInt, hn]
  have H0 : Hid (Gin w w c S.cr (S.ins.drop 0 ++ S.ins.take 0) (.slice none 0 0) (S.ins.take 0)) := hide ⟨Frm.refl _ _, heap_lt hc0, ⟨s0, r0, by simpa using hc0⟩, by rw [List.take_zero]; exact El.Own.nil _ _ _⟩
  obtain ⟨l, hl⟩ : ∃ l, S.ins = l := ⟨_, rfl⟩
  obtain ⟨cr, hcr⟩ : ∃ cr, S.cr = cr := ⟨_, rfl⟩
  rw [hl] at hn H0 ⊢
  rw [hcr] at H0 ⊢
  have Hn := hide hn
  have hle : n ≤ cr := by rw [← hcr, ← hn, ← hl]; exact i1
  have h16 : n ≤ 16 := by omega
  have c1 := hC.out w (Frm.refl _ _)
  clear H hc0 hn hl hcr i0 i1
  refine calls_lone Try.func20 rfl (fun cs => ?_) (fun w' h => by obtain ⟨_, h, _⟩ := h; cases h)
  simp only [Try.ntmps20, List.size_toArray, List.length_cons, List.length_nil, Nat.reduceAdd, Nat.reduceSub, Array.replicate_succ, Array.replicate_zero, List.push_toArray, List.append_toArray, List.nil_append, List.cons_append]
  refine LoneTo.step step_seq ?_
  refine loneTo_wp ?_
  go_wp2_with fail
  simp only [After]
  refine LoneTo.step step_seq ?_
  refine loneTo_wp ?_
  go_wp2_with fail
  simp only [After]
  refine LoneTo.step step_seq ?_
  refine LoneTo.step step_seq ?_
  refine loneTo_wp ?_
  go_wp2_with fail
  simp only [After]
  refine LoneTo.step step_block ?_
  refine loneTo_loop (fun a w' => ∃ u4 u5 u6 u7 u8 u11 u12 u13 u14 u15 u16 u17 u18 u19 u20 u21 u22 u23 u24 u25 u26 u27, ∃ v, ∃ k : Nat, a = { tmps := #[.pointer (some ⟨g, 0, none⟩), undef, .slice none 0 0, v, u4, u5, u6, u7, u8, .int .i64 n, .int .i64 k, u11, u12, u13, u14, u15, u16, u17, u18, u19, u20, u21, u22, u23, u24, u25, u26, u27], defers := [] } ∧ k ≤ n ∧ Gin w w' c cr (l.drop k ++ l.take k) v (l.take k)) (fun a _ => n - (intOf (a.tmps.getD 10 undef)).toNat) ?_ ?_
  · exact ⟨_, _, _, _, _, _, _, _, _, _, _, _, _, _, _, _, _, _, _, _, _, _, _, 0, rfl, Nat.zero_le _, H0.out⟩
  rintro a W ⟨u4, u5, u6, u7, u8, u11, u12, u13, u14, u15, u16, u17, u18, u19, u20, u21, u22, u23, u24, u25, u26, u27, v, k, rfl, hk, HG⟩ next
  have HN := hide next
  clear next
  by_cases hlt : k < n
  · obtain ⟨x, hx⟩ : ∃ x, l[k]? = some x := ⟨_, List.getElem?_eq_getElem (by rw [Hn.out]; exact hlt)⟩
    obtain ⟨e1, e2⟩ := rot l k x hx
    have e3 : l.take k ++ [x] = l.take (k + 1) := by rw [List.take_add_one, hx]; rfl
    rw [e1] at HG
    obtain ⟨q, hq⟩ : ∃ q, l.drop (k + 1) ++ l.take k = q := ⟨_, rfl⟩
    rw [hq] at e2 HG
    have hql : q.length < cr := by
      have h1 : q.length = n - (k + 1) + k := by rw [← hq, List.length_append, List.length_drop, List.length_take, Hn.out]; omega
      omega
    obtain ⟨s1, r1, hc1⟩ := HG.ch
    have k1 := hC.out W HG.frm
    have HG1 := HG.chan q s1 (r1 + 1)
    obtain ⟨W1, hW1⟩ : ∃ W1, W.setChan c cr (q.map (Value.int .i64)).toArray false s1 (r1 + 1) false = W1 := ⟨_, rfl⟩
    rw [hW1] at HG1
    have eb : ((x :: q).map (Value.int .i64)).toArray.extract 1 ((x :: q).map (Value.int .i64)).toArray.size = (q.map (Value.int .i64)).toArray := ext1 _ _
    have ev : ((x :: q).map (Value.int .i64)).toArray.getD 0 undef = .int .i64 x := by simp
    have HX1 := hide HG1
    have HX : Hid (intE.Own (W1.alloc (.cells #[.int .i64 x] 3)) w.heap.size v (l.take k) ∧ w.heap.size ≤ (W1.alloc (.cells #[.int .i64 x] 3)).heap.size) := hide ⟨(HG1.alloc _).own, (HG1.alloc _).frm.size⟩
    have HR : Hid (intE.Rd (W1.alloc (.cells #[.int .i64 x] 3)) (.slice (some ⟨W1.heap.size, 0, none⟩) 1 1) [x]) := hide (int_new W1 x _ rfl)
    have HL : Hid ((l.take k).length + [x].length ≤ 1000000) := hide (by have := Hn.out; rw [List.length_take]; simp; omega)
    have HE2 := hide e2
    have HE3 := hide e3
    have HQ := hide hql
    have j0 : (k : Int) < (n : Int) := by omega
    have j1 : (k : Int) ≤ 16 := by omega
    clear HG HG1 hx e1 e2 e3 hq hql
    refine LoneTo.step step_seq ?_
    refine loneTo_wp ?_
    go_wp2_with fail
    simp only [After]
    refine LoneTo.step step_seq ?_
    refine loneTo_wp ?_
    go_wp2_with fail
    simp only [After]
    refine LoneTo.step step_seq ?_
    refine LoneTo.step step_block ?_
    refine LoneTo.step step_seq ?_
    refine loneTo_begin [0, 1, 2, 3, 4, 5] (by rfl) ?_
    refine loneTo_val (v := .pointer (some ⟨g, 0, none⟩)) (w' := W) rfl (by rfl) (by simp [go_sem, execOp, Act.eval]) ?_
    refine loneTo_val (v := .pointer (some ⟨g, 0, none⟩)) (w' := W) rfl (by rfl) (by simp [go_sem, execOp, Act.eval, Act.put]) ?_
    refine loneTo_val (v := .pointer (some ⟨g, 1, none⟩)) (w' := W) rfl (by rfl) (by simp [go_sem, execOp, Act.eval, Act.put]) ?_
    refine loneTo_val (v := .chan (some c)) (w' := W) rfl (by rfl) (by simp [go_sem, execOp, Act.eval, Act.put, k1]) ?_
    refine loneTo_talk rfl (by rfl) (by simp) (by simp [go_sem, execOp, Act.eval, Act.put]; rfl) (fun fr es h => step_lone_recv_buf false h hc1 (by simp)) ?_
    rw [eb, hW1]
    have ev' : got false (((x :: q).map (Value.int .i64)).toArray.getD 0 undef) true = .int .i64 x := by rw [ev]; rfl
    rw [ev']
    refine loneTo_val (v := .int .i64 x) (w' := W1) rfl (by rfl) (by simp [go_sem, execOp, Act.eval, Act.put]) ?_
    refine LoneTo.step step_region_end ?_
    simp only [List.getElem_toArray, List.getElem_cons_zero, List.getElem_cons_succ, Act.put, List.setIfInBounds_toArray, List.set_cons_zero, List.set_cons_succ]
    refine LoneTo.step step_seq ?_
    refine loneTo_wp ?_
    clear ev ev' eb k1 hc1 hW1
    go_wp2_with (at_builtin; refine intE.wpB (B := w.heap.size) HX.out.2 (by rfl) _ _ rfl _ _ rfl rfl (l.take k) [x] HX.out.1 HR.out HL.out ?_; intro v3 W3 ho hg hs; have HG3 := hide ((HX1.out.alloc _).grow ho hg); rw [HE3.out] at HG3; clear ho hg hs)
    simp only [After]
    obtain ⟨s3, r3, hc3⟩ := HG3.out.ch
    have k3 := hC.out W3 HG3.out.frm
    have HG4 := hide (HG3.out.chan (q ++ [x]) (s3 + 1) r3)
    have hq3 : (q.map (Value.int .i64)).toArray.size < cr := by simpa using HQ.out
    have eb3 : (q.map (Value.int .i64)).toArray.push (.int .i64 x) = ((q ++ [x]).map (Value.int .i64)).toArray := by simp
    obtain ⟨W4, hW4⟩ : ∃ W4, W3.setChan c cr ((q ++ [x]).map (Value.int .i64)).toArray false (s3 + 1) r3 false = W4 := ⟨_, rfl⟩
    rw [hW4, HE2.out] at HG4
    refine loneTo_begin [0, 1, 2, 3, 4, 5] (by rfl) ?_
    refine loneTo_val (v := .pointer (some ⟨g, 0, none⟩)) (w' := W3) rfl (by rfl) (by simp [go_sem, execOp, Act.eval]) ?_
    refine loneTo_val (v := .pointer (some ⟨g, 0, none⟩)) (w' := W3) rfl (by rfl) (by simp [go_sem, execOp, Act.eval, Act.put]) ?_
    refine loneTo_val (v := .pointer (some ⟨g, 1, none⟩)) (w' := W3) rfl (by rfl) (by simp [go_sem, execOp, Act.eval, Act.put]) ?_
    refine loneTo_val (v := .chan (some c)) (w' := W3) rfl (by rfl) (by simp [go_sem, execOp, Act.eval, Act.put, k3]) ?_
    refine loneTo_val (v := .int .i64 x) (w' := W3) rfl (by rfl) (by simp [go_sem, execOp, Act.eval, Act.put]) ?_
    refine loneTo_talk rfl (by rfl) (by simp) (by simp [go_sem, execOp, Act.eval, Act.put]; rfl) (fun fr es h => step_lone_send_room h hc3 hq3) ?_
    rw [eb3, hW4]
    refine LoneTo.step step_region_end ?_
    simp only [List.getElem_toArray, List.getElem_cons_zero, List.getElem_cons_succ, Act.put, List.setIfInBounds_toArray, List.set_cons_zero, List.set_cons_succ]
    refine LoneTo.step step_inBlock ?_
    clear eb3 k3 hc3 hW4 hq3
    refine loneTo_wp ?_
    go_wp2_with fail
    simp only [After]
    refine HN.out _ _ ⟨_, _, _, _, _, _, _, _, _, _, _, _, _, _, _, _, _, _, _, _, _, _, _, k + 1, by rfl, by omega, HG4.out⟩ ?_
    simp [intOf]
    omega
  · obtain rfl : k = n := by omega
    have j1 : ¬ (k : Int) < (k : Int) := by omega
    have HF : Hid (Gin w W c cr l v l) := hide (by
      have := HG
      rw [← Hn.out, List.drop_length, List.take_length, List.nil_append] at this
      exact this)
    clear HG HN
    refine LoneTo.step step_seq ?_
    refine loneTo_wp ?_
    go_wp2_with fail
    simp only [After]
    refine LoneTo.step step_seq ?_
    refine loneTo_wp ?_
    go_wp2_with fail
    simp only [After]
    refine ⟨_, rfl, ?_⟩
    refine LoneTo.step step_seq ?_
    refine loneTo_wp ?_
    go_wp2_with fail
    simp only [After]
    refine loneTo_wp ?_
    go_wp2_with fail
    simp only [After]
    refine ret_lone Try.func20 rfl rfl ?_
    go_ret
    exact ⟨_, rfl, HF.out⟩

theorem inside_any {w : World} {B g c : Nat} {vw : Value} {S : Gt} (H : Gat w B g c vw S) : Calls Try.prog 20 #[.pointer (some ⟨g, 0, none⟩)] w fun e w' => ∃ a' c', e = .returned (.slice a' S.ins.length c') ∧ intE.Own w' w.heap.size (.slice a' S.ins.length c') S.ins ∧ Gat w' B g c vw S ∧ Frm (fun k => k = c) w w' := by
  refine (inside_walk H).mono ?_
  rintro e w' ⟨v, rfl, hG⟩
  obtain ⟨a', c', rfl⟩ := hG.own.rd.form
  obtain ⟨n1, n2, n3⟩ := H.ne
  refine ⟨_, _, rfl, hG.own, ⟨H.ok, H.bg, H.bc, (hG.frm.block g (heap_lt H.box) n1).trans H.box, own_stay H.row fun k hk hlt => hG.frm.block k hlt (fun e => n3 (e ▸ hk)), hG.ch⟩, hG.frm⟩
end Go.Proofs.Ytdnkgfljkdbckaa
