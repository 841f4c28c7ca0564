/- Accept, Arrive, Leave. -/
import Derived.Test.YtdnkgfljkdbckaaGtd
namespace Go.Proofs.Ytdnkgfljkdbckaa
open Go.Conc Go.RowKit
set_option linter.unusedVariables false

theorem len_chan {w : World} {B g c : Nat} {vw : Value} {S : Gt} (H : Gat w B g c vw S) (q : Nat) (ty : TypeId) : (Builtin.len_ #[51] ty #[.chan (some c)]).run Try.prog (w.drewN q) = .ok (.int .i64 S.ins.length) (w.drewN q) := by
  obtain ⟨s, r, hc⟩ := H.ch
  have hc' : (w.drewN q).heap[c]? = _ := hc
  rw [run_len_chan 51 ty Try.underlying51 hc']
  simp [goInt]

set_option maxRecDepth 100000 in
set_option maxHeartbeats 1000000 in
theorem accept_any {w : World} {B g c : Nat} {vw : Value} {S : Gt} (H : Gat w B g c vw S) (x : Int) : Calls Try.prog 11 #[.pointer (some ⟨g, 0, none⟩), .int .i64 x] w fun e w' =>
    e = .returned (.int .i64 (S.acC x)) ∧ Gaf w w' B g c vw (S.ac x) := by
  have KF := hide (find_any H x)
  by_cases hx : x ∈ S.wt ∨ x ∈ S.ins
  · have e1 : S.acC x = 2 := if_pos hx
    rw [Gt.ac_no (by rw [e1]; decide), e1]
    obtain ⟨y, e5, e6⟩ : ∃ y, S.fc x = y ∧ (y != 4) = true := by
      refine ⟨_, rfl, ?_⟩
      unfold Gt.fc
      by_cases hw : x ∈ S.wt
      · rw [if_pos hw]; rfl
      · rw [if_neg hw, if_pos (by simpa [hw] using hx)]; rfl
    rw [e5] at KF
    clear H e1 hx e5
    generalize S.fp x = i at *
    go_enter Try.func11, Try.ntmps11
    go_wp2_with (go_at_call 24; refine KF.out.mono ?_; rintro e w2 ⟨rfl, hg, hf⟩; have HG2 := hide hg; have HF2 := hide hf; clear hg hf)
    go_ret
    exact ⟨rfl, Gaf.same HG2.out HF2.out⟩
  have hx1 : x ∉ S.wt := fun h => hx (.inl h)
  have hx2 : x ∉ S.ins := fun h => hx (.inr h)
  have e3 : S.fp x = 0 := if_neg hx1
  have e4 : S.fc x = 4 := by unfold Gt.fc; rw [if_neg hx1, if_neg hx2]
  rw [e3, e4] at KF
  have HL : Hid (∀ W q ty, Gat W B g c vw S → (Builtin.len_ #[51] ty #[.chan (some c)]).run Try.prog (W.drewN q) = .ok (.int .i64 S.ins.length) (W.drewN q)) := hide (fun W q ty h => len_chan h q ty)
  obtain ⟨a, p, rfl⟩ := H.form
  have hok := H.ok
  have hm := hok.ml
  obtain ⟨n, hn⟩ : ∃ n, S.wt.length = n := ⟨_, rfl⟩
  obtain ⟨m, hmm⟩ : ∃ m, S.ins.length = m := ⟨_, rfl⟩
  by_cases hf : 64 ≤ S.wt.length + S.ins.length
  · have e1 : S.acC x = 5 := by unfold Gt.acC; rw [if_neg hx, if_pos hf]
    rw [Gt.ac_no (by rw [e1]; decide), e1]
    rw [hn] at hf hm
    rw [hmm] at hf hm HL
    have j0 : (64 : Int) ≤ (n : Int) + (m : Int) := by omega
    have j1 : (n : Int) + (m : Int) ≤ 64 := by omega
    have j2 : wrap64 ((n : Int) + (m : Int)) = (n : Int) + (m : Int) := by unfold wrap64; omega
    rw [hn] at KF HL ⊢
    clear H e1 hx e3 e4 hx1 hx2 hf hm hok
    have Hn := hide hn
    clear hn hmm
    go_enter Try.func11, Try.ntmps11
    go_upto_region 4 with (go_at_call 24; refine KF.out.mono ?_; rintro e w2 ⟨rfl, hg, hf⟩; have HG2 := hide hg; have HF2 := hide hf; clear hg hf; obtain ⟨c0, c1, c2⟩ := HG2.out.cells)
    have hl := fun q ty => HL.out w2 q ty HG2.out
    go_quiet (fail)
    go_wp2_with fail
    go_ret
    exact ⟨rfl, Gaf.same (HG2.out.keep (below_drew _ _)) (HF2.out.drew _)⟩
  · have e1 : S.acC x = 0 := Gt.acC_yes hx1 hx2 (by omega)
    have HOk : Hid (Gt.Ok ⟨S.cr, S.wt ++ [x], S.ins⟩) := hide (by have := hok.ac x; rw [Gt.ac_yes e1] at this; exact this)
    rw [Gt.ac_yes e1, e1]
    have HN : Hid (S.wt.length + [x].length ≤ 1000000) := hide (by simp; omega)
    rw [hn] at hf hm
    rw [hmm] at hf hm HL
    have j0 : (n : Int) + (m : Int) < 64 := by omega
    have j1 : (0 : Int) ≤ (n : Int) + (m : Int) := by omega
    have j2 : wrap64 ((n : Int) + (m : Int)) = (n : Int) + (m : Int) := by unfold wrap64; omega
    have HR : Hid (∀ W v' w', Gar W B g c (.slice a n p) S → intE.Own w' B v' (S.wt ++ [x]) → W.grownBy w' (Value.slice a n p).ownBlock → (v'.ownBlock = (Value.slice a n p).ownBlock ∨ v'.ownBlock = some W.heap.size) → Gaf W (w'.setCell ⟨g, 0, none⟩ v') B g c (.slice a n p) ⟨S.cr, S.wt ++ [x], S.ins⟩ ∧ w'.cell? ⟨g, 0, none⟩ = some (.slice a n p) ∧ (∀ i, w'.frozen? ⟨g, i, none⟩ = false)) := hide (fun W v' w' hW ho hg hb => by
      obtain ⟨h1, h2, h3, h4⟩ := hW.put ho hg
      refine ⟨⟨HOk.out, v', h1, h2, fun k e => ?_⟩, h3, h4⟩
      rcases hb with q | q
      · exact .inl (q ▸ e)
      · rw [q] at e; cases e; exact .inr (Nat.le_refl _))
    rw [hn] at KF HL ⊢
    clear H e1 hx e3 e4 hx1 hx2 hf hm hok hmm
    have Hn := hide hn
    clear hn
    go_enter Try.func11, Try.ntmps11
    go_upto_region 4 with (go_at_call 24; refine KF.out.mono ?_; rintro e w2 ⟨rfl, hg, hf⟩; have HG2 := hide hg; have HF2 := hide hf; clear hg hf; obtain ⟨c0, c1, c2⟩ := HG2.out.cells)
    have hl := fun q ty => HL.out w2 q ty HG2.out
    go_quiet (fail)
    have HG3 := hide (HG2.out.keep (below_drew w2 nq))
    have HF3 := hide (HF2.out.drew nq)
    clear HG2 HF2 c0 c1 c2 hl
    generalize w2.drewN nq = w3 at *
    obtain ⟨c0, c1, c2⟩ := HG3.out.cells
    have HG4 := hide (HG3.out.keep (below_new w3 (.cells #[.int .i64 x] 3)))
    have HB4 : Hid (B ≤ (w3.alloc (.cells #[.int .i64 x] 3)).heap.size) := hide (by have := HG4.out.bg; have := heap_lt HG4.out.box; omega)
    have HR4 : Hid (intE.Rd (w3.alloc (.cells #[.int .i64 x] 3)) (.slice (some ⟨w3.heap.size, 0, none⟩) 1 1) [x]) := hide (int_new w3 x _ rfl)
    have HF4 : Hid (Frm (gf g c (.slice a n p)) w (w3.alloc (.cells #[.int .i64 x] 3))) := hide (HF3.out.trans (Frm.of_below (below_new w3 _)))
    go_wp2_with (at_builtin; refine intE.wpB (B := B) HB4.out (by rfl) _ _ rfl _ _ rfl rfl S.wt [x] HG4.out.row HR4.out HN.out ?_; intro v5 w5 ho hg hs; obtain ⟨a5, n5, hf5⟩ := ho.rd.form; subst hf5; obtain ⟨t1, x4, x5⟩ := HR.out _ _ _ HG4.out.raw ho hg hs; have HT1 := hide (Gaf.after HF4.out t1); generalize (S.wt ++ [x]).length = n7 at *; clear ho hg hs t1)
    go_ret
    exact ⟨rfl, HT1.out⟩

set_option maxRecDepth 100000 in
set_option maxHeartbeats 1000000 in
theorem leave_any {w : World} {B g c : Nat} {vw : Value} {S : Gt} (H : Gat w B g c vw S) : Calls Try.prog 17 #[.pointer (some ⟨g, 0, none⟩)] w fun e w' =>
    e = .returned (.tuple #[.int .i64 S.leV, .int .i64 S.leC]) ∧ Gaf w w' B g c vw S.le := by
  obtain ⟨c0, c1, c2⟩ := H.cells
  obtain ⟨s, r, hc⟩ := H.ch
  have HG := hide H
  cases hi : S.ins with
  | nil =>
    have e1 : S.leV = 0 := by unfold Gt.leV; rw [hi]; rfl
    have e2 : S.leC = 4 := if_pos hi
    have e3 : S.le = S := by
      obtain ⟨cr, wt, ins⟩ := S
      simp only at hi
      subst hi
      rfl
    rw [e1, e2, e3]
    have hc0 : w.heap[c]? = some (.chan S.cr #[] false s r false) := by rw [hi] at hc; exact hc
    generalize S.cr = cap at *
    clear H hc hi e1 e2 e3 c0 c2
    refine calls_lone Try.func17 rfl (fun cs => ?_) (fun w' h => by cases h.1)
    simp only [Try.ntmps17, List.size_toArray, List.length_cons, List.length_nil, Nat.reduceAdd, Nat.reduceSub, Array.replicate_succ, Array.replicate_zero, List.push_toArray, List.append_toArray, List.nil_append, List.cons_append]
    refine LoneTo.step step_seq ?_
    refine loneTo_wp ?_
    go_wp2_with fail
    simp only [After]
    refine LoneTo.step step_seq ?_
    refine loneTo_wp ?_
    go_wp2_with fail
    simp only [After]
    refine LoneTo.step step_seq ?_
    refine loneTo_comm (by rfl) (by simp) (by simp [go_sem, execOp, Act.eval]; rfl) (fun fr es h => step_lone_select_default h hc0) ?_
    simp only [goInt]
    go_wp2_with fail
    simp only [After]
    refine loneTo_wp ?_
    go_wp2_with fail
    simp only [After]
    refine ret_lone Try.func17 rfl rfl ?_
    go_ret2
    exact ⟨rfl, Gaf.same HG.out (Frm.refl _ _)⟩
  | cons x q =>
    have e1 : S.leV = x := by unfold Gt.leV; rw [hi]; rfl
    have e2 : S.leC = 0 := if_neg (by rw [hi]; simp)
    have e3 : S.le = ⟨S.cr, S.wt, q⟩ := by unfold Gt.le; rw [hi]; rfl
    have hok : Gt.Ok ⟨S.cr, S.wt, q⟩ := e3 ▸ H.ok.le
    rw [e1, e2, e3]
    have hc0 : w.heap[c]? = some (.chan S.cr (Value.int .i64 x :: q.map (Value.int .i64)).toArray false s r false) := by rw [hi] at hc; exact hc
    have HG2 := hide (Gaf.same (HG.out.chan q hok s (r + 1)) (frm_chan w g c vw S.cr (q.map (Value.int .i64)).toArray s (r + 1)))
    generalize S.cr = cap at *
    clear H hc hi e1 e2 e3 c0 c2 hok
    refine calls_lone Try.func17 rfl (fun cs => ?_) (fun w' h => by cases h.1)
    simp only [Try.ntmps17, List.size_toArray, List.length_cons, List.length_nil, Nat.reduceAdd, Nat.reduceSub, Array.replicate_succ, Array.replicate_zero, List.push_toArray, List.append_toArray, List.nil_append, List.cons_append]
    refine LoneTo.step step_seq ?_
    refine loneTo_wp ?_
    go_wp2_with fail
    simp only [After]
    refine LoneTo.step step_seq ?_
    refine loneTo_wp ?_
    go_wp2_with fail
    simp only [After]
    refine LoneTo.step step_seq ?_
    refine loneTo_comm (by rfl) (by simp) (by simp [go_sem, execOp, Act.eval]; rfl) (fun fr es h => step_lone_select_recv_buf h hc0 (by simp)) ?_
    have e1 : (Value.int .i64 x :: q.map (Value.int .i64)).toArray.getD 0 undef = .int .i64 x := by simp
    rw [e1, ext1]
    generalize w.setChan c cap (q.map (Value.int .i64)).toArray false s (r + 1) false = W1 at *
    simp only [goInt]
    go_wp2_with fail
    simp only [After]
    refine loneTo_wp ?_
    go_wp2_with fail
    simp only [After]
    refine ret_lone Try.func17 rfl rfl ?_
    go_ret2
    exact ⟨rfl, HG2.out⟩
set_option maxRecDepth 100000 in
set_option maxHeartbeats 1000000 in
theorem arrive_any {w : World} {B g c : Nat} {vw : Value} {S : Gt} (H : Gat w B g c vw S) (x : Int) : Calls Try.prog 15 #[.pointer (some ⟨g, 0, none⟩), .int .i64 x] w fun e w' =>
    e = .returned (.int .i64 (S.arC x)) ∧ Gaf w w' B g c vw (S.ar x) := by
  have KF := hide (find_any H x)
  by_cases hx : x ∈ S.wt
  case neg =>
    obtain ⟨y, e1, e5, e6, e7⟩ : ∃ y, S.arC x = y ∧ S.fc x = y ∧ (y != 0) = true ∧ y ≠ 0 := by
      refine ⟨if x ∈ S.ins then 140 else 4, if_neg hx, if_neg hx, ?_⟩
      by_cases hi : x ∈ S.ins
      · rw [if_pos hi]; exact ⟨rfl, by decide⟩
      · rw [if_neg hi]; exact ⟨rfl, by decide⟩
    rw [Gt.ar_no (by rw [e1]; exact e7), e1]
    rw [e5] at KF
    clear H e1 hx e5 e7
    generalize S.fp x = i at *
    go_enter Try.func15, Try.ntmps15
    go_wp2_with (go_at_call 24; refine KF.out.mono ?_; rintro e w2 ⟨rfl, hg, hf⟩; have HG2 := hide hg; have HF2 := hide hf; clear hg hf)
    go_ret
    exact ⟨rfl, Gaf.same HG2.out HF2.out⟩
  have e3 : S.fp x = S.wt.idxOf x := if_pos hx
  have e4 : S.fc x = 0 := if_pos hx
  rw [e3, e4] at KF
  by_cases h0 : S.wt.idxOf x = 0
  case neg =>
    have e1 : S.arC x = 110 := by unfold Gt.arC; rw [if_pos hx, if_neg h0]
    rw [Gt.ar_no (by rw [e1]; decide), e1]
    have j0 : (0 : Int) < (S.wt.idxOf x : Int) := by omega
    clear H e1 hx e3 e4 h0
    generalize S.wt.idxOf x = i at *
    go_enter Try.func15, Try.ntmps15
    go_wp2_with (go_at_call 24; refine KF.out.mono ?_; rintro e w2 ⟨rfl, hg, hf⟩; have HG2 := hide hg; have HF2 := hide hf; clear hg hf)
    go_ret
    exact ⟨rfl, Gaf.same HG2.out HF2.out⟩
  rw [h0] at KF
  by_cases hf : S.cr ≤ S.ins.length
  · have e1 : S.arC x = 5 := by unfold Gt.arC; rw [if_pos hx, if_pos h0, if_pos hf]
    rw [Gt.ar_no (by rw [e1]; decide), e1]
    have hfull : S.cr ≤ (S.ins.map (Value.int .i64)).toArray.size := by simpa using hf
    clear H e1 hx e3 e4 h0 hf
    refine calls_lone Try.func15 rfl (fun cs => ?_) (fun w' h => by cases h.1)
    simp only [Try.ntmps15, List.size_toArray, List.length_cons, List.length_nil, Nat.reduceAdd, Nat.reduceSub, Array.replicate_succ, Array.replicate_zero, List.push_toArray, List.append_toArray, List.nil_append, List.cons_append]
    refine LoneTo.step step_seq ?_
    refine loneTo_wp ?_
    go_wp2_with fail
    simp only [After]
    refine LoneTo.step step_seq ?_
    refine loneTo_wp ?_
    go_wp2_with (go_at_call 24; refine KF.out.mono ?_; rintro e w2 ⟨rfl, hg, hf⟩; have HG2 := hide hg; have HF2 := hide hf; clear hg hf)
    simp only [After]
    obtain ⟨c0, c1, c2⟩ := HG2.out.cells
    obtain ⟨s, r, hc⟩ := HG2.out.ch
    refine LoneTo.step step_seq ?_
    refine loneTo_wp ?_
    go_wp2_with fail
    simp only [After]
    refine LoneTo.step step_seq ?_
    refine loneTo_wp ?_
    go_wp2_with fail
    simp only [After]
    refine LoneTo.step step_seq ?_
    refine loneTo_wp ?_
    go_wp2_with fail
    simp only [After]
    refine LoneTo.step step_seq ?_
    refine loneTo_comm (by rfl) (by simp) (by simp [go_sem, execOp, Act.eval]; rfl) (fun fr es h => step_lone_select_send_full h hc hfull) ?_
    simp only [goInt]
    go_wp2_with fail
    simp only [After]
    refine loneTo_wp ?_
    go_wp2_with fail
    simp only [After]
    refine ret_lone Try.func15 rfl rfl ?_
    go_ret
    exact ⟨rfl, Gaf.same HG2.out HF2.out⟩
  · have e1 : S.arC x = 0 := by unfold Gt.arC; rw [if_pos hx, if_pos h0, if_neg hf]
    have hroom : (S.ins.map (Value.int .i64)).toArray.size < S.cr := by simpa using hf
    have hm := H.ok.ml
    have KR : Hid (∀ W, Gar W B g c vw ⟨S.cr, S.wt, S.ins ++ [x]⟩ → Calls Try.prog 26 #[.pointer (some ⟨g, 0, none⟩), .int .i64 0] W fun e w' => e = .returned (.tuple #[]) ∧ Gaf W w' B g c vw (S.ar x)) := hide (fun W h => by
      have e9 : Gt.ca ⟨S.cr, S.wt, S.ins ++ [x]⟩ x = S.ar x := by rw [Gt.ar_yes e1]; unfold Gt.ca; rw [erase_head hx h0]
      have h' := erase_any h (by show S.wt.length ≤ 1000; omega) x hx (by rw [e9]; exact H.ok.ar x)
      rw [e9] at h'
      rw [show ((⟨S.cr, S.wt, S.ins ++ [x]⟩ : Gt).wt.idxOf x : Int) = 0 by rw [show (⟨S.cr, S.wt, S.ins ++ [x]⟩ : Gt).wt = S.wt from rfl, h0]; rfl] at h'
      exact h')
    rw [e1]
    have eb : (S.ins.map (Value.int .i64)).toArray.push (.int .i64 x) = ((S.ins ++ [x]).map (Value.int .i64)).toArray := by simp
    clear H e1 hx e3 e4 h0 hf hm
    refine calls_lone Try.func15 rfl (fun cs => ?_) (fun w' h => by cases h.1)
    simp only [Try.ntmps15, List.size_toArray, List.length_cons, List.length_nil, Nat.reduceAdd, Nat.reduceSub, Array.replicate_succ, Array.replicate_zero, List.push_toArray, List.append_toArray, List.nil_append, List.cons_append]
    refine LoneTo.step step_seq ?_
    refine loneTo_wp ?_
    go_wp2_with fail
    simp only [After]
    refine LoneTo.step step_seq ?_
    refine loneTo_wp ?_
    go_wp2_with (go_at_call 24; refine KF.out.mono ?_; rintro e w2 ⟨rfl, hg, hf⟩; have HG2 := hide hg; have HF2 := hide hf; clear hg hf)
    simp only [After]
    obtain ⟨c0, c1, c2⟩ := HG2.out.cells
    obtain ⟨s, r, hc⟩ := HG2.out.ch
    refine LoneTo.step step_seq ?_
    refine loneTo_wp ?_
    go_wp2_with fail
    simp only [After]
    refine LoneTo.step step_seq ?_
    refine loneTo_wp ?_
    go_wp2_with fail
    simp only [After]
    refine LoneTo.step step_seq ?_
    refine loneTo_wp ?_
    go_wp2_with fail
    simp only [After]
    refine LoneTo.step step_seq ?_
    refine loneTo_comm (by rfl) (by simp) (by simp [go_sem, execOp, Act.eval]; rfl) (fun fr es h => step_lone_select_send_room h hc hroom) ?_
    rw [eb]
    have HG3 := hide (HG2.out.raw.chan (S.ins ++ [x]) (s + 1) r)
    have HF3 := hide (HF2.out.trans (frm_chan w2 g c vw S.cr ((S.ins ++ [x]).map (Value.int .i64)).toArray (s + 1) r))
    generalize w2.setChan c S.cr ((S.ins ++ [x]).map (Value.int .i64)).toArray false (s + 1) r false = W1 at *
    clear hc eb hroom c0 c1 c2
    simp only [goInt]
    go_wp2_with fail
    simp only [After]
    refine loneTo_wp ?_
    go_wp2_with (go_at_call 26; refine (KR.out _ HG3.out).mono ?_; rintro e w3 ⟨rfl, hg⟩; have HG4 := hide (Gaf.after HF3.out hg); clear hg)
    simp only [After]
    refine ret_lone Try.func15 rfl rfl ?_
    go_ret
    exact ⟨rfl, HG4.out⟩
end Go.Proofs.Ytdnkgfljkdbckaa
