/- The document's gate: Cancel, Arrive, Leave. -/
import Derived.Test.YtdnkgfljkdbckaaGra
namespace Go.Proofs.Ytdnkgfljkdbckaa
open Go.RowKit
set_option linter.unusedVariables false

set_option maxRecDepth 100000 in
set_option maxHeartbeats 2000000 in
theorem rcan_any {w0 w : World} {l : List It} {au av : Option Addr} {nu pu nv pv : Nat} {S : Gt} (x : Int) (h : Its w0 (.ints w0.heap.size (.slice au nu pu) S.wt :: .ints w0.heap.size (.slice av nv pv) S.ins :: l) w) (hu : S.wt.length = nu) (hv : S.ins.length = nv) (hok : S.Ok) :
    Calls Try.prog 14 #[.agg #[.int .i64 (S.cr : Int), .slice au nu pu, .slice av nv pv], .int .i64 x] w fun e w' => RG w0 l S.cr (S.ca x) (S.fc x) e w' := by
  obtain ⟨h0, hh⟩ : ∃ h0, w.heap.size = h0 := ⟨_, rfl⟩
  have HI1 := hide (h.boxes #[.int .i64 (S.cr : Int), .slice au nu pu, .slice av nv pv] #[.int .i64 0, .slice none 0 0, .slice none 0 0] 30 hh)
  have hm := hok.ml
  have hc1 := hok.c1
  have hil := hok.il
  have Hu := hide hu
  have Hv := hide hv
  have Hok := hide hok
  rw [hu, hv] at hm
  rw [hv] at hil
  have iu : (nu : Int) ≤ 64 := by omega
  have iv : (nv : Int) ≤ 64 := by omega
  have HKu : Hid (∀ W, Its w0 (.box h0 #[.int .i64 (S.cr : Int), .slice au nu pu, .slice av nv pv] 30 :: .box (h0 + 1) #[.int .i64 0, .slice none 0 0, .slice none 0 0] 30 :: .ints w0.heap.size (.slice au nu pu) S.wt :: .ints w0.heap.size (.slice av nv pv) S.ins :: l) W → Calls Try.prog 25 #[.slice au nu pu, .int .i64 x] W fun e w' => e = .returned (.int .i64 (loc S.wt x)) ∧ w' = W) := hide (fun W h => at_any au pu nu S.wt x W Hu.out (El.Own.rd h.three) (by omega))
  have HKv : Hid (∀ W, Its w0 (.box h0 #[.int .i64 (S.cr : Int), .slice au nu pu, .slice av nv pv] 30 :: .box (h0 + 1) #[.int .i64 0, .slice none 0 0, .slice none 0 0] 30 :: .ints w0.heap.size (.slice au nu pu) S.wt :: .ints w0.heap.size (.slice av nv pv) S.ins :: l) W → Calls Try.prog 25 #[.slice av nv pv, .int .i64 x] W fun e w' => e = .returned (.int .i64 (loc S.ins x)) ∧ w' = W) := hide (fun W h => at_any av pv nv S.ins x W Hv.out (El.Own.rd h.four) (by omega))
  have Hh := hide hh
  clear hh h hu hv hok
  by_cases hi : x ∈ S.ins
  · have hx : x ∉ S.wt := fun q => Hok.out.apart q hi
    rw [Gt.ca_no hx, show S.fc x = 140 by unfold Gt.fc; rw [if_neg hx, if_pos hi]]
    obtain ⟨e2, e3⟩ := loc_in hi
    rw [e2] at HKv
    have j0 : (0 : Int) ≤ (S.ins.idxOf x : Int) := by omega
    clear e2 e3 hx hi
    generalize S.ins.idxOf x = ii at *
    go_enter Try.func14, Try.ntmps14
    go_upto_region 1 with fail
    rw [Hh.out]
    generalize (w.alloc (.cells #[.int .i64 (S.cr : Int), .slice au nu pu, .slice av nv pv] 30)).alloc (.cells #[.int .i64 0, .slice none 0 0, .slice none 0 0] 30) = W1 at *
    obtain ⟨x0, x1, x2, xf, x3, x4, x5, xg⟩ := HI1.out.six
    go_wp2_with (first | (go_at_call_of 25 (Value.slice au nu pu); refine (HKu.out _ HI1.out).mono ?_; rintro e W9 ⟨rfl, h9⟩; have h9' := h9.symm; clear h9; subst h9') | (go_at_call_of 25 (Value.slice av nv pv); refine (HKv.out _ HI1.out).mono ?_; rintro e W9 ⟨rfl, h9⟩; have h9' := h9.symm; clear h9; subst h9'))
    have HF := hide (HI1.out.swap.out3 (.int .i64 (S.cr : Int)) (.slice au nu pu) (.slice av nv pv))
    obtain ⟨f0, f1, f2⟩ := HF.out.cells3
    refine bodyPost_ret (v := .tuple #[.agg #[.int .i64 (S.cr : Int), .slice au nu pu, .slice av nv pv], .int .i64 140]) (by simp [results, Try.results14, go_sem, f0, f1, f2]) rfl ⟨_, _, _, _, _, _, rfl, Hu.out, Hv.out, HF.out.tail.tail⟩
  rw [loc_no hi] at HKv
  by_cases hx : x ∈ S.wt
  case neg =>
    rw [Gt.ca_no hx, show S.fc x = 4 by unfold Gt.fc; rw [if_neg hx, if_neg hi]]
    rw [loc_no hx] at HKu
    clear hx hi
    go_enter Try.func14, Try.ntmps14
    go_upto_region 1 with fail
    rw [Hh.out]
    generalize (w.alloc (.cells #[.int .i64 (S.cr : Int), .slice au nu pu, .slice av nv pv] 30)).alloc (.cells #[.int .i64 0, .slice none 0 0, .slice none 0 0] 30) = W1 at *
    obtain ⟨x0, x1, x2, xf, x3, x4, x5, xg⟩ := HI1.out.six
    go_wp2_with (first | (go_at_call_of 25 (Value.slice au nu pu); refine (HKu.out _ HI1.out).mono ?_; rintro e W9 ⟨rfl, h9⟩; have h9' := h9.symm; clear h9; subst h9') | (go_at_call_of 25 (Value.slice av nv pv); refine (HKv.out _ HI1.out).mono ?_; rintro e W9 ⟨rfl, h9⟩; have h9' := h9.symm; clear h9; subst h9'))
    have HF := hide (HI1.out.swap.out3 (.int .i64 (S.cr : Int)) (.slice au nu pu) (.slice av nv pv))
    obtain ⟨f0, f1, f2⟩ := HF.out.cells3
    refine bodyPost_ret (v := .tuple #[.agg #[.int .i64 (S.cr : Int), .slice au nu pu, .slice av nv pv], .int .i64 4]) (by simp [results, Try.results14, go_sem, f0, f1, f2]) rfl ⟨_, _, _, _, _, _, rfl, Hu.out, Hv.out, HF.out.tail.tail⟩
  obtain ⟨e2, e3⟩ := loc_in hx
  rw [e2] at HKu
  rw [show S.fc x = 0 from if_pos hx]
  have j0 : (0 : Int) ≤ (S.wt.idxOf x : Int) := by omega
  have hei : S.wt.take (S.wt.idxOf x) ++ S.wt.drop (S.wt.idxOf x + 1) = (S.ca x).wt := erase_cut S.wt x
  obtain ⟨nx, hnx⟩ : ∃ nx, (S.ca x).wt.length = nx := ⟨_, rfl⟩
  have Hnx := hide hnx
  have HW : Hid (∀ W, Its w0 (.box h0 #[.int .i64 (S.cr : Int), .slice au nu pu, .slice av nv pv] 30 :: .box (h0 + 1) #[.int .i64 0, .slice none 0 0, .slice none 0 0] 30 :: .ints w0.heap.size (.slice au nu pu) S.wt :: .ints w0.heap.size (.slice av nv pv) S.ins :: l) W → Calls Try.prog 27 #[.slice au nu pu, .int .i64 (S.wt.idxOf x : Int)] W fun e w' => ∃ a' c', e = .returned (.slice a' nx c') ∧ Its w0 (.ints w0.heap.size (.slice a' nx c') (S.ca x).wt :: .ints w0.heap.size (.slice au nu pu) S.wt :: .box h0 #[.int .i64 (S.cr : Int), .slice au nu pu, .slice av nv pv] 30 :: .box (h0 + 1) #[.int .i64 0, .slice none 0 0, .slice none 0 0] 30 :: .ints w0.heap.size (.slice av nv pv) S.ins :: l) w') := hide (fun W h => by
    have := without_any (S.wt.idxOf x) h.rot3 Hu.out (by rw [← Hu.out]; exact e3) (by omega) (nx := nx) (by rw [hei]; exact hnx)
    rw [hei] at this
    exact this)
  clear e2 e3 hx hi hei hnx
  generalize S.wt.idxOf x = ii at *
  go_enter Try.func14, Try.ntmps14
  go_upto_region 1 with fail
  rw [Hh.out]
  generalize (w.alloc (.cells #[.int .i64 (S.cr : Int), .slice au nu pu, .slice av nv pv] 30)).alloc (.cells #[.int .i64 0, .slice none 0 0, .slice none 0 0] 30) = W1 at *
  obtain ⟨x0, x1, x2, xf, x3, x4, x5, xg⟩ := HI1.out.six
  go_wp2_with (first
    | (go_at_call_of 25 (Value.slice au nu pu); refine (HKu.out _ HI1.out).mono ?_; rintro e W9 ⟨rfl, h9⟩; have h9' := h9.symm; clear h9; subst h9')
    | (go_at_call_of 25 (Value.slice av nv pv); refine (HKv.out _ HI1.out).mono ?_; rintro e W9 ⟨rfl, h9⟩; have h9' := h9.symm; clear h9; subst h9')
    | (go_at_call 27; refine (HW.out _ HI1.out).mono ?_; rintro e W6 ⟨a6, p6, rfl, hg⟩; have HI6 := hide hg.swap.tail.rot3'; clear hg; obtain ⟨y0, y1, y2, yf, y3, y4, y5, yg⟩ := HI6.out.six))
  have HF := hide ((HI6.out.put1 1 (.slice a6 nx p6)).swap.out3 (.int .i64 (S.cr : Int)) (.slice a6 nx p6) (.slice av nv pv))
  obtain ⟨f0, f1, f2⟩ := HF.out.cells3
  exact bodyPost_ret (v := .tuple #[.agg #[.int .i64 (S.cr : Int), .slice a6 nx p6, .slice av nv pv], .int .i64 0]) (by simp [results, Try.results14, go_sem, f0, f1, f2]) rfl ⟨_, _, _, _, _, _, rfl, Hnx.out, Hv.out, HF.out.tail.tail⟩

set_option maxRecDepth 100000 in
set_option maxHeartbeats 2000000 in
theorem rarr_any {w0 w : World} {l : List It} {au av : Option Addr} {nu pu nv pv : Nat} {S : Gt} (x : Int) (h : Its w0 (.ints w0.heap.size (.slice au nu pu) S.wt :: .ints w0.heap.size (.slice av nv pv) S.ins :: l) w) (hu : S.wt.length = nu) (hv : S.ins.length = nv) (hok : S.Ok) :
    Calls Try.prog 16 #[.agg #[.int .i64 (S.cr : Int), .slice au nu pu, .slice av nv pv], .int .i64 x] w fun e w' => RG w0 l S.cr (S.ar x) (S.arC x) e w' := by
  obtain ⟨h0, hh⟩ : ∃ h0, w.heap.size = h0 := ⟨_, rfl⟩
  have HI1 := hide (h.boxes #[.int .i64 (S.cr : Int), .slice au nu pu, .slice av nv pv] #[.int .i64 0, .slice none 0 0, .slice none 0 0] 30 hh)
  have hm := hok.ml
  have hc1 := hok.c1
  have hil := hok.il
  have Hu := hide hu
  have Hv := hide hv
  have Hok := hide hok
  rw [hu, hv] at hm
  rw [hv] at hil
  have iu : (nu : Int) ≤ 64 := by omega
  have iv : (nv : Int) ≤ 64 := by omega
  have HKu : Hid (∀ W, Its w0 (.box h0 #[.int .i64 (S.cr : Int), .slice au nu pu, .slice av nv pv] 30 :: .box (h0 + 1) #[.int .i64 0, .slice none 0 0, .slice none 0 0] 30 :: .ints w0.heap.size (.slice au nu pu) S.wt :: .ints w0.heap.size (.slice av nv pv) S.ins :: l) W → Calls Try.prog 25 #[.slice au nu pu, .int .i64 x] W fun e w' => e = .returned (.int .i64 (loc S.wt x)) ∧ w' = W) := hide (fun W h => at_any au pu nu S.wt x W Hu.out (El.Own.rd h.three) (by omega))
  have HKv : Hid (∀ W, Its w0 (.box h0 #[.int .i64 (S.cr : Int), .slice au nu pu, .slice av nv pv] 30 :: .box (h0 + 1) #[.int .i64 0, .slice none 0 0, .slice none 0 0] 30 :: .ints w0.heap.size (.slice au nu pu) S.wt :: .ints w0.heap.size (.slice av nv pv) S.ins :: l) W → Calls Try.prog 25 #[.slice av nv pv, .int .i64 x] W fun e w' => e = .returned (.int .i64 (loc S.ins x)) ∧ w' = W) := hide (fun W h => at_any av pv nv S.ins x W Hv.out (El.Own.rd h.four) (by omega))
  have Hh := hide hh
  clear hh h hu hv hok
  by_cases hi : x ∈ S.ins
  · have hx : x ∉ S.wt := fun q => Hok.out.apart q hi
    have e1 : S.arC x = 140 := by unfold Gt.arC; rw [if_neg hx, if_pos hi]
    rw [Gt.ar_no (by rw [e1]; decide), e1]
    obtain ⟨e2, e3⟩ := loc_in hi
    rw [e2] at HKv
    have j0 : (0 : Int) ≤ (S.ins.idxOf x : Int) := by omega
    clear e2 e3 hx hi
    generalize S.ins.idxOf x = ii at *
    go_enter Try.func16, Try.ntmps16
    go_upto_region 1 with fail
    rw [Hh.out]
    generalize (w.alloc (.cells #[.int .i64 (S.cr : Int), .slice au nu pu, .slice av nv pv] 30)).alloc (.cells #[.int .i64 0, .slice none 0 0, .slice none 0 0] 30) = W1 at *
    obtain ⟨x0, x1, x2, xf, x3, x4, x5, xg⟩ := HI1.out.six
    go_wp2_with (first | (go_at_call_of 25 (Value.slice au nu pu); refine (HKu.out _ HI1.out).mono ?_; rintro e W9 ⟨rfl, h9⟩; have h9' := h9.symm; clear h9; subst h9') | (go_at_call_of 25 (Value.slice av nv pv); refine (HKv.out _ HI1.out).mono ?_; rintro e W9 ⟨rfl, h9⟩; have h9' := h9.symm; clear h9; subst h9'))
    have HF := hide (HI1.out.swap.out3 (.int .i64 (S.cr : Int)) (.slice au nu pu) (.slice av nv pv))
    obtain ⟨f0, f1, f2⟩ := HF.out.cells3
    refine bodyPost_ret (v := .tuple #[.agg #[.int .i64 (S.cr : Int), .slice au nu pu, .slice av nv pv], .int .i64 140]) (by simp [results, Try.results16, go_sem, f0, f1, f2]) rfl ⟨_, _, _, _, _, _, rfl, Hu.out, Hv.out, HF.out.tail.tail⟩
  rw [loc_no hi] at HKv
  by_cases hx : x ∈ S.wt
  case neg =>
    have e1 : S.arC x = 4 := by unfold Gt.arC; rw [if_neg hx, if_neg hi]
    rw [Gt.ar_no (by rw [e1]; decide), e1]
    rw [loc_no hx] at HKu
    clear hx hi
    go_enter Try.func16, Try.ntmps16
    go_upto_region 1 with fail
    rw [Hh.out]
    generalize (w.alloc (.cells #[.int .i64 (S.cr : Int), .slice au nu pu, .slice av nv pv] 30)).alloc (.cells #[.int .i64 0, .slice none 0 0, .slice none 0 0] 30) = W1 at *
    obtain ⟨x0, x1, x2, xf, x3, x4, x5, xg⟩ := HI1.out.six
    go_wp2_with (first | (go_at_call_of 25 (Value.slice au nu pu); refine (HKu.out _ HI1.out).mono ?_; rintro e W9 ⟨rfl, h9⟩; have h9' := h9.symm; clear h9; subst h9') | (go_at_call_of 25 (Value.slice av nv pv); refine (HKv.out _ HI1.out).mono ?_; rintro e W9 ⟨rfl, h9⟩; have h9' := h9.symm; clear h9; subst h9'))
    have HF := hide (HI1.out.swap.out3 (.int .i64 (S.cr : Int)) (.slice au nu pu) (.slice av nv pv))
    obtain ⟨f0, f1, f2⟩ := HF.out.cells3
    refine bodyPost_ret (v := .tuple #[.agg #[.int .i64 (S.cr : Int), .slice au nu pu, .slice av nv pv], .int .i64 4]) (by simp [results, Try.results16, go_sem, f0, f1, f2]) rfl ⟨_, _, _, _, _, _, rfl, Hu.out, Hv.out, HF.out.tail.tail⟩
  obtain ⟨e2, e3⟩ := loc_in hx
  rw [e2] at HKu
  by_cases h0i : S.wt.idxOf x = 0
  case neg =>
    have e1 : S.arC x = 110 := by unfold Gt.arC; rw [if_pos hx, if_neg h0i]
    rw [Gt.ar_no (by rw [e1]; decide), e1]
    have j0 : (0 : Int) < (S.wt.idxOf x : Int) := by omega
    clear e2 e3 hx hi e1 h0i
    generalize S.wt.idxOf x = ii at *
    go_enter Try.func16, Try.ntmps16
    go_upto_region 1 with fail
    rw [Hh.out]
    generalize (w.alloc (.cells #[.int .i64 (S.cr : Int), .slice au nu pu, .slice av nv pv] 30)).alloc (.cells #[.int .i64 0, .slice none 0 0, .slice none 0 0] 30) = W1 at *
    obtain ⟨x0, x1, x2, xf, x3, x4, x5, xg⟩ := HI1.out.six
    go_wp2_with (first | (go_at_call_of 25 (Value.slice au nu pu); refine (HKu.out _ HI1.out).mono ?_; rintro e W9 ⟨rfl, h9⟩; have h9' := h9.symm; clear h9; subst h9') | (go_at_call_of 25 (Value.slice av nv pv); refine (HKv.out _ HI1.out).mono ?_; rintro e W9 ⟨rfl, h9⟩; have h9' := h9.symm; clear h9; subst h9'))
    have HF := hide (HI1.out.swap.out3 (.int .i64 (S.cr : Int)) (.slice au nu pu) (.slice av nv pv))
    obtain ⟨f0, f1, f2⟩ := HF.out.cells3
    refine bodyPost_ret (v := .tuple #[.agg #[.int .i64 (S.cr : Int), .slice au nu pu, .slice av nv pv], .int .i64 110]) (by simp [results, Try.results16, go_sem, f0, f1, f2]) rfl ⟨_, _, _, _, _, _, rfl, Hu.out, Hv.out, HF.out.tail.tail⟩
  have e2' : loc S.wt x = 0 := by rw [e2, h0i]; rfl
  rw [← e2, e2'] at HKu
  by_cases hf : S.cr ≤ nv
  · have e1 : S.arC x = 5 := by unfold Gt.arC; rw [if_pos hx, if_pos h0i, if_pos (by rw [Hv.out]; exact hf)]
    rw [Gt.ar_no (by rw [e1]; decide), e1]
    have j0 : (S.cr : Int) ≤ (nv : Int) := by omega
    clear e2 e3 hx hi e1 h0i e2' hf
    go_enter Try.func16, Try.ntmps16
    go_upto_region 1 with fail
    rw [Hh.out]
    generalize (w.alloc (.cells #[.int .i64 (S.cr : Int), .slice au nu pu, .slice av nv pv] 30)).alloc (.cells #[.int .i64 0, .slice none 0 0, .slice none 0 0] 30) = W1 at *
    obtain ⟨x0, x1, x2, xf, x3, x4, x5, xg⟩ := HI1.out.six
    go_wp2_with (first | (go_at_call_of 25 (Value.slice au nu pu); refine (HKu.out _ HI1.out).mono ?_; rintro e W9 ⟨rfl, h9⟩; have h9' := h9.symm; clear h9; subst h9') | (go_at_call_of 25 (Value.slice av nv pv); refine (HKv.out _ HI1.out).mono ?_; rintro e W9 ⟨rfl, h9⟩; have h9' := h9.symm; clear h9; subst h9'))
    have HF := hide (HI1.out.swap.out3 (.int .i64 (S.cr : Int)) (.slice au nu pu) (.slice av nv pv))
    obtain ⟨f0, f1, f2⟩ := HF.out.cells3
    refine bodyPost_ret (v := .tuple #[.agg #[.int .i64 (S.cr : Int), .slice au nu pu, .slice av nv pv], .int .i64 5]) (by simp [results, Try.results16, go_sem, f0, f1, f2]) rfl ⟨_, _, _, _, _, _, rfl, Hu.out, Hv.out, HF.out.tail.tail⟩
  · have e1 : S.arC x = 0 := by unfold Gt.arC; rw [if_pos hx, if_pos h0i, if_neg (by rw [Hv.out]; exact hf)]
    rw [Gt.ar_yes e1, e1]
    have j0 : ¬ (S.cr : Int) ≤ (nv : Int) := by omega
    have hei : S.wt.take 0 ++ S.wt.drop (0 + 1) = S.wt.tail := by simp
    obtain ⟨nx, hnx⟩ : ∃ nx, S.wt.tail.length = nx := ⟨_, rfl⟩
    have Hnx := hide hnx
    have HW : Hid (∀ W, Its w0 (.box h0 #[.int .i64 (S.cr : Int), .slice au nu pu, .slice av nv pv] 30 :: .box (h0 + 1) #[.int .i64 0, .slice none 0 0, .slice none 0 0] 30 :: .ints w0.heap.size (.slice au nu pu) S.wt :: .ints w0.heap.size (.slice av nv pv) S.ins :: l) W → Calls Try.prog 27 #[.slice au nu pu, .int .i64 0] W fun e w' => ∃ a' c', e = .returned (.slice a' nx c') ∧ Its w0 (.ints w0.heap.size (.slice a' nx c') S.wt.tail :: .ints w0.heap.size (.slice au nu pu) S.wt :: .box h0 #[.int .i64 (S.cr : Int), .slice au nu pu, .slice av nv pv] 30 :: .box (h0 + 1) #[.int .i64 0, .slice none 0 0, .slice none 0 0] 30 :: .ints w0.heap.size (.slice av nv pv) S.ins :: l) w') := hide (fun W h => by
      have := without_any 0 h.rot3 Hu.out (by rw [← Hu.out]; rw [h0i] at e3; exact e3) (by omega) (nx := nx) (by rw [hei]; exact hnx)
      rw [hei] at this
      exact this)
    have HL1 : Hid (([] : List Int).length + S.ins.length ≤ 1000000) := hide (by rw [Hv.out]; simp; omega)
    have HL2 : Hid (([] ++ S.ins).length + [x].length ≤ 1000000) := hide (by simp; rw [Hv.out]; omega)
    clear e2 e3 hx hi e1 h0i e2' hf hei hnx
    go_enter Try.func16, Try.ntmps16
    go_upto_region 1 with fail
    rw [Hh.out]
    generalize (w.alloc (.cells #[.int .i64 (S.cr : Int), .slice au nu pu, .slice av nv pv] 30)).alloc (.cells #[.int .i64 0, .slice none 0 0, .slice none 0 0] 30) = W1 at *
    obtain ⟨x0, x1, x2, xf, x3, x4, x5, xg⟩ := HI1.out.six
    go_upto_region 11 with (first
      | (go_at_call_of 25 (Value.slice au nu pu); refine (HKu.out _ HI1.out).mono ?_; rintro e W9 ⟨rfl, h9⟩; have h9' := h9.symm; clear h9; subst h9')
      | (go_at_call_of 25 (Value.slice av nv pv); refine (HKv.out _ HI1.out).mono ?_; rintro e W9 ⟨rfl, h9⟩; have h9' := h9.symm; clear h9; subst h9')
      | (go_at_call 27; refine (HW.out _ HI1.out).mono ?_; rintro e W6 ⟨a6, p6, rfl, hg⟩; have HI6 := hide hg.swap.tail.rot3'; clear hg; obtain ⟨y0, y1, y2, yf, y3, y4, y5, yg⟩ := HI6.out.six))
    have HI7 : Hid (Its w0 (.box h0 #[.int .i64 (S.cr : Int), .slice a6 nx p6, .slice av nv pv] 30 :: .box (h0 + 1) #[.int .i64 0, .slice none 0 0, .slice none 0 0] 30 :: .ints w0.heap.size (.slice a6 nx p6) S.wt.tail :: .ints w0.heap.size (.slice av nv pv) S.ins :: l) (W6.setCell ⟨h0, 1, none⟩ (.slice a6 nx p6))) := hide (HI6.out.put1 1 (.slice a6 nx p6))
    generalize W6.setCell ⟨h0, 1, none⟩ (.slice a6 nx p6) = W7 at *
    clear y0 y1 y2 yf y3 y4 y5 yg x0 x1 x2 xf x3 x4 x5 xg HI6
    have HX := hide HI7.out.nothing
    obtain ⟨x0, x1, x2, xf, x3, x4, x5, xg⟩ := HI7.out.six
    obtain ⟨z0, z1, z2, zf, z3, z4, z5, zg⟩ := HX.out.tail.six
    go_wp2_with (first
      | (at_builtin; refine intE.wpB (B := w0.heap.size) HX5.out.size (by rfl) _ _ rfl _ _ rfl rfl ([] ++ S.ins) [x] HX5.out.one HR5.out HL2.out ?_; intro v8 W8 ho hg hs; obtain ⟨a8, p8, hf8⟩ := ho.rd.form; obtain ⟨n8, hn8⟩ : ∃ n8, ([] ++ S.ins ++ [x]).length = n8 := ⟨_, rfl⟩; rw [hn8] at hf8; subst hf8; have HI8 := hide (HX5.out.grow ho hg hs).rot3'; have Hn8 := hide hn8; clear ho hg hs hn8; obtain ⟨y0, y1, y2, yf, y3, y4, y5, yg⟩ := HI8.out.six)
      | (at_builtin; refine intE.wpB (B := w0.heap.size) HX.out.size (by rfl) _ _ rfl _ _ rfl rfl [] S.ins HX.out.one (El.Own.rd HX.out.tail.four) HL1.out ?_; intro v5 W5 ho hg hs; obtain ⟨a5, p5, hf5⟩ := ho.rd.form; obtain ⟨n5, hn5⟩ : ∃ n5, ([] ++ S.ins).length = n5 := ⟨_, rfl⟩; rw [hn5] at hf5; subst hf5; clear hn5; have HX5 := hide ((HX.out.grow ho hg hs).alloc (.cells #[.int .i64 x] 3)); have HR5 := hide (int_new W5 x _ rfl); clear ho hg hs))
    have HF := hide ((HI8.out.put1 2 (.slice a8 n8 p8)).swap.out3 (.int .i64 (S.cr : Int)) (.slice a6 nx p6) (.slice a8 n8 p8))
    obtain ⟨f0, f1, f2⟩ := HF.out.cells3
    refine bodyPost_ret (v := .tuple #[.agg #[.int .i64 (S.cr : Int), .slice a6 nx p6, .slice a8 n8 p8], .int .i64 0]) (by simp [results, Try.results16, go_sem, f0, f1, f2]) rfl ⟨_, _, _, _, _, _, rfl, Hnx.out, by have := Hn8.out; rw [List.nil_append] at this; exact this, ?_⟩
    have := HF.out.tail.tail
    rw [List.nil_append] at this
    exact this.rot3.tail.swap

set_option maxRecDepth 100000 in
set_option maxHeartbeats 2000000 in
theorem rlea_any {w0 w : World} {l : List It} {au av : Option Addr} {nu pu nv pv : Nat} {S : Gt} (h : Its w0 (.ints w0.heap.size (.slice au nu pu) S.wt :: .ints w0.heap.size (.slice av nv pv) S.ins :: l) w) (hu : S.wt.length = nu) (hv : S.ins.length = nv) (hok : S.Ok) :
    Calls Try.prog 18 #[.agg #[.int .i64 (S.cr : Int), .slice au nu pu, .slice av nv pv]] w fun e w' => RL w0 l S.cr S.le S.leV S.leC e w' := by
  obtain ⟨h0, hh⟩ : ∃ h0, w.heap.size = h0 := ⟨_, rfl⟩
  have HI1 := hide (h.boxes #[.int .i64 (S.cr : Int), .slice au nu pu, .slice av nv pv] #[.int .i64 0, .slice none 0 0, .slice none 0 0] 30 hh)
  have hm := hok.ml
  have hc1 := hok.c1
  have hil := hok.il
  have Hu := hide hu
  have Hv := hide hv
  have Hok := hide hok
  rw [hu, hv] at hm
  rw [hv] at hil
  have iu : (nu : Int) ≤ 64 := by omega
  have iv : (nv : Int) ≤ 64 := by omega
  have Hh := hide hh
  clear hh h hu hv hok
  cases hi : S.ins with
  | nil =>
    have e3 : S.le = S := by
      obtain ⟨cr, wt, ins⟩ := S
      simp only at hi
      subst hi
      rfl
    rw [e3, show S.leV = 0 by unfold Gt.leV; rw [hi]; rfl, show S.leC = 4 from if_pos hi]
    have hn0 : nv = 0 := by rw [← Hv.out, hi]; rfl
    have j0 : ((nv : Int) == 0) = true := by rw [hn0]; rfl
    clear hi e3 hn0
    go_enter Try.func18, Try.ntmps18
    go_upto_region 1 with fail
    rw [Hh.out]
    generalize (w.alloc (.cells #[.int .i64 (S.cr : Int), .slice au nu pu, .slice av nv pv] 30)).alloc (.cells #[.int .i64 0, .slice none 0 0, .slice none 0 0] 30) = W1 at *
    obtain ⟨x0, x1, x2, xf, x3, x4, x5, xg⟩ := HI1.out.six
    go_wp2_with fail
    have HF := hide (HI1.out.swap.out3 (.int .i64 (S.cr : Int)) (.slice au nu pu) (.slice av nv pv))
    obtain ⟨f0, f1, f2⟩ := HF.out.cells3
    refine bodyPost_ret (v := .tuple #[.agg #[.int .i64 (S.cr : Int), .slice au nu pu, .slice av nv pv], .int .i64 0, .int .i64 4]) (by simp [results, Try.results18, go_sem, f0, f1, f2]) rfl ⟨_, _, _, _, _, _, rfl, Hu.out, Hv.out, HF.out.tail.tail⟩
  | cons y q =>
    have e3 : S.le = ⟨S.cr, S.wt, q⟩ := by unfold Gt.le; rw [hi]; rfl
    rw [e3, show S.leV = y by unfold Gt.leV; rw [hi]; rfl, show S.leC = 0 from if_neg (by rw [hi]; simp)]
    have hn0 : 0 < nv := by rw [← Hv.out, hi]; simp
    have j0 : ((nv : Int) == 0) = false := beq_eq_false_iff_ne.2 (by omega)
    have j1 : (0 : Int) < (nv : Int) := by omega
    have j2 : ¬ nv = 0 := by omega
    have hei : S.ins.take 0 ++ S.ins.drop (0 + 1) = q := by rw [hi]; simp
    obtain ⟨nx, hnx⟩ : ∃ nx, q.length = nx := ⟨_, rfl⟩
    have Hnx := hide hnx
    have HW : Hid (∀ W, Its w0 (.box h0 #[.int .i64 (S.cr : Int), .slice au nu pu, .slice av nv pv] 30 :: .box (h0 + 1) #[.int .i64 0, .slice none 0 0, .slice none 0 0] 30 :: .ints w0.heap.size (.slice au nu pu) S.wt :: .ints w0.heap.size (.slice av nv pv) S.ins :: l) W → Calls Try.prog 27 #[.slice av nv pv, .int .i64 0] W fun e w' => ∃ a' c', e = .returned (.slice a' nx c') ∧ Its w0 (.ints w0.heap.size (.slice a' nx c') q :: .ints w0.heap.size (.slice av nv pv) S.ins :: .box h0 #[.int .i64 (S.cr : Int), .slice au nu pu, .slice av nv pv] 30 :: .box (h0 + 1) #[.int .i64 0, .slice none 0 0, .slice none 0 0] 30 :: .ints w0.heap.size (.slice au nu pu) S.wt :: l) w') := hide (fun W h => by
      have := without_any 0 h.rot4 Hv.out hn0 (by omega) (nx := nx) (by rw [hei]; exact hnx)
      rw [hei] at this
      exact this)
    have HC : Hid (∀ W, Its w0 (.box h0 #[.int .i64 (S.cr : Int), .slice au nu pu, .slice av nv pv] 30 :: .box (h0 + 1) #[.int .i64 0, .slice none 0 0, .slice none 0 0] 30 :: .ints w0.heap.size (.slice au nu pu) S.wt :: .ints w0.heap.size (.slice av nv pv) S.ins :: l) W → ∃ b off, av = some ⟨b, off, none⟩ ∧ W.cell? ⟨b, off + 0, none⟩ = some (.int .i64 y)) := hide (fun W h => int_at (El.Own.rd h.four) 0 y (by rw [hi]; rfl))
    clear hi e3 hn0 hei hnx
    go_enter Try.func18, Try.ntmps18
    go_upto_region 1 with fail
    rw [Hh.out]
    generalize (w.alloc (.cells #[.int .i64 (S.cr : Int), .slice au nu pu, .slice av nv pv] 30)).alloc (.cells #[.int .i64 0, .slice none 0 0, .slice none 0 0] 30) = W1 at *
    obtain ⟨x0, x1, x2, xf, x3, x4, x5, xg⟩ := HI1.out.six
    obtain ⟨b, off, rfl, zz⟩ := HC.out W1 HI1.out
    rw [Nat.add_zero] at zz
    go_wp2_with (go_at_call 27; refine (HW.out _ HI1.out).mono ?_; rintro e W6 ⟨a6, p6, rfl, hg⟩; have HI6 := hide hg.swap.tail.rot3'; clear hg; obtain ⟨y0, y1, y2, yf, y3, y4, y5, yg⟩ := HI6.out.six)
    have HF := hide ((HI6.out.put1 2 (.slice a6 nx p6)).swap.out3 (.int .i64 (S.cr : Int)) (.slice au nu pu) (.slice a6 nx p6))
    obtain ⟨f0, f1, f2⟩ := HF.out.cells3
    exact bodyPost_ret (v := .tuple #[.agg #[.int .i64 (S.cr : Int), .slice au nu pu, .slice a6 nx p6], .int .i64 y, .int .i64 0]) (by simp [results, Try.results18, go_sem, f0, f1, f2]) rfl ⟨_, _, _, _, _, _, rfl, Hu.out, Hnx.out, HF.out.tail.tail.swap⟩
end Go.Proofs.Ytdnkgfljkdbckaa
