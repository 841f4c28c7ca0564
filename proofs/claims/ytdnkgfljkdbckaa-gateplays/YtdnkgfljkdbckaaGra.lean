/- The document's gate: without, Accept, Cancel, Arrive, Leave. -/
import Derived.Test.YtdnkgfljkdbckaaGcm
import Derived.Deep.RegionWith
namespace Go.Proofs.Ytdnkgfljkdbckaa
open Go.RowKit
set_option linter.unusedVariables false

/-- a cell of a box -/
theorem Its.put1 {w0 w : World} {b : Nat} {C : Array Value} {t : TypeId} {l : List It} (h : Its w0 (.box b C t :: l) w) (i : Nat) (x : Value) : Its w0 (.box b (C.setIfInBounds i x) t :: l) (w.setCell ⟨b, i, none⟩ x) :=
  h.chg (x' := .box b (C.setIfInBounds i x) t) (heap_put h.one x) (fun k hk => .inl hk) (Frm.set w b i x)
theorem Its.out3 {w0 w : World} {b : Nat} {p q r : Value} {t : TypeId} {l : List It} (h : Its w0 (.box b #[p, q, r] t :: l) w) (x y z : Value) : Its w0 (.box b #[x, y, z] t :: l) (((w.setCell ⟨b, 0, none⟩ x).setCell ⟨b, 1, none⟩ y).setCell ⟨b, 2, none⟩ z) :=
  ((h.put1 0 x).put1 1 y).put1 2 z
theorem Its.cells3 {w0 w : World} {b : Nat} {p q r : Value} {t : TypeId} {l : List It} (h : Its w0 (.box b #[p, q, r] t :: l) w) : w.cell? ⟨b, 0, none⟩ = some p ∧ w.cell? ⟨b, 1, none⟩ = some q ∧ w.cell? ⟨b, 2, none⟩ = some r := ⟨(cells_at h.one 0).1, (cells_at h.one 1).1, (cells_at h.one 2).1⟩
theorem Its.six {w0 w : World} {b b' : Nat} {p q r p' q' r' : Value} {t : TypeId} {l : List It} (h : Its w0 (.box b #[p, q, r] t :: .box b' #[p', q', r'] t :: l) w) : w.cell? ⟨b, 0, none⟩ = some p ∧ w.cell? ⟨b, 1, none⟩ = some q ∧ w.cell? ⟨b, 2, none⟩ = some r ∧ (∀ i, w.frozen? ⟨b, i, none⟩ = false) ∧ w.cell? ⟨b', 0, none⟩ = some p' ∧ w.cell? ⟨b', 1, none⟩ = some q' ∧ w.cell? ⟨b', 2, none⟩ = some r' ∧ (∀ i, w.frozen? ⟨b', i, none⟩ = false) :=
  ⟨(cells_at h.one 0).1, (cells_at h.one 1).1, (cells_at h.one 2).1, fun i => (cells_at h.one i).2, (cells_at h.two 0).1, (cells_at h.two 1).1, (cells_at h.two 2).1, fun i => (cells_at h.two i).2⟩
/-- two new boxes -/
theorem Its.boxes {w0 w : World} {l : List It} (h : Its w0 l w) (C D : Array Value) (t : TypeId) {h0 : Nat} (hh : w.heap.size = h0) : Its w0 (.box h0 C t :: .box (h0 + 1) D t :: l) ((w.alloc (.cells C t)).alloc (.cells D t)) := by
  subst hh
  have e : (w.alloc (.cells C t)).heap.size = w.heap.size + 1 := by simp
  have h1 := h.new (x := .box w.heap.size C t) (heap_new w _) (fun k hk => by cases hk; exact Nat.le_refl _) (below_new w _)
  have h2 := h1.new (x := .box (w.alloc (.cells C t)).heap.size D t) (heap_new _ _) (fun k hk => by cases hk; exact Nat.le_refl _) (below_new _ _)
  rw [e] at h2
  exact h2.swap

/-- a new slice of nothing -/
theorem Its.nothing {w0 w : World} {l : List It} (h : Its w0 l w) : Its w0 (.ints w0.heap.size (.slice (some ⟨w.heap.size, 0, none⟩) 0 0) [] :: l) (w.alloc (.cells #[] 3)) :=
  h.fresh (El.Own.new intE w w.heap.size (Nat.le_refl _) #[] [] rfl (by simp) w.heap.size 0 0 rfl rfl rfl) (below_new w _)

set_option maxRecDepth 100000 in
set_option maxHeartbeats 2000000 in
theorem without_any {w0 w : World} {l : List It} {a : Option Addr} {n p : Nat} {xs : List Int} (j : Nat) (h : Its w0 (.ints w0.heap.size (.slice a n p) xs :: l) w) (hn : xs.length = n) (hj : j < n) (h64 : n ≤ 64) {nx : Nat} (hnx : (xs.take j ++ xs.drop (j + 1)).length = nx) :
    Calls Try.prog 27 #[.slice a n p, .int .i64 (j : Int)] w fun e w' => ∃ a' c', e = .returned (.slice a' nx c') ∧ Its w0 (.ints w0.heap.size (.slice a' nx c') (xs.take j ++ xs.drop (j + 1)) :: .ints w0.heap.size (.slice a n p) xs :: l) w' := by
  obtain ⟨w1, rfl⟩ : ∃ w1, w1 = w := ⟨_, rfl⟩
  obtain ⟨gb, c3, hv, hle, hmx⟩ := El.Own.some h.one (fun e => by rw [e] at hn; simp at hn; omega)
  simp only [Value.slice.injEq] at hv
  obtain ⟨rfl, hn7, rfl⟩ := hv
  rw [← hn7] at hle
  unfold maxLen at hmx
  have HI := hide h
  have Hn := hide hn
  have HLn3 : Hid (([] ++ xs.take j ++ xs.drop (j + 1)).length = nx) := hide (by rw [List.nil_append]; exact hnx)
  have t1 : (0 : Int) ≤ (j : Int) := by omega
  have t2 : (j : Int) < (n : Int) := by omega
  have t3 : (j : Int) ≤ (p : Int) := by omega
  have t4 : (j : Int) + 1 ≤ (n : Int) := by omega
  have t5 : (n : Int) ≤ (p : Int) := by omega
  have t6 : IntKind.i64.wrap ((j : Int) + 1) = (j : Int) + 1 := by simp [IntKind.wrap, IntKind.bits, IntKind.signed]; omega
  have t7 : (0 : Int) ≤ (j : Int) + 1 := by omega
  obtain ⟨pv, hpv⟩ : ∃ pv : Option Addr, (if p = j + 1 then some ⟨gb, 0, none⟩ else some ⟨gb, j + 1, none⟩) = pv := ⟨_, rfl⟩
  have HRd1 : Hid (∀ W, intE.Rd W (.slice (some ⟨gb, 0, none⟩) n p) xs → intE.Rd W (.slice (some ⟨gb, 0, none⟩) j p) (xs.take j) ∧ intE.Rd W (.slice pv (n - (j + 1)) (p - (j + 1))) (xs.drop (j + 1))) := hide (fun W ho => by
    refine ⟨ho.take j (by rw [Hn.out]; omega), ?_⟩
    by_cases e : p = j + 1
    · rw [if_pos e] at hpv
      subst hpv
      have e2 : xs.drop (j + 1) = [] := List.drop_eq_nil_of_le (by rw [Hn.out]; omega)
      rw [e2]
      exact .inr ⟨_, _, by rw [show n - (j + 1) = ([] : List Int).length by simp; omega], fun q hq => by simp at hq⟩
    · rw [if_neg e] at hpv
      subst hpv
      have := El.Rd.drop (cap' := p - (j + 1)) ho (j + 1) (n - (j + 1)) (by rw [Hn.out]) (by rw [Hn.out]; omega)
      simpa [intE] using this)
  have HLn1 : Hid (([] : List Int).length + (xs.take j).length ≤ 1000000) := hide (by simp; rw [Hn.out]; omega)
  have HLn2 : Hid (([] ++ xs.take j).length + (xs.drop (j + 1)).length ≤ 1000000) := hide (by simp; rw [Hn.out]; omega)
  clear hn7 h hnx
  go_enter Try.func27, Try.ntmps27
  go_upto_region 1 with fail
  have HIn : Hid (Its w0 _ (w1.alloc (.cells #[] 3)).drew) := hide ((HI.out.fresh (El.Own.new intE w1 w1.heap.size (Nat.le_refl _) #[] [] rfl (by simp) w1.heap.size 0 0 rfl rfl rfl) (below_new w1 _)).drew 1)
  refine wp_region_held_drew (S := fun _ => True) (by kernel_rfl) trivial (fun hS0 => ?_)
  refine wpAnyH_take (i := 1) (v := .slice (some ⟨gb, 0, none⟩) n p) rfl (by kernel_rfl) (by kernel_rfl) (by kernel_rfl) (fun _ _ _ h => h) (Or.inl ⟨by rfl, fun W' hW => by go_simp⟩) trivial ?_
  refine wpAnyH_take (i := 2) (v := .int .i64 j) rfl (by kernel_rfl) (by kernel_rfl) (by kernel_rfl) (fun _ _ _ h => h) (Or.inl ⟨by rfl, fun W' hW => by go_simp⟩) trivial ?_
  refine wpAnyH_take (i := 3) (v := .slice (some ⟨gb, 0, none⟩) j p) rfl (by kernel_rfl) (by kernel_rfl) (by kernel_rfl) (fun _ _ _ h => h) (Or.inl ⟨by rfl, fun W' hW => by go_simp⟩) trivial ?_
  refine wpAnyH_take (i := 5) (v := .slice (some ⟨gb, 0, none⟩) n p) rfl (by kernel_rfl) (by kernel_rfl) (by kernel_rfl) (fun _ _ _ h => h) (Or.inl ⟨by rfl, fun W' hW => by go_simp⟩) trivial ?_
  refine wpAnyH_take (i := 6) (v := .int .i64 j) rfl (by kernel_rfl) (by kernel_rfl) (by kernel_rfl) (fun _ _ _ h => h) (Or.inl ⟨by rfl, fun W' hW => by go_simp⟩) trivial ?_
  refine wpAnyH_take (i := 7) (v := .int .i64 ((j : Int) + 1)) rfl (by kernel_rfl) (by kernel_rfl) (by kernel_rfl) (fun _ _ _ h => h) (Or.inl ⟨by rfl, fun W' hW => by go_simp⟩) trivial ?_
  refine wpAnyH_take (i := 8) (v := .slice pv (n - (j + 1)) (p - (j + 1))) rfl (by kernel_rfl) (by kernel_rfl) (by kernel_rfl) (fun _ _ _ h => h) (Or.inl ⟨by rfl, fun W' hW => by go_simp⟩) trivial ?_
  refine wpAnyH_ready (rs := [0]) (by kernel_rfl) (by simp) ?_
  refine AllReadyH.cons rfl (fun K hK => ?_) AllReadyH.nil
  go_simp
  refine hK.out _ _ trivial (fun _ => ?_)
  clear hK K
  refine wpAnyH_ready (rs := [4]) (by kernel_rfl) (by simp) ?_
  refine AllReadyH.cons rfl (fun K hK => ?_) AllReadyH.nil
  refine intE.step (w0 := w0) HIn.out.bel rfl _ _ rfl _ _ rfl rfl [] (xs.take j) HIn.out.one (HRd1.out _ (El.Own.rd HIn.out.two)).1 HLn1.out ?_
  intro vz4 Wz4 ho4 hg4 hs4 hb4
  have HIz4 := hide (HIn.out.grow ho4 hg4 hs4)
  refine hK.out _ _ trivial (fun _ => ?_)
  clear hK K ho4 hg4 hs4 hb4
  refine wpAnyH_ready (rs := [9]) (by kernel_rfl) (by simp) ?_
  refine AllReadyH.cons rfl (fun K hK => ?_) AllReadyH.nil
  refine intE.step (w0 := w0) HIz4.out.bel rfl _ _ rfl _ _ rfl rfl ([] ++ xs.take j) (xs.drop (j + 1)) HIz4.out.one (HRd1.out _ (El.Own.rd HIz4.out.two)).2 HLn2.out ?_
  intro vz5 Wz5 ho5 hg5 hs5 hb5
  have HIz5 := hide (HIz4.out.grow ho5 hg5 hs5)
  obtain ⟨az5, cz5, e5⟩ := ho5.rd.form
  rw [HLn3.out] at e5
  subst e5
  refine hK.out _ _ trivial (fun _ => ?_)
  clear hK K ho5 hg5 hs5 hb5
  refine wpAnyH_ready (rs := [10]) (by kernel_rfl) (by simp) ?_
  refine AllReadyH.cons rfl (fun K hK => ?_) AllReadyH.nil
  go_simp
  refine hK.out _ _ trivial (fun _ => ?_)
  clear hK K
  refine wpAnyH_done (by kernel_rfl) ?_ _
  have HE := hide HIz5.out
  rw [List.nil_append] at HE
  clear HIz4 HIz5 HIn HI
  go_wp2_with fail
  go_ret
  exact ⟨_, _, rfl, HE.out⟩

/-- a call of the document's gate answers so -/
def RG (w0 : World) (l : List It) (cr : Nat) (S : Gt) (code : Int) (e : Ending) (w' : World) : Prop := ∃ (au : Option Addr) (nu pu : Nat) (av : Option Addr) (nv pv : Nat), e = .returned (.tuple #[.agg #[.int .i64 (cr : Int), .slice au nu pu, .slice av nv pv], .int .i64 code]) ∧ S.wt.length = nu ∧ S.ins.length = nv ∧ Its w0 (.ints w0.heap.size (.slice au nu pu) S.wt :: .ints w0.heap.size (.slice av nv pv) S.ins :: l) w'
/-- Leave answers so -/
def RL (w0 : World) (l : List It) (cr : Nat) (S : Gt) (val code : Int) (e : Ending) (w' : World) : Prop := ∃ (au : Option Addr) (nu pu : Nat) (av : Option Addr) (nv pv : Nat), e = .returned (.tuple #[.agg #[.int .i64 (cr : Int), .slice au nu pu, .slice av nv pv], .int .i64 val, .int .i64 code]) ∧ S.wt.length = nu ∧ S.ins.length = nv ∧ Its w0 (.ints w0.heap.size (.slice au nu pu) S.wt :: .ints w0.heap.size (.slice av nv pv) S.ins :: l) w'

set_option maxRecDepth 100000 in
set_option maxHeartbeats 2000000 in
theorem racc_any {w0 w : World} {l : List It} {au av : Option Addr} {nu pu nv pv : Nat} {S : Gt} (x : Int) (h : Its w0 (.ints w0.heap.size (.slice au nu pu) S.wt :: .ints w0.heap.size (.slice av nv pv) S.ins :: l) w) (hu : S.wt.length = nu) (hv : S.ins.length = nv) (hok : S.Ok) :
    Calls Try.prog 12 #[.agg #[.int .i64 (S.cr : Int), .slice au nu pu, .slice av nv pv], .int .i64 x] w fun e w' => RG w0 l S.cr (S.ac x) (S.acC x) e w' := by
  obtain ⟨h0, hh⟩ : ∃ h0, w.heap.size = h0 := ⟨_, rfl⟩
  have HI1 := hide (h.boxes #[.int .i64 (S.cr : Int), .slice au nu pu, .slice av nv pv] #[.int .i64 0, .slice none 0 0, .slice none 0 0] 30 hh)
  have hm := hok.ml
  have hc1 := hok.c1
  have hil := hok.il
  have Hu := hide hu
  have Hv := hide hv
  have Hok := hide hok
  rw [hu, hv] at hm
  rw [hv] at hil
  have iu : (nu : Int) ≤ 64 := by omega
  have iv : (nv : Int) ≤ 64 := by omega
  have HKu : Hid (∀ W, Its w0 (.box h0 #[.int .i64 (S.cr : Int), .slice au nu pu, .slice av nv pv] 30 :: .box (h0 + 1) #[.int .i64 0, .slice none 0 0, .slice none 0 0] 30 :: .ints w0.heap.size (.slice au nu pu) S.wt :: .ints w0.heap.size (.slice av nv pv) S.ins :: l) W → Calls Try.prog 25 #[.slice au nu pu, .int .i64 x] W fun e w' => e = .returned (.int .i64 (loc S.wt x)) ∧ w' = W) := hide (fun W h => at_any au pu nu S.wt x W Hu.out (El.Own.rd h.three) (by omega))
  have HKv : Hid (∀ W, Its w0 (.box h0 #[.int .i64 (S.cr : Int), .slice au nu pu, .slice av nv pv] 30 :: .box (h0 + 1) #[.int .i64 0, .slice none 0 0, .slice none 0 0] 30 :: .ints w0.heap.size (.slice au nu pu) S.wt :: .ints w0.heap.size (.slice av nv pv) S.ins :: l) W → Calls Try.prog 25 #[.slice av nv pv, .int .i64 x] W fun e w' => e = .returned (.int .i64 (loc S.ins x)) ∧ w' = W) := hide (fun W h => at_any av pv nv S.ins x W Hv.out (El.Own.rd h.four) (by omega))
  have Hh := hide hh
  clear hh h hu hv hok
  by_cases hx : x ∈ S.wt
  · have e1 : S.acC x = 2 := if_pos (.inl hx)
    rw [Gt.ac_no (by rw [e1]; decide), e1]
    obtain ⟨e2, e3⟩ := loc_in hx
    rw [e2] at HKu
    have j0 : (0 : Int) ≤ (S.wt.idxOf x : Int) := by omega
    clear e1 e2 e3 hx
    generalize S.wt.idxOf x = ii at *
    go_enter Try.func12, Try.ntmps12
    go_upto_region 1 with fail
    rw [Hh.out]
    generalize (w.alloc (.cells #[.int .i64 (S.cr : Int), .slice au nu pu, .slice av nv pv] 30)).alloc (.cells #[.int .i64 0, .slice none 0 0, .slice none 0 0] 30) = W1 at *
    obtain ⟨x0, x1, x2, xf, x3, x4, x5, xg⟩ := HI1.out.six
    go_wp2_with (first | (go_at_call_of 25 (Value.slice au nu pu); refine (HKu.out _ HI1.out).mono ?_; rintro e W9 ⟨rfl, h9⟩; have h9' := h9.symm; clear h9; subst h9') | (go_at_call_of 25 (Value.slice av nv pv); refine (HKv.out _ HI1.out).mono ?_; rintro e W9 ⟨rfl, h9⟩; have h9' := h9.symm; clear h9; subst h9'))
    have HF := hide (HI1.out.swap.out3 (.int .i64 (S.cr : Int)) (.slice au nu pu) (.slice av nv pv))
    obtain ⟨f0, f1, f2⟩ := HF.out.cells3
    refine bodyPost_ret (v := .tuple #[.agg #[.int .i64 (S.cr : Int), .slice au nu pu, .slice av nv pv], .int .i64 2]) (by simp [results, Try.results12, go_sem, f0, f1, f2]) rfl ⟨_, _, _, _, _, _, rfl, Hu.out, Hv.out, HF.out.tail.tail⟩
  have hxl := loc_no hx
  rw [hxl] at HKu
  by_cases hi : x ∈ S.ins
  · have e1 : S.acC x = 2 := if_pos (.inr hi)
    rw [Gt.ac_no (by rw [e1]; decide), e1]
    obtain ⟨e2, e3⟩ := loc_in hi
    rw [e2] at HKv
    have j0 : (0 : Int) ≤ (S.ins.idxOf x : Int) := by omega
    clear e1 e2 e3 hx hi hxl
    generalize S.ins.idxOf x = ii at *
    go_enter Try.func12, Try.ntmps12
    go_upto_region 1 with fail
    rw [Hh.out]
    generalize (w.alloc (.cells #[.int .i64 (S.cr : Int), .slice au nu pu, .slice av nv pv] 30)).alloc (.cells #[.int .i64 0, .slice none 0 0, .slice none 0 0] 30) = W1 at *
    obtain ⟨x0, x1, x2, xf, x3, x4, x5, xg⟩ := HI1.out.six
    go_wp2_with (first | (go_at_call_of 25 (Value.slice au nu pu); refine (HKu.out _ HI1.out).mono ?_; rintro e W9 ⟨rfl, h9⟩; have h9' := h9.symm; clear h9; subst h9') | (go_at_call_of 25 (Value.slice av nv pv); refine (HKv.out _ HI1.out).mono ?_; rintro e W9 ⟨rfl, h9⟩; have h9' := h9.symm; clear h9; subst h9'))
    have HF := hide (HI1.out.swap.out3 (.int .i64 (S.cr : Int)) (.slice au nu pu) (.slice av nv pv))
    obtain ⟨f0, f1, f2⟩ := HF.out.cells3
    refine bodyPost_ret (v := .tuple #[.agg #[.int .i64 (S.cr : Int), .slice au nu pu, .slice av nv pv], .int .i64 2]) (by simp [results, Try.results12, go_sem, f0, f1, f2]) rfl ⟨_, _, _, _, _, _, rfl, Hu.out, Hv.out, HF.out.tail.tail⟩
  rw [loc_no hi] at HKv
  by_cases hf : 64 ≤ nu + nv
  · have e1 : S.acC x = 5 := by unfold Gt.acC; rw [if_neg (by simp [hx, hi]), if_pos (by rw [Hu.out, Hv.out]; exact hf)]
    rw [Gt.ac_no (by rw [e1]; decide), e1]
    have j0 : (64 : Int) ≤ (nu : Int) + (nv : Int) := by omega
    clear e1 hx hi hxl hf
    go_enter Try.func12, Try.ntmps12
    go_upto_region 1 with fail
    rw [Hh.out]
    generalize (w.alloc (.cells #[.int .i64 (S.cr : Int), .slice au nu pu, .slice av nv pv] 30)).alloc (.cells #[.int .i64 0, .slice none 0 0, .slice none 0 0] 30) = W1 at *
    obtain ⟨x0, x1, x2, xf, x3, x4, x5, xg⟩ := HI1.out.six
    go_wp2_with (first | (go_at_call_of 25 (Value.slice au nu pu); refine (HKu.out _ HI1.out).mono ?_; rintro e W9 ⟨rfl, h9⟩; have h9' := h9.symm; clear h9; subst h9') | (go_at_call_of 25 (Value.slice av nv pv); refine (HKv.out _ HI1.out).mono ?_; rintro e W9 ⟨rfl, h9⟩; have h9' := h9.symm; clear h9; subst h9'))
    have HF := hide (HI1.out.swap.out3 (.int .i64 (S.cr : Int)) (.slice au nu pu) (.slice av nv pv))
    obtain ⟨f0, f1, f2⟩ := HF.out.cells3
    refine bodyPost_ret (v := .tuple #[.agg #[.int .i64 (S.cr : Int), .slice au nu pu, .slice av nv pv], .int .i64 5]) (by simp [results, Try.results12, go_sem, f0, f1, f2]) rfl ⟨_, _, _, _, _, _, rfl, Hu.out, Hv.out, HF.out.tail.tail⟩
  · have e1 : S.acC x = 0 := Gt.acC_yes hx hi (by rw [Hu.out, Hv.out]; omega)
    rw [Gt.ac_yes e1, e1]
    have j0 : (nu : Int) + (nv : Int) < 64 := by omega
    have HL1 : Hid (([] : List Int).length + S.wt.length ≤ 1000000) := hide (by rw [Hu.out]; simp; omega)
    have HL2 : Hid (([] ++ S.wt).length + [x].length ≤ 1000000) := hide (by simp; rw [Hu.out]; omega)
    clear e1 hx hi hxl hf
    go_enter Try.func12, Try.ntmps12
    go_upto_region 1 with fail
    rw [Hh.out]
    generalize (w.alloc (.cells #[.int .i64 (S.cr : Int), .slice au nu pu, .slice av nv pv] 30)).alloc (.cells #[.int .i64 0, .slice none 0 0, .slice none 0 0] 30) = W1 at *
    obtain ⟨x0, x1, x2, xf, x3, x4, x5, xg⟩ := HI1.out.six
    have HX := hide HI1.out.nothing
    obtain ⟨z0, z1, z2, zf, z3, z4, z5, zg⟩ := HX.out.tail.six
    go_wp2_with (first
      | (go_at_call_of 25 (Value.slice au nu pu); refine (HKu.out _ HI1.out).mono ?_; rintro e W9 ⟨rfl, h9⟩; have h9' := h9.symm; clear h9; subst h9')
      | (go_at_call_of 25 (Value.slice av nv pv); refine (HKv.out _ HI1.out).mono ?_; rintro e W9 ⟨rfl, h9⟩; have h9' := h9.symm; clear h9; subst h9')
      | (at_builtin; refine intE.wpB (B := w0.heap.size) HX5.out.size (by rfl) _ _ rfl _ _ rfl rfl ([] ++ S.wt) [x] HX5.out.one HR5.out HL2.out ?_; intro v6 W6 ho hg hs; obtain ⟨a6, p6, hf6⟩ := ho.rd.form; obtain ⟨n6, hn6⟩ : ∃ n6, ([] ++ S.wt ++ [x]).length = n6 := ⟨_, rfl⟩; rw [hn6] at hf6; subst hf6; have HI6 := hide (HX5.out.grow ho hg hs).rot3'; have Hn6 := hide hn6; clear ho hg hs hn6; obtain ⟨y0, y1, y2, yf, y3, y4, y5, yg⟩ := HI6.out.six)
      | (at_builtin; refine intE.wpB (B := w0.heap.size) HX.out.size (by rfl) _ _ rfl _ _ rfl rfl [] S.wt HX.out.one (El.Own.rd HX.out.four) HL1.out ?_; intro v5 W5 ho hg hs; obtain ⟨a5, p5, hf5⟩ := ho.rd.form; obtain ⟨n5, hn5⟩ : ∃ n5, ([] ++ S.wt).length = n5 := ⟨_, rfl⟩; rw [hn5] at hf5; subst hf5; clear hn5; have HX5 := hide ((HX.out.grow ho hg hs).alloc (.cells #[.int .i64 x] 3)); have HR5 := hide (int_new W5 x _ rfl); clear ho hg hs))
    have HF := hide ((HI6.out.put1 1 (.slice a6 n6 p6)).swap.out3 (.int .i64 (S.cr : Int)) (.slice a6 n6 p6) (.slice av nv pv))
    obtain ⟨f0, f1, f2⟩ := HF.out.cells3
    refine bodyPost_ret (v := .tuple #[.agg #[.int .i64 (S.cr : Int), .slice a6 n6 p6, (.slice av nv pv)], .int .i64 0]) (by simp [results, Try.results12, go_sem, f0, f1, f2]) rfl ⟨_, _, _, _, _, _, rfl, by have := Hn6.out; rw [List.nil_append] at this; exact this, Hv.out, ?_⟩
    have := HF.out.tail.tail
    rw [List.nil_append] at this
    exact this.swap.tail
end Go.Proofs.Ytdnkgfljkdbckaa
