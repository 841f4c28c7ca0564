/- Tells: what a book tells is the document's. -/
import Derived.Test.YtfmpipihjnpimaaBre
import Derived.Test.YtfmpipihjnpimaaBrs
import Derived.Test.YtfmpipihjnpimaaBxw
import Derived.Test.YtfmpipihjnpimaaBtw
namespace Go.Proofs.Ytfmpipihjnpimaa
open Go.RowKit
set_option linter.unusedVariables false
section
variable {w0 w : World} {g : Nat} {H : Hb} {S : Bk} {l : List It} {aA aD : Option Addr} {nA cA nD cD : Nat}

set_option maxRecDepth 100000 in
set_option maxHeartbeats 8000000 in
theorem tells_any (h : Its w0 (.book w0.heap.size g H S :: .row enE w0.heap.size (.slice aA nA cA) S.all :: .ints w0.heap.size (.slice aD nD cD) S.done :: l) w) (hn : S.all.length = nA ∧ S.done.length = nD) (hl : nA ≤ 5000 ∧ nD ≤ 5000) :
    Calls Try.prog 18 #[.pointer (some ⟨g, 0, none⟩), .agg #[.slice aA nA cA, .slice aD nD cD]] w fun r w' => r = .returned (.bool true) ∧ Its w0 (.book w0.heap.size g H S :: .row enE w0.heap.size (.slice aA nA cA) S.all :: .ints w0.heap.size (.slice aD nD cD) S.done :: l) w' := by
  have hok := (bk_lie h.one).1
  obtain ⟨bt, hbt⟩ : ∃ bt, w.heap.size = bt := ⟨_, rfl⟩
  have HI1 : Hid (Its w0 (.book w0.heap.size g H S :: .box bt #[.slice aA nA cA, .slice aD nD cD] 29 :: .row enE w0.heap.size (.slice aA nA cA) S.all :: .ints w0.heap.size (.slice aD nD cD) S.done :: l) (w.alloc (.cells #[.slice aA nA cA, .slice aD nD cD] 29))) := hide ((h.boxN #[.slice aA nA cA, .slice aD nD cD] 29 hbt).swap)
  have HFin : Hid (∀ W, Its w0 (.book w0.heap.size g H S :: .box bt #[.slice aA nA cA, .slice aD nD cD] 29 :: .row enE w0.heap.size (.slice aA nA cA) S.all :: .ints w0.heap.size (.slice aD nD cD) S.done :: l) W → Its w0 (.book w0.heap.size g H S :: .row enE w0.heap.size (.slice aA nA cA) S.all :: .ints w0.heap.size (.slice aD nD cD) S.done :: l) W) := hide (fun W h => h.swap.tail)
  obtain ⟨no, hno⟩ : ∃ no, (ops S.all).length = no := ⟨_, rfl⟩
  have hfew := hok.few
  have hkn : ∀ x ∈ S.done, ∃ e, fnd S.all x = some e := fun x hx => by
    obtain ⟨e, he, q, _⟩ := hok.dn x hx
    have := fnd_of hok.nd he
    rw [q] at this
    exact ⟨e, this⟩
  have K19 : Hid (∀ W l, Its w0 (.book w0.heap.size g H S :: l) W → Calls Try.prog 19 #[.pointer (some ⟨g, 0, none⟩)] W fun q w' => ∃ a' c', q = .returned (.slice a' no c') ∧ Its w0 (.row rqE w0.heap.size (.slice a' no c') (ops S.all) :: .book w0.heap.size g H S :: l) w') := hide (fun W l h => openS h hno)
  have K27 : Hid (∀ W l, Its w0 l W → enE.Rd W (.slice aA nA cA) S.all → Calls Try.prog 27 #[.agg #[.slice aA nA cA, .slice aD nD cD]] W fun r w' => ∃ a' c', r = .returned (.slice a' no c') ∧ Its w0 (.row rqE w0.heap.size (.slice a' no c') (ops S.all) :: l) w') := hide (fun W l h hv => by
    refine (ropen_any S.all W hn.1 hv (by omega)).mono ?_
    rintro r w' ⟨a', c', rfl, ho, hb⟩
    rw [hno] at ho ⊢
    exact ⟨_, _, rfl, h.fresh ho hb⟩)
  have K23 : Hid (∀ W (a b : Option Addr) (c d : Nat), rqE.Rd W (.slice a no c) (ops S.all) → rqE.Rd W (.slice b no d) (ops S.all) → Calls Try.prog 23 #[.slice a no c, .slice b no d] W fun e w' => e = .returned (.bool true) ∧ ∃ q, w' = W.drewN q) := hide (fun W a b c d h1 h2 => same_eq a b c d no _ W hno h1 h2 (by omega))
  have K22 : Hid (∀ W l s, Its w0 (.book w0.heap.size g H S :: l) W → Calls Try.prog 22 #[.pointer (some ⟨g, 0, none⟩), .int .i64 s] W fun e w' => e = .returned (.tuple #[rqV (fst S.all s), .bool (fst S.all s).isSome]) ∧ Its w0 (.book w0.heap.size g H S :: l) w') := hide (fun W l s h => firstS s h)
  have K30 : Hid (∀ W l s, Its w0 l W → enE.Rd W (.slice aA nA cA) S.all → Calls Try.prog 30 #[.agg #[.slice aA nA cA, .slice aD nD cD], .int .i64 s] W fun e w' => e = .returned (.tuple #[rqV (fst S.all s), .bool (fst S.all s).isSome]) ∧ Its w0 l w') := hide (fun W l s h hv => by
    refine (rfirst_any S.all s W hn.1 hv (by omega)).mono ?_
    rintro r w' ⟨rfl, hb⟩
    exact ⟨rfl, h.keep hb⟩)
  have K24 : Hid (∀ W l s, Its w0 (.book w0.heap.size g H S :: l) W → Calls Try.prog 24 #[.pointer (some ⟨g, 0, none⟩), .int .i64 s] W fun e w' => e = .returned (.tuple #[rqV (wnt S.all s), .bool (wnt S.all s).isSome]) ∧ Its w0 (.book w0.heap.size g H S :: l) w') := hide (fun W l s h => wantedS s h)
  have K26 : Hid (∀ W l s, Its w0 l W → enE.Rd W (.slice aA nA cA) S.all → Calls Try.prog 26 #[.agg #[.slice aA nA cA, .slice aD nD cD], .int .i64 s] W fun e w' => e = .returned (.tuple #[rqV (wnt S.all s), .bool (wnt S.all s).isSome]) ∧ Its w0 l w') := hide (fun W l s h hv => by
    refine (rwanted_any S.all s W hn.1 hv (by omega)).mono ?_
    rintro r w' ⟨rfl, hb⟩
    exact ⟨rfl, h.keep hb⟩)
  have K20g : Hid (∀ W l s n, I64 s → (S.sv s).length = n → Its w0 (.book w0.heap.size g H S :: l) W → Calls Try.prog 20 #[.pointer (some ⟨g, 0, none⟩), .int .i64 s] W fun q w' => ∃ a' c', q = .returned (.slice a' n c') ∧ Its w0 (.ints w0.heap.size (.slice a' n c') (S.sv s) :: .book w0.heap.size g H S :: l) w') := hide (fun W l s n hs hn' h => servedS h hs (by omega) hn')
  have K31g : Hid (∀ W l s n, (S.sv s).length = n → Its w0 l W → enE.Rd W (.slice aA nA cA) S.all → intE.Rd W (.slice aD nD cD) S.done → Calls Try.prog 31 #[.agg #[.slice aA nA cA, .slice aD nD cD], .int .i64 s] W fun q w' => ∃ a' c', q = .returned (.slice a' n c') ∧ Its w0 (.ints w0.heap.size (.slice a' n c') (S.sv s) :: l) w') := hide (fun W l s n hn' h hv hvd => by
    have := rserved_any S.all S.done s W hn.1 hv (by omega) hn.2 hvd (by omega) hkn
    refine this.mono ?_
    rintro r w' ⟨a', c', rfl, ho, hb⟩
    have e1 : (Bk.sv ⟨S.all, S.done⟩ s).length = n := hn'
    rw [e1] at ho ⊢
    exact ⟨_, _, rfl, h.fresh ho hb⟩)
  have Hlen : Hid (∀ s, (S.sv s).length ≤ 5000) := hide (fun s => by
    have : (S.sv s).length ≤ S.done.length := List.length_filter_le _ _
    omega)
  have KSt : Hid (∀ (k : Nat) (p : En) W, S.all[k]? = some p → Its w0 (.book w0.heap.size g H S :: .box bt #[.slice aA nA cA, .slice aD nD cD] 29 :: .row enE w0.heap.size (.slice aA nA cA) S.all :: .ints w0.heap.size (.slice aD nD cD) S.done :: l) W → Calls Try.prog 16 #[.pointer (some ⟨g, 0, none⟩), .int .i64 p.r.id] W fun q w' => q = .returned (.int .i64 p.en) ∧ w' = W) := hide (fun k p W hp h => stateS h (hok.rg p (List.mem_of_getElem? hp)).2 (Bk.sta_of (fnd_of hok.nd (List.mem_of_getElem? hp))))
  have Hn := hide hn
  have i0 : (nA : Int) ≤ 5000 := by omega
  clear h hn hl hok hfew hkn hno
  go_enter Try.func18, Try.ntmps18
  go_upto_region 1 with fail
  try rw [hbt]
  clear hbt
  generalize w.alloc (.cells #[.slice aA nA cA, .slice aD nD cD] 29) = W1 at *
  have HI1d := hide (HI1.out.drew 1)
  have hS1 : W1.drew.heap[bt]? = some (.cells #[.slice aA nA cA, .slice aD nD cD] 29) := HI1d.out.two
  refine wp_region_held_drew (S := (fun W : World => W.heap[bt]? = some (.cells #[.slice aA nA cA, .slice aD nD cD] 29))) (by kernel_rfl) hS1 (fun hS => ?_)
  refine wpAnyH_take (i := 0) (v := .pointer (some ⟨g, 0, none⟩)) rfl (by kernel_rfl) (by kernel_rfl) (by kernel_rfl) (fun _ _ _ h => h) (Or.inl ⟨by kernel_rfl, fun W' hW => by go_simp⟩) hS ?_
  refine wpAnyH_take (i := 2) (v := .agg #[.slice aA nA cA, .slice aD nD cD]) rfl (by kernel_rfl) (by kernel_rfl) (by kernel_rfl) (fun _ _ _ h => h) (Or.inl ⟨by kernel_rfl, fun W' hW => by have z0 := (cells_at hW 0).1; have z1 := (cells_at hW 1).1; go_simp⟩) hS ?_
  refine wpAnyH_ready (rs := [1]) (by kernel_rfl) (by simp) ?_
  refine AllReadyH.cons rfl (fun K hK => ?_) AllReadyH.nil
  go_simp
  go_at_call 19
  refine (K19.out _ _ HI1d.out).mono ?_; rintro e W2 ⟨a2, c2, rfl, hg⟩; have HI2 := hide hg; clear hg
  have q2 : W2.heap[bt]? = some (.cells #[.slice aA nA cA, .slice aD nD cD] 29) := HI2.out.three
  go_simp
  refine hK.out _ _ q2 (fun _ => ?_)
  clear hK K
  refine wpAnyH_ready (rs := [3]) (by kernel_rfl) (by simp) ?_
  refine AllReadyH.cons rfl (fun K hK => ?_) AllReadyH.nil
  go_simp
  go_at_call 27
  refine (K27.out _ _ HI2.out (El.Own.rd HI2.out.four)).mono ?_; rintro e W3 ⟨a3, c3, rfl, hg⟩; have HI3 := hide hg; clear hg
  have q3 : W3.heap[bt]? = some (.cells #[.slice aA nA cA, .slice aD nD cD] 29) := HI3.out.four
  go_simp
  refine hK.out _ _ q3 (fun _ => ?_)
  clear hK K
  refine wpAnyH_ready (rs := [4]) (by kernel_rfl) (by simp) ?_
  refine AllReadyH.cons rfl (fun K hK => ?_) AllReadyH.nil
  go_simp
  go_at_call 23
  refine (K23.out _ _ _ _ _ (El.Own.rd HI3.out.two) (El.Own.rd HI3.out.one)).mono ?_; rintro e W4 ⟨rfl, q4n, rfl⟩; have HI4 := hide (HI3.out.drew q4n).tail.tail
  have q4 : (W3.drewN q4n).heap[bt]? = some (.cells #[.slice aA nA cA, .slice aD nD cD] 29) := HI4.out.two
  clear HI2 HI3
  generalize W3.drewN q4n = W4 at *
  go_simp
  refine hK.out _ _ q4 (fun _ => ?_)
  clear hK K
  refine wpAnyH_ready (rs := [5]) (by kernel_rfl) (by simp) ?_
  refine AllReadyH.cons rfl (fun K hK => ?_) AllReadyH.nil
  go_simp
  refine hK.out _ _ q4 (fun _ => ?_)
  clear hK K
  refine wpAnyH_done (by kernel_rfl) ?_ _
  clear HI1 HI1d hS1 K19 K27 K23 q2 q3 q4
  go_wp2_with fail
  go_loopw [5] (fun v5 wr => ∃ k : Nat, v5 = .int .i64 ((k : Int) - 1) ∧ k ≤ 42 ∧ Hid (Its w0 (.book w0.heap.size g H S :: .box bt #[.slice aA nA cA, .slice aD nD cD] 29 :: .row enE w0.heap.size (.slice aA nA cA) S.all :: .ints w0.heap.size (.slice aD nD cD) S.done :: l) wr)) (fun v5 _ => 42 - (intOf v5 + 1).toNat)
  case atStart => exact ⟨0, rfl, by omega, HI4⟩
  case round =>
    obtain ⟨k, rfl, hk, HI⟩ := hrel
    obtain ⟨sv, hsv⟩ : ∃ sv : Int, (k : Int) - 1 = sv := ⟨_, rfl⟩
    rw [hsv]
    by_cases hlt : k < 42
    · have j0 : sv ≤ 40 := by omega
      have j1 : -1 ≤ sv := by omega
      obtain ⟨f1, f2, f3, ef⟩ := rqV_form (fst S.all sv)
      obtain ⟨fb, hfb⟩ : ∃ fb, (fst S.all sv).isSome = fb := ⟨_, rfl⟩
      obtain ⟨ns, hns⟩ : ∃ ns, (S.sv sv).length = ns := ⟨_, rfl⟩
      have K1 : Hid (Calls Try.prog 22 #[.pointer (some ⟨g, 0, none⟩), .int .i64 sv] wr fun e w' => e = .returned (.tuple #[.agg #[.int .i64 f1, .int .i64 f2, .int .i64 f3], .bool fb]) ∧ Its w0 (.book w0.heap.size g H S :: .box bt #[.slice aA nA cA, .slice aD nD cD] 29 :: .row enE w0.heap.size (.slice aA nA cA) S.all :: .ints w0.heap.size (.slice aD nD cD) S.done :: l) w') := hide (by have := K22.out wr _ sv HI.out; rwa [ef, hfb] at this)
      have K2 : Hid (∀ W l, Its w0 l W → enE.Rd W (.slice aA nA cA) S.all → Calls Try.prog 30 #[.agg #[.slice aA nA cA, .slice aD nD cD], .int .i64 sv] W fun e w' => e = .returned (.tuple #[.agg #[.int .i64 f1, .int .i64 f2, .int .i64 f3], .bool fb]) ∧ Its w0 l w') := hide (fun W l h hv => by have := K30.out W l sv h hv; rwa [ef, hfb] at this)
      have K20 : Hid (∀ W l, Its w0 (.book w0.heap.size g H S :: l) W → Calls Try.prog 20 #[.pointer (some ⟨g, 0, none⟩), .int .i64 sv] W fun q w' => ∃ a' c', q = .returned (.slice a' ns c') ∧ Its w0 (.ints w0.heap.size (.slice a' ns c') (S.sv sv) :: .book w0.heap.size g H S :: l) w') := hide (fun W l h => K20g.out W l sv ns (i64_small (by omega) (by omega)) hns h)
      have K31 : Hid (∀ W l, Its w0 l W → enE.Rd W (.slice aA nA cA) S.all → intE.Rd W (.slice aD nD cD) S.done → Calls Try.prog 31 #[.agg #[.slice aA nA cA, .slice aD nD cD], .int .i64 sv] W fun q w' => ∃ a' c', q = .returned (.slice a' ns c') ∧ Its w0 (.ints w0.heap.size (.slice a' ns c') (S.sv sv) :: l) w') := hide (fun W l h hv hvd => K31g.out W l sv ns hns h hv hvd)
      have K21 : Hid (∀ W (a b : Option Addr) (c d : Nat), intE.Rd W (.slice a ns c) (S.sv sv) → intE.Rd W (.slice b ns d) (S.sv sv) → Calls Try.prog 21 #[.slice a ns c, .slice b ns d] W fun e w' => e = .returned (.bool true) ∧ ∃ q, w' = W.drewN q) := hide (fun W a b c d h1 h2 => ints_eq a b c d ns _ W hns h1 h2 (by have := Hlen.out sv; omega))
      have heq := fun W => rq_equal W (⟨f1, f2, f3⟩ : Rq) ⟨f1, f2, f3⟩
      simp only [decide_true] at heq
      have b9 : (fb != fb) = false := bne_self_eq_false _
      clear ef hfb hns
      go_upto_region 7 with (go_at_call 22; refine K1.out.mono ?_; rintro e W5 ⟨rfl, hg⟩; have HI5 := hide (hg.boxN #[.int .i64 f1, .int .i64 f2, .int .i64 f3] 31 rfl); clear hg)
      generalize W5.alloc (.cells #[.int .i64 f1, .int .i64 f2, .int .i64 f3] 31) = W6 at *
      generalize W5.heap.size = b6 at *
      have c0 : W6.cell? ⟨bt, 0, none⟩ = some (.slice aA nA cA) := (cells_at HI5.out.three 0).1
      have c1 : W6.cell? ⟨bt, 1, none⟩ = some (.slice aD nD cD) := (cells_at HI5.out.three 1).1
      go_upto_region 8 with (go_at_call 30; refine (K2.out _ _ HI5.out (El.Own.rd HI5.out.four)).mono ?_; rintro e W7 ⟨rfl, hg⟩; have HI7 := hide (hg.boxN #[.int .i64 f1, .int .i64 f2, .int .i64 f3] 31 rfl); clear hg)
      generalize W7.alloc (.cells #[.int .i64 f1, .int .i64 f2, .int .i64 f3] 31) = W8 at *
      generalize W7.heap.size = b8 at *
      clear c0 c1
      have HI8d := hide (HI7.out.drew 1)
      have hSS : Hid (∀ W : World, W.heap[bt]? = some (.cells #[.slice aA nA cA, .slice aD nD cD] 29) → W.heap[b6]? = some (.cells #[.int .i64 f1, .int .i64 f2, .int .i64 f3] 31) → W.heap[b8]? = some (.cells #[.int .i64 f1, .int .i64 f2, .int .i64 f3] 31) → (fun W : World => W.heap[bt]? = some (.cells #[.slice aA nA cA, .slice aD nD cD] 29) ∧ W.heap[b6]? = some (.cells #[.int .i64 f1, .int .i64 f2, .int .i64 f3] 31) ∧ W.heap[b8]? = some (.cells #[.int .i64 f1, .int .i64 f2, .int .i64 f3] 31)) W) := hide (fun W h1 h2 h3 => ⟨h1, h2, h3⟩)
      have hS8 := hSS.out W8.drew HI8d.out.four HI8d.out.two HI8d.out.one
      refine wp_region_held_drew (S := (fun W : World => W.heap[bt]? = some (.cells #[.slice aA nA cA, .slice aD nD cD] 29) ∧ W.heap[b6]? = some (.cells #[.int .i64 f1, .int .i64 f2, .int .i64 f3] 31) ∧ W.heap[b8]? = some (.cells #[.int .i64 f1, .int .i64 f2, .int .i64 f3] 31))) (by kernel_rfl) hS8 (fun hS => ?_)
      refine wpAnyH_take (i := 0) (v := .agg #[.int .i64 f1, .int .i64 f2, .int .i64 f3]) rfl (by kernel_rfl) (by kernel_rfl) (by kernel_rfl) (fun _ _ _ h => h) (Or.inl ⟨by kernel_rfl, fun W' hW => by have z0 := (cells_at hW.2.1 0).1; have z1 := (cells_at hW.2.1 1).1; have z2 := (cells_at hW.2.1 2).1; go_simp⟩) hS ?_
      refine wpAnyH_take (i := 1) (v := .agg #[.int .i64 f1, .int .i64 f2, .int .i64 f3]) rfl (by kernel_rfl) (by kernel_rfl) (by kernel_rfl) (fun _ _ _ h => h) (Or.inl ⟨by kernel_rfl, fun W' hW => by have z0 := (cells_at hW.2.2 0).1; have z1 := (cells_at hW.2.2 1).1; have z2 := (cells_at hW.2.2 2).1; go_simp⟩) hS ?_
      refine wpAnyH_take (i := 2) (v := .bool false) rfl (by kernel_rfl) (by kernel_rfl) (by kernel_rfl) (fun _ _ _ h => h) (Or.inl ⟨by kernel_rfl, fun W' hW => by go_simp⟩) hS ?_
      refine wpAnyH_take (i := 3) (v := .bool false) rfl (by kernel_rfl) (by kernel_rfl) (by kernel_rfl) (fun _ _ _ h => h) (Or.inl ⟨by kernel_rfl, fun W' hW => by go_simp⟩) hS ?_
      refine wpAnyH_take (i := 4) (v := .bool fb) rfl (by kernel_rfl) (by kernel_rfl) (by kernel_rfl) (fun _ _ _ h => h) (Or.inl ⟨by kernel_rfl, fun W' hW => by go_simp⟩) hS ?_
      refine wpAnyH_take (i := 5) (v := .bool fb) rfl (by kernel_rfl) (by kernel_rfl) (by kernel_rfl) (fun _ _ _ h => h) (Or.inl ⟨by kernel_rfl, fun W' hW => by go_simp⟩) hS ?_
      refine wpAnyH_take (i := 6) (v := .bool false) rfl (by kernel_rfl) (by kernel_rfl) (by kernel_rfl) (fun _ _ _ h => h) (Or.inl ⟨by kernel_rfl, fun W' hW => by go_simp⟩) hS ?_
      refine wpAnyH_take (i := 7) (v := .bool false) rfl (by kernel_rfl) (by kernel_rfl) (by kernel_rfl) (fun _ _ _ h => h) (Or.inl ⟨by kernel_rfl, fun W' hW => by go_simp⟩) hS ?_
      refine wpAnyH_take (i := 8) (v := .bool false) rfl (by kernel_rfl) (by kernel_rfl) (by kernel_rfl) (fun _ _ _ h => h) (Or.inl ⟨by kernel_rfl, fun W' hW => by go_simp⟩) hS ?_
      refine wpAnyH_take (i := 9) (v := .pointer (some ⟨g, 0, none⟩)) rfl (by kernel_rfl) (by kernel_rfl) (by kernel_rfl) (fun _ _ _ h => h) (Or.inl ⟨by kernel_rfl, fun W' hW => by go_simp⟩) hS ?_
      refine wpAnyH_take (i := 10) (v := .int .i64 sv) rfl (by kernel_rfl) (by kernel_rfl) (by kernel_rfl) (fun _ _ _ h => h) (Or.inl ⟨by kernel_rfl, fun W' hW => by go_simp⟩) hS ?_
      refine wpAnyH_take (i := 12) (v := .agg #[.slice aA nA cA, .slice aD nD cD]) rfl (by kernel_rfl) (by kernel_rfl) (by kernel_rfl) (fun _ _ _ h => h) (Or.inl ⟨by kernel_rfl, fun W' hW => by have z0 := (cells_at hW.1 0).1; have z1 := (cells_at hW.1 1).1; go_simp⟩) hS ?_
      refine wpAnyH_take (i := 13) (v := .int .i64 sv) rfl (by kernel_rfl) (by kernel_rfl) (by kernel_rfl) (fun _ _ _ h => h) (Or.inl ⟨by kernel_rfl, fun W' hW => by go_simp⟩) hS ?_
      refine wpAnyH_ready (rs := [11]) (by kernel_rfl) (by simp) ?_
      refine AllReadyH.cons rfl (fun K hK => ?_) AllReadyH.nil
      go_simp
      go_at_call 20
      refine (K20.out _ _ HI8d.out.rot3).mono ?_; rintro e W9 ⟨a9, c9, rfl, hg⟩; have HI9 := hide hg; clear hg
      have q9 := hSS.out W9 HI9.out.tail.four HI9.out.four HI9.out.three
      go_simp
      refine hK.out _ _ q9 (fun _ => ?_)
      clear hK K
      refine wpAnyH_ready (rs := [14]) (by kernel_rfl) (by simp) ?_
      refine AllReadyH.cons rfl (fun K hK => ?_) AllReadyH.nil
      go_simp
      go_at_call 31
      refine (K31.out _ _ HI9.out (El.Own.rd HI9.out.tail.tail.four) (El.Own.rd HI9.out.tail.tail.tail.four)).mono ?_; rintro e W10 ⟨a10, c10, rfl, hg⟩; have HI10 := hide hg; clear hg
      have q10 := hSS.out W10 HI10.out.tail.tail.four HI10.out.tail.four HI10.out.four
      go_simp
      refine hK.out _ _ q10 (fun _ => ?_)
      clear hK K
      refine wpAnyH_ready (rs := [15]) (by kernel_rfl) (by simp) ?_
      refine AllReadyH.cons rfl (fun K hK => ?_) AllReadyH.nil
      go_simp
      go_at_call 21
      refine (K21.out _ _ _ _ _ (El.Own.rd HI10.out.two) (El.Own.rd HI10.out.one)).mono ?_; rintro e W11 ⟨rfl, q11n, rfl⟩; have HI11 := hide (HI10.out.drew q11n).tail.tail
      have q11 := hSS.out (W10.drewN q11n) HI11.out.four HI11.out.three HI11.out.two
      clear HI9 HI10
      generalize W10.drewN q11n = W11 at *
      go_simp
      refine hK.out _ _ q11 (fun _ => ?_)
      clear hK K
      refine wpAnyH_take (i := 16) (v := .bool false) rfl (by kernel_rfl) (by kernel_rfl) (by kernel_rfl) (fun _ _ _ h => h) (Or.inl ⟨by kernel_rfl, fun W' hW => by go_simp⟩) q11 ?_
      refine wpAnyH_ready (rs := [17]) (by kernel_rfl) (by simp) ?_
      refine AllReadyH.cons rfl (fun K hK => ?_) AllReadyH.nil
      go_simp
      refine hK.out _ _ q11 (fun _ => ?_)
      clear hK K
      refine wpAnyH_done (by kernel_rfl) ?_ _
      have HI12 := hide HI11.out.swap.tail.swap.tail
      clear HI11 HI8d HI7 HI5 hS8 hS q9 q10 q11 K1 K2 K20 K31 K21
      go_wp2_with fail
      go_roundw
      case rel => exact ⟨k + 1, by rw [← hsv]; go_num, by omega, HI12⟩
      case measure => rw [← hsv]; simp [intOf]; omega
    · have j0 : ¬ sv ≤ 40 := by omega
      clear K22 K30 K20g K31g
      go_wp2_with fail
      obtain ⟨wB, rfl⟩ : ∃ W, W = wr := ⟨_, rfl⟩
      go_loopw [10] (fun v10 wr => ∃ k : Nat, v10 = .int .i64 (k : Int) ∧ k ≤ 32 ∧ Hid (Its w0 (.book w0.heap.size g H S :: .box bt #[.slice aA nA cA, .slice aD nD cD] 29 :: .row enE w0.heap.size (.slice aA nA cA) S.all :: .ints w0.heap.size (.slice aD nD cD) S.done :: l) wr)) (fun v10 _ => 32 - (intOf v10).toNat)
      case atStart => exact ⟨0, rfl, by omega, HI⟩
      case round =>
        obtain ⟨t, rfl, ht, HI⟩ := hrel
        by_cases hlt : t < 32
        · have j0 : (t : Int) ≤ 31 := by omega
          obtain ⟨f1, f2, f3, ef⟩ := rqV_form (wnt S.all t)
          obtain ⟨fb, hfb⟩ : ∃ fb, (wnt S.all t).isSome = fb := ⟨_, rfl⟩
          have K1 : Hid (Calls Try.prog 24 #[.pointer (some ⟨g, 0, none⟩), .int .i64 (t : Int)] wr fun e w' => e = .returned (.tuple #[.agg #[.int .i64 f1, .int .i64 f2, .int .i64 f3], .bool fb]) ∧ Its w0 (.book w0.heap.size g H S :: .box bt #[.slice aA nA cA, .slice aD nD cD] 29 :: .row enE w0.heap.size (.slice aA nA cA) S.all :: .ints w0.heap.size (.slice aD nD cD) S.done :: l) w') := hide (by have := K24.out wr _ t HI.out; rwa [ef, hfb] at this)
          have K2 : Hid (∀ W l, Its w0 l W → enE.Rd W (.slice aA nA cA) S.all → Calls Try.prog 26 #[.agg #[.slice aA nA cA, .slice aD nD cD], .int .i64 (t : Int)] W fun e w' => e = .returned (.tuple #[.agg #[.int .i64 f1, .int .i64 f2, .int .i64 f3], .bool fb]) ∧ Its w0 l w') := hide (fun W l h hv => by have := K26.out W l t h hv; rwa [ef, hfb] at this)
          have heq := fun W => rq_equal W (⟨f1, f2, f3⟩ : Rq) ⟨f1, f2, f3⟩
          simp only [decide_true] at heq
          have b9 : (fb != fb) = false := bne_self_eq_false _
          clear ef hfb
          go_upto_region 14 with (go_at_call 24; refine K1.out.mono ?_; rintro e W5 ⟨rfl, hg⟩; have HI5 := hide (hg.boxN #[.int .i64 f1, .int .i64 f2, .int .i64 f3] 31 rfl); clear hg)
          generalize W5.alloc (.cells #[.int .i64 f1, .int .i64 f2, .int .i64 f3] 31) = W6 at *
          generalize W5.heap.size = b6 at *
          have c0 : W6.cell? ⟨bt, 0, none⟩ = some (.slice aA nA cA) := (cells_at HI5.out.three 0).1
          have c1 : W6.cell? ⟨bt, 1, none⟩ = some (.slice aD nD cD) := (cells_at HI5.out.three 1).1
          go_upto_region 15 with (go_at_call 26; refine (K2.out _ _ HI5.out (El.Own.rd HI5.out.four)).mono ?_; rintro e W7 ⟨rfl, hg⟩; have HI7 := hide (hg.boxN #[.int .i64 f1, .int .i64 f2, .int .i64 f3] 31 rfl); clear hg)
          generalize W7.alloc (.cells #[.int .i64 f1, .int .i64 f2, .int .i64 f3] 31) = W8 at *
          generalize W7.heap.size = b8 at *
          clear c0 c1
          obtain ⟨x0, x1, x2⟩ := HI7.out.cells3
          obtain ⟨y0, y1, y2⟩ := HI7.out.tail.cells3
          have HI12 := hide HI7.out.tail.tail
          clear HI7 HI5 K1 K2
          go_wp2_with fail
          go_roundw
          case rel => exact ⟨t + 1, by go_num, by omega, HI12⟩
          case measure => simp [intOf]; omega
        · have j0 : ¬ (t : Int) ≤ 31 := by omega
          have c0 : wr.cell? ⟨bt, 0, none⟩ = some (.slice aA nA cA) := (cells_at HI.out.two 0).1
          clear K24 K26
          go_wp2_with fail
          obtain ⟨wC, rfl⟩ : ∃ W, W = wr := ⟨_, rfl⟩
          go_loopw [83] (fun v83 wr => ∃ k : Nat, v83 = .int .i64 (k : Int) ∧ k ≤ nA ∧ Hid (Its w0 (.book w0.heap.size g H S :: .box bt #[.slice aA nA cA, .slice aD nD cD] 29 :: .row enE w0.heap.size (.slice aA nA cA) S.all :: .ints w0.heap.size (.slice aD nD cD) S.done :: l) wr)) (fun v83 _ => nA - (intOf v83).toNat)
          case atStart => exact ⟨0, rfl, by omega, HI⟩
          case round =>
            obtain ⟨k, rfl, hk, HI⟩ := hrel
            by_cases hlt : k < nA
            · obtain ⟨p, hp⟩ : ∃ p, S.all[k]? = some p := ⟨_, List.getElem?_eq_getElem (by rw [Hn.out.1]; exact hlt)⟩
              obtain ⟨b, off, rfl, d0, d1, d2, d3⟩ := en_at (El.Own.rd HI.out.three) k p hp
              have j0 : (k : Int) < (nA : Int) := by omega
              have j1 : (0 : Int) ≤ (k : Int) := by omega
              have b9 : (p.en != p.en) = false := bne_self_eq_false _
              have HI1d := hide (HI.out.drew 1)
              have KS := hide (KSt.out k p wr.drew hp HI1d.out)
              obtain ⟨SS, hSS⟩ : ∃ SS : World → Prop, SS = fun W => W.heap = wr.heap := ⟨_, rfl⟩
              have hcb := HI.out.two
              have HSF : Hid (∀ W' : World, SS W' → W'.cell? ⟨bt, 0, none⟩ = some (.slice (some ⟨b, off, none⟩) nA cA) ∧ W'.cell? ⟨b, off + k * 4, none⟩ = some (.int .i64 p.r.id) ∧ W'.cell? ⟨b, off + k * 4 + 3, none⟩ = some (.int .i64 p.en)) := hide (fun W' h => by
                rw [hSS] at h
                have hh : ∀ q : Nat, W'.heap[q]? = wr.heap[q]? := fun q => by rw [h]
                refine ⟨(cells_at ((hh bt).trans hcb) 0).1, ?_, ?_⟩
                · unfold World.cell? at d0 ⊢
                  rw [h]; exact d0
                · unfold World.cell? at d3 ⊢
                  rw [h]; exact d3)
              have hSR : SS wr.drew := by rw [hSS]; rfl
              clear hp d0 d1 d2 d3 hcb hSS
              go_upto_region 20 with fail
              refine wp_region_held_drew (S := SS) (by kernel_rfl) hSR (fun hS => ?_)
              refine wpAnyH_take (i := 0) (v := .pointer (some ⟨g, 0, none⟩)) rfl (by kernel_rfl) (by kernel_rfl) (by kernel_rfl) (fun _ _ _ h => h) (Or.inl ⟨by kernel_rfl, fun W' hW => by go_simp⟩) hS ?_
              refine wpAnyH_take (i := 1) (v := .pointer (some ⟨bt, 0, none⟩)) rfl (by kernel_rfl) (by kernel_rfl) (by kernel_rfl) (fun _ _ _ h => h) (Or.inl ⟨by kernel_rfl, fun W' hW => by go_simp⟩) hS ?_
              refine wpAnyH_take (i := 2) (v := .slice (some ⟨b, off, none⟩) nA cA) rfl (by kernel_rfl) (by kernel_rfl) (by kernel_rfl) (fun _ _ _ h => h) (Or.inl ⟨by kernel_rfl, fun W' hW => by obtain ⟨z0, z1, z2⟩ := HSF.out W' hW; go_simp⟩) hS ?_
              refine wpAnyH_take (i := 3) (v := .int .i64 k) rfl (by kernel_rfl) (by kernel_rfl) (by kernel_rfl) (fun _ _ _ h => h) (Or.inl ⟨by kernel_rfl, fun W' hW => by go_simp⟩) hS ?_
              refine wpAnyH_take (i := 4) (v := .pointer (some ⟨b, off + k * 4, none⟩)) rfl (by kernel_rfl) (by kernel_rfl) (by kernel_rfl) (fun _ _ _ h => h) (Or.inl ⟨by kernel_rfl, fun W' hW => by go_simp⟩) hS ?_
              refine wpAnyH_take (i := 5) (v := .pointer (some ⟨b, off + k * 4, none⟩)) rfl (by kernel_rfl) (by kernel_rfl) (by kernel_rfl) (fun _ _ _ h => h) (Or.inl ⟨by kernel_rfl, fun W' hW => by go_simp⟩) hS ?_
              refine wpAnyH_take (i := 6) (v := .pointer (some ⟨b, off + k * 4, none⟩)) rfl (by kernel_rfl) (by kernel_rfl) (by kernel_rfl) (fun _ _ _ h => h) (Or.inl ⟨by kernel_rfl, fun W' hW => by go_simp⟩) hS ?_
              refine wpAnyH_take (i := 7) (v := .int .i64 p.r.id) rfl (by kernel_rfl) (by kernel_rfl) (by kernel_rfl) (fun _ _ _ h => h) (Or.inl ⟨by kernel_rfl, fun W' hW => by obtain ⟨z0, z1, z2⟩ := HSF.out W' hW; go_simp⟩) hS ?_
              refine wpAnyH_take (i := 9) (v := .pointer (some ⟨bt, 0, none⟩)) rfl (by kernel_rfl) (by kernel_rfl) (by kernel_rfl) (fun _ _ _ h => h) (Or.inl ⟨by kernel_rfl, fun W' hW => by go_simp⟩) hS ?_
              refine wpAnyH_take (i := 10) (v := .slice (some ⟨b, off, none⟩) nA cA) rfl (by kernel_rfl) (by kernel_rfl) (by kernel_rfl) (fun _ _ _ h => h) (Or.inl ⟨by kernel_rfl, fun W' hW => by obtain ⟨z0, z1, z2⟩ := HSF.out W' hW; go_simp⟩) hS ?_
              refine wpAnyH_take (i := 11) (v := .int .i64 k) rfl (by kernel_rfl) (by kernel_rfl) (by kernel_rfl) (fun _ _ _ h => h) (Or.inl ⟨by kernel_rfl, fun W' hW => by go_simp⟩) hS ?_
              refine wpAnyH_take (i := 12) (v := .pointer (some ⟨b, off + k * 4, none⟩)) rfl (by kernel_rfl) (by kernel_rfl) (by kernel_rfl) (fun _ _ _ h => h) (Or.inl ⟨by kernel_rfl, fun W' hW => by go_simp⟩) hS ?_
              refine wpAnyH_take (i := 13) (v := .pointer (some ⟨b, off + k * 4 + 3, none⟩)) rfl (by kernel_rfl) (by kernel_rfl) (by kernel_rfl) (fun _ _ _ h => h) (Or.inl ⟨by kernel_rfl, fun W' hW => by go_simp⟩) hS ?_
              refine wpAnyH_take (i := 14) (v := .int .i64 p.en) rfl (by kernel_rfl) (by kernel_rfl) (by kernel_rfl) (fun _ _ _ h => h) (Or.inl ⟨by kernel_rfl, fun W' hW => by obtain ⟨z0, z1, z2⟩ := HSF.out W' hW; go_simp⟩) hS ?_
              refine wpAnyH_ready (rs := [8]) (by kernel_rfl) (by simp) ?_
              refine AllReadyH.cons rfl (fun K hK => ?_) AllReadyH.nil
              go_simp
              go_at_call 16
              refine KS.out.mono ?_; rintro e W5 ⟨rfl, hw⟩; have hw' := hw.symm; clear hw; subst hw'
              go_simp
              refine hK.out _ _ hSR (fun _ => ?_)
              clear hK K
              refine wpAnyH_ready (rs := [15]) (by kernel_rfl) (by simp) ?_
              refine AllReadyH.cons rfl (fun K hK => ?_) AllReadyH.nil
              go_simp
              refine hK.out _ _ hSR (fun _ => ?_)
              clear hK K
              refine wpAnyH_done (by kernel_rfl) ?_ _
              go_wp2_with fail
              go_roundw
              case rel => exact ⟨k + 1, by go_num, by omega, HI1d⟩
              case measure => simp [intOf]; omega
            · obtain rfl : k = nA := by omega
              have j0 : ¬ (k : Int) < (k : Int) := by omega
              go_wp2_with fail
              go_ret
              exact ⟨rfl, HFin.out _ HI.out⟩
end
end Go.Proofs.Ytfmpipihjnpimaa
