/- The document's Add. -/
import Derived.Test.YtfmpipihjnpimaaBrc
namespace Go.Proofs.Ytfmpipihjnpimaa
open Go.RowKit
set_option linter.unusedVariables false

/-- what the document's calls leave -/
structure DNew (w w' : World) (vA vD : Value) (S S' : Bk) (vA' vD' : Value) : Prop where
  bel : Below w.heap.size w w'
  a : (vA' = vA ∧ S'.all = S.all) ∨ enE.Own w' w.heap.size vA' S'.all
  d : (vD' = vD ∧ S'.done = S.done) ∨ intE.Own w' w.heap.size vD' S'.done
def ADP (w : World) (vA vD : Value) (S S' : Bk) (mk : Value → Value) (r : Ending) (w' : World) : Prop := ∃ (aA : Option Addr) (nA cA : Nat) (aD : Option Addr) (nD cD : Nat), r = .returned (mk (.agg #[.slice aA nA cA, .slice aD nD cD])) ∧ S'.all.length = nA ∧ S'.done.length = nD ∧ DNew w w' vA vD S S' (.slice aA nA cA) (.slice aD nD cD)
theorem ADP.same {w w' : World} {aA aD : Option Addr} {nA cA nD cD : Nat} {S : Bk} {mk : Value → Value} (hn : S.all.length = nA ∧ S.done.length = nD) (hb : Below w.heap.size w w') : ADP w (.slice aA nA cA) (.slice aD nD cD) S S mk (.returned (mk (.agg #[.slice aA nA cA, .slice aD nD cD]))) w' :=
  ⟨aA, nA, cA, aD, nD, cD, rfl, hn.1, hn.2, hb, .inl ⟨rfl, rfl⟩, .inl ⟨rfl, rfl⟩⟩
/-- two new things -/
theorem Its.new2 {w0 w w' : World} {x y : It} {l : List It} (h : Its w0 l w) (hx : x.P w') (hy : y.P w') (fx : ∀ k, x.f k → w.heap.size ≤ k) (fy : ∀ k, y.f k → w.heap.size ≤ k) (hs : ∀ k, x.f k → ¬ y.f k) (hb : Below w.heap.size w w') : Its w0 (x :: y :: l) w' := by
  have h1 := h.new hx fx hb
  have h2 := h.new hy fy hb
  refine ⟨h1.bel, fun z hz => ?_, fun z hz => ?_, List.pairwise_cons.2 ⟨fun z hz k hk => ?_, h2.sep⟩⟩
  · rcases List.mem_cons.1 hz with rfl | hz
    · exact hx
    · exact h2.all z hz
  · rcases List.mem_cons.1 hz with rfl | hz
    · exact h1.ge _ (by simp)
    · exact h2.ge z hz
  · rcases List.mem_cons.1 hz with rfl | hz
    · exact hs k hk
    · exact (List.pairwise_cons.1 h1.sep).1 z hz k hk
theorem DNew.its {w0 w w' : World} {vA vD vA' vD' : Value} {S S' : Bk} {l : List It} (h : Its w0 (.row enE w0.heap.size vA S.all :: .ints w0.heap.size vD S.done :: l) w) (hd : DNew w w' vA vD S S' vA' vD') : Its w0 (.row enE w0.heap.size vA' S'.all :: .ints w0.heap.size vD' S'.done :: l) w' := by
  obtain ⟨hb, ha, hdd⟩ := hd
  rcases ha with ⟨rfl, e1⟩ | ha
  · rw [e1]
    rcases hdd with ⟨rfl, e2⟩ | hdd
    · rw [e2]
      exact h.keep hb
    · exact (h.swap.tail.fresh hdd hb).swap
  · rcases hdd with ⟨rfl, e2⟩ | hdd
    · rw [e2]
      exact h.tail.fresh ha hb
    · refine h.tail.tail.new2 (x := .row enE w0.heap.size vA' S'.all) (y := .ints w0.heap.size vD' S'.done) (ha.mono h.size) (hdd.mono h.size) (fun k hk => ha.ge k hk) (fun k hk => hdd.ge k hk) (fun k hk hk' => ?_) hb
      obtain ⟨cur, q1⟩ := own_type ha k hk
      obtain ⟨cur', q2⟩ := own_type hdd k hk'
      rw [q1] at q2
      have q3 : (enE.e : Nat) = intE.e := by
        simp only [Option.some.injEq, Obj.cells.injEq] at q2
        exact q2.2.1
      exact absurd q3 (by decide)
section
variable {aA aD : Option Addr} {nA cA nD cD : Nat}

set_option maxRecDepth 100000 in
set_option maxHeartbeats 4000000 in
theorem radd_any (S : Bk) (r : Rq) (w : World) (hok : S.Ok) (hn : S.all.length = nA ∧ S.done.length = nD) (hv : enE.Rd w (.slice aA nA cA) S.all) (hl : nA ≤ 5000) :
    Calls Try.prog 11 #[.agg #[.slice aA nA cA, .slice aD nD cD], .agg #[.int .i64 r.id, .int .i64 r.st, .int .i64 r.tt]] w (ADP w (.slice aA nA cA) (.slice aD nD cD) S (S.ad r) (fun m => .tuple #[m, .bool (S.adY r), .int .i64 (S.adC r)])) := by
  obtain ⟨w0, rfl⟩ : ∃ w0, w0 = w := ⟨_, rfl⟩
  have HN := hide hn
  have HV : Hid (∀ W, Below w0.heap.size w0 W → enE.Rd W (.slice aA nA cA) S.all) := hide (fun W h => hv.keep h)
  obtain ⟨i, s, t⟩ := r
  have HI0 : Hid (Its w0 (.box (w0.heap.size + 2) #[.slice none 0 0, .slice none 0 0] 29 :: .box (w0.heap.size + 1) #[.int .i64 i, .int .i64 s, .int .i64 t] 31 :: .box w0.heap.size #[.slice aA nA cA, .slice aD nD cD] 29 :: []) (((w0.alloc (.cells #[.slice aA nA cA, .slice aD nD cD] 29)).alloc (.cells #[.int .i64 i, .int .i64 s, .int .i64 t] 31)).alloc (.cells #[.slice none 0 0, .slice none 0 0] 29))) := hide ((((Its.nil w0).boxN #[.slice aA nA cA, .slice aD nD cD] 29 rfl).boxN #[.int .i64 i, .int .i64 s, .int .i64 t] 31 (n := w0.heap.size + 1) (by simp)).boxN #[.slice none 0 0, .slice none 0 0] 29 (n := w0.heap.size + 2) (by simp))
  have KAt : Hid (∀ W, Its w0 (.box (w0.heap.size + 2) #[.slice none 0 0, .slice none 0 0] 29 :: .box (w0.heap.size + 1) #[.int .i64 i, .int .i64 s, .int .i64 t] 31 :: .box w0.heap.size #[.slice aA nA cA, .slice aD nD cD] 29 :: []) W → Calls Try.prog 25 #[.agg #[.slice aA nA cA, .slice aD nD cD], .int .i64 i] W fun r w' => r = .returned (.int .i64 (atI S.all i)) ∧ Its w0 (.box (w0.heap.size + 2) #[.slice none 0 0, .slice none 0 0] 29 :: .box (w0.heap.size + 1) #[.int .i64 i, .int .i64 s, .int .i64 t] 31 :: .box w0.heap.size #[.slice aA nA cA, .slice aD nD cD] 29 :: []) w') := hide (fun W h => by
    refine (at_any S.all i W hn.1 (HV.out W h.bel) (by omega)).mono ?_
    rintro r w' ⟨rfl, hb⟩
    exact ⟨rfl, h.keep hb⟩)
  have KW : Hid (∀ W, Its w0 (.box (w0.heap.size + 2) #[.slice none 0 0, .slice none 0 0] 29 :: .box (w0.heap.size + 1) #[.int .i64 i, .int .i64 s, .int .i64 t] 31 :: .box w0.heap.size #[.slice aA nA cA, .slice aD nD cD] 29 :: []) W → Calls Try.prog 26 #[.agg #[.slice aA nA cA, .slice aD nD cD], .int .i64 t] W fun r w' => r = .returned (.tuple #[rqV (wnt S.all t), .bool (wnt S.all t).isSome]) ∧ Its w0 (.box (w0.heap.size + 2) #[.slice none 0 0, .slice none 0 0] 29 :: .box (w0.heap.size + 1) #[.int .i64 i, .int .i64 s, .int .i64 t] 31 :: .box w0.heap.size #[.slice aA nA cA, .slice aD nD cD] 29 :: []) w') := hide (fun W h => by
    refine (rwanted_any S.all t W hn.1 (HV.out W h.bel) (by omega)).mono ?_
    rintro r w' ⟨rfl, hb⟩
    exact ⟨rfl, h.keep hb⟩)
  have KO : Hid (∀ W, Its w0 (.box (w0.heap.size + 2) #[.slice none 0 0, .slice none 0 0] 29 :: .box (w0.heap.size + 1) #[.int .i64 i, .int .i64 s, .int .i64 t] 31 :: .box w0.heap.size #[.slice aA nA cA, .slice aD nD cD] 29 :: []) W → Calls Try.prog 27 #[.agg #[.slice aA nA cA, .slice aD nD cD]] W fun r w' => ∃ a' c', r = .returned (.slice a' (ops S.all).length c') ∧ Its w0 (.box (w0.heap.size + 2) #[.slice none 0 0, .slice none 0 0] 29 :: .box (w0.heap.size + 1) #[.int .i64 i, .int .i64 s, .int .i64 t] 31 :: .box w0.heap.size #[.slice aA nA cA, .slice aD nD cD] 29 :: []) w') := hide (fun W h => by
    refine (ropen_any S.all W hn.1 (HV.out W h.bel) (by omega)).mono ?_
    rintro r w' ⟨a', c', rfl, _, hb⟩
    exact ⟨_, _, rfl, h.keep hb⟩)
  by_cases hr : rng ⟨i, s, t⟩
  · obtain ⟨q1, q2, q3, q4⟩ := hr
    simp only at q1 q2 q3 q4
    have hrr : rng ⟨i, s, t⟩ := ⟨q1, q2, q3, q4⟩
    have n1 : ¬ s < 0 := by omega
    have n2 : ¬ 39 < s := by omega
    have n3 : ¬ t < 1 := by omega
    have n4 : ¬ 30 < t := by omega
    cases hf : fnd S.all i with
    | some p =>
      obtain ⟨ix, hix, hge⟩ := atI_some hf
      rw [hix] at KAt
      have hin : ix < nA := by rw [← hn.1]; exact idx_lt hge
      have j0 : (0 : Int) ≤ (ix : Int) := by omega
      have j1 : (ix : Int) < (nA : Int) := by omega
      have hadC : S.adC ⟨i, s, t⟩ = if p.r = ⟨i, s, t⟩ then 0 else 2 := by unfold Bk.adC; rw [if_pos hrr]; simp only [hf]
      have hadY : S.adY ⟨i, s, t⟩ = false := by unfold Bk.adY; simp only [hf]; simp
      rw [Bk.ad_no hadY, hadY, hadC]
      have Hge := hide hge
      have heq := fun W => rq_equal W p.r ⟨i, s, t⟩
      by_cases hp : p.r = ⟨i, s, t⟩
      · rw [if_pos hp]
        rw [decide_eq_true hp] at heq
        clear hok hn hv hl hf hix hge hin hadC hadY hp hrr KW KO
        go_enter Try.func11, Try.ntmps11
        go_upto_region 1 with fail
        generalize (((w0.alloc (.cells #[.slice aA nA cA, .slice aD nD cD] 29)).alloc (.cells #[.int .i64 i, .int .i64 s, .int .i64 t] 31)).alloc (.cells #[.slice none 0 0, .slice none 0 0] 29)) = W1 at *
        obtain ⟨e0, e1, ef⟩ := HI0.out.cells2
        obtain ⟨r0, r1, r2⟩ := HI0.out.tail.cells3
        obtain ⟨c0, c1, cf⟩ := HI0.out.rot3.cells2
        go_upto_region 5 with (go_at_call 25; refine (KAt.out _ HI0.out).mono ?_; rintro e W2 ⟨rfl, hg⟩; have HI2 := hide hg; clear hg)
        clear e0 e1 ef r0 r1 r2 c0 c1 cf
        obtain ⟨e0, e1, ef⟩ := HI2.out.cells2
        obtain ⟨r0, r1, r2⟩ := HI2.out.tail.cells3
        obtain ⟨c0, c1, cf⟩ := HI2.out.rot3.cells2
        obtain ⟨b, off, rfl, d0, d1, d2, _⟩ := en_at (HV.out W2 HI2.out.bel) ix p Hge.out
        obtain ⟨⟨pi, ps, pt⟩, pe⟩ := p
        simp only at *
        go_quiet (fail)
        have HI3 := hide (HI2.out.drew nq)
        generalize W2.drewN nq = W3 at *
        clear e0 e1 ef r0 r1 r2 c0 c1 cf d0 d1 d2
        obtain ⟨e0, e1, ef⟩ := HI3.out.cells2
        obtain ⟨r0, r1, r2⟩ := HI3.out.tail.cells3
        obtain ⟨c0, c1, cf⟩ := HI3.out.rot3.cells2
        go_wp2_with fail
        have HIe := hide (HI3.out.out2 (.slice (some ⟨b, off, none⟩) nA cA) (.slice aD nD cD))
        obtain ⟨y0, y1, _⟩ := HIe.out.cells2
        exact bodyPost_ret (v := .tuple #[.agg #[.slice (some ⟨b, off, none⟩) nA cA, .slice aD nD cD], .bool false, .int .i64 0]) (by simp [results, Try.results11, go_sem, y0, y1]) rfl (ADP.same HN.out HIe.out.bel)
      · rw [if_neg hp]
        rw [decide_eq_false hp] at heq
        clear hok hn hv hl hf hix hge hin hadC hadY hp hrr KW KO
        go_enter Try.func11, Try.ntmps11
        go_upto_region 1 with fail
        generalize (((w0.alloc (.cells #[.slice aA nA cA, .slice aD nD cD] 29)).alloc (.cells #[.int .i64 i, .int .i64 s, .int .i64 t] 31)).alloc (.cells #[.slice none 0 0, .slice none 0 0] 29)) = W1 at *
        obtain ⟨e0, e1, ef⟩ := HI0.out.cells2
        obtain ⟨r0, r1, r2⟩ := HI0.out.tail.cells3
        obtain ⟨c0, c1, cf⟩ := HI0.out.rot3.cells2
        go_upto_region 5 with (go_at_call 25; refine (KAt.out _ HI0.out).mono ?_; rintro e W2 ⟨rfl, hg⟩; have HI2 := hide hg; clear hg)
        clear e0 e1 ef r0 r1 r2 c0 c1 cf
        obtain ⟨e0, e1, ef⟩ := HI2.out.cells2
        obtain ⟨r0, r1, r2⟩ := HI2.out.tail.cells3
        obtain ⟨c0, c1, cf⟩ := HI2.out.rot3.cells2
        obtain ⟨b, off, rfl, d0, d1, d2, _⟩ := en_at (HV.out W2 HI2.out.bel) ix p Hge.out
        obtain ⟨⟨pi, ps, pt⟩, pe⟩ := p
        simp only at *
        go_quiet (fail)
        have HI3 := hide (HI2.out.drew nq)
        generalize W2.drewN nq = W3 at *
        clear e0 e1 ef r0 r1 r2 c0 c1 cf d0 d1 d2
        obtain ⟨e0, e1, ef⟩ := HI3.out.cells2
        obtain ⟨r0, r1, r2⟩ := HI3.out.tail.cells3
        obtain ⟨c0, c1, cf⟩ := HI3.out.rot3.cells2
        go_wp2_with fail
        have HIe := hide (HI3.out.out2 (.slice (some ⟨b, off, none⟩) nA cA) (.slice aD nD cD))
        obtain ⟨y0, y1, _⟩ := HIe.out.cells2
        exact bodyPost_ret (v := .tuple #[.agg #[.slice (some ⟨b, off, none⟩) nA cA, .slice aD nD cD], .bool false, .int .i64 2]) (by simp [results, Try.results11, go_sem, y0, y1]) rfl (ADP.same HN.out HIe.out.bel)
    | none =>
      rw [atI_none hf] at KAt
      obtain ⟨x, y, z, exyz⟩ := rqV_form (wnt S.all t)
      rw [exyz] at KW
      by_cases hw : (wnt S.all t).isSome = true
      · have hadC : S.adC ⟨i, s, t⟩ = 160 := by unfold Bk.adC; rw [if_pos hrr]; simp only [hf, hw, if_true]
        have hadY : S.adY ⟨i, s, t⟩ = false := by unfold Bk.adY; rw [hadC]; rfl
        rw [Bk.ad_no hadY, hadY, hadC]
        rw [hw] at KW
        clear hok hn hv hl hf hadC hadY hrr KO exyz hw
        go_enter Try.func11, Try.ntmps11
        go_upto_region 1 with fail
        generalize (((w0.alloc (.cells #[.slice aA nA cA, .slice aD nD cD] 29)).alloc (.cells #[.int .i64 i, .int .i64 s, .int .i64 t] 31)).alloc (.cells #[.slice none 0 0, .slice none 0 0] 29)) = W1 at *
        obtain ⟨e0, e1, ef⟩ := HI0.out.cells2
        obtain ⟨r0, r1, r2⟩ := HI0.out.tail.cells3
        obtain ⟨c0, c1, cf⟩ := HI0.out.rot3.cells2
        go_upto_region 8 with (go_at_call 25; refine (KAt.out _ HI0.out).mono ?_; rintro e W2 ⟨rfl, hg⟩; have HI2 := hide hg; clear hg)
        clear e0 e1 ef r0 r1 r2 c0 c1 cf
        obtain ⟨e0, e1, ef⟩ := HI2.out.cells2
        obtain ⟨r0, r1, r2⟩ := HI2.out.tail.cells3
        obtain ⟨c0, c1, cf⟩ := HI2.out.rot3.cells2
        go_upto_region 9 with (go_at_call 26; refine (KW.out _ HI2.out).mono ?_; rintro e W3 ⟨rfl, hg⟩; have HI3 := hide (hg.alloc (.cells #[.int .i64 x, .int .i64 y, .int .i64 z] 31)); clear hg)
        generalize W3.alloc (.cells #[.int .i64 x, .int .i64 y, .int .i64 z] 31) = W4 at *
        clear e0 e1 ef r0 r1 r2 c0 c1 cf
        obtain ⟨e0, e1, ef⟩ := HI3.out.cells2
        obtain ⟨r0, r1, r2⟩ := HI3.out.tail.cells3
        obtain ⟨c0, c1, cf⟩ := HI3.out.rot3.cells2
        go_wp2_with fail
        have HIe := hide (HI3.out.out2 (.slice aA nA cA) (.slice aD nD cD))
        obtain ⟨y0, y1, _⟩ := HIe.out.cells2
        exact bodyPost_ret (v := .tuple #[.agg #[.slice aA nA cA, .slice aD nD cD], .bool false, .int .i64 160]) (by simp [results, Try.results11, go_sem, y0, y1]) rfl (ADP.same HN.out HIe.out.bel)
      · have hw' : (wnt S.all t).isSome = false := by simpa using hw
        have hfew := hok.few
        have hadY : S.adY ⟨i, s, t⟩ = true := Bk.adY_iff.2 ⟨hrr, hf, by simpa using hw', by omega⟩
        have hadC := Bk.adC_yes hadY
        rw [Bk.ad_yes hadY, hadY, hadC]
        rw [hw'] at KW
        obtain ⟨no, hno⟩ : ∃ no, (ops S.all).length = no := ⟨_, rfl⟩
        rw [hno] at KO hfew
        have m0 : ¬ (64 : Int) ≤ (no : Int) := by omega
        have HNm : Hid (([] : List En).length + S.all.length ≤ 1000000 ∧ S.all.length + [(⟨⟨i, s, t⟩, 1⟩ : En)].length ≤ 1000000) := hide (by simp; omega)
        clear hok hn hv hl hf hadC hadY hrr exyz hw hw' hfew hno
        go_enter Try.func11, Try.ntmps11
        go_upto_region 1 with fail
        generalize (((w0.alloc (.cells #[.slice aA nA cA, .slice aD nD cD] 29)).alloc (.cells #[.int .i64 i, .int .i64 s, .int .i64 t] 31)).alloc (.cells #[.slice none 0 0, .slice none 0 0] 29)) = W1 at *
        obtain ⟨e0, e1, ef⟩ := HI0.out.cells2
        obtain ⟨r0, r1, r2⟩ := HI0.out.tail.cells3
        obtain ⟨c0, c1, cf⟩ := HI0.out.rot3.cells2
        go_upto_region 8 with (go_at_call 25; refine (KAt.out _ HI0.out).mono ?_; rintro e W2 ⟨rfl, hg⟩; have HI2 := hide hg; clear hg)
        clear e0 e1 ef r0 r1 r2 c0 c1 cf
        obtain ⟨e0, e1, ef⟩ := HI2.out.cells2
        obtain ⟨r0, r1, r2⟩ := HI2.out.tail.cells3
        obtain ⟨c0, c1, cf⟩ := HI2.out.rot3.cells2
        go_upto_region 9 with (go_at_call 26; refine (KW.out _ HI2.out).mono ?_; rintro e W3 ⟨rfl, hg⟩; have HI3 := hide (hg.alloc (.cells #[.int .i64 x, .int .i64 y, .int .i64 z] 31)); clear hg)
        generalize W3.alloc (.cells #[.int .i64 x, .int .i64 y, .int .i64 z] 31) = W4 at *
        clear e0 e1 ef r0 r1 r2 c0 c1 cf
        obtain ⟨e0, e1, ef⟩ := HI3.out.cells2
        obtain ⟨r0, r1, r2⟩ := HI3.out.tail.cells3
        obtain ⟨c0, c1, cf⟩ := HI3.out.rot3.cells2
        go_upto_region 13 with (go_at_call 27; refine (KO.out _ HI3.out).mono ?_; rintro e W5 ⟨a5, c5, rfl, hg⟩; have HI5 := hide hg; clear hg)
        clear e0 e1 ef r0 r1 r2 c0 c1 cf KAt KW KO HI0 HI2 HI3
        have HI6 := hide (HI5.out.drew 1)
        obtain ⟨SS, hSS⟩ : ∃ SS : World → Prop, SS = (fun W : World => W.heap[w0.heap.size]? = some (.cells #[.slice aA nA cA, .slice aD nD cD] 29) ∧ W.heap[w0.heap.size + 1]? = some (.cells #[.int .i64 i, .int .i64 s, .int .i64 t] 31)) := ⟨_, rfl⟩
        have HSS : Hid (∀ W : World, W.heap[w0.heap.size]? = some (.cells #[.slice aA nA cA, .slice aD nD cD] 29) → W.heap[w0.heap.size + 1]? = some (.cells #[.int .i64 i, .int .i64 s, .int .i64 t] 31) → SS W) := hide (fun W h1 h2 => by rw [hSS]; exact ⟨h1, h2⟩)
        have s1 : ∀ W, SS W → W.cell? ⟨w0.heap.size, 0, none⟩ = some (.slice aA nA cA) := fun W hW => by rw [hSS] at hW; exact (cells_at hW.1 0).1
        have s2 : ∀ W, SS W → W.cell? ⟨w0.heap.size + 1, 0, none⟩ = some (.int .i64 i) ∧ W.cell? ⟨w0.heap.size + 1, 1, none⟩ = some (.int .i64 s) ∧ W.cell? ⟨w0.heap.size + 1, 2, none⟩ = some (.int .i64 t) := fun W hW => by rw [hSS] at hW; exact ⟨(cells_at hW.2 0).1, (cells_at hW.2 1).1, (cells_at hW.2 2).1⟩
        have hS0 : SS W5.drew := HSS.out _ HI6.out.three HI6.out.two
        clear hSS HI5
        refine wp_region_E SS 9 (by kernel_rfl) ?_
        refine wpAnyE_take (i := 1) (v := .pointer (some ⟨w0.heap.size, 0, none⟩)) rfl (by kernel_rfl) (by kernel_rfl) (by kernel_rfl) (by kernel_rfl) (fun _ _ _ h => h) (Or.inl ⟨by rfl, fun W' hW => by go_simp⟩) hS0 ?_
        refine wpAnyE_take (i := 2) (v := .slice aA nA cA) rfl (by kernel_rfl) (by kernel_rfl) (by kernel_rfl) (by kernel_rfl) (fun _ _ _ h => h) (Or.inl ⟨by rfl, fun W' hW => by have z0 := s1 W' hW; go_simp⟩) hS0 ?_
        refine wpAnyE_take (i := 4) (v := .agg #[.int .i64 i, .int .i64 s, .int .i64 t]) rfl (by kernel_rfl) (by kernel_rfl) (by kernel_rfl) (by kernel_rfl) (fun _ _ _ h => h) (Or.inl ⟨by rfl, fun W' hW => by obtain ⟨z0, z1, z2⟩ := s2 W' hW; go_simp⟩) hS0 ?_
        refine wpAnyE_take (i := 5) (v := .agg #[.int .i64 i, .int .i64 s, .int .i64 t, .int .i64 1]) rfl (by kernel_rfl) (by kernel_rfl) (by kernel_rfl) (by kernel_rfl) (fun _ _ _ h => h) (Or.inl ⟨by rfl, fun W' hW => by go_simp⟩) hS0 ?_
        refine wpAnyE_ready (rs := [0, 6]) (by kernel_rfl) (by simp) ?_
        refine AllReadyE.cons rfl (fun K hK => ?_) (AllReadyE.cons rfl (fun K hK => ?_) AllReadyE.nil)
        · go_simp
          have HI7 := hide (HI6.out.nothingE rfl)
          refine hK.out _ _ (fun _ => HSS.out _ HI7.out.four HI7.out.three) ?_
          clear hK K
          refine wpAnyE_ready (rs := [3, 6]) (by kernel_rfl) (by simp) ?_
          refine AllReadyE.cons rfl (fun K hK => ?_) (AllReadyE.cons rfl (fun K hK => ?_) AllReadyE.nil)
          · refine enE.step (w0 := w0) HI7.out.bel rfl _ _ rfl _ _ rfl rfl [] S.all HI7.out.one (HV.out _ HI7.out.bel) HNm.out.1 ?_
            intro v3 W6 ho hg hs hb
            have HI8 := hide (HI7.out.grow ho hg hs)
            have hS6 := HSS.out W6 HI8.out.four HI8.out.three
            refine hK.out _ _ (fun _ => hS6) ?_
            clear hK K ho hg hs hb
            refine wpAnyE_ready (rs := [6]) (by kernel_rfl) (by simp) ?_
            refine AllReadyE.cons rfl (fun K hK => ?_) AllReadyE.nil
            go_simp
            have HI9 := hide (HI8.out.oneE (⟨⟨i, s, t⟩, 1⟩ : En) rfl).swap
            refine hK.out _ _ (fun _ => HSS.out _ HI9.out.tail.four HI9.out.four) ?_
            clear hK K
            refine wpAnyE_ready (rs := [7]) (by kernel_rfl) (by simp) ?_
            refine AllReadyE.cons rfl (fun K hK => ?_) AllReadyE.nil
            refine enE.step (w0 := w0) HI9.out.bel rfl _ _ rfl _ _ rfl rfl ([] ++ S.all) [(⟨⟨i, s, t⟩, 1⟩ : En)] HI9.out.one (El.Own.rd HI9.out.two) (by rw [List.nil_append]; exact HNm.out.2) ?_
            intro v7 W7 ho hg hs hb
            have HIz := hide (HI9.out.grow ho hg hs)
            obtain ⟨a7, p7, hf7⟩ := ho.rd.form
            obtain ⟨n7, hn7⟩ : ∃ n7, (([] ++ S.all) ++ [(⟨⟨i, s, t⟩, 1⟩ : En)]).length = n7 := ⟨_, rfl⟩
            rw [hn7] at hf7
            subst hf7
            have Hn7 := hide hn7
            have hS7 := HSS.out W7 (HIz.out.tail.four) HIz.out.four
            have o0 : W7.cell? ⟨w0.heap.size, 0, none⟩ = some (.slice aA nA cA) := s1 W7 hS7
            have of : ∀ i, W7.frozen? ⟨w0.heap.size, i, none⟩ = false := fun i => (cells_at HIz.out.tail.four i).2
            refine hK.out _ _ (fun _ => hS7) ?_
            clear hK K ho hg hs hb hn7
            refine wpAnyE_ready (rs := [8]) (by kernel_rfl) (by simp) ?_
            refine AllReadyE.cons rfl (fun K hK => ?_) AllReadyE.nil
            go_simp
            refine hK.out _ _ (fun _ => hS7) ?_
            clear hK K
            refine wpAnyE_ready (rs := [9]) (by kernel_rfl) (by simp) ?_
            refine AllReadyE.cons rfl (fun K hK => ?_) AllReadyE.nil
            go_simp
            refine hK.out _ _ (fun h => absurd rfl h) ?_
            clear hK K
            refine wpAnyE_done (by kernel_rfl) ?_ _
            have HI11 : Hid (Its w0 (.box w0.heap.size #[.slice a7 n7 p7, .slice aD nD cD] 29 :: _) (W7.setCell ⟨w0.heap.size, 0, none⟩ (.slice a7 n7 p7))) := hide (HIz.out.rot5.put1 0 (.slice a7 n7 p7))
            generalize W7.setCell ⟨w0.heap.size, 0, none⟩ (.slice a7 n7 p7) = W8 at *
            clear o0 of hS7
            obtain ⟨c0, c1, cf⟩ := HI11.out.cells2
            obtain ⟨e0, e1, ef⟩ := HI11.out.rot4.cells2
            have HIe := hide (HI11.out.rot4.out2 (.slice a7 n7 p7) (.slice aD nD cD))
            go_wp2_with fail
            obtain ⟨y0, y1, _⟩ := HIe.out.cells2
            have hown := HIe.out.three
            rw [List.nil_append] at hown
            refine bodyPost_ret (v := .tuple #[.agg #[.slice a7 n7 p7, .slice aD nD cD], .bool true, .int .i64 0]) (by simp [results, Try.results11, go_sem, y0, y1]) rfl ?_
            exact ⟨a7, n7, p7, aD, nD, cD, rfl, by have := Hn7.out; rw [List.nil_append] at this; exact this, HN.out.2, HIe.out.bel, .inr hown, .inl ⟨rfl, rfl⟩⟩
          · go_simp
            have HI8 := hide (HI7.out.oneE (⟨⟨i, s, t⟩, 1⟩ : En) (n := W5.heap.size + 1) (by simp)).swap
            refine hK.out _ _ (fun _ => HSS.out _ HI8.out.tail.four HI8.out.four) ?_
            clear hK K
            refine wpAnyE_ready (rs := [3]) (by kernel_rfl) (by simp) ?_
            refine AllReadyE.cons rfl (fun K hK => ?_) AllReadyE.nil
            refine enE.step (w0 := w0) HI8.out.bel rfl _ _ rfl _ _ rfl rfl [] S.all HI8.out.one (HV.out _ HI8.out.bel) HNm.out.1 ?_
            intro v3 W6 ho hg hs hb
            have HI9 := hide (HI8.out.grow ho hg hs)
            have hS6 := HSS.out W6 HI9.out.tail.four HI9.out.four
            refine hK.out _ _ (fun _ => hS6) ?_
            clear hK K ho hg hs hb
            refine wpAnyE_ready (rs := [7]) (by kernel_rfl) (by simp) ?_
            refine AllReadyE.cons rfl (fun K hK => ?_) AllReadyE.nil
            refine enE.step (w0 := w0) HI9.out.bel rfl _ _ rfl _ _ rfl rfl ([] ++ S.all) [(⟨⟨i, s, t⟩, 1⟩ : En)] HI9.out.one (El.Own.rd HI9.out.two) (by rw [List.nil_append]; exact HNm.out.2) ?_
            intro v7 W7 ho hg hs hb
            have HIz := hide (HI9.out.grow ho hg hs)
            obtain ⟨a7, p7, hf7⟩ := ho.rd.form
            obtain ⟨n7, hn7⟩ : ∃ n7, (([] ++ S.all) ++ [(⟨⟨i, s, t⟩, 1⟩ : En)]).length = n7 := ⟨_, rfl⟩
            rw [hn7] at hf7
            subst hf7
            have Hn7 := hide hn7
            have hS7 := HSS.out W7 (HIz.out.tail.four) HIz.out.four
            have o0 : W7.cell? ⟨w0.heap.size, 0, none⟩ = some (.slice aA nA cA) := s1 W7 hS7
            have of : ∀ i, W7.frozen? ⟨w0.heap.size, i, none⟩ = false := fun i => (cells_at HIz.out.tail.four i).2
            refine hK.out _ _ (fun _ => hS7) ?_
            clear hK K ho hg hs hb hn7
            refine wpAnyE_ready (rs := [8]) (by kernel_rfl) (by simp) ?_
            refine AllReadyE.cons rfl (fun K hK => ?_) AllReadyE.nil
            go_simp
            refine hK.out _ _ (fun _ => hS7) ?_
            clear hK K
            refine wpAnyE_ready (rs := [9]) (by kernel_rfl) (by simp) ?_
            refine AllReadyE.cons rfl (fun K hK => ?_) AllReadyE.nil
            go_simp
            refine hK.out _ _ (fun h => absurd rfl h) ?_
            clear hK K
            refine wpAnyE_done (by kernel_rfl) ?_ _
            have HI11 : Hid (Its w0 (.box w0.heap.size #[.slice a7 n7 p7, .slice aD nD cD] 29 :: _) (W7.setCell ⟨w0.heap.size, 0, none⟩ (.slice a7 n7 p7))) := hide (HIz.out.rot5.put1 0 (.slice a7 n7 p7))
            generalize W7.setCell ⟨w0.heap.size, 0, none⟩ (.slice a7 n7 p7) = W8 at *
            clear o0 of hS7
            obtain ⟨c0, c1, cf⟩ := HI11.out.cells2
            obtain ⟨e0, e1, ef⟩ := HI11.out.rot4.cells2
            have HIe := hide (HI11.out.rot4.out2 (.slice a7 n7 p7) (.slice aD nD cD))
            go_wp2_with fail
            obtain ⟨y0, y1, _⟩ := HIe.out.cells2
            have hown := HIe.out.three
            rw [List.nil_append] at hown
            refine bodyPost_ret (v := .tuple #[.agg #[.slice a7 n7 p7, .slice aD nD cD], .bool true, .int .i64 0]) (by simp [results, Try.results11, go_sem, y0, y1]) rfl ?_
            exact ⟨a7, n7, p7, aD, nD, cD, rfl, by have := Hn7.out; rw [List.nil_append] at this; exact this, HN.out.2, HIe.out.bel, .inr hown, .inl ⟨rfl, rfl⟩⟩
        · go_simp
          have HI7 := hide (HI6.out.oneE (⟨⟨i, s, t⟩, 1⟩ : En) rfl)
          refine hK.out _ _ (fun _ => HSS.out _ HI7.out.four HI7.out.three) ?_
          clear hK K
          refine wpAnyE_ready (rs := [0]) (by kernel_rfl) (by simp) ?_
          refine AllReadyE.cons rfl (fun K hK => ?_) AllReadyE.nil
          go_simp
          have HI8 := hide (HI7.out.nothingE (n := W5.heap.size + 1) (by simp))
          refine hK.out _ _ (fun _ => HSS.out _ HI8.out.tail.four HI8.out.four) ?_
          clear hK K
          refine wpAnyE_ready (rs := [3]) (by kernel_rfl) (by simp) ?_
          refine AllReadyE.cons rfl (fun K hK => ?_) AllReadyE.nil
          refine enE.step (w0 := w0) HI8.out.bel rfl _ _ rfl _ _ rfl rfl [] S.all HI8.out.one (HV.out _ HI8.out.bel) HNm.out.1 ?_
          intro v3 W6 ho hg hs hb
          have HI9 := hide (HI8.out.grow ho hg hs)
          have hS6 := HSS.out W6 HI9.out.tail.four HI9.out.four
          refine hK.out _ _ (fun _ => hS6) ?_
          clear hK K ho hg hs hb
          refine wpAnyE_ready (rs := [7]) (by kernel_rfl) (by simp) ?_
          refine AllReadyE.cons rfl (fun K hK => ?_) AllReadyE.nil
          refine enE.step (w0 := w0) HI9.out.bel rfl _ _ rfl _ _ rfl rfl ([] ++ S.all) [(⟨⟨i, s, t⟩, 1⟩ : En)] HI9.out.one (El.Own.rd HI9.out.two) (by rw [List.nil_append]; exact HNm.out.2) ?_
          intro v7 W7 ho hg hs hb
          have HIz := hide (HI9.out.grow ho hg hs)
          obtain ⟨a7, p7, hf7⟩ := ho.rd.form
          obtain ⟨n7, hn7⟩ : ∃ n7, (([] ++ S.all) ++ [(⟨⟨i, s, t⟩, 1⟩ : En)]).length = n7 := ⟨_, rfl⟩
          rw [hn7] at hf7
          subst hf7
          have Hn7 := hide hn7
          have hS7 := HSS.out W7 (HIz.out.tail.four) HIz.out.four
          have o0 : W7.cell? ⟨w0.heap.size, 0, none⟩ = some (.slice aA nA cA) := s1 W7 hS7
          have of : ∀ i, W7.frozen? ⟨w0.heap.size, i, none⟩ = false := fun i => (cells_at HIz.out.tail.four i).2
          refine hK.out _ _ (fun _ => hS7) ?_
          clear hK K ho hg hs hb hn7
          refine wpAnyE_ready (rs := [8]) (by kernel_rfl) (by simp) ?_
          refine AllReadyE.cons rfl (fun K hK => ?_) AllReadyE.nil
          go_simp
          refine hK.out _ _ (fun _ => hS7) ?_
          clear hK K
          refine wpAnyE_ready (rs := [9]) (by kernel_rfl) (by simp) ?_
          refine AllReadyE.cons rfl (fun K hK => ?_) AllReadyE.nil
          go_simp
          refine hK.out _ _ (fun h => absurd rfl h) ?_
          clear hK K
          refine wpAnyE_done (by kernel_rfl) ?_ _
          have HI11 : Hid (Its w0 (.box w0.heap.size #[.slice a7 n7 p7, .slice aD nD cD] 29 :: _) (W7.setCell ⟨w0.heap.size, 0, none⟩ (.slice a7 n7 p7))) := hide (HIz.out.rot5.put1 0 (.slice a7 n7 p7))
          generalize W7.setCell ⟨w0.heap.size, 0, none⟩ (.slice a7 n7 p7) = W8 at *
          clear o0 of hS7
          obtain ⟨c0, c1, cf⟩ := HI11.out.cells2
          obtain ⟨e0, e1, ef⟩ := HI11.out.rot4.cells2
          have HIe := hide (HI11.out.rot4.out2 (.slice a7 n7 p7) (.slice aD nD cD))
          go_wp2_with fail
          obtain ⟨y0, y1, _⟩ := HIe.out.cells2
          have hown := HIe.out.three
          rw [List.nil_append] at hown
          refine bodyPost_ret (v := .tuple #[.agg #[.slice a7 n7 p7, .slice aD nD cD], .bool true, .int .i64 0]) (by simp [results, Try.results11, go_sem, y0, y1]) rfl ?_
          exact ⟨a7, n7, p7, aD, nD, cD, rfl, by have := Hn7.out; rw [List.nil_append] at this; exact this, HN.out.2, HIe.out.bel, .inr hown, .inl ⟨rfl, rfl⟩⟩
  · have hadC : S.adC ⟨i, s, t⟩ = 1 := if_neg hr
    have hadY : S.adY ⟨i, s, t⟩ = false := by unfold Bk.adY; rw [hadC]; rfl
    rw [Bk.ad_no hadY, hadY, hadC]
    have hr' : s < 0 ∨ (¬ s < 0 ∧ 39 < s) ∨ (¬ s < 0 ∧ ¬ 39 < s ∧ t < 1) ∨ (¬ s < 0 ∧ ¬ 39 < s ∧ ¬ t < 1 ∧ 30 < t) := by
      unfold rng at hr
      simp only at hr
      omega
    clear hok hn hv hl hadC hadY hr KAt KW KO
    rcases hr' with q1 | ⟨q1, q2⟩ | ⟨q1, q2, q3⟩ | ⟨q1, q2, q3, q4⟩
    · go_enter Try.func11, Try.ntmps11
      go_upto_region 1 with fail
      generalize (((w0.alloc (.cells #[.slice aA nA cA, .slice aD nD cD] 29)).alloc (.cells #[.int .i64 i, .int .i64 s, .int .i64 t] 31)).alloc (.cells #[.slice none 0 0, .slice none 0 0] 29)) = W1 at *
      obtain ⟨e0, e1, ef⟩ := HI0.out.cells2
      obtain ⟨r0, r1, r2⟩ := HI0.out.tail.cells3
      obtain ⟨c0, c1, cf⟩ := HI0.out.rot3.cells2
      go_wp2_with fail
      have HIe := hide (HI0.out.out2 (.slice aA nA cA) (.slice aD nD cD))
      obtain ⟨y0, y1, _⟩ := HIe.out.cells2
      exact bodyPost_ret (v := .tuple #[.agg #[.slice aA nA cA, .slice aD nD cD], .bool false, .int .i64 1]) (by simp [results, Try.results11, go_sem, y0, y1]) rfl (ADP.same HN.out HIe.out.bel)
    · go_enter Try.func11, Try.ntmps11
      go_upto_region 1 with fail
      generalize (((w0.alloc (.cells #[.slice aA nA cA, .slice aD nD cD] 29)).alloc (.cells #[.int .i64 i, .int .i64 s, .int .i64 t] 31)).alloc (.cells #[.slice none 0 0, .slice none 0 0] 29)) = W1 at *
      obtain ⟨e0, e1, ef⟩ := HI0.out.cells2
      obtain ⟨r0, r1, r2⟩ := HI0.out.tail.cells3
      obtain ⟨c0, c1, cf⟩ := HI0.out.rot3.cells2
      go_wp2_with fail
      have HIe := hide (HI0.out.out2 (.slice aA nA cA) (.slice aD nD cD))
      obtain ⟨y0, y1, _⟩ := HIe.out.cells2
      exact bodyPost_ret (v := .tuple #[.agg #[.slice aA nA cA, .slice aD nD cD], .bool false, .int .i64 1]) (by simp [results, Try.results11, go_sem, y0, y1]) rfl (ADP.same HN.out HIe.out.bel)
    · go_enter Try.func11, Try.ntmps11
      go_upto_region 1 with fail
      generalize (((w0.alloc (.cells #[.slice aA nA cA, .slice aD nD cD] 29)).alloc (.cells #[.int .i64 i, .int .i64 s, .int .i64 t] 31)).alloc (.cells #[.slice none 0 0, .slice none 0 0] 29)) = W1 at *
      obtain ⟨e0, e1, ef⟩ := HI0.out.cells2
      obtain ⟨r0, r1, r2⟩ := HI0.out.tail.cells3
      obtain ⟨c0, c1, cf⟩ := HI0.out.rot3.cells2
      go_wp2_with fail
      have HIe := hide (HI0.out.out2 (.slice aA nA cA) (.slice aD nD cD))
      obtain ⟨y0, y1, _⟩ := HIe.out.cells2
      exact bodyPost_ret (v := .tuple #[.agg #[.slice aA nA cA, .slice aD nD cD], .bool false, .int .i64 1]) (by simp [results, Try.results11, go_sem, y0, y1]) rfl (ADP.same HN.out HIe.out.bel)
    · go_enter Try.func11, Try.ntmps11
      go_upto_region 1 with fail
      generalize (((w0.alloc (.cells #[.slice aA nA cA, .slice aD nD cD] 29)).alloc (.cells #[.int .i64 i, .int .i64 s, .int .i64 t] 31)).alloc (.cells #[.slice none 0 0, .slice none 0 0] 29)) = W1 at *
      obtain ⟨e0, e1, ef⟩ := HI0.out.cells2
      obtain ⟨r0, r1, r2⟩ := HI0.out.tail.cells3
      obtain ⟨c0, c1, cf⟩ := HI0.out.rot3.cells2
      go_wp2_with fail
      have HIe := hide (HI0.out.out2 (.slice aA nA cA) (.slice aD nD cD))
      obtain ⟨y0, y1, _⟩ := HIe.out.cells2
      exact bodyPost_ret (v := .tuple #[.agg #[.slice aA nA cA, .slice aD nD cD], .bool false, .int .i64 1]) (by simp [results, Try.results11, go_sem, y0, y1]) rfl (ADP.same HN.out HIe.out.bel)
end
end Go.Proofs.Ytfmpipihjnpimaa
