/- The document's Cancel, Serve. -/
import Derived.Test.YtfmpipihjnpimaaBrd
namespace Go.Proofs.Ytfmpipihjnpimaa
open Go.RowKit
set_option linter.unusedVariables false

theorem Its.nothingI {w0 w : World} {l : List It} (h : Its w0 l w) : Its w0 (.ints w0.heap.size (.slice (some ⟨w.heap.size, 0, none⟩) 0 0) [] :: l) (w.alloc (.cells #[] 3)) :=
  h.fresh (El.Own.new intE w w.heap.size (Nat.le_refl _) #[] [] rfl (by simp) w.heap.size 0 0 rfl rfl rfl) (below_new w _)
theorem set_setE {l : List En} (hn : (l.map (·.r.id)).Nodup) {ix : Nat} {e : En} {x : Int} (hi : l[ix]? = some e) (hx : e.r.id = x) (v : Int) : l.set ix ⟨e.r, v⟩ = setE l x v := by
  apply List.ext_getElem?
  intro j
  unfold setE
  rw [List.getElem?_set, List.getElem?_map]
  have hlt := idx_lt hi
  by_cases q : ix = j
  · subst q
    rw [if_pos rfl, if_pos hlt, hi]
    simp [hx]
  · rw [if_neg q]
    cases hj : l[j]? with
    | none => rfl
    | some d =>
      have hd : d.r.id ≠ x := fun e' => by
        obtain ⟨h1, h2⟩ := List.getElem?_eq_some_iff.1 hi
        obtain ⟨h3, h4⟩ := List.getElem?_eq_some_iff.1 hj
        have := nodup_inj hn (i := ix) (j := j) (by simpa using h1) (by simpa using h3) (by simp [h2, h4, hx, e'])
        exact q this
      simp [hd]
section
variable {aA aD : Option Addr} {nA cA nD cD : Nat}

set_option maxRecDepth 100000 in
set_option maxHeartbeats 4000000 in
theorem rcancel_any (S : Bk) (x : Int) (w : World) (hok : S.Ok) (hn : S.all.length = nA ∧ S.done.length = nD) (hv : enE.Rd w (.slice aA nA cA) S.all) (hl : nA ≤ 5000) :
    Calls Try.prog 13 #[.agg #[.slice aA nA cA, .slice aD nD cD], .int .i64 x] w (ADP w (.slice aA nA cA) (.slice aD nD cD) S (S.ca x) (fun m => .tuple #[m, .bool (S.caY x), .int .i64 (S.caC x)])) := by
  obtain ⟨w0, rfl⟩ : ∃ w0, w0 = w := ⟨_, rfl⟩
  have HN := hide hn
  have HV : Hid (∀ W, Below w0.heap.size w0 W → enE.Rd W (.slice aA nA cA) S.all) := hide (fun W h => hv.keep h)
  have HI0 : Hid (Its w0 (.box (w0.heap.size + 1) #[.slice none 0 0, .slice none 0 0] 29 :: .box w0.heap.size #[.slice aA nA cA, .slice aD nD cD] 29 :: []) ((w0.alloc (.cells #[.slice aA nA cA, .slice aD nD cD] 29)).alloc (.cells #[.slice none 0 0, .slice none 0 0] 29))) := hide (((Its.nil w0).boxN #[.slice aA nA cA, .slice aD nD cD] 29 rfl).boxN #[.slice none 0 0, .slice none 0 0] 29 (n := w0.heap.size + 1) (by simp))
  have KAt : Hid (∀ W, Its w0 (.box (w0.heap.size + 1) #[.slice none 0 0, .slice none 0 0] 29 :: .box w0.heap.size #[.slice aA nA cA, .slice aD nD cD] 29 :: []) W → Calls Try.prog 25 #[.agg #[.slice aA nA cA, .slice aD nD cD], .int .i64 x] W fun r w' => r = .returned (.int .i64 (atI S.all x)) ∧ Its w0 (.box (w0.heap.size + 1) #[.slice none 0 0, .slice none 0 0] 29 :: .box w0.heap.size #[.slice aA nA cA, .slice aD nD cD] 29 :: []) w') := hide (fun W h => by
    refine (at_any S.all x W hn.1 (HV.out W h.bel) (by omega)).mono ?_
    rintro r w' ⟨rfl, hb⟩
    exact ⟨rfl, h.keep hb⟩)
  cases hf : fnd S.all x with
  | none =>
    have e1 : S.caC x = 4 := by unfold Bk.caC; rw [hf]
    have e2 : S.caY x = false := by unfold Bk.caY Bk.sta; rw [hf]; rfl
    rw [Bk.ca_no e2, e1, e2]
    rw [atI_none hf] at KAt
    clear hok hn hv hl hf e1 e2
    go_enter Try.func13, Try.ntmps13
    go_upto_region 1 with fail
    generalize ((w0.alloc (.cells #[.slice aA nA cA, .slice aD nD cD] 29)).alloc (.cells #[.slice none 0 0, .slice none 0 0] 29)) = W1 at *
    obtain ⟨e0, e1, ef⟩ := HI0.out.cells2
    obtain ⟨c0, c1, cf⟩ := HI0.out.tail.cells2
    go_upto_region 2 with (go_at_call 25; refine (KAt.out _ HI0.out).mono ?_; rintro e W2 ⟨rfl, hg⟩; have HI2 := hide hg; clear hg)
    clear e0 e1 ef c0 c1 cf
    obtain ⟨e0, e1, ef⟩ := HI2.out.cells2
    obtain ⟨c0, c1, cf⟩ := HI2.out.tail.cells2
    go_wp2_with fail
    have HIe := hide (HI2.out.out2 (.slice aA nA cA) (.slice aD nD cD))
    obtain ⟨y0, y1, _⟩ := HIe.out.cells2
    exact bodyPost_ret (v := .tuple #[.agg #[.slice aA nA cA, .slice aD nD cD], .bool false, .int .i64 4]) (by simp [results, Try.results13, go_sem, y0, y1]) rfl (ADP.same HN.out HIe.out.bel)
  | some p =>
    obtain ⟨ix, hix, hge⟩ := atI_some hf
    rw [hix] at KAt
    have hin : ix < nA := by rw [← hn.1]; exact idx_lt hge
    have j0 : (0 : Int) ≤ (ix : Int) := by omega
    have j1 : (ix : Int) < (nA : Int) := by omega
    have Hge := hide hge
    have hen := hok.en p (fnd_some hf).1
    have es : S.sta x = p.en := Bk.sta_of hf
    rcases hen with hen | hen | hen
    · have e1 : S.caC x = 0 := by unfold Bk.caC; rw [hf]; simp [hen]
      have e2 : S.caY x = true := by unfold Bk.caY; rw [es, hen]; rfl
      rw [Bk.ca_yes e2, e1, e2]
      have HSet := hide (set_setE hok.nd hge (fnd_some hf).2 3)
      have HLs : Hid ((setE S.all x 3).length = nA) := hide (by simp [setE, hn.1])
      have KS : Hid (∀ W, Its w0 (.box (w0.heap.size + 1) #[.slice none 0 0, .slice none 0 0] 29 :: .box w0.heap.size #[.slice aA nA cA, .slice aD nD cD] 29 :: []) W → Calls Try.prog 29 #[.agg #[.slice aA nA cA, .slice aD nD cD], .int .i64 (ix : Int), .int .i64 3] W fun r w' => ∃ a' c', r = .returned (.agg #[.slice a' nA c', .slice aD nD cD]) ∧ Its w0 (.row enE w0.heap.size (.slice a' nA c') (setE S.all x 3) :: .box (w0.heap.size + 1) #[.slice none 0 0, .slice none 0 0] 29 :: .box w0.heap.size #[.slice aA nA cA, .slice aD nD cD] 29 :: []) w') := hide (fun W h => by
        refine (rset_any S.all ix p 3 W hn.1 (HV.out W h.bel) (by omega) hge).mono ?_
        rintro r w' ⟨a', c', rfl, ho, hb⟩
        rw [HSet.out] at ho
        exact ⟨_, _, rfl, h.fresh ho hb⟩)
      clear hok hn hv hl hf hix hge hin e1 e2 es HSet
      go_enter Try.func13, Try.ntmps13
      go_upto_region 1 with fail
      generalize ((w0.alloc (.cells #[.slice aA nA cA, .slice aD nD cD] 29)).alloc (.cells #[.slice none 0 0, .slice none 0 0] 29)) = W1 at *
      obtain ⟨e0, e1, ef⟩ := HI0.out.cells2
      obtain ⟨c0, c1, cf⟩ := HI0.out.tail.cells2
      go_upto_region 4 with (go_at_call 25; refine (KAt.out _ HI0.out).mono ?_; rintro e W2 ⟨rfl, hg⟩; have HI2 := hide hg; clear hg)
      clear e0 e1 ef c0 c1 cf
      obtain ⟨e0, e1, ef⟩ := HI2.out.cells2
      obtain ⟨c0, c1, cf⟩ := HI2.out.tail.cells2
      obtain ⟨b, off, rfl, d0, d1, d2, d3⟩ := en_at (HV.out W2 HI2.out.bel) ix p Hge.out
      rw [hen] at d3
      go_upto_region 8 with fail
      have KS2 := hide (KS.out _ HI2.out)
      go_wp2_with (go_at_call 29; refine KS2.out.mono ?_; rintro e W3 ⟨a3, p3, rfl, hg⟩; have HI3 := hide hg.swap; clear hg; obtain ⟨e0, e1, ef⟩ := HI3.out.cells2)
      have HIe := hide (HI3.out.out2 (.slice a3 nA p3) (.slice aD nD cD))
      obtain ⟨y0, y1, _⟩ := HIe.out.cells2
      refine bodyPost_ret (v := .tuple #[.agg #[.slice a3 nA p3, .slice aD nD cD], .bool true, .int .i64 0]) (by simp [results, Try.results13, go_sem, y0, y1]) rfl ?_
      exact ⟨a3, nA, p3, aD, nD, cD, rfl, HLs.out, HN.out.2, HIe.out.bel, .inr HIe.out.two, .inl ⟨rfl, rfl⟩⟩
    · have e1 : S.caC x = 140 := by unfold Bk.caC; rw [hf]; simp [hen]
      have e2 : S.caY x = false := by unfold Bk.caY; rw [es, hen]; rfl
      rw [Bk.ca_no e2, e1, e2]
      clear hok hn hv hl hf hix hge hin e1 e2 es
      go_enter Try.func13, Try.ntmps13
      go_upto_region 1 with fail
      generalize ((w0.alloc (.cells #[.slice aA nA cA, .slice aD nD cD] 29)).alloc (.cells #[.slice none 0 0, .slice none 0 0] 29)) = W1 at *
      obtain ⟨e0, e1, ef⟩ := HI0.out.cells2
      obtain ⟨c0, c1, cf⟩ := HI0.out.tail.cells2
      go_upto_region 4 with (go_at_call 25; refine (KAt.out _ HI0.out).mono ?_; rintro e W2 ⟨rfl, hg⟩; have HI2 := hide hg; clear hg)
      clear e0 e1 ef c0 c1 cf
      obtain ⟨e0, e1, ef⟩ := HI2.out.cells2
      obtain ⟨c0, c1, cf⟩ := HI2.out.tail.cells2
      obtain ⟨b, off, rfl, d0, d1, d2, d3⟩ := en_at (HV.out W2 HI2.out.bel) ix p Hge.out
      rw [hen] at d3
      go_wp2_with fail
      have HIe := hide (HI2.out.out2 (.slice (some ⟨b, off, none⟩) nA cA) (.slice aD nD cD))
      obtain ⟨y0, y1, _⟩ := HIe.out.cells2
      exact bodyPost_ret (v := .tuple #[.agg #[.slice (some ⟨b, off, none⟩) nA cA, .slice aD nD cD], .bool false, .int .i64 140]) (by simp [results, Try.results13, go_sem, y0, y1]) rfl (ADP.same HN.out HIe.out.bel)
    · have e1 : S.caC x = 0 := by unfold Bk.caC; rw [hf]; simp [hen]
      have e2 : S.caY x = false := by unfold Bk.caY; rw [es, hen]; rfl
      rw [Bk.ca_no e2, e1, e2]
      clear hok hn hv hl hf hix hge hin e1 e2 es
      go_enter Try.func13, Try.ntmps13
      go_upto_region 1 with fail
      generalize ((w0.alloc (.cells #[.slice aA nA cA, .slice aD nD cD] 29)).alloc (.cells #[.slice none 0 0, .slice none 0 0] 29)) = W1 at *
      obtain ⟨e0, e1, ef⟩ := HI0.out.cells2
      obtain ⟨c0, c1, cf⟩ := HI0.out.tail.cells2
      go_upto_region 4 with (go_at_call 25; refine (KAt.out _ HI0.out).mono ?_; rintro e W2 ⟨rfl, hg⟩; have HI2 := hide hg; clear hg)
      clear e0 e1 ef c0 c1 cf
      obtain ⟨e0, e1, ef⟩ := HI2.out.cells2
      obtain ⟨c0, c1, cf⟩ := HI2.out.tail.cells2
      obtain ⟨b, off, rfl, d0, d1, d2, d3⟩ := en_at (HV.out W2 HI2.out.bel) ix p Hge.out
      rw [hen] at d3
      go_wp2_with fail
      have HIe := hide (HI2.out.out2 (.slice (some ⟨b, off, none⟩) nA cA) (.slice aD nD cD))
      obtain ⟨y0, y1, _⟩ := HIe.out.cells2
      exact bodyPost_ret (v := .tuple #[.agg #[.slice (some ⟨b, off, none⟩) nA cA, .slice aD nD cD], .bool false, .int .i64 0]) (by simp [results, Try.results13, go_sem, y0, y1]) rfl (ADP.same HN.out HIe.out.bel)

set_option maxRecDepth 100000 in
set_option maxHeartbeats 4000000 in
theorem rserve_any (S : Bk) (x : Int) (w : World) (hok : S.Ok) (hn : S.all.length = nA ∧ S.done.length = nD) (hv : enE.Rd w (.slice aA nA cA) S.all) (hvd : intE.Rd w (.slice aD nD cD) S.done) (hl : nA ≤ 5000 ∧ nD ≤ 5000) :
    Calls Try.prog 15 #[.agg #[.slice aA nA cA, .slice aD nD cD], .int .i64 x] w (ADP w (.slice aA nA cA) (.slice aD nD cD) S (S.se x) (fun m => .tuple #[m, .int .i64 (S.seC x)])) := by
  obtain ⟨w0, rfl⟩ : ∃ w0, w0 = w := ⟨_, rfl⟩
  have HN := hide hn
  have HV : Hid (∀ W, Below w0.heap.size w0 W → enE.Rd W (.slice aA nA cA) S.all) := hide (fun W h => hv.keep h)
  have HI0 : Hid (Its w0 (.box (w0.heap.size + 1) #[.slice none 0 0, .slice none 0 0] 29 :: .box w0.heap.size #[.slice aA nA cA, .slice aD nD cD] 29 :: []) ((w0.alloc (.cells #[.slice aA nA cA, .slice aD nD cD] 29)).alloc (.cells #[.slice none 0 0, .slice none 0 0] 29))) := hide (((Its.nil w0).boxN #[.slice aA nA cA, .slice aD nD cD] 29 rfl).boxN #[.slice none 0 0, .slice none 0 0] 29 (n := w0.heap.size + 1) (by simp))
  have KAt : Hid (∀ W, Its w0 (.box (w0.heap.size + 1) #[.slice none 0 0, .slice none 0 0] 29 :: .box w0.heap.size #[.slice aA nA cA, .slice aD nD cD] 29 :: []) W → Calls Try.prog 25 #[.agg #[.slice aA nA cA, .slice aD nD cD], .int .i64 x] W fun r w' => r = .returned (.int .i64 (atI S.all x)) ∧ Its w0 (.box (w0.heap.size + 1) #[.slice none 0 0, .slice none 0 0] 29 :: .box w0.heap.size #[.slice aA nA cA, .slice aD nD cD] 29 :: []) w') := hide (fun W h => by
    refine (at_any S.all x W hn.1 (HV.out W h.bel) (by omega)).mono ?_
    rintro r w' ⟨rfl, hb⟩
    exact ⟨rfl, h.keep hb⟩)
  have HVD : Hid (∀ W, Below w0.heap.size w0 W → intE.Rd W (.slice aD nD cD) S.done) := hide (fun W h => hvd.keep h)
  cases hf : fnd S.all x with
  | none =>
    have e1 : S.seC x = 4 := by unfold Bk.seC; rw [hf]
    rw [Bk.se_no (by rw [e1]; decide), e1]
    rw [atI_none hf] at KAt
    clear hok hn hv hl hf e1
    go_enter Try.func15, Try.ntmps15
    go_upto_region 1 with fail
    generalize ((w0.alloc (.cells #[.slice aA nA cA, .slice aD nD cD] 29)).alloc (.cells #[.slice none 0 0, .slice none 0 0] 29)) = W1 at *
    obtain ⟨e0, e1, ef⟩ := HI0.out.cells2
    obtain ⟨c0, c1, cf⟩ := HI0.out.tail.cells2
    go_upto_region 2 with (go_at_call 25; refine (KAt.out _ HI0.out).mono ?_; rintro e W2 ⟨rfl, hg⟩; have HI2 := hide hg; clear hg)
    clear e0 e1 ef c0 c1 cf
    obtain ⟨e0, e1, ef⟩ := HI2.out.cells2
    obtain ⟨c0, c1, cf⟩ := HI2.out.tail.cells2
    go_wp2_with fail
    have HIe := hide (HI2.out.out2 (.slice aA nA cA) (.slice aD nD cD))
    obtain ⟨y0, y1, _⟩ := HIe.out.cells2
    exact bodyPost_ret (v := .tuple #[.agg #[.slice aA nA cA, .slice aD nD cD], .int .i64 4]) (by simp [results, Try.results15, go_sem, y0, y1]) rfl (ADP.same HN.out HIe.out.bel)
  | some p =>
    obtain ⟨ix, hix, hge⟩ := atI_some hf
    rw [hix] at KAt
    have hin : ix < nA := by rw [← hn.1]; exact idx_lt hge
    have j0 : (0 : Int) ≤ (ix : Int) := by omega
    have j1 : (ix : Int) < (nA : Int) := by omega
    have Hge := hide hge
    by_cases hen : p.en = 1
    · obtain ⟨r0, hr0, hst⟩ := fst_some hf hen
      have hseC : S.seC x = if r0 = p.r then 0 else 110 := by
        unfold Bk.seC
        rw [hf]
        simp only [if_pos hen, hr0, Option.some.injEq]
      have hrid : r0.id = x → r0 = p.r := fun e' => by
        obtain ⟨d, hd, _, rfl⟩ := ops_mem.1 (List.mem_of_find?_eq_some hr0)
        have := fnd_of hok.nd hd
        rw [e', hf] at this
        cases this
        rfl
      have hpx : p.r.id = x := (fnd_some hf).2
      have KF : Hid (∀ W l, Its w0 l W → Calls Try.prog 30 #[.agg #[.slice aA nA cA, .slice aD nD cD], .int .i64 p.r.st] W fun r w' => r = .returned (.tuple #[rqV (some r0), .bool true]) ∧ Its w0 l w') := hide (fun W l h => by
        have := rfirst_any (aA := aA) (nA := nA) (cA := cA) (aD := aD) (nD := nD) (cD := cD) S.all p.r.st W hn.1 (HV.out W h.bel) (by omega)
        rw [hr0] at this
        refine this.mono ?_
        rintro r w' ⟨rfl, hb⟩
        exact ⟨rfl, h.keep hb⟩)
      have HSet := hide (set_setE hok.nd hge hpx 2)
      have HLs : Hid ((setE S.all x 2).length = nA) := hide (by simp [setE, hn.1])
      have KS : Hid (∀ W l, Its w0 l W → Calls Try.prog 29 #[.agg #[.slice aA nA cA, .slice aD nD cD], .int .i64 (ix : Int), .int .i64 2] W fun r w' => ∃ a' c', r = .returned (.agg #[.slice a' nA c', .slice aD nD cD]) ∧ Its w0 (.row enE w0.heap.size (.slice a' nA c') (setE S.all x 2) :: l) w') := hide (fun W l h => by
        refine (rset_any S.all ix p 2 W hn.1 (HV.out W h.bel) (by omega) hge).mono ?_
        rintro r w' ⟨a', c', rfl, ho, hb⟩
        rw [HSet.out] at ho
        exact ⟨_, _, rfl, h.fresh ho hb⟩)
      have HNm : Hid (([] : List Int).length + S.done.length ≤ 1000000 ∧ S.done.length + [x].length ≤ 1000000) := hide (by simp; omega)
      obtain ⟨⟨pi, ps, pt⟩, pe⟩ := p
      obtain ⟨fi, fs, ft⟩ := r0
      simp only at hen hpx hst hrid
      subst hen
      simp only [rqV] at KF
      by_cases hr : (⟨fi, fs, ft⟩ : Rq) = ⟨pi, ps, pt⟩
      · rw [if_pos hr] at hseC
        rw [Bk.se_yes hseC, hseC]
        have hb2 : (fi != x) = false := by
          have : fi = pi := congrArg Rq.id hr
          rw [this, hpx]; exact bne_self_eq_false _
        clear hok hn hv hvd hl hf hix hge hin hseC hr hr0 hst hrid hpx HSet
        go_enter Try.func15, Try.ntmps15
        go_upto_region 1 with fail
        generalize ((w0.alloc (.cells #[.slice aA nA cA, .slice aD nD cD] 29)).alloc (.cells #[.slice none 0 0, .slice none 0 0] 29)) = W1 at *
        obtain ⟨e0, e1, ef⟩ := HI0.out.cells2
        obtain ⟨c0, c1, cf⟩ := HI0.out.tail.cells2
        go_upto_region 4 with (go_at_call 25; refine (KAt.out _ HI0.out).mono ?_; rintro e W2 ⟨rfl, hg⟩; have HI2 := hide hg; clear hg)
        clear e0 e1 ef c0 c1 cf
        obtain ⟨e0, e1, ef⟩ := HI2.out.cells2
        obtain ⟨c0, c1, cf⟩ := HI2.out.tail.cells2
        obtain ⟨b, off, rfl, d0, d1, d2, d3⟩ := en_at (HV.out W2 HI2.out.bel) ix ⟨⟨pi, ps, pt⟩, 1⟩ Hge.out
        simp only at d3
        go_upto_region 6 with fail
        obtain ⟨SS, hSS⟩ : ∃ SS : World → Prop, SS = fun W => W.heap[w0.heap.size]? = some (.cells #[.slice (some ⟨b, off, none⟩) nA cA, .slice aD nD cD] 29) ∧ W.cell? ⟨b, off + ix * 4 + 1, none⟩ = some (.int .i64 ps) := ⟨_, rfl⟩
        have HSF : Hid (∀ W' : World, SS W' → W'.cell? ⟨w0.heap.size, 0, none⟩ = some (.slice (some ⟨b, off, none⟩) nA cA) ∧ W'.cell? ⟨w0.heap.size, 1, none⟩ = some (.slice aD nD cD) ∧ W'.cell? ⟨b, off + ix * 4 + 1, none⟩ = some (.int .i64 ps)) := hide (fun W' h => by rw [hSS] at h; exact ⟨(cells_at h.1 0).1, (cells_at h.1 1).1, h.2⟩)
        have HSS : Hid (∀ W : World, Its w0 (.box (w0.heap.size + 1) #[.slice none 0 0, .slice none 0 0] 29 :: .box w0.heap.size #[.slice (some ⟨b, off, none⟩) nA cA, .slice aD nD cD] 29 :: []) W → SS W) := hide (fun W h => by
          rw [hSS]
          obtain ⟨b', off', hb', _, q1, _, _⟩ := en_at (HV.out W h.bel) ix ⟨⟨pi, ps, pt⟩, 1⟩ Hge.out
          simp only [Option.some.injEq, Addr.mk.injEq, and_true] at hb'
          obtain ⟨rfl, rfl⟩ := hb'
          exact ⟨h.two, q1⟩)
        have HI2d := hide (HI2.out.drew 1)
        have HS0 : SS W2.drew := HSS.out _ HI2d.out
        clear hSS e0 e1 ef c0 c1 cf d0 d1 d2 d3
        refine wp_region_held_drew (S := SS) (by kernel_rfl) HS0 (fun HSX => ?_)
        refine wpAnyH_take (i := 0) (v := .agg #[.slice (some ⟨b, off, none⟩) nA cA, .slice aD nD cD]) rfl (by kernel_rfl) (by kernel_rfl) (by kernel_rfl) (fun _ _ _ h => h) (Or.inl ⟨by kernel_rfl, fun W' hW => by obtain ⟨z0, z1, z2⟩ := HSF.out W' hW; go_simp⟩) HSX ?_
        refine wpAnyH_take (i := 1) (v := .pointer (some ⟨w0.heap.size, 0, none⟩)) rfl (by kernel_rfl) (by kernel_rfl) (by kernel_rfl) (fun _ _ _ h => h) (Or.inl ⟨by kernel_rfl, fun W' hW => by go_simp⟩) HSX ?_
        refine wpAnyH_take (i := 2) (v := .slice (some ⟨b, off, none⟩) nA cA) rfl (by kernel_rfl) (by kernel_rfl) (by kernel_rfl) (fun _ _ _ h => h) (Or.inl ⟨by kernel_rfl, fun W' hW => by obtain ⟨z0, z1, z2⟩ := HSF.out W' hW; go_simp⟩) HSX ?_
        refine wpAnyH_take (i := 3) (v := .int .i64 (ix : Int)) rfl (by kernel_rfl) (by kernel_rfl) (by kernel_rfl) (fun _ _ _ h => h) (Or.inl ⟨by kernel_rfl, fun W' hW => by go_simp⟩) HSX ?_
        refine wpAnyH_take (i := 4) (v := .pointer (some ⟨b, off + ix * 4, none⟩)) rfl (by kernel_rfl) (by kernel_rfl) (by kernel_rfl) (fun _ _ _ h => h) (Or.inl ⟨by kernel_rfl, fun W' hW => by go_simp⟩) HSX ?_
        refine wpAnyH_take (i := 5) (v := .pointer (some ⟨b, off + ix * 4, none⟩)) rfl (by kernel_rfl) (by kernel_rfl) (by kernel_rfl) (fun _ _ _ h => h) (Or.inl ⟨by kernel_rfl, fun W' hW => by go_simp⟩) HSX ?_
        refine wpAnyH_take (i := 6) (v := .pointer (some ⟨b, off + ix * 4 + 1, none⟩)) rfl (by kernel_rfl) (by kernel_rfl) (by kernel_rfl) (fun _ _ _ h => h) (Or.inl ⟨by kernel_rfl, fun W' hW => by go_simp⟩) HSX ?_
        refine wpAnyH_take (i := 7) (v := .int .i64 ps) rfl (by kernel_rfl) (by kernel_rfl) (by kernel_rfl) (fun _ _ _ h => h) (Or.inl ⟨by kernel_rfl, fun W' hW => by obtain ⟨z0, z1, z2⟩ := HSF.out W' hW; go_simp⟩) HSX ?_
        refine wpAnyH_ready (rs := [8, 12]) (by kernel_rfl) (by simp) ?_
        refine AllReadyH.cons rfl (fun K hK => ?_) (AllReadyH.cons rfl (fun K hK => ?_) AllReadyH.nil)
        · go_simp
          go_at_call 30
          refine (KF.out _ _ HI2d.out).mono ?_; rintro e W3 ⟨rfl, hg⟩; have HI3 := hide hg; clear hg
          have sx3 := HSS.out _ HI3.out
          go_simp
          refine hK.out _ _ sx3 (fun _ => ?_)
          clear hK K
          refine wpAnyH_take (i := 9) (v := .tuple #[.agg #[.int .i64 fi, .int .i64 fs, .int .i64 ft], .bool true]) rfl (by kernel_rfl) (by kernel_rfl) (by kernel_rfl) (fun _ _ _ h => h) (Or.inl ⟨by kernel_rfl, fun W' hW => by go_simp⟩) sx3 ?_
          refine wpAnyH_take (i := 10) (v := .agg #[.int .i64 fi, .int .i64 fs, .int .i64 ft]) rfl (by kernel_rfl) (by kernel_rfl) (by kernel_rfl) (fun _ _ _ h => h) (Or.inl ⟨by kernel_rfl, fun W' hW => by go_simp⟩) sx3 ?_
          refine wpAnyH_take (i := 11) (v := .bool true) rfl (by kernel_rfl) (by kernel_rfl) (by kernel_rfl) (fun _ _ _ h => h) (Or.inl ⟨by kernel_rfl, fun W' hW => by go_simp⟩) sx3 ?_
          refine wpAnyH_ready (rs := [12]) (by kernel_rfl) (by simp) ?_
          refine AllReadyH.cons rfl (fun K hK => ?_) AllReadyH.nil
          go_simp
          have HI4 := hide (HI3.out.boxN #[.int .i64 0, .int .i64 0, .int .i64 0] 31 rfl)
          refine hK.out _ _ (HSS.out _ HI4.out.tail) (fun _ => ?_)
          clear hK K
          obtain ⟨bn, hbn⟩ : ∃ bn, W3.heap.size = bn := ⟨_, rfl⟩
          rw [hbn] at HI4 ⊢
          generalize W3.alloc (.cells #[.int .i64 0, .int .i64 0, .int .i64 0] 31) = W4 at *
          clear hbn
          obtain ⟨o0, o1, o2⟩ := HI4.out.cells3
          have of : ∀ i, World.frozen? _ ⟨bn, i, none⟩ = false := fun i => (cells_at HI4.out.one i).2
          have HI5 := hide (((HI4.out.put1 0 (.int .i64 fi)).put1 1 (.int .i64 fs)).put1 2 (.int .i64 ft))
          refine wpAnyH_ready (rs := [13]) (by kernel_rfl) (by simp) ?_
          refine AllReadyH.cons rfl (fun K hK => ?_) AllReadyH.nil
          go_simp
          have sz := HSS.out _ HI5.out.tail
          refine hK.out _ _ sz (fun _ => ?_)
          clear hK K
          refine wpAnyH_ready (rs := [14]) (by kernel_rfl) (by simp) ?_
          refine AllReadyH.cons rfl (fun K hK => ?_) AllReadyH.nil
          go_simp
          refine hK.out _ _ sz (fun _ => ?_)
          clear hK K
          refine wpAnyH_done (by kernel_rfl) ?_ _
          generalize ((W4.setCell ⟨bn, 0, none⟩ (.int .i64 fi)).setCell ⟨bn, 1, none⟩ (.int .i64 fs)).setCell ⟨bn, 2, none⟩ (.int .i64 ft) = W5 at *
          clear o0 o1 o2 of sz
          have x0 : W5.cell? ⟨bn, 0, none⟩ = some (.int .i64 fi) := (cells_at HI5.out.one 0).1
          obtain ⟨e0, e1, ef⟩ := HI5.out.swap.cells2
          obtain ⟨c0, c1, cf⟩ := HI5.out.rot3.cells2
          go_upto_region 10 with (go_at_call 29; refine (KS.out _ _ HI5.out).mono ?_; rintro e W6 ⟨a6, p6, rfl, hg⟩; have HI6 := hide hg.rot4; clear hg; obtain ⟨c0, c1, cf⟩ := HI6.out.cells2)
          have HI7 := hide (HI6.out.out2 (.slice a6 nA p6) (.slice aD nD cD))
          generalize (W6.setCell ⟨w0.heap.size, 0, none⟩ (.slice a6 nA p6)).setCell ⟨w0.heap.size, 1, none⟩ (.slice aD nD cD) = W7 at *
          clear c0 c1 cf e0 e1 ef x0
          have HI8 := hide HI7.out.nothingI
          obtain ⟨k0, k1, kf⟩ := HI8.out.tail.cells2
          have HR : Hid (∀ W : World, intE.Rd (W.alloc (.cells #[.int .i64 x] 3)) (.slice (some ⟨W.heap.size, 0, none⟩) 1 1) [x]) := hide (fun W => int_new W x _ rfl)
          go_upto_region 11 with (first
            | (at_builtin; refine intE.wp (w0 := w0) HI9.out.bel (by rfl) _ _ rfl _ _ rfl rfl ([] ++ S.done) [x] HI9.out.one HR9.out (by rw [List.nil_append]; exact HNm.out.2) ?_; intro v9 W9 ho hg hs hb; have HI10 := hide (HI9.out.grow ho hg hs).swap; obtain ⟨a9, p9, hf9⟩ := ho.rd.form; obtain ⟨n9, hn9⟩ : ∃ n9, (([] ++ S.done) ++ [x]).length = n9 := ⟨_, rfl⟩; rw [hn9] at hf9; subst hf9; have Hn9 := hide hn9; clear ho hg hs hb hn9; obtain ⟨k0, k1, kf⟩ := HI10.out.cells2)
            | (at_builtin; refine intE.wp (w0 := w0) HI8.out.bel (by rfl) _ _ rfl _ _ rfl rfl [] S.done HI8.out.one (HVD.out _ HI8.out.bel) HNm.out.1 ?_; intro v8 W8 ho hg hs hb; have HI9 := hide ((HI8.out.grow ho hg hs).alloc (.cells #[.int .i64 x] 3)); have HR9 := hide (HR.out W8); clear ho hg hs hb; obtain ⟨k0, k1, kf⟩ := HI9.out.tail.cells2))
          have HI11 : Hid (Its w0 (.box w0.heap.size #[.slice a6 nA p6, .slice a9 n9 p9] 29 :: _) (W9.setCell ⟨w0.heap.size, 1, none⟩ (.slice a9 n9 p9))) := hide (HI10.out.put1 1 (.slice a9 n9 p9))
          generalize W9.setCell ⟨w0.heap.size, 1, none⟩ (.slice a9 n9 p9) = W10 at *
          clear k0 k1 kf
          obtain ⟨c0, c1, cf⟩ := HI11.out.cells2
          obtain ⟨e0, e1, ef⟩ := HI11.out.rot5.cells2
          have HIe := hide (HI11.out.rot5.out2 (.slice a6 nA p6) (.slice a9 n9 p9))
          go_wp2_with fail
          obtain ⟨y0, y1, _⟩ := HIe.out.cells2
          have hd := HIe.out.three
          rw [List.nil_append] at hd
          refine bodyPost_ret (v := .tuple #[.agg #[.slice a6 nA p6, .slice a9 n9 p9], .int .i64 0]) (by simp [results, Try.results15, go_sem, y0, y1]) rfl ?_
          exact ⟨a6, nA, p6, a9, n9, p9, rfl, HLs.out, by have := Hn9.out; rw [List.nil_append] at this; exact this, HIe.out.bel, .inr HIe.out.four, .inr hd⟩
        · go_simp
          have HI3 := hide (HI2d.out.boxN #[.int .i64 0, .int .i64 0, .int .i64 0] 31 (n := W2.heap.size) rfl)
          refine hK.out _ _ (HSS.out _ HI3.out.tail) (fun _ => ?_)
          clear hK K
          refine wpAnyH_ready (rs := [8]) (by kernel_rfl) (by simp) ?_
          refine AllReadyH.cons rfl (fun K hK => ?_) AllReadyH.nil
          go_simp
          go_at_call 30
          refine (KF.out _ _ HI3.out).mono ?_; rintro e W4 ⟨rfl, hg⟩; have HI4 := hide hg; clear hg
          have sx4 := HSS.out _ HI4.out.tail
          go_simp
          refine hK.out _ _ sx4 (fun _ => ?_)
          clear hK K
          refine wpAnyH_take (i := 9) (v := .tuple #[.agg #[.int .i64 fi, .int .i64 fs, .int .i64 ft], .bool true]) rfl (by kernel_rfl) (by kernel_rfl) (by kernel_rfl) (fun _ _ _ h => h) (Or.inl ⟨by kernel_rfl, fun W' hW => by go_simp⟩) sx4 ?_
          refine wpAnyH_take (i := 10) (v := .agg #[.int .i64 fi, .int .i64 fs, .int .i64 ft]) rfl (by kernel_rfl) (by kernel_rfl) (by kernel_rfl) (fun _ _ _ h => h) (Or.inl ⟨by kernel_rfl, fun W' hW => by go_simp⟩) sx4 ?_
          refine wpAnyH_take (i := 11) (v := .bool true) rfl (by kernel_rfl) (by kernel_rfl) (by kernel_rfl) (fun _ _ _ h => h) (Or.inl ⟨by kernel_rfl, fun W' hW => by go_simp⟩) sx4 ?_
          obtain ⟨bn, hbn⟩ : ∃ bn, W2.heap.size = bn := ⟨_, rfl⟩
          rw [hbn] at HI4 ⊢
          clear hbn
          obtain ⟨o0, o1, o2⟩ := HI4.out.cells3
          have of : ∀ i, World.frozen? _ ⟨bn, i, none⟩ = false := fun i => (cells_at HI4.out.one i).2
          have HI5 := hide (((HI4.out.put1 0 (.int .i64 fi)).put1 1 (.int .i64 fs)).put1 2 (.int .i64 ft))
          refine wpAnyH_ready (rs := [13]) (by kernel_rfl) (by simp) ?_
          refine AllReadyH.cons rfl (fun K hK => ?_) AllReadyH.nil
          go_simp
          have sz := HSS.out _ HI5.out.tail
          refine hK.out _ _ sz (fun _ => ?_)
          clear hK K
          refine wpAnyH_ready (rs := [14]) (by kernel_rfl) (by simp) ?_
          refine AllReadyH.cons rfl (fun K hK => ?_) AllReadyH.nil
          go_simp
          refine hK.out _ _ sz (fun _ => ?_)
          clear hK K
          refine wpAnyH_done (by kernel_rfl) ?_ _
          generalize ((W4.setCell ⟨bn, 0, none⟩ (.int .i64 fi)).setCell ⟨bn, 1, none⟩ (.int .i64 fs)).setCell ⟨bn, 2, none⟩ (.int .i64 ft) = W5 at *
          clear o0 o1 o2 of sz
          have x0 : W5.cell? ⟨bn, 0, none⟩ = some (.int .i64 fi) := (cells_at HI5.out.one 0).1
          obtain ⟨e0, e1, ef⟩ := HI5.out.swap.cells2
          obtain ⟨c0, c1, cf⟩ := HI5.out.rot3.cells2
          go_upto_region 10 with (go_at_call 29; refine (KS.out _ _ HI5.out).mono ?_; rintro e W6 ⟨a6, p6, rfl, hg⟩; have HI6 := hide hg.rot4; clear hg; obtain ⟨c0, c1, cf⟩ := HI6.out.cells2)
          have HI7 := hide (HI6.out.out2 (.slice a6 nA p6) (.slice aD nD cD))
          generalize (W6.setCell ⟨w0.heap.size, 0, none⟩ (.slice a6 nA p6)).setCell ⟨w0.heap.size, 1, none⟩ (.slice aD nD cD) = W7 at *
          clear c0 c1 cf e0 e1 ef x0
          have HI8 := hide HI7.out.nothingI
          obtain ⟨k0, k1, kf⟩ := HI8.out.tail.cells2
          have HR : Hid (∀ W : World, intE.Rd (W.alloc (.cells #[.int .i64 x] 3)) (.slice (some ⟨W.heap.size, 0, none⟩) 1 1) [x]) := hide (fun W => int_new W x _ rfl)
          go_upto_region 11 with (first
            | (at_builtin; refine intE.wp (w0 := w0) HI9.out.bel (by rfl) _ _ rfl _ _ rfl rfl ([] ++ S.done) [x] HI9.out.one HR9.out (by rw [List.nil_append]; exact HNm.out.2) ?_; intro v9 W9 ho hg hs hb; have HI10 := hide (HI9.out.grow ho hg hs).swap; obtain ⟨a9, p9, hf9⟩ := ho.rd.form; obtain ⟨n9, hn9⟩ : ∃ n9, (([] ++ S.done) ++ [x]).length = n9 := ⟨_, rfl⟩; rw [hn9] at hf9; subst hf9; have Hn9 := hide hn9; clear ho hg hs hb hn9; obtain ⟨k0, k1, kf⟩ := HI10.out.cells2)
            | (at_builtin; refine intE.wp (w0 := w0) HI8.out.bel (by rfl) _ _ rfl _ _ rfl rfl [] S.done HI8.out.one (HVD.out _ HI8.out.bel) HNm.out.1 ?_; intro v8 W8 ho hg hs hb; have HI9 := hide ((HI8.out.grow ho hg hs).alloc (.cells #[.int .i64 x] 3)); have HR9 := hide (HR.out W8); clear ho hg hs hb; obtain ⟨k0, k1, kf⟩ := HI9.out.tail.cells2))
          have HI11 : Hid (Its w0 (.box w0.heap.size #[.slice a6 nA p6, .slice a9 n9 p9] 29 :: _) (W9.setCell ⟨w0.heap.size, 1, none⟩ (.slice a9 n9 p9))) := hide (HI10.out.put1 1 (.slice a9 n9 p9))
          generalize W9.setCell ⟨w0.heap.size, 1, none⟩ (.slice a9 n9 p9) = W10 at *
          clear k0 k1 kf
          obtain ⟨c0, c1, cf⟩ := HI11.out.cells2
          obtain ⟨e0, e1, ef⟩ := HI11.out.rot5.cells2
          have HIe := hide (HI11.out.rot5.out2 (.slice a6 nA p6) (.slice a9 n9 p9))
          go_wp2_with fail
          obtain ⟨y0, y1, _⟩ := HIe.out.cells2
          have hd := HIe.out.three
          rw [List.nil_append] at hd
          refine bodyPost_ret (v := .tuple #[.agg #[.slice a6 nA p6, .slice a9 n9 p9], .int .i64 0]) (by simp [results, Try.results15, go_sem, y0, y1]) rfl ?_
          exact ⟨a6, nA, p6, a9, n9, p9, rfl, HLs.out, by have := Hn9.out; rw [List.nil_append] at this; exact this, HIe.out.bel, .inr HIe.out.four, .inr hd⟩
      · rw [if_neg hr] at hseC
        rw [Bk.se_no (by rw [hseC]; decide), hseC]
        have hb2 : (fi != x) = true := bne_iff_ne.2 (fun e' => hr (hrid e'))
        clear hok hn hv hvd hl hf hix hge hin hseC hr hr0 hst hrid hpx HSet KS
        go_enter Try.func15, Try.ntmps15
        go_upto_region 1 with fail
        generalize ((w0.alloc (.cells #[.slice aA nA cA, .slice aD nD cD] 29)).alloc (.cells #[.slice none 0 0, .slice none 0 0] 29)) = W1 at *
        obtain ⟨e0, e1, ef⟩ := HI0.out.cells2
        obtain ⟨c0, c1, cf⟩ := HI0.out.tail.cells2
        go_upto_region 4 with (go_at_call 25; refine (KAt.out _ HI0.out).mono ?_; rintro e W2 ⟨rfl, hg⟩; have HI2 := hide hg; clear hg)
        clear e0 e1 ef c0 c1 cf
        obtain ⟨e0, e1, ef⟩ := HI2.out.cells2
        obtain ⟨c0, c1, cf⟩ := HI2.out.tail.cells2
        obtain ⟨b, off, rfl, d0, d1, d2, d3⟩ := en_at (HV.out W2 HI2.out.bel) ix ⟨⟨pi, ps, pt⟩, 1⟩ Hge.out
        simp only at d3
        go_upto_region 6 with fail
        obtain ⟨SS, hSS⟩ : ∃ SS : World → Prop, SS = fun W => W.heap[w0.heap.size]? = some (.cells #[.slice (some ⟨b, off, none⟩) nA cA, .slice aD nD cD] 29) ∧ W.cell? ⟨b, off + ix * 4 + 1, none⟩ = some (.int .i64 ps) := ⟨_, rfl⟩
        have HSF : Hid (∀ W' : World, SS W' → W'.cell? ⟨w0.heap.size, 0, none⟩ = some (.slice (some ⟨b, off, none⟩) nA cA) ∧ W'.cell? ⟨w0.heap.size, 1, none⟩ = some (.slice aD nD cD) ∧ W'.cell? ⟨b, off + ix * 4 + 1, none⟩ = some (.int .i64 ps)) := hide (fun W' h => by rw [hSS] at h; exact ⟨(cells_at h.1 0).1, (cells_at h.1 1).1, h.2⟩)
        have HSS : Hid (∀ W : World, Its w0 (.box (w0.heap.size + 1) #[.slice none 0 0, .slice none 0 0] 29 :: .box w0.heap.size #[.slice (some ⟨b, off, none⟩) nA cA, .slice aD nD cD] 29 :: []) W → SS W) := hide (fun W h => by
          rw [hSS]
          obtain ⟨b', off', hb', _, q1, _, _⟩ := en_at (HV.out W h.bel) ix ⟨⟨pi, ps, pt⟩, 1⟩ Hge.out
          simp only [Option.some.injEq, Addr.mk.injEq, and_true] at hb'
          obtain ⟨rfl, rfl⟩ := hb'
          exact ⟨h.two, q1⟩)
        have HI2d := hide (HI2.out.drew 1)
        have HS0 : SS W2.drew := HSS.out _ HI2d.out
        clear hSS e0 e1 ef c0 c1 cf d0 d1 d2 d3
        refine wp_region_held_drew (S := SS) (by kernel_rfl) HS0 (fun HSX => ?_)
        refine wpAnyH_take (i := 0) (v := .agg #[.slice (some ⟨b, off, none⟩) nA cA, .slice aD nD cD]) rfl (by kernel_rfl) (by kernel_rfl) (by kernel_rfl) (fun _ _ _ h => h) (Or.inl ⟨by kernel_rfl, fun W' hW => by obtain ⟨z0, z1, z2⟩ := HSF.out W' hW; go_simp⟩) HSX ?_
        refine wpAnyH_take (i := 1) (v := .pointer (some ⟨w0.heap.size, 0, none⟩)) rfl (by kernel_rfl) (by kernel_rfl) (by kernel_rfl) (fun _ _ _ h => h) (Or.inl ⟨by kernel_rfl, fun W' hW => by go_simp⟩) HSX ?_
        refine wpAnyH_take (i := 2) (v := .slice (some ⟨b, off, none⟩) nA cA) rfl (by kernel_rfl) (by kernel_rfl) (by kernel_rfl) (fun _ _ _ h => h) (Or.inl ⟨by kernel_rfl, fun W' hW => by obtain ⟨z0, z1, z2⟩ := HSF.out W' hW; go_simp⟩) HSX ?_
        refine wpAnyH_take (i := 3) (v := .int .i64 (ix : Int)) rfl (by kernel_rfl) (by kernel_rfl) (by kernel_rfl) (fun _ _ _ h => h) (Or.inl ⟨by kernel_rfl, fun W' hW => by go_simp⟩) HSX ?_
        refine wpAnyH_take (i := 4) (v := .pointer (some ⟨b, off + ix * 4, none⟩)) rfl (by kernel_rfl) (by kernel_rfl) (by kernel_rfl) (fun _ _ _ h => h) (Or.inl ⟨by kernel_rfl, fun W' hW => by go_simp⟩) HSX ?_
        refine wpAnyH_take (i := 5) (v := .pointer (some ⟨b, off + ix * 4, none⟩)) rfl (by kernel_rfl) (by kernel_rfl) (by kernel_rfl) (fun _ _ _ h => h) (Or.inl ⟨by kernel_rfl, fun W' hW => by go_simp⟩) HSX ?_
        refine wpAnyH_take (i := 6) (v := .pointer (some ⟨b, off + ix * 4 + 1, none⟩)) rfl (by kernel_rfl) (by kernel_rfl) (by kernel_rfl) (fun _ _ _ h => h) (Or.inl ⟨by kernel_rfl, fun W' hW => by go_simp⟩) HSX ?_
        refine wpAnyH_take (i := 7) (v := .int .i64 ps) rfl (by kernel_rfl) (by kernel_rfl) (by kernel_rfl) (fun _ _ _ h => h) (Or.inl ⟨by kernel_rfl, fun W' hW => by obtain ⟨z0, z1, z2⟩ := HSF.out W' hW; go_simp⟩) HSX ?_
        refine wpAnyH_ready (rs := [8, 12]) (by kernel_rfl) (by simp) ?_
        refine AllReadyH.cons rfl (fun K hK => ?_) (AllReadyH.cons rfl (fun K hK => ?_) AllReadyH.nil)
        · go_simp
          go_at_call 30
          refine (KF.out _ _ HI2d.out).mono ?_; rintro e W3 ⟨rfl, hg⟩; have HI3 := hide hg; clear hg
          have sx3 := HSS.out _ HI3.out
          go_simp
          refine hK.out _ _ sx3 (fun _ => ?_)
          clear hK K
          refine wpAnyH_take (i := 9) (v := .tuple #[.agg #[.int .i64 fi, .int .i64 fs, .int .i64 ft], .bool true]) rfl (by kernel_rfl) (by kernel_rfl) (by kernel_rfl) (fun _ _ _ h => h) (Or.inl ⟨by kernel_rfl, fun W' hW => by go_simp⟩) sx3 ?_
          refine wpAnyH_take (i := 10) (v := .agg #[.int .i64 fi, .int .i64 fs, .int .i64 ft]) rfl (by kernel_rfl) (by kernel_rfl) (by kernel_rfl) (fun _ _ _ h => h) (Or.inl ⟨by kernel_rfl, fun W' hW => by go_simp⟩) sx3 ?_
          refine wpAnyH_take (i := 11) (v := .bool true) rfl (by kernel_rfl) (by kernel_rfl) (by kernel_rfl) (fun _ _ _ h => h) (Or.inl ⟨by kernel_rfl, fun W' hW => by go_simp⟩) sx3 ?_
          refine wpAnyH_ready (rs := [12]) (by kernel_rfl) (by simp) ?_
          refine AllReadyH.cons rfl (fun K hK => ?_) AllReadyH.nil
          go_simp
          have HI4 := hide (HI3.out.boxN #[.int .i64 0, .int .i64 0, .int .i64 0] 31 rfl)
          refine hK.out _ _ (HSS.out _ HI4.out.tail) (fun _ => ?_)
          clear hK K
          obtain ⟨bn, hbn⟩ : ∃ bn, W3.heap.size = bn := ⟨_, rfl⟩
          rw [hbn] at HI4 ⊢
          generalize W3.alloc (.cells #[.int .i64 0, .int .i64 0, .int .i64 0] 31) = W4 at *
          clear hbn
          obtain ⟨o0, o1, o2⟩ := HI4.out.cells3
          have of : ∀ i, World.frozen? _ ⟨bn, i, none⟩ = false := fun i => (cells_at HI4.out.one i).2
          have HI5 := hide (((HI4.out.put1 0 (.int .i64 fi)).put1 1 (.int .i64 fs)).put1 2 (.int .i64 ft))
          refine wpAnyH_ready (rs := [13]) (by kernel_rfl) (by simp) ?_
          refine AllReadyH.cons rfl (fun K hK => ?_) AllReadyH.nil
          go_simp
          have sz := HSS.out _ HI5.out.tail
          refine hK.out _ _ sz (fun _ => ?_)
          clear hK K
          refine wpAnyH_ready (rs := [14]) (by kernel_rfl) (by simp) ?_
          refine AllReadyH.cons rfl (fun K hK => ?_) AllReadyH.nil
          go_simp
          refine hK.out _ _ sz (fun _ => ?_)
          clear hK K
          refine wpAnyH_done (by kernel_rfl) ?_ _
          generalize ((W4.setCell ⟨bn, 0, none⟩ (.int .i64 fi)).setCell ⟨bn, 1, none⟩ (.int .i64 fs)).setCell ⟨bn, 2, none⟩ (.int .i64 ft) = W5 at *
          clear o0 o1 o2 of sz
          have x0 : W5.cell? ⟨bn, 0, none⟩ = some (.int .i64 fi) := (cells_at HI5.out.one 0).1
          obtain ⟨e0, e1, ef⟩ := HI5.out.swap.cells2
          obtain ⟨c0, c1, cf⟩ := HI5.out.rot3.cells2
          go_wp2_with fail
          have HI6 := hide HI5.out.tail
          have HIe := hide (HI6.out.out2 (.slice (some ⟨b, off, none⟩) nA cA) (.slice aD nD cD))
          obtain ⟨y0, y1, _⟩ := HIe.out.cells2
          exact bodyPost_ret (v := .tuple #[.agg #[.slice (some ⟨b, off, none⟩) nA cA, .slice aD nD cD], .int .i64 110]) (by simp [results, Try.results15, go_sem, y0, y1]) rfl (ADP.same HN.out HIe.out.bel)
        · go_simp
          have HI3 := hide (HI2d.out.boxN #[.int .i64 0, .int .i64 0, .int .i64 0] 31 (n := W2.heap.size) rfl)
          refine hK.out _ _ (HSS.out _ HI3.out.tail) (fun _ => ?_)
          clear hK K
          refine wpAnyH_ready (rs := [8]) (by kernel_rfl) (by simp) ?_
          refine AllReadyH.cons rfl (fun K hK => ?_) AllReadyH.nil
          go_simp
          go_at_call 30
          refine (KF.out _ _ HI3.out).mono ?_; rintro e W4 ⟨rfl, hg⟩; have HI4 := hide hg; clear hg
          have sx4 := HSS.out _ HI4.out.tail
          go_simp
          refine hK.out _ _ sx4 (fun _ => ?_)
          clear hK K
          refine wpAnyH_take (i := 9) (v := .tuple #[.agg #[.int .i64 fi, .int .i64 fs, .int .i64 ft], .bool true]) rfl (by kernel_rfl) (by kernel_rfl) (by kernel_rfl) (fun _ _ _ h => h) (Or.inl ⟨by kernel_rfl, fun W' hW => by go_simp⟩) sx4 ?_
          refine wpAnyH_take (i := 10) (v := .agg #[.int .i64 fi, .int .i64 fs, .int .i64 ft]) rfl (by kernel_rfl) (by kernel_rfl) (by kernel_rfl) (fun _ _ _ h => h) (Or.inl ⟨by kernel_rfl, fun W' hW => by go_simp⟩) sx4 ?_
          refine wpAnyH_take (i := 11) (v := .bool true) rfl (by kernel_rfl) (by kernel_rfl) (by kernel_rfl) (fun _ _ _ h => h) (Or.inl ⟨by kernel_rfl, fun W' hW => by go_simp⟩) sx4 ?_
          obtain ⟨bn, hbn⟩ : ∃ bn, W2.heap.size = bn := ⟨_, rfl⟩
          rw [hbn] at HI4 ⊢
          clear hbn
          obtain ⟨o0, o1, o2⟩ := HI4.out.cells3
          have of : ∀ i, World.frozen? _ ⟨bn, i, none⟩ = false := fun i => (cells_at HI4.out.one i).2
          have HI5 := hide (((HI4.out.put1 0 (.int .i64 fi)).put1 1 (.int .i64 fs)).put1 2 (.int .i64 ft))
          refine wpAnyH_ready (rs := [13]) (by kernel_rfl) (by simp) ?_
          refine AllReadyH.cons rfl (fun K hK => ?_) AllReadyH.nil
          go_simp
          have sz := HSS.out _ HI5.out.tail
          refine hK.out _ _ sz (fun _ => ?_)
          clear hK K
          refine wpAnyH_ready (rs := [14]) (by kernel_rfl) (by simp) ?_
          refine AllReadyH.cons rfl (fun K hK => ?_) AllReadyH.nil
          go_simp
          refine hK.out _ _ sz (fun _ => ?_)
          clear hK K
          refine wpAnyH_done (by kernel_rfl) ?_ _
          generalize ((W4.setCell ⟨bn, 0, none⟩ (.int .i64 fi)).setCell ⟨bn, 1, none⟩ (.int .i64 fs)).setCell ⟨bn, 2, none⟩ (.int .i64 ft) = W5 at *
          clear o0 o1 o2 of sz
          have x0 : W5.cell? ⟨bn, 0, none⟩ = some (.int .i64 fi) := (cells_at HI5.out.one 0).1
          obtain ⟨e0, e1, ef⟩ := HI5.out.swap.cells2
          obtain ⟨c0, c1, cf⟩ := HI5.out.rot3.cells2
          go_wp2_with fail
          have HI6 := hide HI5.out.tail
          have HIe := hide (HI6.out.out2 (.slice (some ⟨b, off, none⟩) nA cA) (.slice aD nD cD))
          obtain ⟨y0, y1, _⟩ := HIe.out.cells2
          exact bodyPost_ret (v := .tuple #[.agg #[.slice (some ⟨b, off, none⟩) nA cA, .slice aD nD cD], .int .i64 110]) (by simp [results, Try.results15, go_sem, y0, y1]) rfl (ADP.same HN.out HIe.out.bel)
    · have e1 : S.seC x = 140 := by unfold Bk.seC; rw [hf]; simp [hen]
      rw [Bk.se_no (by rw [e1]; decide), e1]
      have hb1 : (p.en != 1) = true := bne_iff_ne.2 hen
      clear hok hn hv hl hf hix hge hin e1 hen
      go_enter Try.func15, Try.ntmps15
      go_upto_region 1 with fail
      generalize ((w0.alloc (.cells #[.slice aA nA cA, .slice aD nD cD] 29)).alloc (.cells #[.slice none 0 0, .slice none 0 0] 29)) = W1 at *
      obtain ⟨e0, e1, ef⟩ := HI0.out.cells2
      obtain ⟨c0, c1, cf⟩ := HI0.out.tail.cells2
      go_upto_region 4 with (go_at_call 25; refine (KAt.out _ HI0.out).mono ?_; rintro e W2 ⟨rfl, hg⟩; have HI2 := hide hg; clear hg)
      clear e0 e1 ef c0 c1 cf
      obtain ⟨e0, e1, ef⟩ := HI2.out.cells2
      obtain ⟨c0, c1, cf⟩ := HI2.out.tail.cells2
      obtain ⟨b, off, rfl, d0, d1, d2, d3⟩ := en_at (HV.out W2 HI2.out.bel) ix p Hge.out
      go_wp2_with fail
      have HIe := hide (HI2.out.out2 (.slice (some ⟨b, off, none⟩) nA cA) (.slice aD nD cD))
      obtain ⟨y0, y1, _⟩ := HIe.out.cells2
      exact bodyPost_ret (v := .tuple #[.agg #[.slice (some ⟨b, off, none⟩) nA cA, .slice aD nD cD], .int .i64 140]) (by simp [results, Try.results15, go_sem, y0, y1]) rfl (ADP.same HN.out HIe.out.bel)
end
end Go.Proofs.Ytfmpipihjnpimaa
