/- Claim: nodes for a tote. -/
import Derived.Test.YtbibegendejnlaaCga
namespace Go.Proofs.Ytbibegendejnlaa
open Go.RowKit
set_option linter.unusedVariables false

theorem El.stepB {P : Program} {α : Type} (E : El P α) {B : Nat} {w : World} (hB : B ≤ w.heap.size) {ops : Array Oper} {o : Oper} {a : Act} {K : Act → World → Prop} {Q : Exit → Act → World → Prop} {F : Prop} (hgd : o.guard = none) (s x : Operand)
    (ho : o.op = .call { callee := .builtin .append, args := #[s, x], argTypes := #[E.t, E.t] }) (v u : Value) (hs : a.eval s = v) (hx : a.eval x = u)
    (xs ys : List α) (hown : E.Own w B v xs) (hu : E.Rd w u ys) (hn : xs.length + ys.length ≤ 1000000)
    (h : ∀ v' w', E.Own w' B v' (xs ++ ys) → w.grownBy w' v.ownBlock → (v'.ownBlock = v.ownBlock ∨ v'.ownBlock = some w.heap.size) → K (a.put o.dst v') w') :
    if Region.wanted o (yielded ops a.tmps) = true then Oper.wp P o a w K Q else F := by
  have hw : Region.wanted o (yielded ops a.tmps) = true := by simp [Region.wanted, hgd]
  rw [if_pos hw]
  obtain ⟨v', w', hr, h2, h3, h4⟩ := E.run hown hB hu hn o.type
  unfold Oper.wp execOp
  simp only [ho, resolve, invoke, builtin, Sem.run_bind, Sem.run_pure, Result.andThen_ok, List.map_toArray, List.map_cons, List.map_nil, hs, hx, hr]
  exact h v' w' h2 h3 h4

theorem cl_new (w : World) (x : Cv) (k : Nat) (hk : k = w.heap.size) : clE.Rd (w.alloc (.cells #[.int .i64 x.tote, .slice x.a x.l x.c] 67)) (.slice (some ⟨k, 0, none⟩) 1 1) [x] :=
  (El.Own.new clE w w.heap.size (Nat.le_refl _) _ [x] (by simp [El.fl, clE]) (by simp) _ _ _ hk rfl rfl).rd

/-- a claim comes behind all that wait -/
theorem Tab.app {w w1 w8 : World} {B g gh : Nat} {b : Nat → Prop} {vw v8 : Value} {cs : List Cv} {T : Tb} (h : Tab w B g gh b vw cs T) (hb1 : Below w.heap.size w w1) (hav : ∀ k, b k → k < w.heap.size) {x : Cv} {ns : List Int} (ho : intE.Own w1 w.heap.size x.v ns) {o : Obj} (ho8 : clE.Own w8 B v8 (cs ++ [x])) (hg : (w1.alloc o).grownBy w8 vw.ownBlock) :
    Tab (w8.setCell ⟨g, 1, none⟩ v8) B g gh b v8 (cs ++ [x]) ⟨T.hold, T.q ++ [⟨x.tote, ns⟩]⟩ ∧ Fr B g gh w (w8.setCell ⟨g, 1, none⟩ v8) ∧ w8.cell? ⟨g, 1, none⟩ = some vw ∧ w8.frozen? ⟨g, 1, none⟩ = false := by
  have hB : Below w1.heap.size w1 (w1.alloc o) := (Below.refl _ _).alloc (Nat.le_refl _) o
  have hX : Below w.heap.size w (w1.alloc o) := hb1.trans (hB.mono hb1.size)
  have hne : vw.ownBlock ≠ some g ∧ vw.ownBlock ≠ some gh := ⟨zown_ne h.qs.row h.box (by decide), fun e => by
    obtain ⟨cur, hc⟩ := own_type h.hold gh rfl
    exact zown_ne h.qs.row hc (by decide) e⟩
  have hgl := heap_lt h.box
  have hhl : gh < w.heap.size := h.hold.lt gh rfl
  have hx : Fr B g gh w w8 := (Fr.of_below hX).trans (Fr.grown (h.qs.row.keep hX) hg)
  refine h.putQ hx ?_ ?_ ⟨ho8, by rw [List.length_append, List.length_append, h.qs.len]; rfl, fun i y p hy hp => ?_⟩
  · rw [hg.block g (Nat.lt_of_lt_of_le hgl hX.size) (fun e => hne.1 e.symm)]; exact hX.block g hgl
  · rw [hg.block gh (Nat.lt_of_lt_of_le hhl hX.size) (fun e => hne.2 e.symm)]; exact hX.block gh hhl
  · have key : ∀ (u : Value) (l : List Int) (B' : Nat), intE.Own (w1.alloc o) B' u l → intE.Own w8 B' u l := fun u l B' hu => own_stay hu fun k hk hlt => hg.block k hlt (fun e => by
      obtain ⟨cur, hc⟩ := own_type hu k hk
      exact zown_ne (h.qs.row.keep hX) hc (by decide) e.symm)
    rcases Nat.lt_or_ge i T.q.length with hi | hi
    · rw [List.getElem?_append_left (by rw [h.qs.len]; exact hi)] at hy
      rw [List.getElem?_append_left hi] at hp
      obtain ⟨e1, e2, e3, e4⟩ := h.qs.el i y p hy hp
      exact ⟨e1, key _ _ _ (e2.keep hX), e3, e4⟩
    · rw [List.getElem?_append_right (by rw [h.qs.len]; exact hi), h.qs.len] at hy
      rw [List.getElem?_append_right hi] at hp
      obtain ⟨j, hj⟩ : ∃ j, i - T.q.length = j := ⟨_, rfl⟩
      rw [hj] at hy hp
      cases j with
      | succ j => simp at hy
      | zero =>
        simp only [List.getElem?_cons_zero, Option.some.injEq] at hy hp
        subst hy
        subst hp
        refine ⟨rfl, key _ _ _ ((ho.keep hB).mono (Nat.le_trans h.base (Nat.le_of_lt hgl))), fun e => ?_, fun k hk hbk => ?_⟩
        · have := ho.ge _ e; omega
        · have := ho.ge _ hk; have := hav k hbk; omega

theorem Wf.add {T : Tb} (h : Wf T) {t : Int} {ns : List Int} (ht : toteB t = true) (hne : ns ≠ []) (hin : ns.all (inB T.hold.length) = true) (hl : ns.length ≤ 100000) (hf : fnd t T.q < 0) : Wf ⟨T.hold, T.q ++ [⟨t, onc ns⟩]⟩ := by
  have ht' : 1 ≤ t ∧ t ≤ 30 := of_decide_eq_true ht
  have hnt : ∀ c ∈ T.q, c.tote ≠ t := fun c hc e => by
    rcases ix_cases (fun d => decide (d.tote = t)) T.q with ⟨i, d, _, _, _, e'⟩ | ⟨h', _⟩
    · unfold fnd at hf; omega
    · have := h' c hc; simp [e] at this
  refine ⟨h.len, h.hold, fun c hc => ?_, fun c hc => ?_, ?_⟩
  · rcases List.mem_append.1 hc with hc | hc
    · exact h.tote c hc
    · simp at hc; subst hc; exact ht'
  · rcases List.mem_append.1 hc with hc | hc
    · exact h.nodes c hc
    · simp at hc; subst hc
      refine ⟨fun n hn => ?_, fun e => ?_, Nat.le_trans (onc_len _) hl⟩
      · have := List.all_eq_true.1 hin n ((onc_mem _ _).1 hn)
        exact of_decide_eq_true this
      · cases ns with
        | nil => exact hne rfl
        | cons n ns =>
          have := (onc_mem (n :: ns) n).2 (by simp)
          have e' : onc (n :: ns) = [] := e
          rw [e'] at this
          simp at this
  · rw [List.map_append, List.nodup_append]
    refine ⟨h.once, by simp, fun a ha b hb => ?_⟩
    obtain ⟨c, hc, rfl⟩ := List.mem_map.1 ha
    simp at hb
    subst hb
    exact hnt c hc

/-- what is wrong with a claim -/
def badC (N : Nat) (t : Int) (ns : List Int) : Bool := !(toteB t) || decide (ns.length = 0) || !(ns.all (inB N))

set_option maxRecDepth 100000 in
set_option maxHeartbeats 2000000 in
theorem claim_bad {w : World} {B g gh : Nat} {b : Nat → Prop} {T : Tb} (hT : Tbl w B g gh b T) (t : Int) (a : Option Addr) (c n : Nat) (ns : List Int) (hn : ns.length = n) (hv : intE.Rd w (.slice a n c) ns) (hl : n ≤ 100000) (hbad : badC T.hold.length t ns = true) :
    Calls Try.prog 11 #[.pointer (some ⟨g, 0, none⟩), .int .i64 t, .slice a n c] w fun e w' => e = .returned (.tuple #[.bool false, .int .i64 1]) ∧ w' = w := by
  obtain ⟨vw, cs, h⟩ := hT
  have K24 := hide (tote_any t w)
  have K25 := hide (containsO_any a c n g gh T.hold.length ns w h.cells.1 hn hv hl)
  unfold badC at hbad
  rw [hn] at hbad
  generalize toteB t = b1 at *
  generalize ns.all (inB T.hold.length) = b2 at *
  clear h hn hv
  cases b1 with
  | false =>
    go_enter Try.func11, Try.ntmps11
    go_wp2_with (go_at_call 24; refine K24.out.mono ?_; rintro e W1 ⟨rfl, hW⟩; have hW' := hW.symm; clear hW; subst hW')
    go_ret2
    exact ⟨rfl, rfl⟩
  | true =>
    by_cases h0 : n = 0
    · subst h0
      go_enter Try.func11, Try.ntmps11
      go_wp2_with (go_at_call 24; refine K24.out.mono ?_; rintro e W1 ⟨rfl, hW⟩; have hW' := hW.symm; clear hW; subst hW')
      go_ret2
      exact ⟨rfl, rfl⟩
    · have h0' : ((n : Int) == 0) = false := beq_eq_false_iff_ne.2 (by omega)
      have h1 : ¬ ((n : Int) = 0) := by omega
      have : b2 = false := by simpa [h0] using hbad
      subst this
      clear hbad
      go_enter Try.func11, Try.ntmps11
      go_wp2_with (first | (go_at_call 24; refine K24.out.mono ?_; rintro e W1 ⟨rfl, hW⟩; have hW' := hW.symm; clear hW; subst hW') | (go_at_call 25; refine K25.out.mono ?_; rintro e W1 ⟨rfl, hW⟩; have hW' := hW.symm; clear hW; subst hW'))
      go_ret2
      exact ⟨rfl, rfl⟩

theorem badC_no {N : Nat} {t : Int} {ns : List Int} (h : badC N t ns = false) : toteB t = true ∧ ns.length ≠ 0 ∧ ns.all (inB N) = true := by
  unfold badC at h
  rw [Bool.or_eq_false_iff, Bool.or_eq_false_iff] at h
  obtain ⟨⟨h1, h2⟩, h3⟩ := h
  exact ⟨by simpa using h1, of_decide_eq_false h2, by simpa using h3⟩

set_option maxRecDepth 100000 in
set_option maxHeartbeats 2000000 in
theorem claim_twice {w : World} {B g gh : Nat} {b : Nat → Prop} {T : Tb} (hT : Tbl w B g gh b T) (hw : Wf T) (t : Int) (a : Option Addr) (c n : Nat) (ns : List Int) (hn : ns.length = n) (hv : intE.Rd w (.slice a n c) ns) (hl : n ≤ 100000) (hbad : badC T.hold.length t ns = false) (hf : 0 ≤ fnd t T.q) :
    Calls Try.prog 11 #[.pointer (some ⟨g, 0, none⟩), .int .i64 t, .slice a n c] w fun e w' => e = .returned (.tuple #[.bool false, .int .i64 2]) ∧ Below w.heap.size w w' := by
  have K24 := hide (tote_any t w)
  have K27 := hide (find_any hT (by have := hw.qlen; omega) t)
  obtain ⟨vw, cs, h⟩ := hT
  have K25 := hide (containsO_any a c n g gh T.hold.length ns w h.cells.1 hn hv hl)
  obtain ⟨e1, e2, e3⟩ := badC_no hbad
  rw [hn] at e2
  rw [e1] at K24
  rw [e3] at K25
  have h0' : ((n : Int) == 0) = false := beq_eq_false_iff_ne.2 (by omega)
  have h1 : ¬ ((n : Int) = 0) := by omega
  generalize fnd t T.q = r at *
  clear h hn hv hbad e1 e3 e2 hw hl
  go_enter Try.func11, Try.ntmps11
  go_wp2_with (first | (go_at_call 24; refine K24.out.mono ?_; rintro e W1 ⟨rfl, hW⟩; have hW' := hW.symm; clear hW; subst hW') | (go_at_call 25; refine K25.out.mono ?_; rintro e W1 ⟨rfl, hW⟩; have hW' := hW.symm; clear hW; subst hW') | (go_at_call 27; refine K27.out.mono ?_; rintro e W1 ⟨rfl, hb1⟩; have HB1 := hide hb1; clear hb1))
  go_ret2
  exact ⟨rfl, HB1.out⟩

set_option maxRecDepth 100000 in
set_option maxHeartbeats 4000000 in
theorem claim_ok {w : World} {B g gh : Nat} {b : Nat → Prop} {T : Tb} (hT : Tbl w B g gh b T) (hw : Wf T) (hav : ∀ k, b k → k < w.heap.size) (t : Int) (a : Option Addr) (c n : Nat) (ns : List Int) (hn : ns.length = n) (hv : intE.Rd w (.slice a n c) ns) (hl : n ≤ 100000) (hbad : badC T.hold.length t ns = false) (hf : fnd t T.q < 0) :
    Calls Try.prog 11 #[.pointer (some ⟨g, 0, none⟩), .int .i64 t, .slice a n c] w fun e w' => ∃ l : List Int, e = .returned (.tuple #[.bool (decide (0 < l.length)), .int .i64 0]) ∧ ∃ T', Gr ⟨T.hold, T.q ++ [⟨t, onc ns⟩]⟩ T' l ∧ Tbl w' B g gh b T' ∧ Fr B g gh w w' := by
  have K24 := hide (tote_any t w)
  have K27 := hide (find_any hT (by have := hw.qlen; omega) t)
  obtain ⟨vw, cs, h⟩ := hT
  have K25 := hide (containsO_any a c n g gh T.hold.length ns w h.cells.1 hn hv hl)
  obtain ⟨e1, e2, e3⟩ := badC_no hbad
  have HW := hide (Wf.add hw e1 (fun e => e2 (by rw [e]; rfl)) e3 (by rw [hn]; exact hl) hf)
  have Hq := hide hw.qlen
  rw [hn] at e2
  rw [e1] at K24
  rw [e3] at K25
  have h0' : ((n : Int) == 0) = false := beq_eq_false_iff_ne.2 (by omega)
  have h1 : ¬ ((n : Int) = 0) := by omega
  generalize fnd t T.q = r at *
  have H := hide h
  have Hv := hide hv
  have Hn := hide hn
  have Hav := hide hav
  have Hl := hide hl
  clear h hn hv hbad e1 e3 e2 hw hl hav
  go_enter Try.func11, Try.ntmps11
  go_upto_region 5 with (first | (go_at_call 24; refine K24.out.mono ?_; rintro e W1 ⟨rfl, hW⟩; have hW' := hW.symm; clear hW; subst hW') | (go_at_call 25; refine K25.out.mono ?_; rintro e W1 ⟨rfl, hW⟩; have hW' := hW.symm; clear hW; subst hW') | (go_at_call 27; refine K27.out.mono ?_; rintro e W ⟨rfl, hb1⟩; have HB1 := hide hb1; clear hb1))
  clear K24 K25 K27
  have h := H.out.keep HB1.out
  have HH := hide h
  have HV1 := hide (Hv.out.keep HB1.out)
  obtain ⟨c0, c1, c2⟩ := h.cells
  have c2' := c2 1
  have hr4 : Hid (clE.Own W B vw cs) := hide h.qs.row
  obtain ⟨SS, hSS⟩ : ∃ SS : World → Prop, SS = fun W' => W'.cell? ⟨g, 1, none⟩ = some vw ∧ W'.frozen? ⟨g, 1, none⟩ = false := ⟨_, rfl⟩
  have s1 : ∀ W', SS W' → W'.cell? ⟨g, 1, none⟩ = some vw := fun W' h => by rw [hSS] at h; exact h.1
  have s2 : ∀ W', SS W' → W'.frozen? ⟨g, 1, none⟩ = false := fun W' h => by rw [hSS] at h; exact h.2
  have FG : Hid (∀ W', W'.heap[g]? = W.heap[g]? → SS W') := hide (fun W' hW => by
    rw [hSS]
    exact ⟨by rw [World.cell?_of_block (w := W) hW]; exact c1, by rw [World.frozen?_of_block (w := W) hW]; exact c2'⟩)
  have hlt := heap_lt h.box
  have FS : Hid (∀ W', Below W.heap.size W W' → SS W') := hide (fun W' hW => FG.out W' (hW.block g hlt))
  clear hSS h c0 c1 c2 c2'
  have bD : Below W.heap.size W W.drew := (Below.refl _ _).drew
  have hS0 := FS.out _ bD
  have K28 := hide (once_any a c n ns W.drew Hn.out (HV1.out.keep bD) Hl.out)
  have hBW : B ≤ W.heap.size := Nat.le_trans HH.out.base (Nat.le_of_lt hlt)
  refine wp_region_E SS 13 (by kernel_rfl) ?_
  refine wpAnyE_take (i := 0) (v := .pointer (some ⟨g, 0, none⟩)) rfl (by kernel_rfl) (by kernel_rfl) (by kernel_rfl) (by kernel_rfl) (fun _ _ _ h => h) (Or.inl ⟨by rfl, fun W' hW => by go_simp⟩) hS0 ?_
  refine wpAnyE_take (i := 1) (v := .pointer (some ⟨g, 0, none⟩)) rfl (by kernel_rfl) (by kernel_rfl) (by kernel_rfl) (by kernel_rfl) (fun _ _ _ h => h) (Or.inl ⟨by rfl, fun W' hW => by go_simp⟩) hS0 ?_
  refine wpAnyE_take (i := 2) (v := .pointer (some ⟨g, 0, none⟩)) rfl (by kernel_rfl) (by kernel_rfl) (by kernel_rfl) (by kernel_rfl) (fun _ _ _ h => h) (Or.inl ⟨by rfl, fun W' hW => by go_simp⟩) hS0 ?_
  refine wpAnyE_take (i := 3) (v := .pointer (some ⟨g, 1, none⟩)) rfl (by kernel_rfl) (by kernel_rfl) (by kernel_rfl) (by kernel_rfl) (fun _ _ _ h => h) (Or.inl ⟨by rfl, fun W' hW => by go_simp⟩) hS0 ?_
  refine wpAnyE_take (i := 4) (v := vw) rfl (by kernel_rfl) (by kernel_rfl) (by kernel_rfl) (by kernel_rfl) (fun _ _ _ h => h) (Or.inl ⟨by rfl, fun W' hW => by have := s1 W' hW; go_simp⟩) hS0 ?_
  refine wpAnyE_take (i := 5) (v := .int .i64 t) rfl (by kernel_rfl) (by kernel_rfl) (by kernel_rfl) (by kernel_rfl) (fun _ _ _ h => h) (Or.inl ⟨by rfl, fun W' hW => by go_simp⟩) hS0 ?_
  refine wpAnyE_take (i := 6) (v := .slice a n c) rfl (by kernel_rfl) (by kernel_rfl) (by kernel_rfl) (by kernel_rfl) (fun _ _ _ h => h) (Or.inl ⟨by rfl, fun W' hW => by go_simp⟩) hS0 ?_
  refine wpAnyE_ready (rs := [7]) (by kernel_rfl) (by simp) ?_
  refine AllReadyE.cons rfl (fun K hK => ?_) AllReadyE.nil
  go_simp
  refine K28.out.mono ?_
  rintro e w1 ⟨⟨v1, rfl, ho1⟩, hb1⟩
  have bW1 : Below W.heap.size W w1 := ⟨hb1.os, hb1.tape, hb1.output, hb1.size, hb1.block⟩
  have ho1' : intE.Own w1 W.heap.size v1 (onc ns) := ho1
  clear ho1 hb1 K28
  obtain ⟨a1, cc1, rfl⟩ := ho1'.rd.form
  generalize (onc ns).length = m1 at *
  refine hK.out _ _ (fun _ => FS.out _ bW1) ?_
  clear hK K
  refine wpAnyE_ready (rs := [8]) (by kernel_rfl) (by simp) ?_
  refine AllReadyE.cons rfl (fun K hK => ?_) AllReadyE.nil
  go_simp
  refine hK.out _ _ (fun _ => FS.out _ bW1) ?_
  clear hK K
  refine wpAnyE_ready (rs := [9]) (by kernel_rfl) (by simp) ?_
  refine AllReadyE.cons rfl (fun K hK => ?_) AllReadyE.nil
  go_simp
  have bX := bW1.alloc bW1.size (.cells #[.int .i64 t, .slice a1 m1 cc1] 67)
  refine hK.out _ _ (fun _ => FS.out _ bX) ?_
  clear hK K
  refine wpAnyE_ready (rs := [10]) (by kernel_rfl) (by simp) ?_
  refine AllReadyE.cons rfl (fun K hK => ?_) AllReadyE.nil
  obtain ⟨p, hp⟩ : ∃ p : Cv, p = ⟨t, a1, m1, cc1⟩ := ⟨_, rfl⟩
  have hpn := cl_new w1 p w1.heap.size rfl
  have hrow : clE.Own (w1.alloc (.cells #[.int .i64 t, .slice a1 m1 cc1] 67)) B vw cs := hr4.out.keep bX
  have hpd : intE.Own w1 W.heap.size p.v (onc ns) := by rw [hp]; exact ho1'
  have hpt : p.tote = t := by rw [hp]
  rw [hp] at hpn
  refine clE.stepB (B := B) (Nat.le_trans hBW bX.size) rfl (.tmp 30) (.tmp 35) rfl vw (.slice (some ⟨w1.heap.size, 0, none⟩) 1 1) rfl rfl cs [_] hrow hpn (by have := Hq.out; have := HH.out.qs.len; simp; omega) ?_
  intro v8 w8 ho8 hg8 hz8
  have hne : vw.ownBlock ≠ some g := zown_ne HH.out.qs.row HH.out.box (by decide)
  have hb8 : w8.heap[g]? = W.heap[g]? := by
    rw [hg8.block g (Nat.lt_of_lt_of_le hlt bX.size) (fun e => hne e.symm)]
    exact bX.block g hlt
  rw [← hp] at ho8
  obtain ⟨q1, q2, q3, q4⟩ := HH.out.app bW1 (fun k hk => Nat.lt_of_lt_of_le (Hav.out k hk) HB1.out.size) hpd ho8 hg8
  rw [hpt] at q1
  have HT9 := hide q1
  have HF9 := hide q2
  refine hK.out _ _ (fun _ => FG.out _ hb8) ?_
  clear hK K q1 q2 q3 q4
  refine wpAnyE_ready (rs := [11]) (by kernel_rfl) (by simp) ?_
  refine AllReadyE.cons rfl (fun K hK => ?_) AllReadyE.nil
  go_simp
  refine hK.out _ _ (fun _ => FG.out _ hb8) ?_
  clear hK K
  refine wpAnyE_ready (rs := [12]) (by kernel_rfl) (by simp) ?_
  refine AllReadyE.cons rfl (fun K hK => ?_) AllReadyE.nil
  go_simp
  refine hK.out _ _ (fun _ => FG.out _ hb8) ?_
  clear hK K
  refine wpAnyE_ready (rs := [13]) (by kernel_rfl) (by simp) ?_
  refine AllReadyE.cons rfl (fun K hK => ?_) AllReadyE.nil
  have x1 := s1 _ (FG.out _ hb8)
  have x2 := s2 _ (FG.out _ hb8)
  obtain ⟨a8, c8, rfl⟩ := ho8.rd.form
  generalize (cs ++ [p]).length = n8 at *
  go_simp
  refine hK.out _ _ (fun h => absurd rfl h) ?_
  clear hK K
  refine wpAnyE_done (by kernel_rfl) ?_ _
  clear hS0 ho8 hg8 hz8 hpd hpn hrow ho1' bX bW1 bD FS FG s1 s2 hb8 x1 x2
  have K29 := hide (grants_any ⟨_, _, HT9.out⟩ HW.out (HT9.out.hold.lt gh rfl) (heap_lt HT9.out.box))
  generalize w8.setCell ⟨g, 1, none⟩ (.slice a8 n8 c8) = W9 at *
  go_wp2_with (go_at_call 29; refine K29.out.mono ?_; rintro e W10 ⟨v10, rfl, T', l, ho10, hgr, htb, hfr⟩; obtain ⟨a10, c10, rfl⟩ := ho10.rd.form; have HG := hide hgr; have HT := hide htb; have HF := hide (((Fr.of_below HB1.out).trans HF9.out).trans hfr); clear ho10 hgr htb hfr)
  go_ret2
  refine ⟨l, ?_, T', HG.out, HT.out, HF.out⟩
  simp
end Go.Proofs.Ytbibegendejnlaa
