/- The document's Put. -/
import Derived.Test.YtbibegendejnlaaCdr
import Derived.BigRegion
namespace Go.Proofs.Ytbibegendejnlaa
open Go.RowKit
set_option linter.unusedVariables false
variable {pp : Nat → Nat → Prop}

theorem rc_new (w : World) (x : Cv) (k : Nat) (hk : k = w.heap.size) : rcE.Rd (w.alloc (.cells #[.int .i64 x.tote, .slice x.a x.l x.c] 71)) (.slice (some ⟨k, 0, none⟩) 1 1) [x] :=
  (El.Own.new rcE w w.heap.size (Nat.le_refl _) _ [x] rfl (by simp) _ _ _ hk rfl rfl).rd
theorem crd_add {w : World} {cs : List Cv} {q : List Cl} {x : Cv} {p : Cl} (h3 : Crd pp w cs q) (hx : x.tote = p.tote) (hr : intE.Rd w x.v p.nodes) (hbk : blk (pp 1) x.a) : Crd pp w (cs ++ [x]) (q ++ [p]) := by
  refine ⟨by rw [List.length_append, List.length_append, h3.1]; rfl, fun i y r hy hr' => ?_⟩
  rcases Nat.lt_or_ge i q.length with hi | hi
  · rw [List.getElem?_append_left (by rw [h3.1]; exact hi)] at hy
    rw [List.getElem?_append_left hi] at hr'
    exact h3.2 i y r hy hr'
  · rw [List.getElem?_append_right (by rw [h3.1]; exact hi), h3.1] at hy
    rw [List.getElem?_append_right hi] at hr'
    obtain ⟨j, hj⟩ : ∃ j, i - q.length = j := ⟨_, rfl⟩
    rw [hj] at hy hr'
    cases j with
    | succ j => simp at hy
    | zero =>
      simp only [List.getElem?_cons_zero, Option.some.injEq] at hy hr'
      subst hy
      subst hr'
      exact ⟨hx, hr, hbk⟩
theorem Wf.add' {T : Tb} (h : Wf T) {t : Int} {ns : List Int} (ht : toteB t = true) (hne : ns ≠ []) (hin : ns.all (inB T.hold.length) = true) (hl : ns.length ≤ 100000) (hf : fnd t T.q < 0) : Wf ⟨T.hold, T.q ++ [⟨t, ns⟩]⟩ := by
  have h1 := Wf.add h ht hne hin hl hf
  refine ⟨h1.len, h1.hold, fun c hc => ?_, fun c hc => ?_, ?_⟩
  · rcases List.mem_append.1 hc with hc | hc
    · exact h.tote c hc
    · obtain rfl : c = ⟨t, ns⟩ := by simpa using hc
      exact of_decide_eq_true ht
  · rcases List.mem_append.1 hc with hc | hc
    · exact h.nodes c hc
    · obtain rfl : c = ⟨t, ns⟩ := by simpa using hc
      exact ⟨fun n hn => of_decide_eq_true (List.all_eq_true.1 hin n hn), hne, hl⟩
  · have := h1.once
    simp only [List.map_append, List.map_cons, List.map_nil] at this ⊢
    exact this
theorem out_bad {N : Nat} {t : Int} {ns : List Int} (h : badC N t ns = true) : outB N t ns = true ∨ (outB N t ns = false ∧ ns = []) := by
  cases ho : outB N t ns with
  | true => exact .inl rfl
  | false =>
    refine .inr ⟨rfl, ?_⟩
    unfold outB at ho
    unfold badC at h
    rw [Bool.or_eq_false_iff] at ho
    rw [ho.1, ho.2] at h
    simpa using h
theorem out_ok {N : Nat} {t : Int} {ns : List Int} (h : badC N t ns = false) : outB N t ns = false := by
  obtain ⟨h1, h2, h3⟩ := badC_no h
  unfold outB
  rw [h1, h3]; rfl

set_option maxRecDepth 100000 in
set_option maxHeartbeats 4000000 in
theorem rput_bad (aH aQ : Option Addr) (cH cQ N M : Nat) (U : Tb) (t : Int) (a : Option Addr) (c n : Nat) (ns : List Int) (w0 : World) (hT : DT pp w0 aH cH aQ cQ U) (hN : U.hold.length = N) (hM : U.q.length = M) (hc : M ≤ cQ) (hp : ∀ k, w0.heap.size ≤ k → pp 0 k) (hn : ns.length = n) (hv : intE.Rd w0 (.slice a n c) ns) (hl : n ≤ 100000) (hbad : badC N t ns = true) :
    Calls Try.prog 12 #[.agg #[.slice aH N cH, .slice aQ M cQ], .int .i64 t, .slice a n c] w0 fun e w' => (∃ aH' cH' aQ' cQ' M', e = .returned (.tuple #[.agg #[.slice aH' N cH', .slice aQ' M' cQ'], .bool false, .int .i64 1]) ∧ DR pp w0 w' aH' cH' aQ' cQ' N M' U) ∧ Below w0.heap.size w0 w' := by
  rcases out_bad hbad with ho | ⟨ho, he⟩
  · obtain ⟨W1, hW1⟩ : ∃ W1, W1 = (w0.alloc (.cells #[.slice aH N cH, .slice aQ M cQ] 31)).alloc (.cells #[.slice none 0 0, .slice none 0 0] 31) := ⟨_, rfl⟩
    have HD := hide (DB.start hT hN hM hc hp hW1)
    have HW1 := hide hW1
    have HN := hide hN
    have HM := hide hM
    obtain ⟨h0, hh0⟩ : ∃ h0, w0.heap.size = h0 := ⟨_, rfl⟩
    rw [hh0] at HD
    have K30 := hide (outside_any aH aQ a cH cQ c N M n t ns W1 hn (hv.keep HD.out.bel) hl)
    rw [ho] at K30
    clear hbad ho hn hv hl
    obtain ⟨⟨p0, p1⟩, ⟨p2, p3⟩, ⟨p4, p5⟩, ⟨p6, p7⟩⟩ := HD.out.cells
    clear hT hN hM hc hp hW1
    go_enter Try.func12, Try.ntmps12
    go_upto_region 1 with fail
    rw [← HW1.out]
    try rw [hh0]
    clear HW1 hh0
    go_wp2_with (go_at_call 30; refine K30.out.mono ?_; rintro e W4 ⟨rfl, hb4⟩; have HD4 := hide (HD.out.keep hb4); obtain ⟨⟨p0, p1⟩, ⟨p2, p3⟩, ⟨p4, p5⟩, ⟨p6, p7⟩⟩ := HD4.out.cells; clear hb4)
    refine bodyPost_ret (v := .tuple #[.agg #[.slice aH N cH, .slice aQ M cQ], .bool false, .int .i64 1]) (by simp [results, Try.results12, go_sem, p4, p6]) rfl ⟨⟨aH, cH, aQ, cQ, M, rfl, HD4.out.done.1⟩, HD4.out.done.2⟩
  · subst he
    obtain rfl : n = 0 := by simpa using hn.symm
    obtain ⟨W1, hW1⟩ : ∃ W1, W1 = (w0.alloc (.cells #[.slice aH N cH, .slice aQ M cQ] 31)).alloc (.cells #[.slice none 0 0, .slice none 0 0] 31) := ⟨_, rfl⟩
    have HD := hide (DB.start hT hN hM hc hp hW1)
    have HW1 := hide hW1
    have HN := hide hN
    have HM := hide hM
    obtain ⟨h0, hh0⟩ : ∃ h0, w0.heap.size = h0 := ⟨_, rfl⟩
    rw [hh0] at HD
    have K30 := hide (outside_any aH aQ a cH cQ c N M 0 t [] W1 hn (hv.keep HD.out.bel) hl)
    rw [ho] at K30
    clear hbad ho hn hv hl
    obtain ⟨⟨p0, p1⟩, ⟨p2, p3⟩, ⟨p4, p5⟩, ⟨p6, p7⟩⟩ := HD.out.cells
    clear hT hN hM hc hp hW1
    go_enter Try.func12, Try.ntmps12
    go_upto_region 1 with fail
    rw [← HW1.out]
    try rw [hh0]
    clear HW1 hh0
    go_wp2_with (go_at_call 30; refine K30.out.mono ?_; rintro e W4 ⟨rfl, hb4⟩; have HD4 := hide (HD.out.keep hb4); obtain ⟨⟨p0, p1⟩, ⟨p2, p3⟩, ⟨p4, p5⟩, ⟨p6, p7⟩⟩ := HD4.out.cells; clear hb4)
    refine bodyPost_ret (v := .tuple #[.agg #[.slice aH N cH, .slice aQ M cQ], .bool false, .int .i64 1]) (by simp [results, Try.results12, go_sem, p4, p6]) rfl ⟨⟨aH, cH, aQ, cQ, M, rfl, HD4.out.done.1⟩, HD4.out.done.2⟩

set_option maxRecDepth 100000 in
set_option maxHeartbeats 4000000 in
theorem rput_twice (aH aQ : Option Addr) (cH cQ N M : Nat) (U : Tb) (t : Int) (a : Option Addr) (c n : Nat) (ns : List Int) (w0 : World) (hT : DT pp w0 aH cH aQ cQ U) (hN : U.hold.length = N) (hM : U.q.length = M) (hc : M ≤ cQ) (hp : ∀ k, w0.heap.size ≤ k → pp 0 k) (hn : ns.length = n) (hv : intE.Rd w0 (.slice a n c) ns) (hl : n ≤ 100000) (hbad : badC N t ns = false) (hf : 0 ≤ fnd t U.q) (hw : Wf U) :
    Calls Try.prog 12 #[.agg #[.slice aH N cH, .slice aQ M cQ], .int .i64 t, .slice a n c] w0 fun e w' => (∃ aH' cH' aQ' cQ' M', e = .returned (.tuple #[.agg #[.slice aH' N cH', .slice aQ' M' cQ'], .bool false, .int .i64 2]) ∧ DR pp w0 w' aH' cH' aQ' cQ' N M' U) ∧ Below w0.heap.size w0 w' := by
  have e2 := (badC_no hbad).2.1
  rw [hn] at e2
  have q0 : ((n : Int) == 0) = false := beq_eq_false_iff_ne.2 (by omega)
  have q00 : ¬ ((n : Int) = 0) := by omega
  obtain ⟨r, hr⟩ : ∃ r, fnd t U.q = r := ⟨_, rfl⟩
  have HF := hide hr
  have HM3 : Hid (M ≤ 1000) := hide (by have := hw.qlen; omega)
  rw [hr] at hf
  obtain ⟨W1, hW1⟩ : ∃ W1, W1 = (w0.alloc (.cells #[.slice aH N cH, .slice aQ M cQ] 31)).alloc (.cells #[.slice none 0 0, .slice none 0 0] 31) := ⟨_, rfl⟩
  have HD := hide (DB.start hT hN hM hc hp hW1)
  have HW1 := hide hW1
  have HN := hide hN
  have HM := hide hM
  obtain ⟨h0, hh0⟩ : ∃ h0, w0.heap.size = h0 := ⟨_, rfl⟩
  rw [hh0] at HD
  have K30 := hide (outside_any aH aQ a cH cQ c N M n t ns W1 hn (hv.keep HD.out.bel) hl)
  rw [out_ok hbad] at K30
  clear hbad hn hv hl e2 hr hw
  obtain ⟨⟨p0, p1⟩, ⟨p2, p3⟩, ⟨p4, p5⟩, ⟨p6, p7⟩⟩ := HD.out.cells
  clear hT hN hM hc hp hW1
  go_enter Try.func12, Try.ntmps12
  go_upto_region 1 with fail
  rw [← HW1.out]
  try rw [hh0]
  clear HW1 hh0
  go_upto_region 3 with (go_at_call 30; refine K30.out.mono ?_; rintro e W4 ⟨rfl, hb4⟩; have HD4 := hide (HD.out.keep hb4); obtain ⟨⟨p0, p1⟩, ⟨p2, p3⟩, ⟨p4, p5⟩, ⟨p6, p7⟩⟩ := HD4.out.cells; clear hb4)
  have K31 := hide (rfind_any aH aQ cH cQ U t W4 HD4.out.dt (by rw [HM.out]; exact HM3.out))
  rw [HN.out, HM.out, HF.out] at K31
  go_wp2_with (go_at_call 31; refine K31.out.mono ?_; rintro e W5 ⟨rfl, hb5⟩; have HD5 := hide (HD4.out.keep hb5); clear p0 p1 p2 p3 p4 p5 p6 p7; obtain ⟨⟨p0, p1⟩, ⟨p2, p3⟩, ⟨p4, p5⟩, ⟨p6, p7⟩⟩ := HD5.out.cells; clear hb5)
  refine bodyPost_ret (v := .tuple #[.agg #[.slice aH N cH, .slice aQ M cQ], .bool false, .int .i64 2]) (by simp [results, Try.results12, go_sem, p4, p6]) rfl ⟨⟨aH, cH, aQ, cQ, M, rfl, HD5.out.done.1⟩, HD5.out.done.2⟩

set_option maxRecDepth 100000 in
set_option maxHeartbeats 4000000 in
theorem rput_ok (aH aQ : Option Addr) (cH cQ N M : Nat) (U : Tb) (t : Int) (a : Option Addr) (c n : Nat) (ns : List Int) (w0 : World) (hT : DT pp w0 aH cH aQ cQ U) (hN : U.hold.length = N) (hM : U.q.length = M) (hc : M ≤ cQ) (hp : ∀ k, w0.heap.size ≤ k → pp 0 k) (hn : ns.length = n) (hv : intE.Rd w0 (.slice a n c) ns) (hl : n ≤ 100000) (hbad : badC N t ns = false) (hf : fnd t U.q < 0) (hw : Wf U) (hN1 : 1 ≤ N) (hbk : blk (pp 1) a) :
    Calls Try.prog 12 #[.agg #[.slice aH N cH, .slice aQ M cQ], .int .i64 t, .slice a n c] w0 fun e w' => (∃ aH' cH' aQ' cQ' M' l, e = .returned (.tuple #[.agg #[.slice aH' N cH', .slice aQ' M' cQ'], .bool (decide (0 < List.length l)), .int .i64 0]) ∧ ∃ U', Gr ⟨U.hold, U.q ++ [⟨t, ns⟩]⟩ U' l ∧ DR pp w0 w' aH' cH' aQ' cQ' N M' U') ∧ Below w0.heap.size w0 w' := by
  have e2 := (badC_no hbad).2.1
  rw [hn] at e2
  have q0 : ((n : Int) == 0) = false := beq_eq_false_iff_ne.2 (by omega)
  have q00 : ¬ ((n : Int) = 0) := by omega
  obtain ⟨r, hr⟩ : ∃ r, fnd t U.q = r := ⟨_, rfl⟩
  have HF := hide hr
  have HM3 : Hid (M ≤ 1000) := hide (by have := hw.qlen; omega)
  obtain ⟨f1, f2, f3⟩ := badC_no hbad
  have HWF := hide (Wf.add' (T := U) (t := t) (ns := ns) hw f1 (fun e => f2 (by rw [e]; rfl)) (by rw [hN]; exact f3) (by rw [hn]; exact hl) hf)
  have HN1 := hide hN1
  have Hbk := hide hbk
  have Hv := hide hv
  have Hn := hide hn
  have HM30 : Hid (M ≤ 30) := hide (by have := hw.qlen; omega)
  rw [hr] at hf
  obtain ⟨W1, hW1⟩ : ∃ W1, W1 = (w0.alloc (.cells #[.slice aH N cH, .slice aQ M cQ] 31)).alloc (.cells #[.slice none 0 0, .slice none 0 0] 31) := ⟨_, rfl⟩
  have HD := hide (DB.start hT hN hM hc hp hW1)
  have HW1 := hide hW1
  have HN := hide hN
  have HM := hide hM
  obtain ⟨h0, hh0⟩ : ∃ h0, w0.heap.size = h0 := ⟨_, rfl⟩
  rw [hh0] at HD
  have K30 := hide (outside_any aH aQ a cH cQ c N M n t ns W1 hn (hv.keep HD.out.bel) hl)
  rw [out_ok hbad] at K30
  clear hbad hn hv hl e2 hr hw hN1 hbk f1 f2 f3
  obtain ⟨⟨p0, p1⟩, ⟨p2, p3⟩, ⟨p4, p5⟩, ⟨p6, p7⟩⟩ := HD.out.cells
  clear hT hN hM hc hp hW1
  go_enter Try.func12, Try.ntmps12
  go_upto_region 1 with fail
  rw [← HW1.out]
  try rw [hh0]
  clear HW1 hh0
  go_upto_region 3 with (go_at_call 30; refine K30.out.mono ?_; rintro e W4 ⟨rfl, hb4⟩; have HD4 := hide (HD.out.keep hb4); obtain ⟨⟨p0, p1⟩, ⟨p2, p3⟩, ⟨p4, p5⟩, ⟨p6, p7⟩⟩ := HD4.out.cells; clear hb4)
  have K31 := hide (rfind_any aH aQ cH cQ U t W4 HD4.out.dt (by rw [HM.out]; exact HM3.out))
  rw [HN.out, HM.out, HF.out] at K31
  go_upto_region 5 with (go_at_call 31; refine K31.out.mono ?_; rintro e W5 ⟨rfl, hb5⟩; have HD5 := hide (HD4.out.keep hb5); clear p0 p1 p2 p3 p4 p5 p6 p7; obtain ⟨⟨p0, p1⟩, ⟨p2, p3⟩, ⟨p4, p5⟩, ⟨p6, p7⟩⟩ := HD5.out.cells; clear hb5)
  clear K30 K31 HD HD4
  obtain ⟨cs, hq, hel⟩ := HD5.out.dt.q
  rw [HM.out] at hq
  have Hba5 : Hid (Below W5.heap.size W5 (W5.alloc (.cells #[] 71))) := hide ((Below.refl _ _).alloc (Nat.le_refl _) _)
  have HX : Hid (rcE.Rd (W5.alloc (.cells #[] 71)) (.slice aQ M cQ) cs ∧ rcE.Own (W5.alloc (.cells #[] 71)) W5.heap.size (.slice (some ⟨W5.heap.size, 0, none⟩) 0 0) [] ∧ cs.length ≤ 30) := hide ⟨hq.keep Hba5.out, El.Own.new rcE _ _ (Nat.le_refl _) #[] [] rfl (by simp) _ _ _ rfl rfl rfl, by rw [hel.1, HM.out]; exact HM30.out⟩
  have c16 : (W5.alloc (.cells #[] 71)).cell? ⟨h0, 1, none⟩ = some (.slice aQ M cQ) := (HD5.out.keep Hba5.out).cells.2.1.1
  have H1 : Hid (∀ (w5 : World) (r : Option Nat), (W5.alloc (.cells #[] 71)).grownBy w5 r → (∀ k, r = some k → W5.heap.size ≤ k) → Below W5.heap.size W5 w5) := hide (fun w5 r hg hr => Hba5.out.grown hg Hba5.out.size hr)
  have H2 : Hid (∀ (w5 w8 : World) (v8 : Value) (r : Option Nat) (o : Obj), Below W5.heap.size W5 w5 → (w5.alloc o).grownBy w8 r → (∀ k, r = some k → W5.heap.size ≤ k) → rcE.Own w8 W5.heap.size v8 (cs ++ [⟨t, a, n, c⟩]) → ∃ a8 c8, v8 = .slice a8 (M + 1) c8 ∧ DB pp w0 (w8.setCell ⟨h0, 1, none⟩ (.slice a8 (M + 1) c8)) h0 aH cH a8 c8 N (M + 1) ⟨U.hold, U.q ++ [⟨t, ns⟩]⟩ ∧ w8.cell? ⟨h0, 1, none⟩ = some (.slice aQ M cQ) ∧ w8.frozen? ⟨h0, 1, none⟩ = false) := hide (fun w5 w8 v8 r o hb hg hr ho => by
    have b6 := hb.alloc hb.size o
    have b8 : Below W5.heap.size W5 w8 := b6.grown hg b6.size hr
    obtain ⟨a8, c8, hv8⟩ := ho.rd.form
    rw [List.length_append, hel.1, HM.out] at hv8
    subst hv8
    have hk := (HD5.out.keep b8).cells.2.1
    exact ⟨a8, c8, rfl, HD5.out.putQ b8 ho (crd_add (hel.keep b8) rfl ((Hv.out.keep HD5.out.bel).keep b8) Hbk.out) (by rw [List.length_append, HM.out]; rfl), hk.1, hk.2⟩)
  have Hown : Hid (∀ k, (Value.slice (some ⟨W5.heap.size, 0, none⟩) 0 0).ownBlock = some k → W5.heap.size ≤ k) := hide (fun k hk => by simp [Value.ownBlock] at hk; omega)
  clear hq hel
  go_upto_region 6 with (first | (at_builtin; refine rcE.wpB (B := W5.heap.size) Hba5.out.size (by rfl) _ _ rfl _ _ rfl rfl [] cs HX.out.2.1 HX.out.1 (by have := HX.out.2.2; simp; omega) ?_; intro v5 w5 ho5 hg5 _; have HB5 := hide (H1.out _ _ hg5 Hown.out); rw [List.nil_append] at ho5; have HO5 := hide ho5; clear ho5 hg5) | (at_builtin; refine rcE.wpB (B := W5.heap.size) (Nat.le_trans HB5.out.size ((Below.refl _ _).alloc (Nat.le_refl _) _).size) (by rfl) _ _ rfl _ _ rfl rfl cs [⟨t, a, n, c⟩] (HO5.out.keep ((Below.refl _ _).alloc (Nat.le_refl _) _)) (rc_new _ ⟨t, a, n, c⟩ _ rfl) (by have := HX.out.2.2; simp; omega) ?_; intro v8 w8 ho8 hg8 _; obtain ⟨a8, c8, rfl, hd7, x0, x1⟩ := H2.out _ _ _ _ _ HB5.out hg8 (fun k hk => HO5.out.ge k hk) ho8; have HD7 := hide hd7; clear ho8 hg8 hd7))
  clear Hown H1 H2 HX c16 HD5
  obtain ⟨W7, hW7⟩ : ∃ W7, W7 = w8.setCell ⟨h0, 1, none⟩ (.slice a8 (M + 1) c8) := ⟨_, rfl⟩
  rw [← hW7] at HD7 ⊢
  clear hW7
  generalize M + 1 = M7 at *
  have K32 := hide (rgrants_any aH a8 cH c8 ⟨U.hold, U.q ++ [⟨t, ns⟩]⟩ W7 HD7.out.dt HWF.out (by rw [HD7.out.hn]; exact HN1.out) (by rw [HD7.out.hm]; exact HD7.out.cap) HD7.out.hpw)
  rw [HD7.out.hn, HD7.out.hm] at K32
  clear p0 p1 p2 p3 p4 p5 p6 p7
  obtain ⟨⟨p0, p1⟩, ⟨p2, p3⟩, ⟨p4, p5⟩, ⟨p6, p7⟩⟩ := HD7.out.cells
  go_upto_region 7 with (go_at_call 32; refine K32.out.mono ?_; rintro e W8 ⟨⟨aH', cH', aQ', nQ', cQ', v, rfl, hg⟩, hb8⟩; obtain ⟨⟨p0, p1⟩, ⟨p2, p3⟩, ⟨p4, p5⟩, ⟨p6, p7⟩⟩ := (HD7.out.keep hb8).cells; obtain ⟨U', l, g1, g2, g3⟩ := HD7.out.grants hb8 hg; have HGR := hide g1; have HD9 := hide g2; have HO9 := hide g3; clear g1 g2 g3 hb8 hg)
  clear K32
  obtain ⟨W9, hW9⟩ : ∃ W9, W9 = ((W8.setCell ⟨h0, 0, none⟩ (.slice aH' N cH')).setCell ⟨h0, 1, none⟩ (.slice aQ' nQ' cQ')) := ⟨_, rfl⟩
  rw [← hW9] at HD9 HO9 ⊢
  clear hW9
  clear p0 p1 p2 p3 p4 p5 p6 p7
  obtain ⟨⟨p0, p1⟩, ⟨p2, p3⟩, ⟨p4, p5⟩, ⟨p6, p7⟩⟩ := HD9.out.cells
  obtain ⟨av, cv, rfl⟩ := HO9.out.rd.form
  go_wp2_with fail
  refine bodyPost_ret (v := .tuple #[.agg #[.slice aH' N cH', .slice aQ' nQ' cQ'], .bool (decide (0 < l.length)), .int .i64 0]) (by simp [results, Try.results12, go_sem, p4, p6]) rfl ⟨⟨aH', cH', aQ', cQ', nQ', l, rfl, U', HGR.out, HD9.out.done.1⟩, HD9.out.done.2⟩
end Go.Proofs.Ytbibegendejnlaa
