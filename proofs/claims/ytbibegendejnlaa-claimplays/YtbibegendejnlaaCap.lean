/- ClaimApart: the walk. -/
import Derived.Test.YtbibegendejnlaaCaw
import Derived.Test.YtbibegendejnlaaCag
namespace Go.Proofs.Ytbibegendejnlaa
open Go.RowKit
set_option linter.unusedVariables false

theorem fnd_neg {t : Int} {q : List Cl} (h : ∀ c ∈ q, c.tote ≠ t) : fnd t q < 0 := by
  unfold fnd
  rw [ix_none (fun j d _ hd => decide_eq_false (h d (List.mem_of_getElem? hd)))]
  decide
theorem fnd_not {t : Int} {q : List Cl} (h : fnd t q < 0) : ∀ c ∈ q, c.tote ≠ t := fun c hc e => by
  rcases ix_cases (fun d => decide (d.tote = t)) q with ⟨i, d, _, _, _, e'⟩ | ⟨h', _⟩
  · unfold fnd at h; omega
  · have := h' c hc; simp [e] at this
theorem badC_yes {N : Nat} {t : Int} {ns : List Int} (h1 : 1 ≤ t ∧ t ≤ 30) (h2 : ns ≠ []) (h3 : ∀ n ∈ ns, 0 ≤ n ∧ n < (N : Int)) : badC N t ns = false := by
  unfold badC
  rw [Bool.or_eq_false_iff, Bool.or_eq_false_iff]
  refine ⟨⟨?_, decide_eq_false (fun h => h2 (List.eq_nil_of_length_eq_zero h))⟩, ?_⟩
  · rw [show toteB t = true from decide_eq_true h1]; rfl
  · rw [show ns.all (inB N) = true from List.all_eq_true.2 (fun n hn => decide_eq_true (h3 n hn))]; rfl

/-- a claim of nodes in new memory -/
theorem claim_row {W : World} {B g gh : Nat} {T : Tb} (hT : Tbl W B g gh no T) (hw : Wf T) (t : Int) (ns : List Int) (n : Nat) (hn : ns.length = n) (C : Array Value) (hC : C.toList = ns.map (Value.int .i64)) (hl : n ≤ 100000) (hbad : badC T.hold.length t ns = false) (hf : fnd t T.q < 0) :
    Calls Try.prog 11 #[.pointer (some ⟨g, 0, none⟩), .int .i64 t, .slice (some ⟨W.heap.size, 0, none⟩) n n] (W.alloc (.cells C 3)) fun e w' => ∃ l : List Int, e = .returned (.tuple #[.bool (decide (0 < l.length)), .int .i64 0]) ∧ ∃ T', Gr ⟨T.hold, T.q ++ [⟨t, onc ns⟩]⟩ T' l ∧ Wf T' ∧ Tbl w' B g gh no T' ∧ Fr B g gh W w' := by
  have hb : Below W.heap.size W (W.alloc (.cells C 3)) := (Below.refl _ _).alloc (Nat.le_refl _) _
  have ho := row_new W ns C hC (by omega) _ n n rfl hn.symm hn.symm
  refine (claim_ok (hT.keep hb) hw (fun k hk => hk.elim) t _ _ n ns hn ho.rd hl hbad hf).mono ?_
  rintro e w' ⟨l, rfl, T', hG, hT', hF⟩
  have hwf := hG.wf (Wf.add hw (badC_no hbad).1 (fun e => (badC_no hbad).2.1 (by rw [e]; rfl)) (badC_no hbad).2.2 (by rw [hn]; exact hl) hf)
  exact ⟨l, rfl, T', hG, hwf, hT', (Fr.of_below hb).trans hF⟩

theorem mayC_false {h : List Int} {pre : List Cl} {c : Cl} {n : Int} (hn : n ∈ c.nodes) (hb : barB h pre c.tote n = true) : mayC h pre c = false := by
  unfold mayC
  rw [List.all_eq_false]
  exact ⟨n, hn, by rw [hb]; simp⟩
theorem mayC_true {h : List Int} {pre : List Cl} {c : Cl} (hb : ∀ n ∈ c.nodes, (hat h n = 0 ∨ hat h n = c.tote) ∧ ∀ d ∈ pre, n ∉ d.nodes) : mayC h pre c = true := by
  unfold mayC
  rw [List.all_eq_true]
  intro n hn
  obtain ⟨h1, h2⟩ := hb n hn
  have e1 : heldB h c.tote n = false := by
    unfold heldB
    refine decide_eq_false fun e => ?_
    rcases h1 with h1 | h1
    · exact e.1 h1
    · exact e.2 h1
  have e2 : wantB pre n = false := by
    unfold wantB
    rw [List.any_eq_false]
    intro d hd
    simp [h2 d hd]
  unfold barB
  rw [e1, e2]; rfl

/-- where the law stands -/
structure AP (N i j : Nat) (T : Tb) : Prop where
  wf : Wf T
  set : Set' T
  len : T.hold.length = 2 * N
  h0 : hat T.hold 0 = 30
  only : ∀ k, hat T.hold k = 30 → k = 0
  free : ∀ m : Nat, j ≤ m → hat T.hold ((N : Int) + m) = 0
  q : ∀ c ∈ T.q, c.tote ≤ (i : Int) ∧ ∀ m ∈ c.nodes, m ≤ (i : Int)
  ql : T.q.length = i
theorem AP.one {N i : Nat} {T T' : Tb} {l : List Int} (h : AP N i i T) (hi : i < 10) (hw : Wf T') (hG : Gr ⟨T.hold, T.q ++ [⟨(i : Int) + 1, onc [0, 1 + (i : Int)]⟩]⟩ T' l) (hwa : Wf ⟨T.hold, T.q ++ [⟨(i : Int) + 1, onc [0, 1 + (i : Int)]⟩]⟩) : l = [] ∧ AP N (i + 1) i T' := by
  rcases gr_add h.set hwa hG with ⟨hm, _, _⟩ | ⟨_, e1, e2⟩
  · have : mayC T.hold T.q ⟨(i : Int) + 1, onc [0, 1 + (i : Int)]⟩ = false := mayC_false (n := 0) ((onc_mem _ _).2 (by simp)) (by
      unfold barB
      rw [show heldB T.hold ((i : Int) + 1) 0 = true from heldB_true.2 ⟨by rw [h.h0]; decide, by rw [h.h0]; omega⟩]; rfl)
    rw [this] at hm; cases hm
  · refine ⟨e1, ?_⟩
    subst e2
    refine ⟨hw, hG.settled, h.len, h.h0, h.only, h.free, fun c hc => ?_, by simp [h.ql]⟩
    rcases List.mem_append.1 hc with hc | hc
    · obtain ⟨h1, h2⟩ := h.q c hc
      exact ⟨by omega, fun m hm => by have := h2 m hm; omega⟩
    · simp at hc
      subst hc
      refine ⟨by simp, fun m hm => ?_⟩
      have := (onc_mem _ _).1 hm
      simp at this
      omega
theorem AP.two {N i : Nat} {T T' : Tb} {l : List Int} (h : AP N (i + 1) i T) (hi : i < 10) (hN : i + 1 < N) (hw : Wf T') (hG : Gr ⟨T.hold, T.q ++ [⟨(i : Int) + 11, onc [(N : Int) + (i : Int)]⟩]⟩ T' l) (hwa : Wf ⟨T.hold, T.q ++ [⟨(i : Int) + 11, onc [(N : Int) + (i : Int)]⟩]⟩) : l.length = 1 ∧ AP N (i + 1) (i + 1) T' := by
  have hmem : ∀ m, m ∈ onc [(N : Int) + (i : Int)] ↔ m = (N : Int) + (i : Int) := fun m => by rw [onc_mem]; simp
  rcases gr_add h.set hwa hG with ⟨_, e1, e2⟩ | ⟨hm, _, _⟩
  · refine ⟨by rw [e1]; rfl, ?_⟩
    subst e2
    have hr : inT T.hold.length (onc [(N : Int) + (i : Int)]) := fun m hm => by rw [(hmem m).1 hm, h.len]; omega
    refine ⟨hw, hG.settled, by show (setL _ _ _).length = _; rw [setL_len, h.len], ?_, fun k hk => ?_, fun m hm => ?_, h.q, h.ql⟩
    · show hat (setL _ _ _) 0 = 30
      rw [hat_setL _ _ _ hr, if_neg (fun e => by have := (hmem _).1 e; omega)]; exact h.h0
    · have hk' : hat (setL T.hold ((i : Int) + 11) (onc [(N : Int) + (i : Int)])) k = 30 := hk
      rw [hat_setL _ _ _ hr] at hk'
      split at hk'
      · omega
      · exact h.only k hk'
    · show hat (setL _ _ _) _ = 0
      rw [hat_setL _ _ _ hr, if_neg (fun e => by have := (hmem _).1 e; omega)]
      exact h.free m (by omega)
  · have : mayC T.hold T.q ⟨(i : Int) + 11, onc [(N : Int) + (i : Int)]⟩ = true := mayC_true fun n hn => by
      rw [(hmem n).1 hn]
      exact ⟨.inl (h.free i (Nat.le_refl _)), fun d hd hm => by have := (h.q d hd).2 _ hm; omega⟩
    rw [this] at hm; cases hm
theorem AP.held {N i j : Nat} {T : Tb} (h : AP N i j T) (hN : 1 ≤ N) : (heldL 30 T.hold).length = 1 := by
  have key : ∀ k, 1 ≤ k → hld 30 T.hold k = [0] := by
    intro k
    induction k with
    | zero => intro h; omega
    | succ k ih =>
      intro _
      by_cases hk : k = 0
      · subst hk
        rw [hld_yes (by exact h.h0)]; rfl
      · rw [hld_no (fun e => by have := h.only _ e; omega)]
        exact ih (by omega)
  unfold heldL
  rw [if_pos (by decide), key _ (by rw [h.len]; omega)]; rfl

theorem AP.start {N : Nat} {T' : Tb} {l : List Int} (hN : 3 ≤ N) (hN2 : N ≤ 20) (hG : Gr ⟨List.replicate (2 * N) 0, [] ++ [⟨30, onc [0]⟩]⟩ T' l) (hw : Wf T') (hwa : Wf ⟨List.replicate (2 * N) 0, [] ++ [⟨30, onc [0]⟩]⟩) : l.length = 1 ∧ AP N 0 0 T' := by
  have hset : Set' ⟨List.replicate (2 * N) 0, []⟩ := fun i => mayB_out (by simp)
  have hr : inT (List.replicate (2 * N) (0 : Int)).length (onc [0]) := fun m hm => by
    have := (onc_mem _ _).1 hm
    simp at this
    subst this
    simp; omega
  rcases gr_add (T := ⟨List.replicate (2 * N) 0, []⟩) hset hwa hG with ⟨_, e1, e2⟩ | ⟨hm, _, _⟩
  · refine ⟨by rw [e1]; rfl, ?_⟩
    subst e2
    have hh : ∀ k, hat (setL (List.replicate (2 * N) 0) 30 (onc [0])) k = if k = 0 then 30 else 0 := fun k => by
      rw [hat_setL _ _ _ hr, hat_rep]
      have : k ∈ onc [0] ↔ k = 0 := by rw [onc_mem]; simp
      by_cases hk : k = 0
      · rw [if_pos hk, if_pos (this.2 hk)]
      · rw [if_neg hk, if_neg (fun e => hk (this.1 e))]
    refine ⟨hw, hG.settled, by show (setL _ _ _).length = _; rw [setL_len]; simp, ?_, fun k hk => ?_, fun m _ => ?_, fun c hc => by simp at hc, rfl⟩
    · exact hh 0
    · have hk' := hk
      rw [show hat (Tb.hold ⟨setL (List.replicate (2 * N) 0) 30 (onc [0]), []⟩) k = _ from hh k] at hk'
      split at hk'
      · assumption
      · omega
    · exact (hh _).trans (if_neg (by omega))
  · have : mayC (List.replicate (2 * N) 0) [] ⟨30, onc [0]⟩ = true := mayC_true fun n hn => ⟨.inl (hat_rep _ _), fun d hd => by simp at hd⟩
    have hm' : mayC (List.replicate (2 * N) 0) [] ⟨30, onc [0]⟩ = false := hm
    rw [this] at hm'; cases hm'

theorem wf_new (n : Nat) (hn : n ≤ 1000) : Wf ⟨List.replicate n 0, []⟩ := ⟨by simpa using hn, fun x hx => by rw [List.eq_of_mem_replicate hx]; omega, by simp, by simp, by simp⟩

set_option maxRecDepth 100000 in
set_option maxHeartbeats 4000000 in
theorem apart_walk (n0 : Int) (w : World) (hb : -9223372036854775808 ≤ n0 ∧ n0 ≤ 9223372036854775807) : Calls Try.prog 8 #[.int .i64 n0] w fun e w' => e = .returned (.bool true) ∧ Below w.heap.size w w' := by
  obtain ⟨w0, rfl⟩ : ∃ w0, w0 = w := ⟨_, rfl⟩
  have KA := hide awake_any
  obtain ⟨k, hk, hk20⟩ := few n0 20 (by omega)
  obtain ⟨N, hN⟩ : ∃ N : Nat, (k : Int) + 3 = (N : Int) := ⟨k + 3, by omega⟩
  have hN1 : 3 ≤ N := by omega
  have hN2 : N ≤ 22 := by omega
  go_enter Try.func8, Try.ntmps8
  go_upto_region 4 with (go_at_call 9; refine (KA.out _).mono ?_; rintro e W1 ⟨rfl, hb1⟩; have HB := hide hb1; clear hb1)
  try rw [hN]
  generalize wrap64 ((IntKind.u64.wrap n0).tmod 20) = y1 at *
  generalize (IntKind.u64.wrap n0).tmod 20 = y2 at *
  generalize IntKind.u64.wrap n0 = y3 at *
  clear hk hk20 hN hb KA
  by_cases h40 : 20 < N
  · have K := hide (new_no (2 * (N : Int)) W1 (by omega))
    have j0 : 2 * (N : Int) > 40 := by omega
    have j1 : (N : Int) ≤ 22 := by omega
    go_wp2_with (go_at_call 10; refine K.out.mono ?_; rintro e W2 ⟨rfl, hW⟩; have hW' := hW.symm; clear hW; subst hW')
    go_ret
    exact ⟨by simp, HB.out⟩
  · have j0 : ¬ (2 * (N : Int) > 40) := by omega
    have j1 : (N : Int) ≤ 20 := by omega
    have j2 : (3 : Int) ≤ (N : Int) := by omega
    have KN := hide (new_ok (2 * N) W1 (by omega) (by omega))
    rw [show ((2 * N : Nat) : Int) = 2 * (N : Int) by omega] at KN
    have HN : Hid (3 ≤ N ∧ N ≤ 20) := hide (by omega)
    have K1 : Hid (∀ W g gh, Tbl W W1.heap.size g gh no ⟨List.replicate (2 * N) 0, []⟩ → Calls Try.prog 11 #[.pointer (some ⟨g, 0, none⟩), .int .i64 30, .slice (some ⟨W.heap.size, 0, none⟩) 1 1] (W.alloc (.cells #[.int .i64 0] 3)) fun e w' => e = .returned (.tuple #[.bool true, .int .i64 0]) ∧ (∃ T, Tbl w' W1.heap.size g gh no T ∧ AP N 0 0 T) ∧ Fr W1.heap.size g gh W w') := hide (fun W g gh hT => by
      have hbad : badC (List.replicate (2 * N) (0 : Int)).length 30 [0] = false := badC_yes (by omega) (by simp) (fun n hn => by simp at hn; subst hn; simp; omega)
      have hw := wf_new (2 * N) (by omega)
      refine (claim_row hT hw 30 [0] 1 rfl _ rfl (by omega) hbad (fnd_neg (by simp))).mono ?_
      rintro e w' ⟨l, rfl, T', hG, hwf, hT', hF⟩
      obtain ⟨e1, e2⟩ := AP.start (by omega) (by omega) hG hwf (Wf.add hw (badC_no hbad).1 (by simp) (badC_no hbad).2.2 (by simp) (fnd_neg (by simp)))
      exact ⟨by rw [e1]; rfl, ⟨T', hT', e2⟩, hF⟩)
    have KA : Hid (∀ W g gh T (i : Nat), i < 10 → i + 1 < N → Tbl W W1.heap.size g gh no T → AP N i i T → Calls Try.prog 11 #[.pointer (some ⟨g, 0, none⟩), .int .i64 ((i : Int) + 1), .slice (some ⟨W.heap.size, 0, none⟩) 2 2] (W.alloc (.cells #[.int .i64 0, .int .i64 (1 + (i : Int))] 3)) fun e w' => e = .returned (.tuple #[.bool false, .int .i64 0]) ∧ (∃ T, Tbl w' W1.heap.size g gh no T ∧ AP N (i + 1) i T) ∧ Fr W1.heap.size g gh W w') := hide (fun W g gh T i h10 hiN hT hA => by
      have hbad : badC T.hold.length ((i : Int) + 1) [0, 1 + (i : Int)] = false := badC_yes (by omega) (by simp) (fun n hn => by simp at hn; rw [hA.len]; omega)
      have hf : fnd ((i : Int) + 1) T.q < 0 := fnd_neg (fun c hc e => by have := (hA.q c hc).1; omega)
      refine (claim_row hT hA.wf ((i : Int) + 1) [0, 1 + (i : Int)] 2 rfl _ rfl (by omega) hbad hf).mono ?_
      rintro e w' ⟨l, rfl, T', hG, hwf, hT', hF⟩
      obtain ⟨e1, e2⟩ := hA.one h10 hwf hG (Wf.add hA.wf (badC_no hbad).1 (by simp) (badC_no hbad).2.2 (by simp) hf)
      exact ⟨by rw [e1]; rfl, ⟨T', hT', e2⟩, hF⟩)
    have KB : Hid (∀ W g gh T (i : Nat), i < 10 → i + 1 < N → Tbl W W1.heap.size g gh no T → AP N (i + 1) i T → Calls Try.prog 11 #[.pointer (some ⟨g, 0, none⟩), .int .i64 ((i : Int) + 11), .slice (some ⟨W.heap.size, 0, none⟩) 1 1] (W.alloc (.cells #[.int .i64 ((N : Int) + (i : Int))] 3)) fun e w' => e = .returned (.tuple #[.bool true, .int .i64 0]) ∧ (∃ T, Tbl w' W1.heap.size g gh no T ∧ AP N (i + 1) (i + 1) T) ∧ Fr W1.heap.size g gh W w') := hide (fun W g gh T i h10 hiN hT hA => by
      have hbad : badC T.hold.length ((i : Int) + 11) [(N : Int) + (i : Int)] = false := badC_yes (by omega) (by simp) (fun n hn => by simp at hn; rw [hA.len]; omega)
      have hf : fnd ((i : Int) + 11) T.q < 0 := fnd_neg (fun c hc e => by have := (hA.q c hc).1; omega)
      refine (claim_row hT hA.wf ((i : Int) + 11) [(N : Int) + (i : Int)] 1 rfl _ rfl (by omega) hbad hf).mono ?_
      rintro e w' ⟨l, rfl, T', hG, hwf, hT', hF⟩
      obtain ⟨e1, e2⟩ := hA.two h10 hiN hwf hG (Wf.add hA.wf (badC_no hbad).1 (by simp) (badC_no hbad).2.2 (by simp) hf)
      exact ⟨by rw [e1]; rfl, ⟨T', hT', e2⟩, hF⟩)
    have hBF : Hid (∀ W g gh, Below w0.heap.size w0 W → W1.heap.size ≤ g → W1.heap.size ≤ gh → ∀ W', Fr W1.heap.size g gh W W' → Below w0.heap.size w0 W') := hide (fun W g gh hb h1 h2 W' hf => by
      have := HB.out.size
      exact hf.below hb hb.size (by omega) (by omega) (by omega))
    clear hN1 hN2 h40
    go_upto_region 9 with (go_at_call 10; refine KN.out.mono ?_; rintro e WN ⟨g, rfl, gh, hT, hb, h1, h2, h3⟩; have HTN := hide (hT no); have HB2 := hide (HB.out.trans (hb.mono HB.out.size)); have Hg := hide (show W1.heap.size ≤ g by obtain ⟨_, _, h⟩ := hT no; exact h.base); have Hgh := hide h1; clear hT hb h1 h2 h3)
    go_upto_region 13 with (go_at_call 11; refine (K1.out _ _ _ HTN.out).mono ?_; rintro e WA ⟨rfl, hT, hF⟩; have HTA := hide hT; have HB3 := hide (hBF.out _ _ _ HB2.out Hg.out Hgh.out _ hF); clear hT hF)
    go_loopw [7] (fun v7 wr => ∃ (i : Nat), v7 = .int .i64 i ∧ i ≤ 10 ∧ i + 1 ≤ N ∧ Hid (∃ T, Tbl wr W1.heap.size g gh no T ∧ AP N i i T) ∧ Hid (Below w0.heap.size w0 wr)) (fun v7 _ => 20 - (intOf v7).toNat)
    case atStart => exact ⟨0, rfl, by omega, by have := HN.out; omega, HTA, HB3⟩
    case round =>
      obtain ⟨i, rfl, hi10, hiN, HT, HB4⟩ := hrel
      obtain ⟨T, hT, hA⟩ := HT.out
      have HT1 := hide hT
      have HA := hide hA
      clear hT hA HT
      by_cases hgo : i + 1 < N ∧ i < 10
      · have q0 : (i : Int) < (N : Int) - 1 := by omega
        have q1 : (i : Int) < 10 := by omega
        have KA1 := hide (KA.out wr g gh T i hgo.2 hgo.1 HT1.out HA.out)
        have KB1 : Hid (∀ W T, Tbl W W1.heap.size g gh no T → AP N (i + 1) i T → _) := hide (fun W T h1 h2 => KB.out W g gh T i hgo.2 hgo.1 h1 h2)
        have q2 : (0 : Int) ≤ (i : Int) := by omega
        clear hgo
        go_upto_region 16 with (go_at_call 11; refine KA1.out.mono ?_; rintro e WB ⟨rfl, hT, hF⟩; have HTB := hide hT; have HB5 := hide (hBF.out _ _ _ HB4.out Hg.out Hgh.out _ hF); clear hT hF)
        obtain ⟨T2, hT2, hA2⟩ := HTB.out
        have KB2 := hide (KB1.out WB T2 hT2 hA2)
        clear KA1 KB1 HTB hT2 hA2
        go_wp2_with (go_at_call 11; refine KB2.out.mono ?_; rintro e WC ⟨rfl, hT, hF⟩; have HTC := hide hT; have HB6 := hide (hBF.out _ _ _ HB5.out Hg.out Hgh.out _ hF); clear hT hF)
        go_roundw
        case rel => exact ⟨i + 1, by go_num, by omega, by omega, HTC, HB6⟩
        case measure => simp [intOf]; omega
      · have hor : i + 1 = N ∨ (i = 10 ∧ i + 1 < N) := by omega
        have K22 : Hid (∀ W, Tbl W W1.heap.size g gh no T → Calls Try.prog 22 #[.pointer (some ⟨g, 0, none⟩)] W fun e w' => (∃ v, e = .returned v ∧ intE.Own w' W.heap.size v (T.q.map (·.tote))) ∧ Below W.heap.size W w') := hide (fun W h => waiting_any h (by have := HA.out.wf.qlen; omega))
        have K23 : Hid (∀ W, Tbl W W1.heap.size g gh no T → Calls Try.prog 23 #[.pointer (some ⟨g, 0, none⟩), .int .i64 30] W fun e w' => (∃ v, e = .returned v ∧ intE.Own w' W.heap.size v (heldL 30 T.hold)) ∧ Below W.heap.size W w') := hide (fun W h => heldL_any h HA.out.wf.len 30)
        have Hq : Hid ((T.q.map (·.tote)).length = i) := hide (by rw [List.length_map]; exact HA.out.ql)
        have Hh := hide (HA.out.held (by have := HN.out; omega))
        generalize T.q.map (·.tote) = lq at *
        generalize heldL 30 T.hold = lh at *
        have q2 : (0 : Int) ≤ (i : Int) := by omega
        have q3 : (i : Int) ≤ 10 := by omega
        have q4 : (i : Int) ≤ (N : Int) - 1 := by omega
        rcases hor with hor | hor
        · have q0 : ¬ (i : Int) < (N : Int) - 1 := by omega
          have q1 : (N : Int) - 1 = (i : Int) := by omega
          have q5 : min (i : Int) 10 = (i : Int) := by omega
          clear hor hgo
          go_wp2_with (first | (go_at_call 22; refine (K22.out _ HT1.out).mono ?_; rintro e W5 ⟨⟨v5, rfl, ho⟩, hb⟩; obtain ⟨a5, c5, rfl⟩ := ho.rd.form; rw [Hq.out]; have HT5 := hide (HT1.out.keep hb); have HB5 := hide (HB4.out.trans (hb.mono HB4.out.size)); clear ho hb) | (go_at_call 23; refine (K23.out _ HT5.out).mono ?_; rintro e W6 ⟨⟨v6, rfl, ho⟩, hb⟩; obtain ⟨a6, c6, rfl⟩ := ho.rd.form; rw [Hh.out]; have HB6 := hide (HB5.out.trans (hb.mono HB5.out.size)); clear ho hb))
          go_ret
          exact ⟨by simp, HB6.out⟩
        · have q1 : ¬ (i : Int) < 10 := by omega
          have q0 : (i : Int) < (N : Int) - 1 := by omega
          have q5 : min ((N : Int) - 1) 10 = (i : Int) := by omega
          clear hor hgo
          go_wp2_with (first | (go_at_call 22; refine (K22.out _ HT1.out).mono ?_; rintro e W5 ⟨⟨v5, rfl, ho⟩, hb⟩; obtain ⟨a5, c5, rfl⟩ := ho.rd.form; rw [Hq.out]; have HT5 := hide (HT1.out.keep hb); have HB5 := hide (HB4.out.trans (hb.mono HB4.out.size)); clear ho hb) | (go_at_call 23; refine (K23.out _ HT5.out).mono ?_; rintro e W6 ⟨⟨v6, rfl, ho⟩, hb⟩; obtain ⟨a6, c6, rfl⟩ := ho.rd.form; rw [Hh.out]; have HB6 := hide (HB5.out.trans (hb.mono HB5.out.size)); clear ho hb))
          go_ret
          exact ⟨by simp, HB6.out⟩
end Go.Proofs.Ytbibegendejnlaa
