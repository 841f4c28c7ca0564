/- awake: the document's examples. -/
import Derived.Test.YtbibegendejnlaaCme
import Derived.Test.YtbibegendejnlaaCgm
namespace Go.Proofs.Ytbibegendejnlaa
open Go.RowKit
set_option linter.unusedVariables false

/-- nothing is kept apart -/
def no : Nat → Prop := fun _ => False

theorem row_new (w : World) (ns : List Int) (C : Array Value) (hC : C.toList = ns.map (Value.int .i64)) (hl : ns.length ≤ 1000000) (k n m : Nat) (hk : k = w.heap.size) (hn : n = ns.length) (hm : m = ns.length) : intE.Own (w.alloc (.cells C 3)) w.heap.size (.slice (some ⟨k, 0, none⟩) n m) ns :=
  El.Own.new intE w w.heap.size (Nat.le_refl _) C ns (by rw [hC, fl_map intE (Value.int .i64) (fun _ => rfl)]) hl _ _ _ hk hn hm

/-- a claim of nodes that are written out -/
theorem claim_lit {W : World} {B g gh : Nat} {T : Tb} (hT : Tbl W B g gh no T) (hw : Wf T) (t : Int) (ns : List Int) (n : Nat) (hn : ns.length = n) (C : Array Value) (hC : C.toList = ns.map (Value.int .i64)) (hl : n ≤ 100000) (hbad : badC T.hold.length t ns = false) (hf : fnd t T.q < 0) (r : Tb × List Int) (hr : grF (T.q.length + 1) ⟨T.hold, T.q ++ [⟨t, onc ns⟩]⟩ = r) :
    Calls Try.prog 11 #[.pointer (some ⟨g, 0, none⟩), .int .i64 t, .slice (some ⟨W.heap.size, 0, none⟩) n n] (W.alloc (.cells C 3)) fun e w' => e = .returned (.tuple #[.bool (decide (0 < r.2.length)), .int .i64 0]) ∧ Tbl w' B g gh no r.1 ∧ Wf r.1 ∧ Fr B g gh W w' := by
  have hb : Below W.heap.size W (W.alloc (.cells C 3)) := (Below.refl _ _).alloc (Nat.le_refl _) _
  have ho := row_new W ns C hC (by omega) _ n n rfl hn.symm hn.symm
  refine (claim_ok (hT.keep hb) hw (fun k hk => hk.elim) t _ _ n ns hn ho.rd hl hbad hf).mono ?_
  rintro e w' ⟨l, rfl, T', hG, hT', hF⟩
  obtain ⟨e1, e2⟩ := gr_is hG (T.q.length + 1) (by simp) hr
  have hwf := hG.wf (Wf.add hw (badC_no hbad).1 (fun e => (badC_no hbad).2.1 (by rw [e]; rfl)) (badC_no hbad).2.2 (by rw [hn]; exact hl) hf)
  rw [e1] at hT' hwf
  rw [e2]
  exact ⟨rfl, hT', hwf, (Fr.of_below hb).trans hF⟩

set_option maxRecDepth 100000 in
set_option maxHeartbeats 4000000 in
theorem awake_any (w : World) : Calls Try.prog 9 #[] w fun e w' => e = .returned (.bool true) ∧ Below w.heap.size w w' := by
  obtain ⟨w0, rfl⟩ : ∃ w0, w0 = w := ⟨_, rfl⟩
  have w1 : Wf ⟨[0, 0, 0], []⟩ := ⟨by simp, by simp, by simp, by simp, by simp⟩
  have KN := hide (new_ok 3 w0 (by omega) (by omega))
  have KA : Hid (∀ W g gh, Tbl W w0.heap.size g gh no ⟨[0, 0, 0], []⟩ → Calls Try.prog 11 #[.pointer (some ⟨g, 0, none⟩), .int .i64 1, .slice (some ⟨W.heap.size, 0, none⟩) 2 2] (W.alloc (.cells #[.int .i64 0, .int .i64 1] 3)) fun e w' => e = .returned (.tuple #[.bool true, .int .i64 0]) ∧ Tbl w' w0.heap.size g gh no ⟨[1, 1, 0], []⟩ ∧ Wf ⟨[1, 1, 0], []⟩ ∧ Fr w0.heap.size g gh W w') := hide (fun W g gh h => claim_lit h w1 1 [0, 1] 2 rfl _ rfl (by omega) (by decide) (by decide) (⟨[1, 1, 0], []⟩, [1]) (by kernel_rfl))
  have KB : Hid (∀ W g gh, Wf ⟨[1, 1, 0], []⟩ → Tbl W w0.heap.size g gh no ⟨[1, 1, 0], []⟩ → Calls Try.prog 11 #[.pointer (some ⟨g, 0, none⟩), .int .i64 2, .slice (some ⟨W.heap.size, 0, none⟩) 2 2] (W.alloc (.cells #[.int .i64 1, .int .i64 2] 3)) fun e w' => e = .returned (.tuple #[.bool false, .int .i64 0]) ∧ Tbl w' w0.heap.size g gh no ⟨[1, 1, 0], [⟨2, [1, 2]⟩]⟩ ∧ Wf ⟨[1, 1, 0], [⟨2, [1, 2]⟩]⟩ ∧ Fr w0.heap.size g gh W w') := hide (fun W g gh hw h => claim_lit h hw 2 [1, 2] 2 rfl _ rfl (by omega) (by decide) (by decide) (⟨[1, 1, 0], [⟨2, [1, 2]⟩]⟩, []) (by kernel_rfl))
  have KC : Hid (∀ W g gh, Wf ⟨[1, 1, 0], [⟨2, [1, 2]⟩]⟩ → Tbl W w0.heap.size g gh no ⟨[1, 1, 0], [⟨2, [1, 2]⟩]⟩ → Calls Try.prog 11 #[.pointer (some ⟨g, 0, none⟩), .int .i64 3, .slice (some ⟨W.heap.size, 0, none⟩) 1 1] (W.alloc (.cells #[.int .i64 2] 3)) fun e w' => e = .returned (.tuple #[.bool false, .int .i64 0]) ∧ Tbl w' w0.heap.size g gh no ⟨[1, 1, 0], [⟨2, [1, 2]⟩, ⟨3, [2]⟩]⟩ ∧ Wf ⟨[1, 1, 0], [⟨2, [1, 2]⟩, ⟨3, [2]⟩]⟩ ∧ Fr w0.heap.size g gh W w') := hide (fun W g gh hw h => claim_lit h hw 3 [2] 1 rfl _ rfl (by omega) (by decide) (by decide) (⟨[1, 1, 0], [⟨2, [1, 2]⟩, ⟨3, [2]⟩]⟩, []) (by kernel_rfl))
  have KR : Hid (∀ W g gh, Wf ⟨[1, 1, 0], [⟨2, [1, 2]⟩, ⟨3, [2]⟩]⟩ → Tbl W w0.heap.size g gh no ⟨[1, 1, 0], [⟨2, [1, 2]⟩, ⟨3, [2]⟩]⟩ → Calls Try.prog 14 #[.pointer (some ⟨g, 0, none⟩), .int .i64 1, .int .i64 1] W fun e w' => ∃ v, e = .returned (.tuple #[v, .int .i64 0]) ∧ intE.Own w' W.heap.size v [2] ∧ Tbl w' w0.heap.size g gh no ⟨[1, 2, 2], [⟨3, [2]⟩]⟩ ∧ Fr w0.heap.size g gh W w') := hide (fun W g gh hw h => by
    refine (rel_ok h hw 1 1 (by decide) (by decide)).mono ?_
    rintro e w' ⟨v, rfl, T', l, ho, hG, hT, hF⟩
    obtain ⟨e1, e2⟩ := gr_is hG 2 (by simp) (r := (⟨[1, 2, 2], [⟨3, [2]⟩]⟩, [2])) (by kernel_rfl)
    subst e1
    subst e2
    exact ⟨v, rfl, ho, hT, hF⟩)
  have KI : Hid (∀ (W : World) (v : Value) (B : Nat), intE.Own W B v [2] → Calls Try.prog 13 #[v, .slice (some ⟨W.heap.size, 0, none⟩) 1 1] (W.alloc (.cells #[.int .i64 2] 3)) fun e w' => e = .returned (.bool true) ∧ Below W.heap.size W w') := hide (fun W v B ho => by
    have hb : Below W.heap.size W (W.alloc (.cells #[.int .i64 2] 3)) := (Below.refl _ _).alloc (Nat.le_refl _) _
    obtain ⟨a, c, rfl⟩ := ho.rd.form
    refine (ints_any a _ c 1 1 1 [2] [2] _ rfl rfl (ho.keep hb).rd (row_new W [2] #[.int .i64 2] rfl (by simp) _ 1 1 rfl rfl rfl).rd (by omega)).mono ?_
    rintro e w' ⟨rfl, q, rfl⟩
    exact ⟨rfl, hb.trans ⟨rfl, rfl, rfl, Nat.le_refl _, fun _ _ => rfl⟩⟩)
  have KH : Hid (∀ W g gh, Tbl W w0.heap.size g gh no ⟨[1, 2, 2], [⟨3, [2]⟩]⟩ → Calls Try.prog 21 #[.pointer (some ⟨g, 0, none⟩), .int .i64 2] W fun e w' => e = .returned (.int .i64 2) ∧ w' = W) := hide (fun W g gh h => holder_any h 2)
  have hB : Hid (∀ W g gh, Below w0.heap.size w0 W → w0.heap.size ≤ g → w0.heap.size ≤ gh → ∀ W', Fr w0.heap.size g gh W W' → Below w0.heap.size w0 W') := hide (fun W g gh hb h1 h2 W' hf => hf.below hb hb.size h1 h2 (Nat.le_refl _))
  clear w1
  have W1 : Hid (Wf ⟨[0, 0, 0], []⟩) := hide ⟨by simp, by simp, by simp, by simp, by simp⟩
  go_enter Try.func9, Try.ntmps9
  go_upto_region 4 with (go_at_call 10; refine KN.out.mono ?_; rintro e WN ⟨g, rfl, gh, hT, hb, h1, h2, h3⟩; have HTN : Hid (Tbl WN w0.heap.size g gh no ⟨[0, 0, 0], []⟩) := hide (hT no); have HB1 := hide hb; have Hg := hide (show w0.heap.size ≤ g by obtain ⟨_, _, h⟩ := hT no; exact h.base); have Hgh := hide h1; clear hT hb h1 h2 h3)
  go_upto_region 5 with (go_at_call 11; refine (KA.out _ _ _ HTN.out).mono ?_; rintro e WA ⟨rfl, hT, hw, hF⟩; have HTA := hide hT; have HWA := hide hw; have HB2 := hide (hB.out _ _ _ HB1.out Hg.out Hgh.out _ hF); clear hT hw hF)
  go_upto_region 6 with (go_at_call 11; refine (KB.out _ _ _ HWA.out HTA.out).mono ?_; rintro e WB ⟨rfl, hT, hw, hF⟩; have HTB := hide hT; have HWB := hide hw; have HB3 := hide (hB.out _ _ _ HB2.out Hg.out Hgh.out _ hF); clear hT hw hF)
  go_upto_region 7 with (go_at_call 11; refine (KC.out _ _ _ HWB.out HTB.out).mono ?_; rintro e WC ⟨rfl, hT, hw, hF⟩; have HTC := hide hT; have HWC := hide hw; have HB4 := hide (hB.out _ _ _ HB3.out Hg.out Hgh.out _ hF); clear hT hw hF)
  go_wp2_with (first
    | (go_at_call 14; refine (KR.out _ _ _ HWC.out HTC.out).mono ?_; rintro e WR ⟨v, rfl, ho, hT, hF⟩; have HO := hide ho; have HTR := hide hT; have HB5 := hide (hB.out _ _ _ HB4.out Hg.out Hgh.out _ hF); clear ho hT hF)
    | (go_at_call 13; refine (KI.out _ _ _ HO.out).mono ?_; rintro e WI ⟨rfl, hb⟩; have HTI := hide (HTR.out.keep hb); have HB6 := hide (HB5.out.trans (hb.mono HB5.out.size)); clear hb)
    | (go_at_call 21; refine (KH.out _ _ _ HTI.out).mono ?_; rintro e WH ⟨rfl, hW⟩; have hW' := hW.symm; clear hW; subst hW'))
  go_ret
  exact ⟨rfl, HB6.out⟩
end Go.Proofs.Ytbibegendejnlaa
