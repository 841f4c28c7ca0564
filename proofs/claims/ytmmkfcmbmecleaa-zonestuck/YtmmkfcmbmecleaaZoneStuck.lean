/- ZoneStuck: for every list of holders Stuck tells ErrRange just as the document does, else nothing where nobody is stuck, and a real ring of holders where somebody is; no condition. -/
import Derived.Test.YtmmkfcmbmecleaaZag
import Derived.Test.YtmmkfcmbmecleaaZaw
import Derived.Test.YtmmkfcmbmecleaaZri
namespace Go.Proofs.Ytmmkfcmbmecleaa.zoneStuck
open Go.ChangeShapes Go.WideShapes Go.ChangeAt Go.RowKit
set_option linter.unusedVariables false

theorem own : ownKnob Try.prog.godebug = none := by kernel_rfl
theorem laidOut : laidOutB Try.prog = true := by kernel_rfl

theorem stuck_bad {a : Option Addr} {c n : Nat} {hs : List Hl} {W : World} (hn : hs.length = n) (hv : Hds hvE W (.slice a n c) hs) (hl : n ≤ 100000) (hb : ∀ p ∈ hs, p.has.length ≤ 30) (h : ¬ (hs.length ≤ 40 ∧ hs.all okH = true)) :
    Calls Try.prog 24 #[.slice a n c] W fun e w' => e = .returned (.tuple #[.slice none 0 0, .int .i64 1]) ∧ Below W.heap.size W w' :=
  (stuck_any a c n hs W hn hv hl hb).mono (by
    rintro e w' ⟨⟨u, x, rfl, hp⟩, hb'⟩
    unfold SP at hp
    rw [if_neg h] at hp
    obtain ⟨rfl, rfl⟩ := hp
    exact ⟨rfl, hb'⟩)
theorem stuck_free {a : Option Addr} {c n : Nat} {hs : List Hl} {W : World} (hn : hs.length = n) (hv : Hds hvE W (.slice a n c) hs) (hl : n ≤ 100000) (hb : ∀ p ∈ hs, p.has.length ≤ 30) (h : hs.length ≤ 40 ∧ hs.all okH = true) (hf : Free hs) :
    Calls Try.prog 24 #[.slice a n c] W fun e w' => e = .returned (.tuple #[.slice none 0 0, .int .i64 0]) ∧ Below W.heap.size W w' :=
  (stuck_any a c n hs W hn hv hl hb).mono (by
    rintro e w' ⟨⟨u, x, rfl, hp⟩, hb'⟩
    unfold SP at hp
    rw [if_pos h] at hp
    obtain ⟨rfl, hp⟩ := hp
    rcases hp with ⟨rfl, _⟩ | ⟨_, _, _, _, _, _, hr⟩
    · exact ⟨rfl, hb'⟩
    · exact absurd hf hr.stuck)
theorem stuck_ring {a : Option Addr} {c n : Nat} {hs : List Hl} {W : World} (hn : hs.length = n) (hv : Hds hvE W (.slice a n c) hs) (hl : n ≤ 100000) (hb : ∀ p ∈ hs, p.has.length ≤ 30) (h : hs.length ≤ 40 ∧ hs.all okH = true) (hf : ¬ Free hs) :
    Calls Try.prog 24 #[.slice a n c] W fun e w' => (∃ b m d, e = .returned (.tuple #[.slice b m d, .int .i64 0]) ∧ ∃ l : List Nat, l.length = m ∧ intE.Rd w' (.slice b m d) (ints l) ∧ IsRing hs l) ∧ Below W.heap.size W w' :=
  (stuck_any a c n hs W hn hv hl hb).mono (by
    rintro e w' ⟨⟨u, x, rfl, hp⟩, hb'⟩
    unfold SP at hp
    rw [if_pos h] at hp
    obtain ⟨rfl, hp⟩ := hp
    rcases hp with ⟨_, h'⟩ | ⟨y, m, k, l, rfl, ho, hr⟩
    · exact absurd h' hf
    · obtain ⟨b, d, e⟩ := own_form ho
      refine ⟨⟨b, l.length, d, by rw [e], l, rfl, ?_, hr⟩, hb'⟩
      rw [← e]; exact ho.rd)
theorem ring_small {hs : List Hl} {l : List Nat} (h : IsRing hs l) : l.length ≤ hs.length := by
  have h1 : l ⊆ List.range hs.length := fun x hx => List.mem_range.2 (h.lt x hx)
  have h2 := List.Nodup.length_le_of_subset h.nd h1
  simpa using h2

set_option maxRecDepth 100000 in
set_option maxHeartbeats 4000000 in
theorem walk (a : Option Addr) (n c : Nat) (hs : List Hl) (w : World) (hn : hs.length = n) (hv : Hds hvE w (.slice a n c) hs) :
    Calls Try.prog 6 #[.slice a n c] w fun e w' => e = .returned (.bool true) ∧ Below w.heap.size w w' := by
  obtain ⟨w0, rfl⟩ : ∃ w0, w0 = w := ⟨_, rfl⟩
  have KA := hide awake_any
  have HV : Hid (∀ W, Below w0.heap.size w0 W → Hds hvE W (.slice a n c) hs) := hide (fun W hb => hv.keep hb)
  have KF : Hid (∀ W, Below w0.heap.size w0 W → Calls Try.prog 23 #[.slice a n c] W fun e w' => e = .returned (.bool (fewB hs)) ∧ w' = W) := hide (fun W hb => few_any a c n hs W hn (hv.keep hb))
  cases hfew : fewB hs with
  | false =>
    rw [hfew] at KF
    clear hn hv hfew HV
    go_enter Try.func6, Try.ntmps6
    go_upto_region 2 with (first | (go_at_call 9; refine (KA.out _).mono ?_; rintro e W1 ⟨rfl, hb1⟩; have HB := hide hb1; clear hb1) | (go_at_call 23; refine (KF.out _ HB.out).mono ?_; rintro e W2 ⟨rfl, rfl⟩))
    go_wp2_with (go_at_call 9; refine (KA.out _).mono ?_; rintro e W3 ⟨rfl, hb2⟩; have HB2 := hide (HB.out.trans (hb2.mono HB.out.size)); clear hb2)
    go_ret
    exact ⟨rfl, HB2.out⟩
  | true =>
    have hf := of_decide_eq_true hfew
    rw [hfew] at KF
    have hb := hf.2
    have hl : n ≤ 61 := by rw [← hn]; exact hf.1
    have KRf : Hid (∀ W, Below w0.heap.size w0 W → Calls Try.prog 25 #[.slice a n c] W fun e w' => (∃ a' c', e = .returned (.slice a' n c') ∧ Hds rvE w' (.slice a' n c') hs) ∧ Below W.heap.size W w') := hide (fun W hbw => ref_any a c n hs W hn (hv.keep hbw) (by omega))
    have KL : Hid (∀ W a' c', Hds rvE W (.slice a' n c') hs → Calls Try.prog 26 #[.slice a' n c'] W fun e w' => e = .returned (.int .i64 (lookC hs)) ∧ w' = W) := hide (fun W a' c' h => look_any a' c' n hs W hn h hb)
    by_cases hok : hs.length ≤ 40 ∧ hs.all okH = true
    · have hlk : lookC hs = 0 := by unfold lookC; rw [if_pos hok]
      rw [hlk] at KL
      by_cases hfr : Free hs
      · have KS2 : Hid (∀ W a' c', Hds rvE W (.slice a' n c') hs → Calls Try.prog 27 #[.slice a' n c'] W fun e w' => e = .returned (.bool false) ∧ Below W.heap.size W w') := hide (fun W a' c' h => rstuck_any a' c' n hs W hn h (by omega) hb false (fun h => absurd hfr h) (fun _ => rfl))
        have KS : Hid (∀ W, Below w0.heap.size w0 W → Calls Try.prog 24 #[.slice a n c] W fun e w' => e = .returned (.tuple #[.slice none 0 0, .int .i64 0]) ∧ Below W.heap.size W w') := hide (fun W hbw => stuck_free hn (hv.keep hbw) (by omega) hb hok hfr)
        clear hn hv hf hb hfew hok hlk hfr
        go_enter Try.func6, Try.ntmps6
        go_upto_region 3 with (first | (go_at_call 9; refine (KA.out _).mono ?_; rintro e W1 ⟨rfl, hb1⟩; have HB := hide hb1; clear hb1) | (go_at_call 23; refine (KF.out _ HB.out).mono ?_; rintro e W2 ⟨rfl, rfl⟩))
        go_upto_region 4 with (go_at_call 24; refine (KS.out _ HB.out).mono ?_; rintro e W3 ⟨rfl, hb3⟩; have HB := hide (HB.out.trans (hb3.mono HB.out.size)); clear hb3)
        go_upto_region 5 with (go_at_call 25; refine (KRf.out _ HB.out).mono ?_; rintro e W4 ⟨⟨a', c', rfl, hr⟩, hb4⟩; have HR := hide hr; have HB := hide (HB.out.trans (hb4.mono HB.out.size)); clear hb4 hr)
        go_wp2_with (first | (go_at_call 26; refine (KL.out _ _ _ HR.out).mono ?_; rintro e W5 ⟨rfl, hW⟩; have hW' := hW.symm; clear hW; subst hW') | (go_at_call 27; refine (KS2.out _ _ _ HR.out).mono ?_; rintro e W6 ⟨rfl, hb6⟩; have HB6 := hide (HB.out.trans (hb6.mono HB.out.size)); clear hb6))
        go_ret
        exact ⟨rfl, HB6.out⟩
      · have KS2 : Hid (∀ W a' c', Hds rvE W (.slice a' n c') hs → Calls Try.prog 27 #[.slice a' n c'] W fun e w' => e = .returned (.bool true) ∧ Below W.heap.size W w') := hide (fun W a' c' h => rstuck_any a' c' n hs W hn h (by omega) hb true (fun _ => rfl) (fun h => absurd h hfr))
        have KS : Hid (∀ W, Below w0.heap.size w0 W → Calls Try.prog 24 #[.slice a n c] W fun e w' => (∃ b m d, e = .returned (.tuple #[.slice b m d, .int .i64 0]) ∧ ∃ l : List Nat, l.length = m ∧ intE.Rd w' (.slice b m d) (ints l) ∧ IsRing hs l) ∧ Below W.heap.size W w') := hide (fun W hbw => stuck_ring hn (hv.keep hbw) (by omega) hb hok hfr)
        have KR : Hid (∀ W a' b c' d m l, Hds rvE W (.slice a' n c') hs → l.length = m → intE.Rd W (.slice b m d) (ints l) → IsRing hs l → Calls Try.prog 28 #[.slice a' n c', .slice b m d] W fun e w' => e = .returned (.bool true) ∧ Below W.heap.size W w') := hide (fun W a' b c' d m l h1 h2 h3 h4 => rring_any a' b c' d n m hs l W hn h2 h1 h3 (by omega) hb h4 (by have := ring_small h4; omega))
        clear hn hv hf hb hfew hok hlk hfr
        go_enter Try.func6, Try.ntmps6
        go_upto_region 3 with (first | (go_at_call 9; refine (KA.out _).mono ?_; rintro e W1 ⟨rfl, hb1⟩; have HB := hide hb1; clear hb1) | (go_at_call 23; refine (KF.out _ HB.out).mono ?_; rintro e W2 ⟨rfl, rfl⟩))
        go_upto_region 4 with (go_at_call 24; refine (KS.out _ HB.out).mono ?_; rintro e W3 ⟨⟨b, m, d, rfl, l, h1, h2, h3⟩, hb3⟩; have H1 := hide h1; have H2 := hide h2; have H3 := hide h3; have HB := hide (HB.out.trans (hb3.mono HB.out.size)); clear hb3 h1 h2 h3)
        go_upto_region 5 with (go_at_call 25; refine (KRf.out _ HB.out).mono ?_; rintro e W4 ⟨⟨a', c', rfl, hr⟩, hb4⟩; have HR := hide hr; have H2 := hide (H2.out.keep hb4); have HB := hide (HB.out.trans (hb4.mono HB.out.size)); clear hb4 hr)
        go_wp2_with (first | (go_at_call 26; refine (KL.out _ _ _ HR.out).mono ?_; rintro e W5 ⟨rfl, hW⟩; have hW' := hW.symm; clear hW; subst hW') | (go_at_call 27; refine (KS2.out _ _ _ HR.out).mono ?_; rintro e W6 ⟨rfl, hb6⟩; have HB := hide (HB.out.trans (hb6.mono HB.out.size)); have HR := hide (HR.out.keep hb6); have H2 := hide (H2.out.keep hb6); clear hb6) | (go_at_call 28; refine (KR.out _ _ _ _ _ _ _ HR.out H1.out H2.out H3.out).mono ?_; rintro e W7 ⟨rfl, hb7⟩; have HB7 := hide (HB.out.trans (hb7.mono HB.out.size)); clear hb7))
        go_ret
        exact ⟨rfl, HB7.out⟩
    · have hlk : lookC hs = 1 := by unfold lookC; rw [if_neg hok]
      rw [hlk] at KL
      have KS : Hid (∀ W, Below w0.heap.size w0 W → Calls Try.prog 24 #[.slice a n c] W fun e w' => e = .returned (.tuple #[.slice none 0 0, .int .i64 1]) ∧ Below W.heap.size W w') := hide (fun W hbw => stuck_bad hn (hv.keep hbw) (by omega) hb hok)
      clear hn hv hf hb hfew hok hlk
      go_enter Try.func6, Try.ntmps6
      go_upto_region 3 with (first | (go_at_call 9; refine (KA.out _).mono ?_; rintro e W1 ⟨rfl, hb1⟩; have HB := hide hb1; clear hb1) | (go_at_call 23; refine (KF.out _ HB.out).mono ?_; rintro e W2 ⟨rfl, rfl⟩))
      go_upto_region 4 with (go_at_call 24; refine (KS.out _ HB.out).mono ?_; rintro e W3 ⟨rfl, hb3⟩; have HB := hide (HB.out.trans (hb3.mono HB.out.size)); clear hb3)
      go_upto_region 5 with (go_at_call 25; refine (KRf.out _ HB.out).mono ?_; rintro e W4 ⟨⟨a', c', rfl, hr⟩, hb4⟩; have HR := hide hr; have HB := hide (HB.out.trans (hb4.mono HB.out.size)); clear hb4 hr)
      go_wp2_with (go_at_call 26; refine (KL.out _ _ _ HR.out).mono ?_; rintro e W5 ⟨rfl, hW⟩; have hW' := hW.symm; clear hW; subst hW')
      go_ret
      exact ⟨rfl, HB.out⟩

set_option maxRecDepth 100000 in
theorem lifted (os : Os) (started : os.Started) (H : Type) (enc : TypeId × Value → H) :
    ReturnsInHanded {} Try.checked os 6 .any (Rows.zoneStuckSpec.pre6 enc Try.prog Try.f6 Rows.zoneStuckRow.domain false) (Rows.zoneStuckSpec.post enc Try.prog Try.f6 false true false false) := by
  refine returnsInHanded_of_change_sized (C := Try.checked) own started (by kernel_rfl) Try.func6
    (ChangeSpec.witness6 (enc := enc) (C := Try.checked) false ⟨#[], #[.slice none 0 0], []⟩ 8 (by kernel_rfl) (by kernel_rfl) (by kernel_rfl) (by kernel_rfl)) ?_
  intro W base args ds gs before hval0 hW hcnd hsz0 _
  have hval : ∀ (j : Nat) t v, Try.f6.params[j]? = some t → args[j]? = some v → Value.okWide Try.prog W .any base t v := hval0
  have hsz : (DataW.weightsEach Try.prog (Try.f6.params.toList ++ Rows.zoneStuckSpec.plain.varTypes Try.prog) (ds ++ gs)).all (· ≤ reachBytes) = true := hsz0
  have hW' := hW
  obtain ⟨p, q, hA0, hV, rfl, hfz, hnd⟩ := hW
  have hA : DataW.TrodAll enc Try.prog W 0 (fun _ => true) true Try.f6.params.toList args.toList ds p := hA0
  rw [Try.params6] at hA hval hsz
  obtain ⟨v0, vs0, d0, ds0, p0, q0, hargs, rfl, rfl, h0, r0⟩ := trodAll_cons hA
  obtain ⟨rfl, rfl, rfl⟩ := trodAll_nil r0
  obtain rfl : args = #[v0] := by cases args; simp_all
  obtain ⟨rfl, rfl⟩ := trodVars_none hV
  obtain ⟨a0, len0, cap0, rfl⟩ := okWide_slice Try.underlying52 (hval 0 52 v0 rfl rfl)
  have k0 := h0
  have lt0 : ∀ x ∈ p0, x.block < W.heap.size := by obtain ⟨m, hm⟩ := k0; exact DataW.trod_lt m _ _ _ hm
  obtain ⟨z0, w0, s0⟩ : ∃ hs : List Hl, hs.length = len0 ∧ Hds hvE W (.slice a0 len0 cap0) hs := by
    obtain ⟨fuel, hf⟩ := h0
    exact holders_of_trod hf rfl
  clear hA0 hval0
  refine (walk a0 len0 cap0 z0 W w0 s0).mono fun e W' ⟨he, bel⟩ => ?_
  subst he
  exact ⟨_, rfl, _, _, _, [], _, [], hW', trodAll_mk1 (shut_bool Try.underlying4 _), (trodAll_cons_mk (Below.trod laidOut (by kernel_rfl) (of_decide_eq_true (by kernel_rfl)) k0 bel lt0) trodAll_mk0), rfl, bel.frame _, fun h => by cases h⟩

theorem over : Rows.zoneStuckRow.holds Try.pinned (OpenSpec.ofChange Rows.zoneStuckSpec) :=
  OpenClaim.holds_of_wide 6 Try.f6 rfl rfl rfl rfl rfl rfl rfl ⟨rfl, rfl, rfl, rfl, rfl⟩ rfl rfl rfl rfl rfl (by kernel_rfl) Try.func6 (by kernel_rfl)
    (of_decide_eq_true (by kernel_rfl)) (by unfold Func.isWrapper; first | (rw [if_pos (by decide +kernel)]; kernel_rfl) | (rw [if_neg (by decide +kernel)]; exact ⟨rfl, rfl⟩))
    (fun os started H enc _ => lifted os started H enc)

theorem proved : Rows.ZoneStuckSaid := over
end Go.Proofs.Ytmmkfcmbmecleaa.zoneStuck
