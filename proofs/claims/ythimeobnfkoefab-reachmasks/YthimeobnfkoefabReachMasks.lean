/- For every layout, mask and number the law ReachMasks answers true: in which order devices are out of order, how often they are named, and what else is named that is none, does not matter; no conditions. -/
import Derived.Test.YthimeobnfkoefabWho
namespace Go.Proofs.Ythimeobnfkoefab.reachMasks
open Go.ChangeShapes Go.WideShapes Go.ChangeAt Go.RowKit
set_option linter.unusedVariables false

theorem own : ownKnob Try.prog.godebug = none := by kernel_rfl
theorem laidOut : laidOutB Try.prog = true := by kernel_rfl

theorem mod_in (a : Int) (m : Nat) (hm : 1 ≤ m) (hm' : m ≤ 1000) : ∃ N : Nat, wrap64 ((IntKind.u64.wrap a).tmod (m : Int)) = (N : Int) ∧ N < m := by
  have h0 : 0 ≤ IntKind.u64.wrap a := by simp [IntKind.wrap, IntKind.bits, IntKind.signed]; omega
  have e : (IntKind.u64.wrap a).tmod (m : Int) = IntKind.u64.wrap a % (m : Int) := Int.tmod_eq_emod_of_nonneg h0
  rw [e]
  generalize IntKind.u64.wrap a = b at h0
  have h1 : 0 ≤ b % (m : Int) := Int.emod_nonneg _ (by omega)
  have h2 : b % (m : Int) < (m : Int) := Int.emod_lt_of_pos _ (by omega)
  refine ⟨(b % (m : Int)).toNat, ?_, by omega⟩
  unfold wrap64
  omega
theorem clo_eq {m : Nat} {xs ys : List Int} (h : ∀ d : Int, 1 ≤ d → d ≤ m → (d ∈ xs ↔ d ∈ ys)) : clo m xs = clo m ys := by
  apply List.ext_getElem?
  intro i
  rcases Nat.lt_or_ge i m with hi | hi
  · rw [clo_at m xs i hi, clo_at m ys i hi]
    rw [Option.some.injEq, decide_eq_decide]
    exact h ((i + 1 : Nat) : Int) (by omega) (by omega)
  · rw [List.getElem?_eq_none (by rw [clo_len]; exact hi), List.getElem?_eq_none (by rw [clo_len]; exact hi)]
theorem oth_step {m : Nat} {z out : List Int} {p : Nat} {x : Int} (hx : z[p]? = some x) (hm : (m : Int) ≤ 1000) (h : ∀ d : Int, 1 ≤ d → d ≤ m → (d ∈ out ↔ d ∈ z.drop (p + 1))) : ∀ d : Int, 1 ≤ d → d ≤ m → (d ∈ out ++ [0, x, -1, x, (m : Int) + 1, 4611686018427387904] ↔ d ∈ z.drop p) := by
  intro d h1 h2
  have hp : p < z.length := by
    rcases Nat.lt_or_ge p z.length with h' | h'
    · exact h'
    · rw [List.getElem?_eq_none h'] at hx; cases hx
  rw [List.getElem?_eq_getElem hp] at hx
  have e : z.drop p = x :: z.drop (p + 1) := by rw [← List.getElem_cons_drop hp, Option.some.inj hx]
  have hz : d ∈ x :: z.drop (p + 1) ↔ d = x ∨ d ∈ out := by rw [List.mem_cons, h d h1 h2]
  rw [e, List.mem_append, hz]
  simp only [List.mem_cons, List.not_mem_nil, or_false]
  constructor
  · rintro (h3 | h3)
    · exact .inr h3
    · rcases h3 with h3 | h3 | h3 | h3 | h3 | h3
      · omega
      · exact .inl h3
      · omega
      · exact .inl h3
      · omega
      · omega
  · rintro (h3 | h3)
    · exact .inr (.inr (.inl h3))
    · exact .inl h3

set_option maxRecDepth 100000 in
set_option maxHeartbeats 16000000 in
theorem walk (a0 b0 : Option Addr) (c0 e0 : Nat) (ns0 : List Nd) (es0 : List Ed) (a1 : Option Addr) (len1 cap1 : Nat) (z1 : List Int) (n2 : Int) (w : World) (rn0 : ndE.Rd w (.slice a0 ns0.length c0) ns0) (re0 : edE.Rd w (.slice b0 es0.length e0) es0) (rs0 : ∀ p ∈ ns0, p.name.size ≤ maxLen) (w1 : z1.length = len1) (s1 : intE.Rd w (.slice a1 len1 cap1) z1) (h2 : -9223372036854775808 ≤ n2 ∧ n2 ≤ 9223372036854775807) :
    Calls Try.prog 3 #[.agg #[.slice a0 ns0.length c0, .slice b0 es0.length e0], .slice a1 len1 cap1, .int .i64 n2] w fun e w' => e = .returned (.bool true) ∧ Below w.heap.size w w' := by
  obtain ⟨n, hn⟩ : ∃ n, ns0.length = n := ⟨_, rfl⟩
  obtain ⟨m, hm⟩ : ∃ m, es0.length = m := ⟨_, rfl⟩
  rw [hn] at rn0 ⊢
  rw [hm] at re0 ⊢
  obtain ⟨W0, hW0⟩ : ∃ W0, w.alloc (.cells #[.slice a0 n c0, .slice b0 m e0] 25) = W0 := ⟨_, rfl⟩
  have bA : Below w.heap.size w W0 := by rw [← hW0]; exact (Below.refl _ _).alloc (Nat.le_refl _) _
  have hbox : W0.heap[w.heap.size]? = some (.cells #[.slice a0 n c0, .slice b0 m e0] 25) := by rw [← hW0]; exact heap_new _ _
  have HBOX := hide hbox
  have HA := hide bA
  have HW0 := hide hW0
  have K9 := hide awake_any
  have HR : Hid (∀ W, Below W0.heap.size W0 W → ndE.Rd W (.slice a0 n c0) ns0 ∧ edE.Rd W (.slice b0 m e0) es0 ∧ intE.Rd W (.slice a1 len1 cap1) z1) := hide (fun W h => have b := bA.trans (h.mono bA.size); ⟨rn0.keep b, re0.keep b, s1.keep b⟩)
  have K10 : Hid (∀ W, Below W0.heap.size W0 W → Calls Try.prog 5 #[.agg #[.slice a0 n c0, .slice b0 m e0], .slice a1 len1 cap1] W fun e w' => e = .returned (.bool (decide (len1 ≤ 200) && good ns0 es0)) ∧ Below W.heap.size W w') := hide (fun W h => fits_any a0 b0 a1 c0 e0 cap1 n m len1 ns0 es0 W hn hm (HR.out W h).1 (HR.out W h).2.1 rs0)
  have HG : Hid ((decide (len1 ≤ 200) && good ns0 es0) = true → (∀ W, Below W0.heap.size W0 W → Ly W a0 b0 c0 e0 n m ns0 es0 ∧ Mk W a1 cap1 len1 z1) ∧ len1 ≤ 200 ∧ n ≤ 40 ∧ 1 ≤ n ∧ m ≤ 120) := hide (fun h => by
    simp only [Bool.and_eq_true, decide_eq_true_eq] at h
    have hg := good_ly h.2 hn hm (HR.out _ (Below.refl _ _)).1 (HR.out _ (Below.refl _ _)).2.1
    exact ⟨fun W hW => ⟨(good_ly h.2 hn hm (HR.out W hW).1 (HR.out W hW).2.1).1, w1, (HR.out W hW).2.2, by omega⟩, h.1, hg.2.2.1, hg.2.1, hg.2.2.2⟩)
  have Hw1 := hide w1
  clear rn0 re0 rs0 w1 s1 hn hm bA hbox hW0 h2
  generalize (decide (len1 ≤ 200) && good ns0 es0) = gd at *
  go_enter Try.func3, Try.ntmps3
  go_upto_region 1 with fail
  rw [HW0.out]
  clear HW0
  go_upto_region 3 with (go_at_call 4; refine (K9.out _).mono ?_; rintro e W1 ⟨rfl, hb1⟩; have Hb1 := hide hb1; obtain ⟨x0, x1⟩ := layg HBOX.out hb1; clear hb1)
  cases gd with
  | false =>
    go_wp2_with (go_at_call 5; refine (K10.out _ Hb1.out).mono ?_; rintro e W2 ⟨rfl, hb2⟩; have Hb2 := hide (Hb1.out.trans (hb2.mono Hb1.out.size)); clear hb2)
    go_ret
    exact ⟨rfl, HA.out.trans (Hb2.out.mono HA.out.size)⟩
  | true =>
    obtain ⟨hLM, hlen, hn40, hn1, hm12⟩ := HG.out rfl
    have HLM := hide hLM
    have Hlen := hide hlen
    have Hn40 := hide hn40
    have l1 : (len1 : Int) ≤ 200 := by omega
    have l2 : (n : Int) ≤ 40 := by omega
    have l3 : (1 : Int) ≤ (n : Int) := by omega
    have l4 : (m : Int) ≤ 120 := by omega
    obtain ⟨A, hA, A1⟩ := mod_in n2 n (by omega) (by omega)
    have huw : IntKind.u64.wrap (n : Int) = (n : Int) := by unfold IntKind.wrap; simp [IntKind.bits, IntKind.signed]; omega
    clear hLM hlen hn40 hn1 hm12 HG HR
    go_upto_region 5 with (go_at_call 5; refine (K10.out _ Hb1.out).mono ?_; rintro e W2 ⟨rfl, hb2⟩; have Hb2 := hide (Hb1.out.trans (hb2.mono Hb1.out.size)); obtain ⟨x0, x1⟩ := layg HBOX.out Hb2.out; clear hb2)
    clear K9 K10
    have hn0 : ¬ (n : Int) = 0 := by omega
    go_upto_region 6 with fail
    rw [hA]
    generalize wrap64 ((IntKind.u64.wrap n2).tmod (n : Int)) = r1 at *
    generalize (IntKind.u64.wrap n2).tmod (n : Int) = r3 at *
    generalize IntKind.u64.wrap n2 = r5 at *
    have HA1 := hide A1
    clear hA A1 huw hn0 Hb1 x0 x1
    have hw1 : IntKind.i64.wrap ((m : Int) + 1) = (m : Int) + 1 := i64_small _ (by omega) (by omega)
    have HLz := Hw1
    go_wp2_with fail
    go_loopw [7, 8] (fun v7 v8 wr => ∃ (i : Int) (j : Nat) (out : List Int), v8 = .int .i64 i ∧ i + 1 = (j : Int) ∧ j ≤ len1 ∧ Hid (intE.Own wr W0.heap.size v7 out) ∧ Hid (Below W0.heap.size W0 wr) ∧ Hid (out.length + 6 * j = 6 * len1 ∧ ∀ d : Int, 1 ≤ d → d ≤ m → (d ∈ out ↔ d ∈ z1.drop j))) (fun _ v8 _ => (intOf v8 + 1).toNat)
    case atStart => exact ⟨(len1 : Int) - 1, len1, [], by go_num, by omega, by omega, hide (El.Own.nil _ _ _), Hb2, hide ⟨by simp, fun d _ _ => by rw [List.drop_of_length_le (by rw [Hw1.out]; omega)]⟩⟩
    case round =>
      clear Hb2
      obtain ⟨i, j, out, rfl, hij, hj, HO, HB, HX⟩ := hrel
      by_cases hge : 0 ≤ i
      · obtain ⟨p, hp⟩ := Int.eq_ofNat_of_zero_le hge
        subst hp
        have hjp : j = p + 1 := by omega
        subst hjp
        obtain ⟨x, hx⟩ : ∃ x, z1[p]? = some x := ⟨_, List.getElem?_eq_getElem (by rw [Hw1.out]; omega)⟩
        have HX1 : Hid ((out ++ [0, x, -1, x, (m : Int) + 1, 4611686018427387904]).length + 6 * p = 6 * len1 ∧ ∀ d : Int, 1 ≤ d → d ≤ m → (d ∈ out ++ [0, x, -1, x, (m : Int) + 1, 4611686018427387904] ↔ d ∈ z1.drop p)) := hide ⟨by have := HX.out.1; simp; omega, oth_step hx (by omega) HX.out.2⟩
        have Hol : Hid (out.length ≤ 10000) := hide (by have := HX.out.1; have := Hlen.out; omega)
        obtain ⟨bM, oM, rfl, cm⟩ := int_at (HLM.out W0 (Below.refl _ _)).2.hM p x hx
        obtain ⟨SS, hSS⟩ : ∃ SS : World → Prop, SS = fun W' => Below W0.heap.size W0 W' := ⟨_, rfl⟩
        have s9 : Hid (∀ W', SS W' → Below W0.heap.size W0 W') := hide (fun W' h => by rw [hSS] at h; exact h)
        have s8 : Hid (∀ W', Below W0.heap.size W0 W' → SS W') := hide (fun W' h => by rw [hSS]; exact h)
        have S4 := s8
        have s1 : ∀ W', SS W' → W'.cell? ⟨bM, oM + p, none⟩ = some (.int .i64 x) := fun W' h => by rw [(s9.out W' h).cell (p := ⟨bM, oM + p, none⟩) (cell_lt cm)]; exact cm
        have s2 : ∀ W', SS W' → W'.cell? ⟨w.heap.size, 1, none⟩ = some (.slice b0 m e0) := fun W' h => (layg HBOX.out (s9.out W' h)).2
        have j0 : (0 : Int) ≤ (p : Int) := by omega
        have j1 : (p : Int) < (len1 : Int) := by omega
        have Hpl : Hid (p + 1 ≤ len1) := hide hj
        clear hSS hx hij hj hge cm
        go_upto_region 10 with fail
        refine wp_region_held_drew (S := SS) (by kernel_rfl) (s8.out _ (below_heap HB.out rfl rfl rfl rfl)) (fun hS0 => ?_)
        refine wpAnyH_take (i := 0) (v := u7) rfl (by kernel_rfl) (by kernel_rfl) (by kernel_rfl) (fun _ _ _ h => h) (Or.inl ⟨by rfl, fun W' hW => by go_simp⟩) hS0 ?_
        refine wpAnyH_take (i := 1) (v := .slice (some ⟨bM, oM, none⟩) len1 cap1) rfl (by kernel_rfl) (by kernel_rfl) (by kernel_rfl) (fun _ _ _ h => h) (Or.inl ⟨by rfl, fun W' hW => by go_simp⟩) hS0 ?_
        refine wpAnyH_take (i := 2) (v := .int .i64 (p : Int)) rfl (by kernel_rfl) (by kernel_rfl) (by kernel_rfl) (fun _ _ _ h => h) (Or.inl ⟨by rfl, fun W' hW => by go_simp⟩) hS0 ?_
        refine wpAnyH_take (i := 3) (v := .pointer (some ⟨bM, oM + p, none⟩)) rfl (by kernel_rfl) (by kernel_rfl) (by kernel_rfl) (fun _ _ _ h => h) (Or.inl ⟨by rfl, fun W' hW => by go_simp⟩) hS0 ?_
        refine wpAnyH_take (i := 4) (v := .int .i64 x) rfl (by kernel_rfl) (by kernel_rfl) (by kernel_rfl) (fun _ _ _ h => h) (Or.inl ⟨by rfl, fun W' hW => by have x0 := s1 W' hW; go_simp⟩) hS0 ?_
        refine wpAnyH_take (i := 5) (v := .slice (some ⟨bM, oM, none⟩) len1 cap1) rfl (by kernel_rfl) (by kernel_rfl) (by kernel_rfl) (fun _ _ _ h => h) (Or.inl ⟨by rfl, fun W' hW => by go_simp⟩) hS0 ?_
        refine wpAnyH_take (i := 6) (v := .int .i64 (p : Int)) rfl (by kernel_rfl) (by kernel_rfl) (by kernel_rfl) (fun _ _ _ h => h) (Or.inl ⟨by rfl, fun W' hW => by go_simp⟩) hS0 ?_
        refine wpAnyH_take (i := 7) (v := .pointer (some ⟨bM, oM + p, none⟩)) rfl (by kernel_rfl) (by kernel_rfl) (by kernel_rfl) (fun _ _ _ h => h) (Or.inl ⟨by rfl, fun W' hW => by go_simp⟩) hS0 ?_
        refine wpAnyH_take (i := 8) (v := .int .i64 x) rfl (by kernel_rfl) (by kernel_rfl) (by kernel_rfl) (fun _ _ _ h => h) (Or.inl ⟨by rfl, fun W' hW => by have x0 := s1 W' hW; go_simp⟩) hS0 ?_
        refine wpAnyH_take (i := 9) (v := .pointer (some ⟨w.heap.size, 1, none⟩)) rfl (by kernel_rfl) (by kernel_rfl) (by kernel_rfl) (fun _ _ _ h => h) (Or.inl ⟨by rfl, fun W' hW => by go_simp⟩) hS0 ?_
        refine wpAnyH_take (i := 10) (v := .slice b0 m e0) rfl (by kernel_rfl) (by kernel_rfl) (by kernel_rfl) (fun _ _ _ h => h) (Or.inl ⟨by rfl, fun W' hW => by have x0 := s2 W' hW; go_simp⟩) hS0 ?_
        refine wpAnyH_take (i := 11) (v := .int .i64 (m : Int)) rfl (by kernel_rfl) (by kernel_rfl) (by kernel_rfl) (fun _ _ _ h => h) (Or.inl ⟨by rfl, fun W' hW => by go_simp⟩) hS0 ?_
        refine wpAnyH_take (i := 12) (v := .int .i64 ((m : Int) + 1)) rfl (by kernel_rfl) (by kernel_rfl) (by kernel_rfl) (fun _ _ _ h => h) (Or.inl ⟨by rfl, fun W' hW => by go_simp⟩) hS0 ?_
        refine wpAnyH_ready (rs := [13]) (by kernel_rfl) (by simp) ?_
        refine AllReadyH.cons rfl (fun K hK => ?_) AllReadyH.nil
        go_simp
        have S3 := s8.out _ ((s9.out _ hS0).alloc (s9.out _ hS0).size (.cells #[.int .i64 0, .int .i64 x, .int .i64 (-1), .int .i64 x, .int .i64 ((m : Int) + 1), .int .i64 4611686018427387904] 3))
        have HN3 : Hid (intE.Rd (wr.drew.alloc (.cells #[.int .i64 0, .int .i64 x, .int .i64 (-1), .int .i64 x, .int .i64 ((m : Int) + 1), .int .i64 4611686018427387904] 3)) (.slice (some ⟨wr.heap.size, 0, none⟩) 6 6) [0, x, -1, x, (m : Int) + 1, 4611686018427387904]) := hide (El.Own.new intE wr.drew 0 (by omega) _ [0, x, -1, x, (m : Int) + 1, 4611686018427387904] rfl (by simp) _ _ _ (by simp) rfl rfl).rd
        have HO3 : Hid (intE.Own (wr.drew.alloc (.cells #[.int .i64 0, .int .i64 x, .int .i64 (-1), .int .i64 x, .int .i64 ((m : Int) + 1), .int .i64 4611686018427387904] 3)) W0.heap.size u7 out) := hide (World.ownsRow.alloc (own_heap HO.out rfl) _)
        have HB3 : Hid (Below W0.heap.size W0 (wr.drew.alloc (.cells #[.int .i64 0, .int .i64 x, .int .i64 (-1), .int .i64 x, .int .i64 ((m : Int) + 1), .int .i64 4611686018427387904] 3))) := hide ((below_heap HB.out rfl rfl rfl rfl : Below W0.heap.size W0 wr.drew).alloc HB.out.size _)
        refine hK.out _ _ S3 (fun _ => ?_)
        clear hK K
        refine wpAnyH_ready (rs := [14]) (by kernel_rfl) (by simp) ?_
        refine AllReadyH.cons rfl (fun K hK => ?_) AllReadyH.nil
        refine stepB intE (B := W0.heap.size) HB3.out.size rfl (.tmp 38) (.tmp 51) rfl _ _ rfl rfl out [0, x, -1, x, (m : Int) + 1, 4611686018427387904] HO3.out HN3.out (by have := Hol.out; simp; omega) ?_
        intro v5 W5 ho5 hg5
        have HO5 := hide ho5
        have HB5 : Hid (Below W0.heap.size W0 W5) := hide (HB3.out.grown hg5 HB3.out.size (fun q hq => HO3.out.ge q hq))
        refine hK.out _ _ (S4.out _ HB5.out) (fun _ => ?_)
        clear hK K ho5 hg5
        refine wpAnyH_ready (rs := [15]) (by kernel_rfl) (by simp) ?_
        refine AllReadyH.cons rfl (fun K hK => ?_) AllReadyH.nil
        go_simp
        refine hK.out _ _ (S4.out _ HB5.out) (fun _ => ?_)
        clear hK K
        refine wpAnyH_done (by kernel_rfl) ?_ _
        go_wp2_with fail
        go_roundw
        case rel => exact ⟨(p : Int) - 1, p, _, by go_num, by omega, by have := Hpl.out; omega, HO5, HB5, HX1⟩
        case measure => first | (simp [intOf]; done) | (simp [intOf]; omega)
      · have hj0 : j = 0 := by omega
        subst hj0
        have hcl : Hid (clo m out = clo m z1) := hide (clo_eq (fun d h1 h2 => by have := HX.out.2 d h1 h2; rwa [List.drop_zero] at this))
        obtain ⟨aO, cO, hvO⟩ := HO.out.rd.form
        obtain ⟨ko, hko⟩ : ∃ ko, out.length = ko := ⟨_, rfl⟩
        have HMo : Hid (Mk wr aO cO ko out) := hide ⟨hko, by rw [← hko, ← hvO]; exact HO.out.rd, by have := HX.out.1; have := Hlen.out; omega⟩
        rw [hko] at hvO
        subst hvO
        obtain ⟨WF, hWF⟩ : ∃ W, W = wr := ⟨_, rfl⟩
        subst hWF
        have HS : Hid (∀ W, Below WF.heap.size WF W → Ly W a0 b0 c0 e0 n m ns0 es0 ∧ Mk W a1 cap1 len1 z1 ∧ Mk W aO cO ko out) := hide (fun W h => ⟨(HLM.out W (HB.out.trans (h.mono HB.out.size))).1, (HLM.out W (HB.out.trans (h.mono HB.out.size))).2, HMo.out.keep h⟩)
        have HC : Hid (∀ W, Below WF.heap.size WF W → W.cell? ⟨w.heap.size, 0, none⟩ = some (.slice a0 n c0) ∧ W.cell? ⟨w.heap.size, 1, none⟩ = some (.slice b0 m e0)) := hide (fun W h => layg HBOX.out (HB.out.trans (h.mono HB.out.size)))
        have Hb : Hid (Below WF.heap.size WF WF) := hide (Below.refl _ _)
        obtain ⟨x0, x1⟩ := HC.out _ Hb.out
        clear hko hij hj HX HO HMo
        go_upto_region 12 with (go_at_call 6; refine (from_ok _ _ _ _ _ _ _ _ _ _ ns0 es0 z1 _ (HS.out _ Hb.out).1 (HS.out _ Hb.out).2.1 HA1.out).mono ?_; rintro e V1 ⟨⟨g1, l1, rfl, hO, hF⟩, hb⟩
                                have R1 := hide hO.rd
                                have F1 := hide hF
                                have Hb : Hid (Below WF.heap.size WF V1) := hide (Hb.out.trans (hb.mono Hb.out.size))
                                obtain ⟨x0, x1⟩ := HC.out _ Hb.out
                                clear hO hF hb)
        go_upto_region 13 with (go_at_call 6; refine (from_ok _ _ _ _ _ _ _ _ _ _ ns0 es0 out _ (HS.out _ Hb.out).1 (HS.out _ Hb.out).2.2 HA1.out).mono ?_; rintro e V2 ⟨⟨g2, l2, rfl, hO, hF⟩, hb⟩
                                have R2 := hide hO.rd
                                have R1 := hide (R1.out.keep hb)
                                have F2 := hide hF
                                have Hb : Hid (Below WF.heap.size WF V2) := hide (Hb.out.trans (hb.mono Hb.out.size))
                                obtain ⟨x0, x1⟩ := HC.out _ Hb.out
                                clear hO hF hb)
        go_upto_region 14 with (go_at_call 7; refine (to_ok _ _ _ _ _ _ _ _ _ _ ns0 es0 z1 _ (HS.out _ Hb.out).1 (HS.out _ Hb.out).2.1 HA1.out).mono ?_; rintro e V3 ⟨⟨g3, l3, rfl, hO, hF⟩, hb⟩
                                have R3 := hide hO.rd
                                have R1 := hide (R1.out.keep hb)
                                have R2 := hide (R2.out.keep hb)
                                have F3 := hide hF
                                have Hb : Hid (Below WF.heap.size WF V3) := hide (Hb.out.trans (hb.mono Hb.out.size))
                                obtain ⟨x0, x1⟩ := HC.out _ Hb.out
                                clear hO hF hb)
        go_upto_region 15 with (go_at_call 7; refine (to_ok _ _ _ _ _ _ _ _ _ _ ns0 es0 out _ (HS.out _ Hb.out).1 (HS.out _ Hb.out).2.2 HA1.out).mono ?_; rintro e V4 ⟨⟨g4, l4, rfl, hO, hF⟩, hb⟩
                                have R4 := hide hO.rd
                                have R1 := hide (R1.out.keep hb)
                                have R2 := hide (R2.out.keep hb)
                                have R3 := hide (R3.out.keep hb)
                                have F4 := hide hF
                                have Hb : Hid (Below WF.heap.size WF V4) := hide (Hb.out.trans (hb.mono Hb.out.size))
                                obtain ⟨x0, x1⟩ := HC.out _ Hb.out
                                clear hO hF hb)
        obtain ⟨SS, hSS⟩ : ∃ SS : World → Prop, SS = fun W' => Below V4.heap.size V4 W' := ⟨_, rfl⟩
        have s9 : Hid (∀ W', SS W' → Below V4.heap.size V4 W') := hide (fun W' h => by rw [hSS] at h; exact h)
        have s8 : Hid (∀ W', Below V4.heap.size V4 W' → SS W') := hide (fun W' h => by rw [hSS]; exact h)
        have s7 : Hid (∀ W', SS W' → Below WF.heap.size WF W') := hide (fun W' h => Hb.out.trans ((s9.out W' h).mono Hb.out.size))
        have s1 : ∀ W', SS W' → W'.cell? ⟨w.heap.size, 0, none⟩ = some (.slice a0 n c0) := fun W' h => (HC.out _ (s7.out W' h)).1
        have s2 : ∀ W', SS W' → W'.cell? ⟨w.heap.size, 1, none⟩ = some (.slice b0 m e0) := fun W' h => (HC.out _ (s7.out W' h)).2
        obtain rfl : l1 = l2 := by
          have h := F2.out
          rw [hcl.out] at h
          exact F1.out.uniq h
        obtain rfl : l3 = l4 := by
          have h := F4.out
          rw [hcl.out] at h
          exact F3.out.uniq h
        clear hSS x0 x1
        refine wp_region_held_drew (S := SS) (by kernel_rfl) (s8.out _ (below_heap (Below.refl _ _) rfl rfl rfl rfl)) (fun hS0 => ?_)
        refine wpAnyH_ready (rs := [0]) (by kernel_rfl) (by simp) ?_
        refine AllReadyH.cons rfl (fun K hK => ?_) AllReadyH.nil
        go_simp
        refine hK.out _ _ hS0 (fun _ => ?_)
        clear hK K
        refine wpAnyH_ready (rs := [1]) (by kernel_rfl) (by simp) ?_
        refine AllReadyH.cons rfl (fun K hK => ?_) AllReadyH.nil
        go_simp
        refine hK.out _ _ hS0 (fun _ => ?_)
        clear hK K
        refine wpAnyH_ready (rs := [2]) (by kernel_rfl) (by simp) ?_
        refine AllReadyH.cons rfl (fun K hK => ?_) AllReadyH.nil
        go_simp
        refine hK.out _ _ hS0 (fun _ => ?_)
        clear hK K
        refine wpAnyH_ready (rs := [3]) (by kernel_rfl) (by simp) ?_
        refine AllReadyH.cons rfl (fun K hK => ?_) AllReadyH.nil
        go_simp
        refine hK.out _ _ hS0 (fun _ => ?_)
        clear hK K
        refine wpAnyH_ready (rs := [4]) (by kernel_rfl) (by simp) ?_
        refine AllReadyH.cons rfl (fun K hK => ?_) AllReadyH.nil
        go_simp
        refine hK.out _ _ hS0 (fun _ => ?_)
        clear hK K
        refine wpAnyH_ready (rs := [5]) (by kernel_rfl) (by simp) ?_
        refine AllReadyH.cons rfl (fun K hK => ?_) AllReadyH.nil
        go_simp
        refine hK.out _ _ hS0 (fun _ => ?_)
        clear hK K
        refine wpAnyH_ready (rs := [6]) (by kernel_rfl) (by simp) ?_
        refine AllReadyH.cons rfl (fun K hK => ?_) AllReadyH.nil
        go_simp
        refine hK.out _ _ hS0 (fun _ => ?_)
        clear hK K
        refine wpAnyH_ready (rs := [7]) (by kernel_rfl) (by simp) ?_
        refine AllReadyH.cons rfl (fun K hK => ?_) AllReadyH.nil
        go_simp
        refine hK.out _ _ hS0 (fun _ => ?_)
        clear hK K
        refine wpAnyH_ready (rs := [8]) (by kernel_rfl) (by simp) ?_
        refine AllReadyH.cons rfl (fun K hK => ?_) AllReadyH.nil
        go_simp
        refine hK.out _ _ hS0 (fun _ => ?_)
        clear hK K
        refine wpAnyH_ready (rs := [9]) (by kernel_rfl) (by simp) ?_
        refine AllReadyH.cons rfl (fun K hK => ?_) AllReadyH.nil
        go_simp
        refine hK.out _ _ hS0 (fun _ => ?_)
        clear hK K
        refine wpAnyH_ready (rs := [10]) (by kernel_rfl) (by simp) ?_
        refine AllReadyH.cons rfl (fun K hK => ?_) AllReadyH.nil
        go_simp
        refine hK.out _ _ hS0 (fun _ => ?_)
        clear hK K
        refine wpAnyH_ready (rs := [11]) (by kernel_rfl) (by simp) ?_
        refine AllReadyH.cons rfl (fun K hK => ?_) AllReadyH.nil
        go_simp
        refine hK.out _ _ hS0 (fun _ => ?_)
        clear hK K
        refine wpAnyH_ready (rs := [12]) (by kernel_rfl) (by simp) ?_
        refine AllReadyH.cons rfl (fun K hK => ?_) AllReadyH.nil
        go_simp
        refine hK.out _ _ hS0 (fun _ => ?_)
        clear hK K
        refine wpAnyH_ready (rs := [13]) (by kernel_rfl) (by simp) ?_
        refine AllReadyH.cons rfl (fun K hK => ?_) AllReadyH.nil
        go_simp
        refine hK.out _ _ hS0 (fun _ => ?_)
        clear hK K
        refine wpAnyH_ready (rs := [14]) (by kernel_rfl) (by simp) ?_
        refine AllReadyH.cons rfl (fun K hK => ?_) AllReadyH.nil
        go_simp
        refine hK.out _ _ hS0 (fun _ => ?_)
        clear hK K
        refine wpAnyH_take (i := 15) (v := .slice (some ⟨g1, 0, none⟩) n n) rfl (by kernel_rfl) (by kernel_rfl) (by kernel_rfl) (fun _ _ _ h => h) (Or.inl ⟨by rfl, fun W' hW => by go_simp⟩) hS0 ?_
        refine wpAnyH_ready (rs := [16]) (by kernel_rfl) (by simp) ?_
        refine AllReadyH.cons rfl (fun K hK => ?_) AllReadyH.nil
        go_simp
        refine hK.out _ _ hS0 (fun _ => ?_)
        clear hK K
        refine wpAnyH_ready (rs := [17]) (by kernel_rfl) (by simp) ?_
        refine AllReadyH.cons rfl (fun K hK => ?_) AllReadyH.nil
        go_simp
        refine (ints_eq (R1.out.keep (s9.out _ hS0)) (R2.out.keep (s9.out _ hS0)) F1.out.1 F1.out.1 (by have := Hn40.out; omega)).mono ?_
        rintro e U17 ⟨rfl, hb⟩
        rw [decide_eq_true rfl]
        have S6 := s8.out _ ((s9.out _ hS0).trans (hb.mono (s9.out _ hS0).size))
        clear hb
        refine hK.out _ _ S6 (fun _ => ?_)
        clear hK K
        refine wpAnyH_ready (rs := [18]) (by kernel_rfl) (by simp) ?_
        refine AllReadyH.cons rfl (fun K hK => ?_) AllReadyH.nil
        go_simp
        refine hK.out _ _ S6 (fun _ => ?_)
        clear hK K
        refine wpAnyH_ready (rs := [19]) (by kernel_rfl) (by simp) ?_
        refine AllReadyH.cons rfl (fun K hK => ?_) AllReadyH.nil
        go_simp
        refine hK.out _ _ S6 (fun _ => ?_)
        clear hK K
        refine wpAnyH_take (i := 20) (v := .slice (some ⟨g3, 0, none⟩) n n) rfl (by kernel_rfl) (by kernel_rfl) (by kernel_rfl) (fun _ _ _ h => h) (Or.inl ⟨by rfl, fun W' hW => by go_simp⟩) S6 ?_
        refine wpAnyH_ready (rs := [21]) (by kernel_rfl) (by simp) ?_
        refine AllReadyH.cons rfl (fun K hK => ?_) AllReadyH.nil
        go_simp
        refine hK.out _ _ S6 (fun _ => ?_)
        clear hK K
        refine wpAnyH_ready (rs := [22]) (by kernel_rfl) (by simp) ?_
        refine AllReadyH.cons rfl (fun K hK => ?_) AllReadyH.nil
        go_simp
        refine (ints_eq (R3.out.keep (s9.out _ S6)) (R4.out.keep (s9.out _ S6)) F3.out.1 F3.out.1 (by have := Hn40.out; omega)).mono ?_
        rintro e U22 ⟨rfl, hb⟩
        rw [decide_eq_true rfl]
        have S7 := s8.out _ ((s9.out _ S6).trans (hb.mono (s9.out _ S6).size))
        clear hb
        refine hK.out _ _ S7 (fun _ => ?_)
        clear hK K
        refine wpAnyH_ready (rs := [23]) (by kernel_rfl) (by simp) ?_
        refine AllReadyH.cons rfl (fun K hK => ?_) AllReadyH.nil
        go_simp
        refine hK.out _ _ S7 (fun _ => ?_)
        clear hK K
        refine wpAnyH_ready (rs := [24]) (by kernel_rfl) (by simp) ?_
        refine AllReadyH.cons rfl (fun K hK => ?_) AllReadyH.nil
        go_simp
        refine hK.out _ _ S7 (fun _ => ?_)
        clear hK K
        refine wpAnyH_take (i := 25) (v := .agg #[.slice a0 n c0, .slice b0 m e0]) rfl (by kernel_rfl) (by kernel_rfl) (by kernel_rfl) (fun _ _ _ h => h) (Or.inl ⟨by rfl, fun W' hW => by have x0 := s1 W' hW; have x1 := s2 W' hW; go_simp⟩) S7 ?_
        refine wpAnyH_take (i := 26) (v := .slice a1 len1 cap1) rfl (by kernel_rfl) (by kernel_rfl) (by kernel_rfl) (fun _ _ _ h => h) (Or.inl ⟨by rfl, fun W' hW => by go_simp⟩) S7 ?_
        refine wpAnyH_take (i := 28) (v := .agg #[.slice a0 n c0, .slice b0 m e0]) rfl (by kernel_rfl) (by kernel_rfl) (by kernel_rfl) (fun _ _ _ h => h) (Or.inl ⟨by rfl, fun W' hW => by have x0 := s1 W' hW; have x1 := s2 W' hW; go_simp⟩) S7 ?_
        refine wpAnyH_take (i := 29) (v := .slice aO ko cO) rfl (by kernel_rfl) (by kernel_rfl) (by kernel_rfl) (fun _ _ _ h => h) (Or.inl ⟨by rfl, fun W' hW => by go_simp⟩) S7 ?_
        refine wpAnyH_ready (rs := [27]) (by kernel_rfl) (by simp) ?_
        refine AllReadyH.cons rfl (fun K hK => ?_) AllReadyH.nil
        go_simp
        refine (whole_any _ _ _ _ _ _ _ _ _ ns0 es0 z1 _ (HS.out _ (s7.out _ S7)).1 (HS.out _ (s7.out _ S7)).2.1).mono ?_
        rintro e U27 ⟨⟨q1, rfl, hq1⟩, hb⟩
        have S8 := s8.out _ ((s9.out _ S7).trans (hb.mono (s9.out _ S7).size))
        have Hq1 := hide hq1
        clear hb hq1
        refine hK.out _ _ S8 (fun _ => ?_)
        clear hK K
        refine wpAnyH_ready (rs := [30]) (by kernel_rfl) (by simp) ?_
        refine AllReadyH.cons rfl (fun K hK => ?_) AllReadyH.nil
        go_simp
        refine (whole_any _ _ _ _ _ _ _ _ _ ns0 es0 out _ (HS.out _ (s7.out _ S8)).1 (HS.out _ (s7.out _ S8)).2.2).mono ?_
        rintro e U30 ⟨⟨q2, rfl, hq2⟩, hb⟩
        have S9 := s8.out _ ((s9.out _ S8).trans (hb.mono (s9.out _ S8).size))
        have Hq2 := hide hq2
        clear hb hq2
        refine hK.out _ _ S9 (fun _ => ?_)
        clear hK K
        obtain rfl : q1 = q2 := by
          have h := Hq2.out
          rw [hcl.out] at h
          rw [Bool.eq_iff_iff, Hq1.out, h]
        have hqq : (q1 == q1) = true := beq_self_eq_true _
        refine wpAnyH_ready (rs := [31]) (by kernel_rfl) (by simp) ?_
        refine AllReadyH.cons rfl (fun K hK => ?_) AllReadyH.nil
        go_simp
        refine hK.out _ _ S9 (fun _ => ?_)
        clear hK K
        refine wpAnyH_ready (rs := [32]) (by kernel_rfl) (by simp) ?_
        refine AllReadyH.cons rfl (fun K hK => ?_) AllReadyH.nil
        go_simp
        refine hK.out _ _ S9 (fun _ => ?_)
        clear hK K
        refine wpAnyH_ready (rs := [33]) (by kernel_rfl) (by simp) ?_
        refine AllReadyH.cons rfl (fun K hK => ?_) AllReadyH.nil
        go_simp
        refine hK.out _ _ S9 (fun _ => ?_)
        clear hK K
        refine wpAnyH_done (by kernel_rfl) ?_ _
        go_wp2_with fail
        go_ret
        exact ⟨by first | rfl | simp, HA.out.trans ((HB.out.trans ((s7.out _ S9).mono HB.out.size)).mono HA.out.size)⟩

set_option maxRecDepth 100000 in
theorem lifted (os : Os) (started : os.Started) (H : Type) (enc : TypeId × Value → H) :
    ReturnsInHanded {} Try.checked os 3 .any (Rows.reachMasksSpec.pre6 enc Try.prog Try.f3 Rows.reachMasksRow.domain false) (Rows.reachMasksSpec.post enc Try.prog Try.f3 false true false false) := by
  refine returnsInHanded_of_change_sized (C := Try.checked) own started (by kernel_rfl) Try.func3
    (ChangeSpec.witness6 (enc := enc) (C := Try.checked) false ⟨#[], #[.agg #[.slice none 0 0, .slice none 0 0], .slice none 0 0, .int .i64 0], []⟩ 8 (by kernel_rfl) (by kernel_rfl) (by kernel_rfl) (by kernel_rfl)) ?_
  intro W base args ds gs before hval0 hW hcnd hsz0 _
  have hval : ∀ (j : Nat) t v, Try.f3.params[j]? = some t → args[j]? = some v → Value.okWide Try.prog W .any base t v := hval0
  have hsz : (DataW.weightsEach Try.prog (Try.f3.params.toList ++ Rows.reachMasksSpec.plain.varTypes Try.prog) (ds ++ gs)).all (· ≤ reachBytes) = true := hsz0
  have hW' := hW
  obtain ⟨p, q, hA0, hV, rfl, hfz, hnd⟩ := hW
  have hA : DataW.TrodAll enc Try.prog W 0 (fun _ => true) true Try.f3.params.toList args.toList ds p := hA0
  rw [Try.params3] at hA hval hsz
  obtain ⟨v0, vs0, d0, ds0, p0, q0, hargs, rfl, rfl, h0, r0⟩ := trodAll_cons hA
  obtain ⟨v1, vs1, d1, ds1, p1, q1, rfl, rfl, rfl, h1, r1⟩ := trodAll_cons r0
  obtain ⟨v2, vs2, d2, ds2, p2, q2, rfl, rfl, rfl, h2, r2⟩ := trodAll_cons r1
  obtain ⟨rfl, rfl, rfl⟩ := trodAll_nil r2
  obtain rfl : args = #[v0, v1, v2] := by cases args; simp_all
  obtain ⟨rfl, rfl⟩ := trodVars_none hV
  have k0 := h0
  have lt0 : ∀ x ∈ p0, x.block < W.heap.size := by obtain ⟨m, hm⟩ := k0; exact DataW.trod_lt m _ _ _ hm
  obtain ⟨cs0, rfl, _⟩ := okWide_struct Try.underlying25 (hval 0 25 v0 rfl rfl)
  obtain ⟨a0, c0, b0, e0, ns0, es0, hcs0, rn0, re0, rs0⟩ : ∃ (a : Option Addr) (c : Nat) (a' : Option Addr) (c' : Nat) (ns : List Nd) (es : List Ed), cs0 = #[.slice a ns.length c, .slice a' es.length c'] ∧ ndE.Rd W (.slice a ns.length c) ns ∧ edE.Rd W (.slice a' es.length c') es ∧ ∀ n ∈ ns, n.name.size ≤ maxLen := by
    obtain ⟨fuel, hf⟩ := h0
    obtain ⟨a, c, a', c', ns, es, he, h1, h2, h3⟩ := layout_of_trod hf
    exact ⟨a, c, a', c', ns, es, by apply Array.toList_inj.1; exact he, h1, h2, h3⟩
  subst hcs0
  obtain ⟨a1, len1, cap1, rfl⟩ := okWide_slice Try.underlying26 (hval 1 26 v1 rfl rfl)
  have k1 := h1
  have lt1 : ∀ x ∈ p1, x.block < W.heap.size := by obtain ⟨m, hm⟩ := k1; exact DataW.trod_lt m _ _ _ hm
  obtain ⟨z1, w1, s1, _⟩ : ∃ zs : List Int, zs.length = len1 ∧ intE.Rd W (.slice a1 len1 cap1) zs ∧ ∀ y ∈ zs, (Lit.int .i64 y).wf = true := by
    obtain ⟨fuel, hf⟩ := h1
    exact rd_of_trod intE (fun y => (Lit.int .i64 y).wf = true) (by kernel_rfl) (fun n cs y hy => int_of_trod hy) hf rfl
  have k2 := h2
  have lt2 : ∀ x ∈ p2, x.block < W.heap.size := by obtain ⟨m, hm⟩ := k2; exact DataW.trod_lt m _ _ _ hm
  obtain ⟨n2, rfl⟩ := okWide_int Try.underlying3 (hval 2 3 v2 rfl rfl)
  have w2 : (Lit.int .i64 n2).wf = true := by
    obtain ⟨fuel, hf⟩ := h2
    obtain ⟨m, e, _, hw⟩ := DataW.trod_int Try.underlying3 hf
    simp [Value.cells] at e
    rw [e]; exact hw
  clear hA0 hval0
  refine (walk a0 b0 c0 e0 ns0 es0 a1 len1 cap1 z1 n2 W rn0 re0 rs0 w1 s1 (bounds_i64 w2)).mono fun e W' ⟨he, bel⟩ => ?_
  subst he
  exact ⟨_, rfl, _, _, _, [], _, [], hW', trodAll_mk1 (shut_bool Try.underlying4 _), (trodAll_cons_mk (Below.trod laidOut (by kernel_rfl) (of_decide_eq_true (by kernel_rfl)) k0 bel lt0) (trodAll_cons_mk (Below.trod laidOut (by kernel_rfl) (of_decide_eq_true (by kernel_rfl)) k1 bel lt1) (trodAll_cons_mk (Below.trod laidOut (by kernel_rfl) (of_decide_eq_true (by kernel_rfl)) k2 bel lt2) trodAll_mk0))), rfl, bel.frame _, fun h => by cases h⟩

theorem over : Rows.reachMasksRow.holds Try.pinned (OpenSpec.ofChange Rows.reachMasksSpec) :=
  OpenClaim.holds_of_wide 3 Try.f3 rfl rfl rfl rfl rfl rfl rfl ⟨rfl, rfl, rfl, rfl, rfl⟩ rfl rfl rfl rfl rfl (by kernel_rfl) Try.func3 (by kernel_rfl)
    (of_decide_eq_true (by kernel_rfl)) (by unfold Func.isWrapper; first | (rw [if_pos (by decide +kernel)]; kernel_rfl) | (rw [if_neg (by decide +kernel)]; exact ⟨rfl, rfl⟩))
    (fun os started H enc _ => lifted os started H enc)

theorem proved : Rows.ReachMasksSaid := over
end Go.Proofs.Ythimeobnfkoefab.reachMasks
