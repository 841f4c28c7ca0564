/- RouteLoops: for every layout and every mask the statement's function returns true: a loop comes back to its node, by open edges and tracks, and is one edge longer than the shortest way back from a next track. It writes nothing that was there. No condition. -/
import Derived.Test.YtmkjpdmhplldjaaAwk
import Derived.Test.YtmkjpdmhplldjaaWlk
namespace Go.Proofs.Ytmkjpdmhplldjaa.routeLoops
open Go.ChangeShapes Go.WideShapes Go.ChangeAt Go.RowKit
set_option linter.unusedVariables false

theorem own : ownKnob Try.prog.godebug = none := by kernel_rfl
theorem laidOut : laidOutB Try.prog = true := by kernel_rfl

/-- an edge by which a loop may begin -/
def cnd (ns : List Nd) (es : List Ed) (ms l : List Int) (t i : Nat) (v : Nat) : Prop := es[i]? = some ((t : Int), (v : Int)) ∧ ((i + 1 : Nat) : Int) ∉ ms ∧ kindAt ns (v : Int) = 1 ∧ 0 ≤ va l v
/-- the least of the first so many edges -/
def Lst (ns : List Nd) (es : List Ed) (ms l : List Int) (t k : Nat) (x : Int) : Prop :=
  (x = -1 ∧ ∀ i v, i < k → ¬ cnd ns es ms l t i v) ∨ ((∃ i v, i < k ∧ cnd ns es ms l t i v ∧ x = va l v + 1) ∧ ∀ i v, i < k → cnd ns es ms l t i v → x ≤ va l v + 1)
theorem Lst.skip {ns : List Nd} {es : List Ed} {ms l : List Int} {t k : Nat} {x : Int} (h : Lst ns es ms l t k x) (hn : ∀ v, cnd ns es ms l t k v → 0 ≤ x ∧ x ≤ va l v + 1) : Lst ns es ms l t (k + 1) x := by
  rcases h with ⟨h1, h2⟩ | ⟨⟨i, v, h1, h2, h3⟩, h4⟩
  · refine .inl ⟨h1, fun i v hi hc => ?_⟩
    rcases Nat.lt_or_ge i k with h' | h'
    · exact h2 i v h' hc
    · obtain rfl : i = k := by omega
      have := hn v hc; omega
  · refine .inr ⟨⟨i, v, by omega, h2, h3⟩, fun i v hi hc => ?_⟩
    rcases Nat.lt_or_ge i k with h' | h'
    · exact h4 i v h' hc
    · obtain rfl : i = k := by omega
      exact (hn v hc).2
theorem Lst.take {ns : List Nd} {es : List Ed} {ms l : List Int} {t k v : Nat} {x : Int} (h : Lst ns es ms l t k x) (hc : cnd ns es ms l t k v) (hx : x < 0 ∨ va l v + 1 < x) : Lst ns es ms l t (k + 1) (va l v + 1) := by
  refine .inr ⟨⟨k, v, by omega, hc, rfl⟩, fun i v' hi hc' => ?_⟩
  rcases Nat.lt_or_ge i k with h' | h'
  · rcases h with ⟨h1, h2⟩ | ⟨⟨j, y, g1, g2, g3⟩, h4⟩
    · exact absurd hc' (h2 i v' h')
    · have := h4 i v' h' hc'
      have := g2.2.2.2
      omega
  · obtain rfl : i = k := by omega
    have e := hc.1
    rw [hc'.1] at e
    simp only [Option.some.injEq, Prod.mk.injEq] at e
    obtain rfl : v' = v := by omega
    omega
theorem Lst.low {ns : List Nd} {es : List Ed} {ms l : List Int} {t k : Nat} {x : Int} (h : Lst ns es ms l t k x) : -1 ≤ x := by
  rcases h with ⟨h1, _⟩ | ⟨⟨i, v, h1, h2, h3⟩, _⟩
  · omega
  · have := h2.2.2.2; omega
/-- the least is the loop's length -/
theorem Lst.loop {ns : List Nd} {es : List Ed} {ms l : List Int} {t n : Nat} {x : Int} {r : Option (List Int)} (g : Gr ns es ms l t n) (hs : ∀ e ∈ es, e.1 ≠ e.2) (h : Lst ns es ms l t es.length x) (hL : Lp ns es ms l t n r) : (r = none ∧ x = -1) ∨ ∃ xs, r = some xs ∧ x = (xs.length : Int) ∧ 0 ≤ x ∧ wlk es (t : Int) xs = some (t : Int) := by
  have cn : ∀ i v, cnd ns es ms l t i v → ∃ j : Nat, va l v = (j : Int) ∧ 1 ≤ j ∧ j < n ∧ okD ns es ms l t (t : Int) (j : Int) i = true := fun i v hc => by
    obtain ⟨j, hj⟩ := Int.eq_ofNat_of_zero_le hc.2.2.2
    refine ⟨j, hj, ?_, by have := g.high v; omega, okD_iff.2 ⟨(v : Int), hc.1, hc.2.1, by rw [Int.toNat_natCast]; exact hj, .inr hc.2.2.1⟩⟩
    rcases Nat.eq_zero_or_pos j with h0 | h0
    · subst h0
      have := g.only (by simpa using hj)
      exact absurd (by simp [this]) (hs _ (List.mem_of_getElem? hc.1))
    · exact h0
  have no : ∀ j : Nat, stp ns es ms l t (t : Int) (j : Int) = 0 → ∀ i, okD ns es ms l t (t : Int) (j : Int) i = false := fun j h0 i => by
    rcases stp_cases (ns := ns) (es := es) (ms := ms) (l := l) (t := t) (t : Int) (j : Int) with ⟨_, h2 | h2⟩ | ⟨_, i', h1, _⟩
    · omega
    · exact h2 i
    · rw [h1] at h0; omega
  have lt : ∀ i v, cnd ns es ms l t i v → i < es.length := fun i v hc => by
    rcases Nat.lt_or_ge i es.length with h' | h'
    · exact h'
    · rw [cnd, List.getElem?_eq_none h'] at hc; cases hc.1
  rcases hL with ⟨rfl, h1⟩ | ⟨j, h1, h2, h3, h4, rfl⟩
  · left
    refine ⟨rfl, ?_⟩
    rcases h with ⟨h, _⟩ | ⟨⟨i, v, _, hc, _⟩, _⟩
    · exact h
    · obtain ⟨j, _, g2, g3, g4⟩ := cn i v hc
      rw [no j (h1 j g2 g3) i] at g4; cases g4
  · right
    obtain ⟨_, i, v, e1, e2, e3, e4, e5, e6, e7⟩ := stp_pos h4
    have hb := inB_at g.inb e3
    obtain ⟨y, rfl⟩ := Int.eq_ofNat_of_zero_le hb.2.2.1
    rw [Int.toNat_natCast] at e5 e7
    have hc : cnd ns es ms l t i y := ⟨e3, e4, by
      rcases e6 with e6 | e6
      · have : y = t := by omega
        subst this
        rw [g.zero] at e5; omega
      · exact e6, by omega⟩
    have hge : ∀ i' v', cnd ns es ms l t i' v' → (j : Int) ≤ va l v' := fun i' v' hc' => by
      obtain ⟨j', q1, q2, q3, q4⟩ := cn i' v' hc'
      rcases Nat.lt_or_ge j' j with h' | h'
      · rw [no j' (h3 j' q2 h') i'] at q4; cases q4
      · omega
    refine ⟨_, rfl, ?_, ?_, ?_⟩
    · rw [List.length_cons, pth_len]
      rcases h with ⟨_, h⟩ | ⟨⟨i', v', _, hc', hx⟩, hmin⟩
      · exact absurd hc (h i y (lt i y hc))
      · have q1 := hmin i y (lt i y hc) hc
        have q2 := hge i' v' hc'
        omega
    · rcases h with ⟨_, h⟩ | ⟨⟨i', v', _, hc', hx⟩, hmin⟩
      · exact absurd hc (h i y (lt i y hc))
      · have := hc'.2.2.2; omega
    · unfold wlk
      rw [e7, e1, if_pos (by omega), show ((((i + 1 : Nat) : Int) - 1).toNat) = i by omega, e3]
      simp only [if_true]
      exact g.walk j y e5

set_option maxRecDepth 100000 in
set_option maxHeartbeats 8000000 in
theorem walk (a0 b0 : Option Addr) (c0 e0 : Nat) (ns0 : List Nd) (es0 : List Ed) (a1 : Option Addr) (len1 cap1 : Nat) (z1 : List Int) (w : World) (rn0 : ndE.Rd w (.slice a0 ns0.length c0) ns0) (re0 : edE.Rd w (.slice b0 es0.length e0) es0) (rs0 : ∀ p ∈ ns0, p.name.size ≤ maxLen) (w1 : z1.length = len1) (s1 : intE.Rd w (.slice a1 len1 cap1) z1) :
    Calls Try.prog 8 #[.agg #[.slice a0 ns0.length c0, .slice b0 es0.length e0], .slice a1 len1 cap1] w fun e w' => e = .returned (.bool true) ∧ Below w.heap.size w w' := by
  obtain ⟨n, hn⟩ : ∃ n, ns0.length = n := ⟨_, rfl⟩
  obtain ⟨m, hm⟩ : ∃ m, es0.length = m := ⟨_, rfl⟩
  rw [hn] at rn0 ⊢
  rw [hm] at re0 ⊢
  obtain ⟨W0, hW0⟩ : ∃ W0, w.alloc (.cells #[.slice a0 n c0, .slice b0 m e0] 25) = W0 := ⟨_, rfl⟩
  have bA : Below w.heap.size w W0 := by rw [← hW0]; exact (Below.refl _ _).alloc (Nat.le_refl _) _
  have hbox : W0.heap[w.heap.size]? = some (.cells #[.slice a0 n c0, .slice b0 m e0] 25) := by rw [← hW0]; exact heap_new _ _
  have HBOX := hide hbox
  have HA := hide bA
  have HW0 := hide hW0
  have K9 := hide awake_any
  have HR : Hid (∀ W, Below W0.heap.size W0 W → ndE.Rd W (.slice a0 n c0) ns0 ∧ edE.Rd W (.slice b0 m e0) es0 ∧ intE.Rd W (.slice a1 len1 cap1) z1) := hide (fun W h => have b := bA.trans (h.mono bA.size); ⟨rn0.keep b, re0.keep b, s1.keep b⟩)
  have K10 : Hid (∀ W, Below W0.heap.size W0 W → Calls Try.prog 25 #[.agg #[.slice a0 n c0, .slice b0 m e0], .slice a1 len1 cap1] W fun e w' => e = .returned (.bool (decide (len1 ≤ 200) && good ns0 es0)) ∧ Below W.heap.size W w') := hide (fun W h => fits_any a0 b0 a1 c0 e0 cap1 n m len1 ns0 es0 W hn hm (HR.out W h).1 (HR.out W h).2.1 rs0)
  have HG : Hid ((decide (len1 ≤ 200) && good ns0 es0) = true → (∀ W, Below W0.heap.size W0 W → Ly W a0 b0 c0 e0 n m ns0 es0 ∧ Mk W a1 cap1 len1 z1) ∧ len1 ≤ 200 ∧ n ≤ 40 ∧ 1 ≤ n ∧ m ≤ 120 ∧ ∀ e ∈ es0, e.1 ≠ e.2) := hide (fun h => by
    simp only [Bool.and_eq_true, decide_eq_true_eq] at h
    have h1 := h.1
    have h2 := h.2
    have hg := good_ly h2 hn hm (HR.out _ (Below.refl _ _)).1 (HR.out _ (Below.refl _ _)).2.1
    refine ⟨fun W hW => ⟨(good_ly h2 hn hm (HR.out W hW).1 (HR.out W hW).2.1).1, w1, (HR.out W hW).2.2, by omega⟩, h1, hg.2.2.1, hg.2.1, hg.2.2.2, ?_⟩
    unfold good goodE at h2
    simp only [Bool.and_eq_true, decide_eq_true_eq] at h2
    intro e he
    have h3 := h2.2.2.1 e he
    unfold edB at h3
    simp only [Bool.and_eq_true, decide_eq_true_eq] at h3
    exact h3.1.2)
  have Hw1 := hide w1
  clear rn0 re0 rs0 w1 s1 hn hm bA hbox hW0
  generalize (decide (len1 ≤ 200) && good ns0 es0) = gd at *
  go_enter Try.func8, Try.ntmps8
  go_upto_region 1 with fail
  rw [HW0.out]
  clear HW0
  go_upto_region 3 with (go_at_call 9; refine (K9.out _).mono ?_; rintro e W1 ⟨rfl, hb1⟩; have Hb1 := hide hb1; obtain ⟨x0, x1⟩ := layg HBOX.out hb1; clear hb1)
  cases gd with
  | false =>
    go_wp2_with (go_at_call 25; refine (K10.out _ Hb1.out).mono ?_; rintro e W2 ⟨rfl, hb2⟩; have Hb2 := hide (Hb1.out.trans (hb2.mono Hb1.out.size)); clear hb2)
    go_ret
    exact ⟨rfl, HA.out.trans (Hb2.out.mono HA.out.size)⟩
  | true =>
    obtain ⟨hLM, hlen, hn40, hn1, hm12, hself⟩ := HG.out rfl
    have HLM := hide hLM
    have Hlen := hide hlen
    have l1 : (len1 : Int) ≤ 200 := by omega
    have l2 : (n : Int) ≤ 40 := by omega
    have l4 : (m : Int) ≤ 120 := by omega
    have Hn40 := hide hn40
    have Hm12 := hide hm12
    have Hself := hide hself
    clear hLM hlen hn40 hn1 hm12 hself HG HR
    by_cases hn2 : n > 25
    case pos =>
      have f6 : (n : Int) > 25 := by omega
      go_wp2_with (go_at_call 25; refine (K10.out _ Hb1.out).mono ?_; rintro e W2 ⟨rfl, hb2⟩; have Hb2 := hide (Hb1.out.trans (hb2.mono Hb1.out.size)); obtain ⟨x0, x1⟩ := layg HBOX.out Hb2.out; clear hb2)
      go_ret
      exact ⟨rfl, HA.out.trans (Hb2.out.mono HA.out.size)⟩
    case neg =>
    have f6 : ¬ (n : Int) > 25 := by omega
    clear hn2
    go_upto_region 5 with (go_at_call 25; refine (K10.out _ Hb1.out).mono ?_; rintro e W5 ⟨rfl, hb2⟩; have Hb5 := hide (Hb1.out.trans (hb2.mono Hb1.out.size)); obtain ⟨x0, x1⟩ := layg HBOX.out Hb5.out; clear hb2)
    clear K9 K10 Hb1
    have HLW : Hid (∀ W, Below W5.heap.size W5 W → Ly W a0 b0 c0 e0 n m ns0 es0 ∧ Mk W a1 cap1 len1 z1) := hide (fun W h => HLM.out W (Hb5.out.trans (h.mono Hb5.out.size)))
    have HXW : Hid (∀ W, Below W5.heap.size W5 W → W.cell? ⟨w.heap.size, 0, none⟩ = some (.slice a0 n c0) ∧ W.cell? ⟨w.heap.size, 1, none⟩ = some (.slice b0 m e0)) := hide (fun W h => layg HBOX.out (Hb5.out.trans (h.mono Hb5.out.size)))
    have Hm : Hid (es0.length = m) := hide (HLM.out _ Hb5.out).1.hm
    have K27 : Hid (∀ W (t : Nat), Below W5.heap.size W5 W → t < n → Calls Try.prog 27 #[.agg #[.slice a0 n c0, .slice b0 m e0], .slice a1 len1 cap1, .int .i64 (t : Int)] W fun e w' => (∃ g l, e = .returned (.tuple #[.slice (some ⟨g, 0, none⟩) n n, .int .i64 0]) ∧ intE.Own w' W.heap.size (.slice (some ⟨g, 0, none⟩) n n) l ∧ Gr ns0 es0 z1 l t n) ∧ Below W.heap.size W w') := hide (fun W t h ht => (to_ok a0 b0 a1 c0 e0 cap1 n m len1 t ns0 es0 z1 W (HLW.out W h).1 (HLW.out W h).2 ht).mono (by
      rintro e w' ⟨⟨g, l, rfl, ho, hf⟩, hb⟩
      exact ⟨⟨g, l, rfl, ho, (HLW.out W h).1.hE, by rw [Hm.out]; exact hf, ht⟩, hb⟩))
    have K19 : Hid (∀ W (t : Nat) l, Below W5.heap.size W5 W → t < n → Gr ns0 es0 z1 l t n → Calls Try.prog 19 #[.agg #[.slice a0 n c0, .slice b0 m e0], .slice a1 len1 cap1, .int .i64 (t : Int)] W fun e w' => (∃ aP kP cP cd, e = .returned (.tuple #[.slice aP kP cP, .int .i64 cd]) ∧ ((cd = 80 ∧ kP = 0 ∧ aP = none ∧ cP = 0 ∧ ∀ x, Lst ns0 es0 z1 l t m x → x = -1) ∨ (cd = 0 ∧ ∃ xs : List Int, xs.length = kP ∧ kP ≤ 1000 ∧ intE.Rd w' (.slice aP kP cP) xs ∧ wlk es0 (t : Int) xs = some (t : Int) ∧ ∀ x, Lst ns0 es0 z1 l t m x → x = (kP : Int)))) ∧ Below W.heap.size W w') := hide (fun W t l h ht hg => (loop_ok a0 b0 a1 c0 e0 cap1 n m len1 t ns0 es0 z1 W (HLW.out W h).1 (HLW.out W h).2 ht).mono (by
      rintro e w' ⟨⟨l2, hg2, h2⟩, hb⟩
      obtain rfl := hg2.far.uniq hg.far
      rcases h2 with ⟨h3, rfl⟩ | ⟨v, xs, h3, rfl, h4⟩
      · refine ⟨⟨_, _, _, _, rfl, .inl ⟨rfl, rfl, rfl, rfl, fun x hx => ?_⟩⟩, hb⟩
        rw [← Hm.out] at hx
        rcases hx.loop hg2 Hself.out h3 with ⟨_, h5⟩ | ⟨ys, h5, _⟩
        · exact h5
        · cases h5
      · obtain ⟨aP, cP, rfl⟩ := h4.rd.form
        have hw : wlk es0 (t : Int) xs = some (t : Int) ∧ xs.length ≤ 1000 := by
          rcases h3 with ⟨h3, _⟩ | ⟨j, q1, q2, q3, q4, q5⟩
          · cases h3
          · obtain rfl := Option.some.inj q5
            obtain ⟨_, i, v, e1, e2, e3, e4, e5, e6, e7⟩ := stp_pos q4
            have hb := inB_at hg2.inb e3
            obtain ⟨y, rfl⟩ := Int.eq_ofNat_of_zero_le hb.2.2.1
            rw [Int.toNat_natCast] at e5 e7
            refine ⟨?_, by rw [List.length_cons, pth_len]; have := Hn40.out; omega⟩
            unfold wlk
            rw [e7, e1, if_pos (by omega), show ((((i + 1 : Nat) : Int) - 1).toNat) = i by omega, e3]
            simp only [if_true]
            exact hg2.walk j y e5
        refine ⟨⟨aP, _, cP, _, rfl, .inr ⟨rfl, xs, rfl, hw.2, h4.rd, hw.1, fun x hx => ?_⟩⟩, hb⟩
        rw [← Hm.out] at hx
        rcases hx.loop hg2 Hself.out h3 with ⟨h5, _⟩ | ⟨ys, h5, h6, _⟩
        · cases h5
        · obtain rfl := Option.some.inj h5
          exact h6))
    have K23 : Hid (∀ (W : World) (t : Nat) (ps : List Int) aX kX cX, Below W5.heap.size W5 W → t < n → ps.length = kX → kX ≤ 1000 → intE.Rd W (.slice aX kX cX) ps → wlk es0 (t : Int) ps = some (t : Int) → Calls Try.prog 23 #[.agg #[.slice a0 n c0, .slice b0 m e0], .int .i64 (t : Int), .slice aX kX cX] W fun e w' => e = .returned (.tuple #[.int .i64 (t : Int), .int .i64 0]) ∧ Below W.heap.size W w') := hide (fun W t ps aX kX cX h ht hl hk hr hw => by
      have h0 := walk_ok a0 b0 aX c0 e0 n m kX cX es0 (t : Int) ps W (HLW.out W h).1.hm (HLW.out W h).1.hu (by have := Hm12.out; omega) hl hr (by omega) ⟨by omega, by omega⟩
      rw [hw] at h0
      exact h0)
    have qn : ((n : Int) != (n : Int)) = false := bne_self_eq_false _
    go_wp2_with fail
    go_loopw [33] (fun v33 wr => ∃ k : Nat, k ≤ n ∧ v33 = .int .i64 k ∧ Hid (Below W5.heap.size W5 wr)) (fun v33 _ => n - (intOf v33).toNat)
    case atStart => exact ⟨0, by omega, rfl, hide (Below.refl _ _)⟩
    case round =>
      obtain ⟨t, hk, rfl, HB⟩ := hrel
      obtain ⟨wA, hwA⟩ : ∃ W, W = wr := ⟨_, rfl⟩
      rw [← hwA] at HB
      rw [← hwA]
      clear hwA
      obtain ⟨x0, x1⟩ := HXW.out _ HB.out
      by_cases hlt : t < n
      case neg =>
        obtain rfl : t = n := by omega
        have j1 : ¬ (t : Int) < (t : Int) := by omega
        go_wp2_with fail
        go_ret
        exact ⟨rfl, HA.out.trans ((Hb5.out.trans (HB.out.mono Hb5.out.size)).mono HA.out.size)⟩
      case pos =>
      have j0 : (0 : Int) ≤ (t : Int) := by omega
      have j1 : (t : Int) < (n : Int) := by omega
      have Htn := hide hlt
      go_upto_region 9 with (go_at_call 27; refine (K27.out _ t HB.out Htn.out).mono ?_; rintro e W6 ⟨⟨g, l, rfl, ho6, hg6⟩, hb6⟩; have HO6 := hide ho6; have HG6 := hide hg6; have HB6 := hide (HB.out.trans (hb6.mono HB.out.size)); obtain ⟨x0, x1⟩ := HXW.out _ HB6.out; clear hb6 ho6 hg6)
      go_upto_region 10 with (go_at_call 19; refine (K19.out _ t l HB6.out Htn.out HG6.out).mono ?_; rintro e W7 ⟨⟨aP, kP, cP, cd, rfl, hcs⟩, hb7⟩; have Hcs := hide hcs; have HO7 := hide (HO6.out.keep hb7); have HB7 := hide (HB6.out.trans (hb7.mono HB6.out.size)); obtain ⟨x0, x1⟩ := HXW.out _ HB7.out; clear hb7 hcs)
      have HFW : Hid (∀ W, Below W7.heap.size W7 W → ∀ v, v < n → W.cell? ⟨g, v, none⟩ = some (.int .i64 (va l v))) := hide (fun W h v hv => ((HO7.out.keep h).at1 (Value.int .i64) (fun _ => rfl) rfl v _ (va_at l v (by rw [HG6.out.far.1]; exact hv))).1)
      go_wp2_with fail
      go_loopw [10, 63] (fun v10 v63 wr => ∃ (k : Nat) (x : Int), k ≤ m ∧ v10 = .int .i64 x ∧ v63 = .int .i64 k ∧ Hid (Lst ns0 es0 z1 l t k x) ∧ Hid (Below W7.heap.size W7 wr)) (fun _ v63 _ => m - (intOf v63).toNat)
      case atStart => exact ⟨0, -1, by omega, rfl, rfl, hide (.inl ⟨rfl, fun i v hi => by omega⟩), hide (Below.refl _ _)⟩
      case round =>
        obtain ⟨k, x, hk2, rfl, rfl, HX, HBk⟩ := hrel
        obtain ⟨wB, hwB⟩ : ∃ W, W = wr := ⟨_, rfl⟩
        rw [← hwB] at HBk
        rw [← hwB]
        clear hwB
        have HB8 : Hid (Below W5.heap.size W5 wB) := hide (HB7.out.trans (HBk.out.mono HB7.out.size))
        obtain ⟨x0, x1⟩ := HXW.out _ HB8.out
        by_cases hlt2 : k < m
        case neg =>
          obtain rfl : k = m := by omega
          have j1' : ¬ (k : Int) < (k : Int) := by omega
          rcases Hcs.out with ⟨rfl, rfl, rfl, rfl, hx⟩ | ⟨rfl, xs, h1, h2, h3, h4, hx⟩
          · obtain rfl := hx x HX.out
            have q9 : ((t : Int) != (t : Int)) = false := bne_self_eq_false _
            clear hx Hcs
            go_wp2_with (go_at_call 23; refine (K23.out _ t [] _ 0 _ HB8.out Htn.out rfl (by omega) (.inl ⟨rfl, rfl⟩) rfl).mono ?_; rintro e W9 ⟨rfl, hb9⟩; have HB9 := hide (HB8.out.trans (hb9.mono HB8.out.size)); clear hb9)
            go_roundw
            case rel => exact ⟨t + 1, by omega, by go_num, HB9⟩
            case measure => simp [intOf]; omega
          · obtain rfl := hx x HX.out
            have H1 := hide h1
            have H2 := hide h2
            have H3 := hide (h3.keep HBk.out)
            have H4 := hide h4
            have q8 : ((kP : Int) != (kP : Int)) = false := bne_self_eq_false _
            have q9 : ((t : Int) != (t : Int)) = false := bne_self_eq_false _
            have q7 : (kP : Int) ≥ 0 := by omega
            have q6 : (0 : Int) ≤ (kP : Int) := by omega
            clear hx Hcs h1 h2 h3 h4
            go_wp2_with (go_at_call 23; refine (K23.out _ t xs _ kP _ HB8.out Htn.out H1.out H2.out H3.out H4.out).mono ?_; rintro e W9 ⟨rfl, hb9⟩; have HB9 := hide (HB8.out.trans (hb9.mono HB8.out.size)); clear hb9)
            go_roundw
            case rel => exact ⟨t + 1, by omega, by go_num, HB9⟩
            case measure => simp [intOf]; omega
        case pos =>
        obtain ⟨p, hp⟩ : ∃ p, es0[k]? = some p := ⟨_, List.getElem?_eq_getElem (by rw [Hm.out]; exact hlt2)⟩
        obtain ⟨y0, y1⟩ := p
        have hbb := inB_at HG6.out.inb hp
        obtain ⟨s, rfl⟩ := Int.eq_ofNat_of_zero_le hbb.1
        obtain ⟨v, rfl⟩ := Int.eq_ofNat_of_zero_le hbb.2.2.1
        obtain ⟨be, oe, hae, ce0, ce1⟩ := ed_at (HLW.out wB HB8.out).1.hu k ((s : Int), (v : Int)) hp
        subst hae
        simp only at ce0 ce1
        have k0 : (0 : Int) ≤ (k : Int) := by omega
        have k1 : (k : Int) < (m : Int) := by omega
        have p0 : (0 : Int) ≤ (v : Int) := by omega
        have p1 : (v : Int) < (n : Int) := hbb.2.2.2
        have Hvn : Hid (v < n) := hide (by omega)
        have Hp := hide hp
        clear hp hbb
        have b9 : Below wB.heap.size wB (wB.alloc (.cells #[.int .i64 (s : Int), .int .i64 (v : Int)] 38)) := (Below.refl _ _).alloc (Nat.le_refl _) _
        have HB9 := hide (HB8.out.trans (b9.mono HB8.out.size))
        have HBk9 := hide (HBk.out.trans (b9.mono HBk.out.size))
        have HE9 := hide (heap_new wB (.cells #[.int .i64 (s : Int), .int .i64 (v : Int)] 38))
        go_upto_region 18 with fail
        obtain ⟨W9, hW9⟩ : ∃ W9, wB.alloc (.cells #[.int .i64 (s : Int), .int .i64 (v : Int)] 38) = W9 := ⟨_, rfl⟩
        obtain ⟨q, hq⟩ : ∃ q, wB.heap.size = q := ⟨_, rfl⟩
        rw [hW9] at HB9 HBk9 HE9
        rw [hq] at HE9
        rw [hW9, hq]
        clear hW9 hq b9 x0 x1 ce0 ce1
        have HMm : Hid (intE.Rd W9 (.slice a1 len1 cap1) z1) := hide (HLW.out W9 HB9.out).2.hM
        have HMl : Hid (z1.length = len1) := hide (HLW.out W9 HB9.out).2.hk
        go_loopw [13, 70] (fun v13 v70 wr => ∃ (z : Nat) (op : Bool), z ≤ len1 ∧ v13 = .bool op ∧ v70 = .int .i64 (z : Int) ∧ wr = W9 ∧ Hid (op = decide ((k : Int) + 1 ∉ z1.take z))) (fun _ v70 _ => len1 - (intOf v70).toNat)
        case atStart => exact ⟨0, true, by omega, rfl, rfl, rfl, hide (by simp)⟩
        case round =>
          obtain ⟨z, op, hz, rfl, rfl, hw, HZ⟩ := hrel
          have hw' := hw.symm
          clear hw
          subst hw'
          by_cases hzl : z < len1
          · obtain ⟨d, hd⟩ : ∃ d, z1[z]? = some d := ⟨_, List.getElem?_eq_getElem (by rw [HMl.out]; exact hzl)⟩
            obtain ⟨bm, om, hbm, cm⟩ := int_at HMm.out z d hd
            subst hbm
            have z0 : (0 : Int) ≤ (z : Int) := by omega
            have z1' : (z : Int) < (len1 : Int) := by omega
            have Htk : Hid (z1.take (z + 1) = z1.take z ++ [d]) := hide (by rw [List.take_add_one, hd]; rfl)
            clear hd
            cases op with
            | false =>
              have HZ1 : Hid (false = decide ((k : Int) + 1 ∉ z1.take (z + 1))) := hide (by
                have h := HZ.out
                rw [Htk.out]
                simp only [Bool.false_eq, decide_eq_false_iff_not, Decidable.not_not] at h ⊢
                exact List.mem_append_left _ h)
              go_wp2_with fail
              go_roundw
              case rel => exact ⟨z + 1, false, by omega, rfl, by go_num, trivial, HZ1⟩
              case measure => simp [intOf]; omega
            | true =>
              have HZ1 : Hid ((d != (k : Int) + 1) = decide ((k : Int) + 1 ∉ z1.take (z + 1))) := hide (by
                have h := HZ.out
                rw [Htk.out]
                simp only [Bool.true_eq, decide_eq_true_eq] at h
                by_cases e : d = (k : Int) + 1
                · subst e
                  simp
                · rw [bne_iff_ne.2 e]
                  symm
                  simp only [decide_eq_true_eq, List.mem_append, List.mem_singleton, not_or]
                  exact ⟨h, fun h => e h.symm⟩)
              go_wp2_with fail
              go_roundw
              case rel => exact ⟨z + 1, _, by omega, rfl, by go_num, trivial, HZ1⟩
              case measure => simp [intOf]; omega
          · obtain rfl : z = len1 := by omega
            have z1' : ¬ (z : Int) < (z : Int) := by omega
            have HZ : Hid (op = decide ((k : Int) + 1 ∉ z1)) := hide (by have := HZ.out; rwa [List.take_of_length_le (by rw [HMl.out]; omega)] at this)
            obtain ⟨x0, x1⟩ := HXW.out _ HB9.out
            obtain ⟨w0, w1⟩ := And.intro (cells_at HE9.out 0).1 (cells_at HE9.out 1).1
            simp at w0 w1
            have yf := HFW.out _ HBk9.out v Hvn.out
            obtain ⟨bn, on, hbn, ck⟩ := (show ∃ b off, a0 = some ⟨b, off, none⟩ ∧ W9.cell? ⟨b, off + v * 3 + 1, none⟩ = some (.int .i64 (kindAt ns0 (v : Int))) from by
              have hl : v < ns0.length := by rw [(HLW.out W9 HB9.out).1.hn]; exact Hvn.out
              obtain ⟨b, off, h1, _, h2, _⟩ := nd_at (HLW.out W9 HB9.out).1.hv v _ (List.getElem?_eq_getElem hl)
              exact ⟨b, off, h1, by rw [kind_at (List.getElem?_eq_getElem hl)]; exact h2⟩)
            subst hbn
            have eK : ((k + 1 : Nat) : Int) = (k : Int) + 1 := by omega
            have Hcn : Hid (∀ v', cnd ns0 es0 z1 l t k v' → v' = v ∧ s = t ∧ (k : Int) + 1 ∉ z1 ∧ kindAt ns0 (v : Int) = 1 ∧ 0 ≤ va l v) := hide (fun v' hc => by
              have h1 := hc.1
              rw [Hp.out] at h1
              simp only [Option.some.injEq, Prod.mk.injEq] at h1
              obtain rfl : v = v' := by omega
              exact ⟨rfl, by omega, by rw [← eK]; exact hc.2.1, hc.2.2.1, hc.2.2.2⟩)
            have Hcy : Hid (s = t → (k : Int) + 1 ∉ z1 → kindAt ns0 (v : Int) = 1 → 0 ≤ va l v → cnd ns0 es0 z1 l t k v) := hide (fun h1 h2 h3 h4 => ⟨by rw [← h1]; exact Hp.out, by rw [eK]; exact h2, h3, h4⟩)
            have Hlow := hide HX.out.low
            have hvh : va l v < (n : Int) := HG6.out.high v
            have hvl : -1 ≤ va l v := HG6.out.low v
            have HT : Hid (cnd ns0 es0 z1 l t k v → x < 0 ∨ va l v + 1 < x → Lst ns0 es0 z1 l t (k + 1) (va l v + 1)) := hide (fun hc h => HX.out.take hc h)
            have HSK : Hid ((∀ v', cnd ns0 es0 z1 l t k v' → 0 ≤ x ∧ x ≤ va l v' + 1) → Lst ns0 es0 z1 l t (k + 1) x) := hide (fun h => HX.out.skip h)
            obtain ⟨vv, hvv⟩ : ∃ vv, va l v = vv := ⟨_, rfl⟩
            have Hvv := hide hvv
            rw [hvv] at yf Hcn Hcy hvh hvl HT
            clear hvv
            clear eK
            cases op with
            | false =>
              have HX1 := hide (HSK.out (fun v' hc => absurd (Hcn.out v' hc).2.2.1 (fun h => by have := HZ.out; rw [decide_eq_true h] at this; cases this)))
              go_wp2_with fail
              go_roundw
              case rel => exact ⟨k + 1, x, by omega, rfl, by go_num, HX1, HBk9⟩
              case measure => simp [intOf]; omega
            | true =>
              have hop : (k : Int) + 1 ∉ z1 := by have := HZ.out; simp only [Bool.true_eq, decide_eq_true_eq] at this; exact this
              have Hop := hide hop
              clear hop
              by_cases hst : s = t
              case neg =>
                have qs : ((s : Int) == (t : Int)) = false := beq_eq_false_iff_ne.2 (by omega)
                have HX1 := hide (HSK.out (fun v' hc => absurd (Hcn.out v' hc).2.1 hst))
                go_wp2_with fail
                go_roundw
                case rel => exact ⟨k + 1, x, by omega, rfl, by go_num, HX1, HBk9⟩
                case measure => simp [intOf]; omega
              case pos =>
              have qs : ((s : Int) == (t : Int)) = true := by rw [hst]; exact beq_self_eq_true _
              have Hst := hide hst
              clear hst
              by_cases hkd : kindAt ns0 (v : Int) = 1
              case neg =>
                have qk : (kindAt ns0 (v : Int) == 1) = false := beq_eq_false_iff_ne.2 hkd
                have HX1 := hide (HSK.out (fun v' hc => absurd (Hcn.out v' hc).2.2.2.1 hkd))
                clear hkd
                go_wp2_with fail
                go_roundw
                case rel => exact ⟨k + 1, x, by omega, rfl, by go_num, HX1, HBk9⟩
                case measure => simp [intOf]; omega
              case pos =>
              have Hkd := hide hkd
              rw [hkd] at ck
              clear hkd
              by_cases hv0 : 0 ≤ vv
              case neg =>
                have qv : ¬ vv ≥ 0 := hv0
                have HX1 := hide (HSK.out (fun v' hc => absurd (Hcn.out v' hc).2.2.2.2 hv0))
                go_wp2_with fail
                go_roundw
                case rel => exact ⟨k + 1, x, by omega, rfl, by go_num, HX1, HBk9⟩
                case measure => simp [intOf]; omega
              case pos =>
              have qv : vv ≥ 0 := hv0
              have HC := hide (Hcy.out Hst.out Hop.out Hkd.out hv0)
              by_cases hx0 : x < 0
              · have HX1 := hide (HT.out HC.out (.inl hx0))
                go_wp2_with fail
                go_roundw
                case rel => exact ⟨k + 1, vv + 1, by omega, rfl, by go_num, HX1, HBk9⟩
                case measure => simp [intOf]; omega
              · by_cases hx1 : vv + 1 < x
                · have HX1 := hide (HT.out HC.out (.inr hx1))
                  go_wp2_with fail
                  go_roundw
                  case rel => exact ⟨k + 1, vv + 1, by omega, rfl, by go_num, HX1, HBk9⟩
                  case measure => simp [intOf]; omega
                · have HX1 := hide (HSK.out (fun v' hc => ⟨by omega, by
                    have e := (Hcn.out v' hc).1
                    rw [e, Hvv.out]
                    omega⟩))
                  go_wp2_with fail
                  go_roundw
                  case rel => exact ⟨k + 1, x, by omega, rfl, by go_num, HX1, HBk9⟩
                  case measure => simp [intOf]; omega

set_option maxRecDepth 100000 in
theorem lifted (os : Os) (started : os.Started) (H : Type) (enc : TypeId × Value → H) :
    ReturnsInHanded {} Try.checked os 8 .any (Rows.routeLoopsSpec.pre6 enc Try.prog Try.f8 Rows.routeLoopsRow.domain false) (Rows.routeLoopsSpec.post enc Try.prog Try.f8 false true false false) := by
  refine returnsInHanded_of_change_sized (C := Try.checked) own started (by kernel_rfl) Try.func8
    (ChangeSpec.witness6 (enc := enc) (C := Try.checked) false ⟨#[], #[.agg #[.slice none 0 0, .slice none 0 0], .slice none 0 0], []⟩ 8 (by kernel_rfl) (by kernel_rfl) (by kernel_rfl) (by kernel_rfl)) ?_
  intro W base args ds gs before hval0 hW hcnd hsz0 _
  have hval : ∀ (j : Nat) t v, Try.f8.params[j]? = some t → args[j]? = some v → Value.okWide Try.prog W .any base t v := hval0
  have hsz : (DataW.weightsEach Try.prog (Try.f8.params.toList ++ Rows.routeLoopsSpec.plain.varTypes Try.prog) (ds ++ gs)).all (· ≤ reachBytes) = true := hsz0
  have hW' := hW
  obtain ⟨p, q, hA0, hV, rfl, hfz, hnd⟩ := hW
  have hA : DataW.TrodAll enc Try.prog W 0 (fun _ => true) true Try.f8.params.toList args.toList ds p := hA0
  rw [Try.params8] at hA hval hsz
  obtain ⟨v0, vs0, d0, ds0, p0, q0, hargs, rfl, rfl, h0, r0⟩ := trodAll_cons hA
  obtain ⟨v1, vs1, d1, ds1, p1, q1, rfl, rfl, rfl, h1, r1⟩ := trodAll_cons r0
  obtain ⟨rfl, rfl, rfl⟩ := trodAll_nil r1
  obtain rfl : args = #[v0, v1] := by cases args; simp_all
  obtain ⟨rfl, rfl⟩ := trodVars_none hV
  have k0 := h0
  have lt0 : ∀ x ∈ p0, x.block < W.heap.size := by obtain ⟨m, hm⟩ := k0; exact DataW.trod_lt m _ _ _ hm
  obtain ⟨cs0, rfl, _⟩ := okWide_struct Try.underlying25 (hval 0 25 v0 rfl rfl)
  obtain ⟨a0, c0, b0, e0, ns0, es0, hcs0, rn0, re0, rs0⟩ : ∃ (a : Option Addr) (c : Nat) (a' : Option Addr) (c' : Nat) (ns : List Nd) (es : List Ed), cs0 = #[.slice a ns.length c, .slice a' es.length c'] ∧ ndE.Rd W (.slice a ns.length c) ns ∧ edE.Rd W (.slice a' es.length c') es ∧ ∀ n ∈ ns, n.name.size ≤ maxLen := by
    obtain ⟨fuel, hf⟩ := h0
    obtain ⟨a, c, a', c', ns, es, he, h1, h2, h3⟩ := layout_of_trod hf
    exact ⟨a, c, a', c', ns, es, by apply Array.toList_inj.1; exact he, h1, h2, h3⟩
  subst hcs0
  obtain ⟨a1, len1, cap1, rfl⟩ := okWide_slice Try.underlying26 (hval 1 26 v1 rfl rfl)
  have k1 := h1
  have lt1 : ∀ x ∈ p1, x.block < W.heap.size := by obtain ⟨m, hm⟩ := k1; exact DataW.trod_lt m _ _ _ hm
  obtain ⟨z1, w1, s1, _⟩ : ∃ zs : List Int, zs.length = len1 ∧ intE.Rd W (.slice a1 len1 cap1) zs ∧ ∀ y ∈ zs, (Lit.int .i64 y).wf = true := by
    obtain ⟨fuel, hf⟩ := h1
    exact rd_of_trod intE (fun y => (Lit.int .i64 y).wf = true) (by kernel_rfl) (fun n cs y hy => int_of_trod hy) hf rfl
  clear hA0 hval0
  refine (walk a0 b0 c0 e0 ns0 es0 a1 len1 cap1 z1 W rn0 re0 rs0 w1 s1).mono fun e W' ⟨he, bel⟩ => ?_
  subst he
  exact ⟨_, rfl, _, _, _, [], _, [], hW', trodAll_mk1 (shut_bool Try.underlying4 _), (trodAll_cons_mk (Below.trod laidOut (by kernel_rfl) (of_decide_eq_true (by kernel_rfl)) k0 bel lt0) (trodAll_cons_mk (Below.trod laidOut (by kernel_rfl) (of_decide_eq_true (by kernel_rfl)) k1 bel lt1) trodAll_mk0)), rfl, bel.frame _, fun h => by cases h⟩

theorem over : Rows.routeLoopsRow.holds Try.pinned (OpenSpec.ofChange Rows.routeLoopsSpec) :=
  OpenClaim.holds_of_wide 8 Try.f8 rfl rfl rfl rfl rfl rfl rfl ⟨rfl, rfl, rfl, rfl, rfl⟩ rfl rfl rfl rfl rfl (by kernel_rfl) Try.func8 (by kernel_rfl)
    (of_decide_eq_true (by kernel_rfl)) (by unfold Func.isWrapper; first | (rw [if_pos (by decide +kernel)]; kernel_rfl) | (rw [if_neg (by decide +kernel)]; exact ⟨rfl, rfl⟩))
    (fun os started H enc _ => lifted os started H enc)

theorem proved : Rows.RouteLoopsSaid := over
end Go.Proofs.Ytmkjpdmhplldjaa.routeLoops
