/- The document: the path, the loop, the table. -/
import Derived.Test.YtmkjpdmhplldjaaFst
import Derived.Test.YtmkjpdmhplldjaaLop
namespace Go.Proofs.Ytmkjpdmhplldjaa
open Go.RowKit
set_option linter.unusedVariables false

section
variable {ns : List Nd} {es : List Ed} {ms : List Int} {l : List Int} {t n : Nat}
/-- the first one that is found is the path -/
theorem Gr.found (g : Gr ns es ms l t n) {u q : Nat} {xs : List Int} (h : frs ns es ms l t q u = some xs) (hj : ∀ j, j < q → frs ns es ms l t j u = none) : va l u = (q : Int) ∧ xs = pth ns es ms l t q u := by
  rcases Int.lt_or_le (va l u) 0 with h0 | h0
  · rw [g.frs_low (.inl h0)] at h; cases h
  · obtain ⟨k, hk⟩ := Int.eq_ofNat_of_zero_le h0
    have hkq : k = q := by
      rcases Nat.lt_trichotomy k q with h1 | h1 | h1
      · have := hj k h1; rw [g.frs_at hk] at this; cases this
      · exact h1
      · rw [g.frs_low (.inr (by omega))] at h; cases h
    subst hkq
    rw [g.frs_at hk] at h
    exact ⟨hk, (Option.some.inj h).symm⟩
theorem Gr.lost (g : Gr ns es ms l t n) {u : Nat} (hj : ∀ j, j < n + 1 → frs ns es ms l t j u = none) : va l u = -1 := by
  rcases Int.lt_or_le (va l u) 0 with h0 | h0
  · have := g.low u; omega
  · obtain ⟨k, hk⟩ := Int.eq_ofNat_of_zero_le h0
    have := g.high u
    have := hj k (by omega)
    rw [g.frs_at hk] at this; cases this
theorem Gr.self0 (g : Gr ns es ms l t n) (hs : ∀ e ∈ es, e.1 ≠ e.2) : Ytmkjpdmhplldjaa.stp ns es ms l t (t : Int) ((0 : Nat) : Int) = 0 := by
  apply stp_none
  intro i _
  cases hk : okD ns es ms l t (t : Int) ((0 : Nat) : Int) i with
  | false => rfl
  | true =>
    obtain ⟨v, h1, _, h3, _⟩ := okD_iff.1 hk
    have hb := inB_at g.inb h1
    obtain ⟨y, rfl⟩ := Int.eq_ofNat_of_zero_le hb.2.2.1
    rw [Int.toNat_natCast] at h3
    have := g.only (by simpa using h3)
    exact absurd (by simp [this]) (hs _ (List.mem_of_getElem? h1))
theorem Gr.looped (g : Gr ns es ms l t n) (hs : ∀ e ∈ es, e.1 ≠ e.2) {q : Nat} {xs : List Int} (h : frs ns es ms l t (q + 1) t = some xs) (hj : ∀ j, 1 ≤ j → j < q + 1 → frs ns es ms l t j t = none) : Lp ns es ms l t n (some xs) := by
  rw [frs_succ] at h
  by_cases h0 : Ytmkjpdmhplldjaa.stp ns es ms l t (t : Int) (q : Int) = 0
  · rw [if_pos h0] at h; cases h
  · rw [if_neg h0] at h
    obtain rfl := Option.some.inj h
    obtain ⟨_, i, v, h1, h2, h3, h4, h5, h6, h7⟩ := stp_pos h0
    refine .inr ⟨q, ?_, ?_, fun i h1 h2 => ?_, h0, rfl⟩
    · rcases q with _ | q
      · exact absurd (g.self0 hs) h0
      · omega
    · have := g.high v.toNat; omega
    · have := hj (i + 1) (by omega) (by omega)
      rw [frs_succ] at this
      by_cases h8 : Ytmkjpdmhplldjaa.stp ns es ms l t (t : Int) (i : Int) = 0
      · exact h8
      · rw [if_neg h8] at this; cases this
theorem unlooped (hj : ∀ j, 1 ≤ j → j < n + 2 → frs ns es ms l t j t = none) : Lp ns es ms l t n none := by
  refine .inl ⟨rfl, fun i h1 h2 => ?_⟩
  have := hj (i + 1) (by omega) (by omega)
  rw [frs_succ] at this
  by_cases h8 : stp ns es ms l t (t : Int) (i : Int) = 0
  · exact h8
  · rw [if_neg h8] at this; cases this
end

set_option maxRecDepth 100000 in
set_option maxHeartbeats 4000000 in
theorem rpath_any (a a' aM aX : Option Addr) (c c' cM cX n m k0 kX u t : Nat) (ns : List Nd) (es : List Ed) (ms fs l : List Int) (w : World) (hL : Ly w a a' c c' n m ns es) (hM : Mk w aM cM k0 ms) (hF : Mk w aX cX kX fs) (hk : k0 ≤ 1000) (hG : Gr ns es (ms ++ shut es (t : Int) fs) l t n) (hu : u < n) :
    Calls Try.prog 20 #[.agg #[.slice a n c, .slice a' m c'], .slice aM k0 cM, .int .i64 (u : Int), .int .i64 (t : Int), .slice aX kX cX] w fun e w' => (∃ v cd, e = .returned (.tuple #[v, .int .i64 cd]) ∧ ((va l u = -1 ∧ cd = 80 ∧ v = .slice none 0 0) ∨ ∃ k : Nat, va l u = (k : Int) ∧ cd = 0 ∧ intE.Own w' w.heap.size v (pth ns es (ms ++ shut es (t : Int) fs) l t k u))) ∧ Below w.heap.size w w' := by
  obtain ⟨W0, hW0⟩ : ∃ W0, w.alloc (.cells #[.slice a n c, .slice a' m c'] 25) = W0 := ⟨_, rfl⟩
  have bA : Below w.heap.size w W0 := by rw [← hW0]; exact (Below.refl _ _).alloc (Nat.le_refl _) _
  have hbox : W0.heap[w.heap.size]? = some (.cells #[.slice a n c, .slice a' m c'] 25) := by rw [← hW0]; exact heap_new _ _
  have HBOX := hide hbox
  have HA := hide bA
  have HW0 := hide hW0
  have HLW : Hid (∀ W, Below W0.heap.size W0 W → Ly W a a' c c' n m ns es ∧ Mk W aM cM k0 ms ∧ Mk W aX cX kX fs) := hide (fun W h => ⟨hL.keep (bA.trans (h.mono bA.size)), hM.keep (bA.trans (h.mono bA.size)), hF.keep (bA.trans (h.mono bA.size))⟩)
  have K35 : Hid (∀ (W : World) (q : Nat), Below W0.heap.size W0 W → q ≤ n → (∀ j, 1 ≤ j → j < q → frs ns es (ms ++ shut es (t : Int) fs) l t j u = none) → Calls Try.prog 35 #[.agg #[.slice a n c, .slice a' m c'], .slice aM k0 cM, .int .i64 (u : Int), .int .i64 (t : Int), .int .i64 (q : Int), .slice aX kX cX] W fun e w' => (∃ v b, e = .returned (.tuple #[v, .bool b]) ∧ ((frs ns es (ms ++ shut es (t : Int) fs) l t q u = none ∧ b = false ∧ v = .slice none 0 0) ∨ ∃ xs, frs ns es (ms ++ shut es (t : Int) fs) l t q u = some xs ∧ b = true ∧ intE.Own w' W.heap.size v xs)) ∧ Below W.heap.size W w') := hide (fun W q h hq hj => first_any a a' aM aX c c' cM cX n m k0 kX t ns es ms fs l hk hG q u W (by have := hL.n4; omega) hu (HLW.out W h).1 (HLW.out W h).2.1 (HLW.out W h).2.2 (exa_of hj))
  have i0 : (n : Int) ≤ 1000 := by have := hL.n4; omega
  generalize ms ++ shut es (t : Int) fs = cs at *
  have HG := hide hG
  clear hL hM hF hu hbox bA hW0 hk hG
  go_enter Try.func20, Try.ntmps20
  go_upto_region 1 with fail
  rw [HW0.out]
  clear HW0
  go_wp2_with fail
  go_loopw [12] (fun v12 wr => ∃ q : Nat, q ≤ n + 1 ∧ v12 = .int .i64 (q : Int) ∧ Hid (Below W0.heap.size W0 wr) ∧ Hid (∀ j, j < q → frs ns es cs l t j u = none)) (fun v12 _ => n + 1 - (intOf v12).toNat)
  case atStart => exact ⟨0, by omega, rfl, hide (Below.refl _ _), hide (fun j hj => by omega)⟩
  case round =>
    obtain ⟨q, hq, rfl, HB, HX⟩ := hrel
    obtain ⟨x0, x1⟩ := layc HBOX.out HB.out
    by_cases hlt : q ≤ n
    · have j1 : (q : Int) ≤ (n : Int) := by omega
      have Hlt := hide hlt
      cases hf : frs ns es cs l t q u with
      | none =>
        have HX1 : Hid (∀ j, j < q + 1 → frs ns es cs l t j u = none) := hide (fun j hj => by
          rcases Nat.lt_or_ge j q with h' | h'
          · exact HX.out j h'
          · obtain rfl : j = q := by omega
            exact hf)
        have K35' : Hid (Calls Try.prog 35 #[.agg #[.slice a n c, .slice a' m c'], .slice aM k0 cM, .int .i64 (u : Int), .int .i64 (t : Int), .int .i64 (q : Int), .slice aX kX cX] wr fun e w' => e = .returned (.tuple #[.slice none 0 0, .bool false]) ∧ Below wr.heap.size wr w') := hide ((K35.out wr q HB.out Hlt.out (fun j _ h => HX.out j h)).mono (by
          rintro e w' ⟨⟨v, b, rfl, h1⟩, hb⟩
          rcases h1 with ⟨_, rfl, rfl⟩ | ⟨xs, h1, _⟩
          · exact ⟨rfl, hb⟩
          · rw [hf] at h1; cases h1))
        clear hf
        go_wp2_with (go_at_call 35; refine (K35'.out).mono ?_; rintro e W5 ⟨rfl, hb5⟩; have HB5 : Hid (Below W0.heap.size W0 W5) := hide (HB.out.trans (hb5.mono HB.out.size)); clear hb5)
        go_roundw
        case rel => exact ⟨q + 1, by omega, by go_num, HB5, HX1⟩
        case measure => simp [intOf]; omega
      | some xs =>
        have HR := hide (HG.out.found hf HX.out)
        have HZ : Hid (w.heap.size ≤ wr.heap.size) := hide (Nat.le_trans HA.out.size HB.out.size)
        have K35' : Hid (Calls Try.prog 35 #[.agg #[.slice a n c, .slice a' m c'], .slice aM k0 cM, .int .i64 (u : Int), .int .i64 (t : Int), .int .i64 (q : Int), .slice aX kX cX] wr fun e w' => (∃ v, e = .returned (.tuple #[v, .bool true]) ∧ intE.Own w' wr.heap.size v xs) ∧ Below wr.heap.size wr w') := hide ((K35.out wr q HB.out Hlt.out (fun j _ h => HX.out j h)).mono (by
          rintro e w' ⟨⟨v, b, rfl, h1⟩, hb⟩
          rcases h1 with ⟨h1, _⟩ | ⟨ys, h1, rfl, h3⟩
          · rw [hf] at h1; cases h1
          · rw [hf] at h1
            obtain rfl := Option.some.inj h1
            exact ⟨⟨v, rfl, h3⟩, hb⟩))
        clear hf
        go_wp2_with (go_at_call 35; refine (K35'.out).mono ?_; rintro e W5 ⟨⟨v, rfl, ho5⟩, hb5⟩; have HO5 := hide (ho5.mono HZ.out); have HB5 : Hid (Below W0.heap.size W0 W5) := hide (HB.out.trans (hb5.mono HB.out.size)); clear hb5 ho5)
        have HO6 : Hid (intE.Own W5 w.heap.size v (pth ns es cs l t q u)) := hide (by rw [← HR.out.2]; exact HO5.out)
        refine bodyPost_ret (v := .tuple #[v, .int .i64 0]) (by simp [results, Try.results20, go_sem]) rfl ?_
        first
          | exact ⟨⟨_, _, rfl, .inr ⟨q, HR.out.1, rfl, HO6.out⟩⟩, HA.out.trans (HB5.out.mono HA.out.size)⟩
          | exact ⟨⟨_, .inr ⟨rfl, q, HR.out.1, HO6.out⟩⟩, HA.out.trans (HB5.out.mono HA.out.size)⟩
    · have j1 : ¬ (q : Int) ≤ (n : Int) := by omega
      have HR := hide (HG.out.lost (fun j hj => HX.out j (by omega)))
      go_wp2_with fail
      refine bodyPost_ret (v := .tuple #[.slice none 0 0, .int .i64 80]) (by simp [results, Try.results20, go_sem]) rfl ?_
      first
        | exact ⟨⟨_, _, rfl, .inl ⟨HR.out, rfl, rfl⟩⟩, HA.out.trans (HB.out.mono HA.out.size)⟩
        | exact ⟨⟨_, .inl ⟨rfl, HR.out, rfl⟩⟩, HA.out.trans (HB.out.mono HA.out.size)⟩

set_option maxRecDepth 100000 in
set_option maxHeartbeats 4000000 in
theorem rloop_any (a a' aM : Option Addr) (c c' cM n m k0 t : Nat) (ns : List Nd) (es : List Ed) (ms l : List Int) (w : World) (hL : Ly w a a' c c' n m ns es) (hM : Mk w aM cM k0 ms) (hk : k0 ≤ 1000) (hG : Gr ns es ms l t n) (hn9 : n ≤ 900) (hs : ∀ e ∈ es, e.1 ≠ e.2) :
    Calls Try.prog 21 #[.agg #[.slice a n c, .slice a' m c'], .slice aM k0 cM, .int .i64 (t : Int)] w fun e w' => (∃ v cd, e = .returned (.tuple #[v, .int .i64 cd]) ∧ ((Lp ns es ms l t n none ∧ cd = 80 ∧ v = .slice none 0 0) ∨ ∃ xs, Lp ns es ms l t n (some xs) ∧ cd = 0 ∧ intE.Own w' w.heap.size v xs)) ∧ Below w.heap.size w w' := by
  obtain ⟨W0, hW0⟩ : ∃ W0, w.alloc (.cells #[.slice a n c, .slice a' m c'] 25) = W0 := ⟨_, rfl⟩
  have bA : Below w.heap.size w W0 := by rw [← hW0]; exact (Below.refl _ _).alloc (Nat.le_refl _) _
  have hbox : W0.heap[w.heap.size]? = some (.cells #[.slice a n c, .slice a' m c'] 25) := by rw [← hW0]; exact heap_new _ _
  have HBOX := hide hbox
  have HA := hide bA
  have HW0 := hide hW0
  have HLW : Hid (∀ W, Below W0.heap.size W0 W → Ly W a a' c c' n m ns es ∧ Mk W aM cM k0 ms ∧ Mk W none 0 0 []) := hide (fun W h => ⟨hL.keep (bA.trans (h.mono bA.size)), hM.keep (bA.trans (h.mono bA.size)), rfl, .inl ⟨rfl, rfl⟩, by omega⟩)
  have K35 : Hid (∀ (W : World) (q : Nat), Below W0.heap.size W0 W → q ≤ n + 1 → (∀ j, 1 ≤ j → j < q → frs ns es ms l t j t = none) → Calls Try.prog 35 #[.agg #[.slice a n c, .slice a' m c'], .slice aM k0 cM, .int .i64 (t : Int), .int .i64 (t : Int), .int .i64 (q : Int), .slice none 0 0] W fun e w' => (∃ v b, e = .returned (.tuple #[v, .bool b]) ∧ ((frs ns es ms l t q t = none ∧ b = false ∧ v = .slice none 0 0) ∨ ∃ xs, frs ns es ms l t q t = some xs ∧ b = true ∧ intE.Own w' W.heap.size v xs)) ∧ Below W.heap.size W w') := hide (fun W q h hq hj => by
    have h1 := first_any a a' aM none c c' cM 0 n m k0 0 t ns es ms [] l hk (by rw [shut_nil, List.append_nil]; exact hG) q t W (by omega) hG.lt (HLW.out W h).1 (HLW.out W h).2.1 (HLW.out W h).2.2 (by rw [shut_nil, List.append_nil]; exact exa_of hj)
    rwa [shut_nil, List.append_nil] at h1)
  have i0 : (n : Int) ≤ 900 := by omega
  have HG := hide hG
  have Hs := hide hs
  clear hL hM hbox bA hW0 hk hG hs
  go_enter Try.func21, Try.ntmps21
  go_upto_region 1 with fail
  rw [HW0.out]
  clear HW0
  go_wp2_with fail
  go_loopw [8] (fun v8 wr => ∃ q : Nat, q ≤ n + 1 ∧ v8 = .int .i64 ((q : Int) + 1) ∧ Hid (Below W0.heap.size W0 wr) ∧ Hid (∀ j, 1 ≤ j → j < q + 1 → frs ns es ms l t j t = none)) (fun v8 _ => n + 2 - (intOf v8).toNat)
  case atStart => exact ⟨0, by omega, rfl, hide (Below.refl _ _), hide (fun j h1 h2 => by omega)⟩
  case round =>
    obtain ⟨q, hq, rfl, HB, HX⟩ := hrel
    obtain ⟨x0, x1⟩ := layc HBOX.out HB.out
    by_cases hlt : q ≤ n
    · have j1 : (q : Int) + 1 ≤ (n : Int) + 1 := by omega
      have j2 : (q : Int) ≤ (n : Int) := by omega
      have Hlt : Hid (q + 1 ≤ n + 1) := hide (by omega)
      have eq1 : ((q + 1 : Nat) : Int) = (q : Int) + 1 := by omega
      cases hf : frs ns es ms l t (q + 1) t with
      | none =>
        have HX1 : Hid (∀ j, 1 ≤ j → j < q + 1 + 1 → frs ns es ms l t j t = none) := hide (fun j h1 hj => by
          rcases Nat.lt_or_ge j (q + 1) with h' | h'
          · exact HX.out j h1 h'
          · obtain rfl : j = q + 1 := by omega
            exact hf)
        have K35' : Hid (Calls Try.prog 35 #[.agg #[.slice a n c, .slice a' m c'], .slice aM k0 cM, .int .i64 (t : Int), .int .i64 (t : Int), .int .i64 ((q : Int) + 1), .slice none 0 0] wr fun e w' => e = .returned (.tuple #[.slice none 0 0, .bool false]) ∧ Below wr.heap.size wr w') := hide (by
          rw [← eq1]
          refine (K35.out wr (q + 1) HB.out Hlt.out HX.out).mono ?_
          rintro e w' ⟨⟨v, b, rfl, h1⟩, hb⟩
          rcases h1 with ⟨_, rfl, rfl⟩ | ⟨xs, h1, _⟩
          · exact ⟨rfl, hb⟩
          · rw [hf] at h1; cases h1)
        clear hf eq1
        go_wp2_with (go_at_call 35; refine (K35'.out).mono ?_; rintro e W5 ⟨rfl, hb5⟩; have HB5 : Hid (Below W0.heap.size W0 W5) := hide (HB.out.trans (hb5.mono HB.out.size)); clear hb5)
        go_roundw
        case rel => exact ⟨q + 1, by omega, by go_num, HB5, HX1⟩
        case measure => simp [intOf]; omega
      | some xs =>
        have HR := hide (HG.out.looped Hs.out hf HX.out)
        have HZ : Hid (w.heap.size ≤ wr.heap.size) := hide (Nat.le_trans HA.out.size HB.out.size)
        have K35' : Hid (Calls Try.prog 35 #[.agg #[.slice a n c, .slice a' m c'], .slice aM k0 cM, .int .i64 (t : Int), .int .i64 (t : Int), .int .i64 ((q : Int) + 1), .slice none 0 0] wr fun e w' => (∃ v, e = .returned (.tuple #[v, .bool true]) ∧ intE.Own w' wr.heap.size v xs) ∧ Below wr.heap.size wr w') := hide (by
          rw [← eq1]
          refine (K35.out wr (q + 1) HB.out Hlt.out HX.out).mono ?_
          rintro e w' ⟨⟨v, b, rfl, h1⟩, hb⟩
          rcases h1 with ⟨h1, _⟩ | ⟨ys, h1, rfl, h3⟩
          · rw [hf] at h1; cases h1
          · rw [hf] at h1
            obtain rfl := Option.some.inj h1
            exact ⟨⟨v, rfl, h3⟩, hb⟩)
        clear hf eq1
        go_wp2_with (go_at_call 35; refine (K35'.out).mono ?_; rintro e W5 ⟨⟨v, rfl, ho5⟩, hb5⟩; have HO5 := hide (ho5.mono HZ.out); have HB5 : Hid (Below W0.heap.size W0 W5) := hide (HB.out.trans (hb5.mono HB.out.size)); clear hb5 ho5)
        refine bodyPost_ret (v := .tuple #[v, .int .i64 0]) (by simp [results, Try.results21, go_sem]) rfl ?_
        first
          | exact ⟨⟨_, _, rfl, .inr ⟨xs, HR.out, rfl, HO5.out⟩⟩, HA.out.trans (HB5.out.mono HA.out.size)⟩
          | exact ⟨⟨_, .inr ⟨rfl, xs, HR.out, HO5.out⟩⟩, HA.out.trans (HB5.out.mono HA.out.size)⟩
    · have j1 : ¬ (q : Int) + 1 ≤ (n : Int) + 1 := by omega
      have HR := hide (unlooped (n := n) (fun j h1 hj => HX.out j h1 (by omega)))
      go_wp2_with fail
      refine bodyPost_ret (v := .tuple #[.slice none 0 0, .int .i64 80]) (by simp [results, Try.results21, go_sem]) rfl ?_
      first
        | exact ⟨⟨_, _, rfl, .inl ⟨HR.out, rfl, rfl⟩⟩, HA.out.trans (HB.out.mono HA.out.size)⟩
        | exact ⟨⟨_, .inl ⟨rfl, HR.out, rfl⟩⟩, HA.out.trans (HB.out.mono HA.out.size)⟩

theorem Gr.entry {ns : List Nd} {es : List Ed} {ms l : List Int} {t n : Nat} (g : Gr ns es ms l t n) (u k : Nat) (h : va l u = (k : Int)) : Ytmkjpdmhplldjaa.stp ns es ms l t (u : Int) (va l u - 1) = ((pth ns es ms l t k u)[0]?).getD 0 := by
  cases k with
  | zero => rw [stp_neg (by omega)]; rfl
  | succ k => rw [h, show ((k + 1 : Nat) : Int) - 1 = (k : Int) by omega]; rfl

set_option maxRecDepth 100000 in
set_option maxHeartbeats 4000000 in
theorem rtable_any (a a' aM : Option Addr) (c c' cM n m k0 t : Nat) (ns : List Nd) (es : List Ed) (ms l : List Int) (w : World) (hL : Ly w a a' c c' n m ns es) (hM : Mk w aM cM k0 ms) (hk : k0 ≤ 1000) (hG : Gr ns es ms l t n) :
    Calls Try.prog 15 #[.agg #[.slice a n c, .slice a' m c'], .slice aM k0 cM, .int .i64 (t : Int)] w fun e w' => (∃ gN, e = .returned (.slice (some ⟨gN, 0, none⟩) n n) ∧ intE.Own w' w.heap.size (.slice (some ⟨gN, 0, none⟩) n n) (tbl ns es ms l t n)) ∧ Below w.heap.size w w' := by
  obtain ⟨W0, hW0⟩ : ∃ W0, w.alloc (.cells #[.slice a n c, .slice a' m c'] 25) = W0 := ⟨_, rfl⟩
  have bA : Below w.heap.size w W0 := by rw [← hW0]; exact (Below.refl _ _).alloc (Nat.le_refl _) _
  have hbox : W0.heap[w.heap.size]? = some (.cells #[.slice a n c, .slice a' m c'] 25) := by rw [← hW0]; exact heap_new _ _
  have HBOX := hide hbox
  have HA := hide bA
  have HW0 := hide hW0
  have d0 := (cells_at hbox 0).1
  simp at d0
  have HLW : Hid (∀ W, Below W0.heap.size W0 W → Ly W a a' c c' n m ns es ∧ Mk W aM cM k0 ms ∧ Mk W none 0 0 []) := hide (fun W h => ⟨hL.keep (bA.trans (h.mono bA.size)), hM.keep (bA.trans (h.mono bA.size)), rfl, .inl ⟨rfl, rfl⟩, by omega⟩)
  have K20 : Hid (∀ (W : World) (u : Nat), Below W0.heap.size W0 W → u < n → Calls Try.prog 20 #[.agg #[.slice a n c, .slice a' m c'], .slice aM k0 cM, .int .i64 (u : Int), .int .i64 (t : Int), .slice none 0 0] W fun e w' => (∃ v cd xs, e = .returned (.tuple #[v, .int .i64 cd]) ∧ intE.Own w' W.heap.size v xs ∧ stp ns es ms l t (u : Int) (va l u - 1) = (xs[0]?).getD 0) ∧ Below W.heap.size W w') := hide (fun W u h hu => by
    have h1 := rpath_any a a' aM none c c' cM 0 n m k0 0 u t ns es ms [] l W (HLW.out W h).1 (HLW.out W h).2.1 (HLW.out W h).2.2 hk (by rw [shut_nil, List.append_nil]; exact hG) hu
    rw [shut_nil, List.append_nil] at h1
    refine h1.mono ?_
    rintro e w' ⟨⟨v, cd, rfl, h2⟩, hb⟩
    rcases h2 with ⟨h3, rfl, rfl⟩ | ⟨k, h3, rfl, h4⟩
    · exact ⟨⟨_, _, [], rfl, El.Own.nil _ _ _, by rw [stp_neg (by omega)]; rfl⟩, hb⟩
    · exact ⟨⟨_, _, _, rfl, h4, hG.entry u k h3⟩, hb⟩)
  obtain ⟨W1, hmk, ho1, hb1, hs1⟩ := made_ints W0 n (by have := hL.n4; omega)
  have i0 : (n : Int) ≤ 1000 := by have := hL.n4; omega
  obtain ⟨gN, hgN⟩ : ∃ gN, W0.heap.size = gN := ⟨_, rfl⟩
  rw [hgN] at hmk
  have HO1 : Hid (intE.Own W1 W0.heap.size (.slice (some ⟨gN, 0, none⟩) n n) (List.replicate n 0)) := hide (by rw [← hgN]; exact ho1)
  have HB1 := hide hb1
  have d2 := (layc hbox hb1).1
  clear hL hM hbox bA hW0 hk hG ho1 hb1 hs1 hgN
  go_enter Try.func15, Try.ntmps15
  go_upto_region 1 with fail
  rw [HW0.out]
  clear HW0
  go_wp2_with fail
  clear d0 d2 hmk
  go_loopw [17] (fun v17 wr => ∃ (k : Nat) (lst : List Int), k ≤ n ∧ v17 = .int .i64 k ∧ Hid (intE.Own wr W0.heap.size (.slice (some ⟨gN, 0, none⟩) n n) lst) ∧ Hid (Below W0.heap.size W0 wr) ∧ Hid (lst.length = n ∧ (∀ i, i < k → lst[i]? = some (stp ns es ms l t ((i : Nat) : Int) (va l i - 1))) ∧ ∀ i, k ≤ i → i < n → lst[i]? = some 0)) (fun v17 _ => n - (intOf v17).toNat)
  case atStart => exact ⟨0, _, by omega, rfl, HO1, HB1, hide ⟨by simp, fun i hi => by omega, fun i _ hi => by simp [hi]⟩⟩
  case round =>
    obtain ⟨k, lst, hk, rfl, HO, HB, HX⟩ := hrel
    by_cases hlt : k < n
    · have j0 : (0 : Int) ≤ (k : Int) := by omega
      have j1 : (k : Int) < (n : Int) := by omega
      have Hlt := hide hlt
      obtain ⟨x0, x1⟩ := layc HBOX.out HB.out
      go_upto_region 6 with (go_at_call 20; refine (K20.out _ k HB.out Hlt.out).mono ?_; rintro e W5 ⟨⟨v, cd, xs, rfl, ho5, hst⟩, hb5⟩; have HO5 := hide ho5; have Hst := hide hst; have HN5 := hide (HO.out.keep hb5); have HB5 : Hid (Below W0.heap.size W0 W5) := hide (HB.out.trans (hb5.mono HB.out.size)); clear ho5 hst hb5)
      obtain ⟨aP, cP, hv⟩ := HO5.out.rd.form
      subst hv
      rcases xs with _ | ⟨d, xs⟩
      · have HX1 : Hid (lst.length = n ∧ (∀ i, i < k + 1 → lst[i]? = some (stp ns es ms l t ((i : Nat) : Int) (va l i - 1))) ∧ ∀ i, k + 1 ≤ i → i < n → lst[i]? = some 0) := hide ⟨HX.out.1, fun i hi => by
          rcases Nat.lt_or_ge i k with h' | h'
          · exact HX.out.2.1 i h'
          · obtain rfl : i = k := by omega
            rw [Hst.out, HX.out.2.2 i (Nat.le_refl _) Hlt.out]; rfl, fun i h1 h2 => HX.out.2.2 i (by omega) h2⟩
        go_wp2_with fail
        go_roundw
        case rel => exact ⟨k + 1, lst, by omega, by go_num, HN5, HB5, HX1⟩
        case measure => simp [intOf]; omega
      · have Hst : Hid (stp ns es ms l t (k : Int) (va l k - 1) = d) := hide Hst.out
        obtain ⟨bP, offP, hbP, cd0⟩ := int_at HO5.out.rd 0 d rfl
        subst hbP
        rw [Nat.add_zero] at cd0
        obtain ⟨y1, f1⟩ := HN5.out.at1 (Value.int .i64) (fun _ => rfl) rfl k _ (HX.out.2.2 k (Nat.le_refl _) Hlt.out)
        have HN6 : Hid (intE.Own (W5.setCell ⟨gN, k, none⟩ (.int .i64 d)) W0.heap.size (.slice (some ⟨gN, 0, none⟩) n n) (lst.set k d)) := hide (HN5.out.set (Value.int .i64) (fun _ => rfl) rfl k d)
        have HB6 : Hid (Below W0.heap.size W0 (W5.setCell ⟨gN, k, none⟩ (.int .i64 d))) := hide (HB5.out.setCell (p := ⟨gN, k, none⟩) (HN5.out.ge gN rfl) _)
        have HX1 : Hid ((lst.set k d).length = n ∧ (∀ i, i < k + 1 → (lst.set k d)[i]? = some (stp ns es ms l t ((i : Nat) : Int) (va l i - 1))) ∧ ∀ i, k + 1 ≤ i → i < n → (lst.set k d)[i]? = some 0) := hide ⟨by rw [List.length_set]; exact HX.out.1, fun i hi => by
          rw [List.getElem?_set]
          by_cases e : k = i
          · subst e; rw [if_pos rfl, if_pos (by rw [HX.out.1]; exact Hlt.out), Hst.out]
          · rw [if_neg e]; exact HX.out.2.1 i (by omega), fun i h1 h2 => by
          rw [List.getElem?_set, if_neg (by omega)]; exact HX.out.2.2 i (by omega) h2⟩
        have jl : (0 : Int) < ((d :: xs).length : Int) := by simp
        obtain ⟨nP, hnP⟩ : ∃ nP, (d :: xs).length = nP := ⟨_, rfl⟩
        rw [hnP] at jl
        rw [hnP]
        have jl' : (nP : Int) > 0 := jl
        clear hnP
        go_wp2_with fail
        go_roundw
        case rel => exact ⟨k + 1, _, by omega, by go_num, HN6, HB6, HX1⟩
        case measure => simp [intOf]; omega
    · obtain rfl : k = n := by omega
      have j1 : ¬ (k : Int) < (k : Int) := by omega
      have HR : Hid (lst = tbl ns es ms l t k) := hide (by
        apply List.ext_getElem?
        intro i
        rcases Nat.lt_or_ge i k with hi | hi
        · rw [HX.out.2.1 i hi, tbl_at _ _ _ _ _ _ _ hi]
        · rw [List.getElem?_eq_none (by rw [HX.out.1]; exact hi), List.getElem?_eq_none (by rw [tbl_len]; exact hi)])
      go_wp2_with fail
      go_ret
      exact ⟨⟨gN, rfl, by rw [← HR.out]; exact HO.out.mono HA.out.size⟩, HA.out.trans (HB.out.mono HA.out.size)⟩
end Go.Proofs.Ytmkjpdmhplldjaa
