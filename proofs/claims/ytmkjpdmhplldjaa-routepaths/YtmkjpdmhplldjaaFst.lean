/- The document: of the rows of so many open edges the first one. -/
import Derived.Test.YtmkjpdmhplldjaaRch
namespace Go.Proofs.Ytmkjpdmhplldjaa
open Go.RowKit
set_option linter.unusedVariables false

/-- what first tells -/
def frs (ns : List Nd) (es : List Ed) (ms l : List Int) (t : Nat) : Nat → Nat → Option (List Int)
  | 0, u => if u = t then some [] else none
  | q + 1, u => if stp ns es ms l t (u : Int) (q : Int) = 0 then none else some (stp ns es ms l t (u : Int) (q : Int) :: pth ns es ms l t q (endN es (stp ns es ms l t (u : Int) (q : Int))))
/-- no edge by which a way may go on has fewer edges left than so many -/
def Exa (ns : List Nd) (es : List Ed) (ms l : List Int) (t u : Nat) : Nat → Prop
  | 0 => True
  | q + 1 => ∀ (i v : Nat), es[i]? = some ((u : Int), (v : Int)) → ((i + 1 : Nat) : Int) ∉ ms → (v = t ∨ kindAt ns (v : Int) = 1) → 0 ≤ va l v → (q : Int) ≤ va l v
section
variable {ns : List Nd} {es : List Ed} {ms : List Int} {l : List Int} {t n : Nat}
theorem frs_zero (u : Nat) : frs ns es ms l t 0 u = if u = t then some [] else none := rfl
theorem frs_succ (q u : Nat) : frs ns es ms l t (q + 1) u = if stp ns es ms l t (u : Int) (q : Int) = 0 then none else some (stp ns es ms l t (u : Int) (q : Int) :: pth ns es ms l t q (endN es (stp ns es ms l t (u : Int) (q : Int)))) := rfl
theorem Gr.frs_at (g : Gr ns es ms l t n) {u : Nat} : ∀ {k : Nat}, va l u = (k : Int) → frs ns es ms l t k u = some (pth ns es ms l t k u)
  | 0, h => by rw [frs_zero, if_pos (g.only (by simpa using h))]; rfl
  | k + 1, h => by rw [frs_succ, if_neg (g.stp h)]; rfl
theorem Gr.exa (g : Gr ns es ms l t n) {u k : Nat} (h : va l u = (k : Int)) : Exa ns es ms l t u k := by
  cases k with
  | zero => trivial
  | succ k =>
    intro i v hi hm hT h0
    have := (g.near hi hm hT h0).2
    omega
theorem frs_none {u q : Nat} (h : frs ns es ms l t (q + 1) u = none) : ∀ i, okD ns es ms l t (u : Int) (q : Int) i = false := by
  rw [frs_succ] at h
  rcases stp_cases (ns := ns) (es := es) (ms := ms) (l := l) (t := t) (u : Int) (q : Int) with ⟨_, h2⟩ | ⟨_, i, h1, _⟩
  · rcases h2 with h2 | h2
    · omega
    · exact h2
  · rw [if_neg (by rw [h1]; omega)] at h; cases h
/-- where nothing was found with fewer edges, none goes on with fewer -/
theorem exa_of {u : Nat} : ∀ {q : Nat}, (∀ j, 1 ≤ j → j < q → frs ns es ms l t j u = none) → Exa ns es ms l t u q
  | 0, _ => trivial
  | q + 1, h => by
    intro i v hi hm hT h0
    rcases Int.lt_or_le (va l v) (q : Int) with h' | h'
    · obtain ⟨j, hj⟩ := Int.eq_ofNat_of_zero_le h0
      have hn := frs_none (h (j + 1) (by omega) (by omega)) i
      have hy : okD ns es ms l t (u : Int) (j : Int) i = true := okD_iff.2 ⟨(v : Int), hi, hm, by rw [Int.toNat_natCast]; exact hj, by
        rcases hT with rfl | hT
        · exact .inl rfl
        · exact .inr hT⟩
      rw [hn] at hy; cases hy
    · exact h'
theorem Gr.frs_low (g : Gr ns es ms l t n) {u j : Nat} (hj : va l u < 0 ∨ (j : Int) < va l u) : frs ns es ms l t j u = none := by
  cases j with
  | zero => rw [frs_zero, if_neg (fun e => by rw [e, g.zero] at hj; omega)]
  | succ j =>
    rw [frs_succ, if_pos]
    apply stp_none
    intro i _
    cases hk : okD ns es ms l t (u : Int) (j : Int) i with
    | false => rfl
    | true =>
      obtain ⟨v, h1, h2, h3, h4⟩ := okD_iff.1 hk
      have hb := inB_at g.inb h1
      obtain ⟨y, rfl⟩ := Int.eq_ofNat_of_zero_le hb.2.2.1
      rw [Int.toNat_natCast] at h3
      have := g.near h1 h2 (by rcases h4 with h4 | h4; exact .inl (by omega); exact .inr h4) (by omega)
      omega
/-- an edge that first takes is one that step takes -/
theorem ok_edge {fs ms0 : List Int} {u y i q : Nat} (g : Gr ns es (ms0 ++ shut es (t : Int) fs) l t n) (hi : es[i]? = some ((u : Int), (y : Int))) (hm : ((i + 1 : Nat) : Int) ∉ ms0) (hf : y ≠ t → (y : Int) ∉ fs) (hv : va l y = (q : Int)) (hT : y = t ∨ kindAt ns (y : Int) = 1) : okD ns es (ms0 ++ shut es (t : Int) fs) l t (u : Int) (q : Int) i = true := by
  refine okD_iff.2 ⟨(y : Int), hi, fun h => ?_, by rw [Int.toNat_natCast]; exact hv, by
    rcases hT with rfl | hT
    · exact .inl rfl
    · exact .inr hT⟩
  rcases List.mem_append.1 h with h | h
  · exact hm h
  · obtain ⟨j, e, _, h2, h3, h4, h5⟩ := (dvs_mem es _ _ _).1 h
    obtain rfl : j = i := by omega
    rw [hi] at h3
    obtain rfl := Option.some.inj h3
    exact hf (fun e => h4 (by simp [e])) h5
theorem no_edge {fs ms0 : List Int} {x y : Int} {u i q : Nat} (g : Gr ns es (ms0 ++ shut es (t : Int) fs) l t n) (hi : es[i]? = some (x, y)) (h : x ≠ (u : Int) ∨ ((i + 1 : Nat) : Int) ∈ ms0 ∨ va l y.toNat ≠ (q : Int) ∨ (y ≠ (t : Int) ∧ kindAt ns y ≠ 1) ∨ (y ≠ (t : Int) ∧ y ∈ fs)) : okD ns es (ms0 ++ shut es (t : Int) fs) l t (u : Int) (q : Int) i = false := by
  cases hk : okD ns es (ms0 ++ shut es (t : Int) fs) l t (u : Int) (q : Int) i with
  | false => rfl
  | true =>
    obtain ⟨v, h1, h2, h3, h4⟩ := okD_iff.1 hk
    rw [hi] at h1
    simp only [Option.some.injEq, Prod.mk.injEq] at h1
    obtain ⟨rfl, rfl⟩ := h1
    rcases h with h | h | h | h | h
    · exact absurd rfl h
    · exact absurd (List.mem_append_left _ h) h2
    · exact absurd h3 h
    · rcases h4 with h4 | h4
      · exact absurd h4 h.1
      · exact absurd h4 h.2
    · refine absurd (List.mem_append_right _ ?_) h2
      have hl : i < es.length := okD_lt hk
      exact (dvs_mem es _ _ _).2 ⟨i, _, hl, rfl, hi, h.1, h.2⟩
end

set_option maxRecDepth 100000 in
set_option maxHeartbeats 8000000 in
theorem first_any (a a' aM aX : Option Addr) (c c' cM cX n m k0 kX t : Nat) (ns : List Nd) (es : List Ed) (ms fs l : List Int) (hk : k0 ≤ 1000) (hG : Gr ns es (ms ++ shut es (t : Int) fs) l t n) : ∀ (q u : Nat) (w : World), q ≤ 1000 → u < n → Ly w a a' c c' n m ns es → Mk w aM cM k0 ms → Mk w aX cX kX fs → Exa ns es (ms ++ shut es (t : Int) fs) l t u q →
    Calls Try.prog 35 #[.agg #[.slice a n c, .slice a' m c'], .slice aM k0 cM, .int .i64 (u : Int), .int .i64 (t : Int), .int .i64 (q : Int), .slice aX kX cX] w fun e w' => (∃ v b, e = .returned (.tuple #[v, .bool b]) ∧ ((frs ns es (ms ++ shut es (t : Int) fs) l t q u = none ∧ b = false ∧ v = .slice none 0 0) ∨ ∃ xs, frs ns es (ms ++ shut es (t : Int) fs) l t q u = some xs ∧ b = true ∧ intE.Own w' w.heap.size v xs)) ∧ Below w.heap.size w w' := by
  intro q
  induction q with
  | zero =>
    intro u w _ hu hL hM hF _
    have hB : Hid (Below w.heap.size w (w.alloc (.cells #[.slice a n c, .slice a' m c'] 25))) := hide ((Below.refl _ _).alloc (Nat.le_refl _) _)
    by_cases h : u = t
    · have HR : Hid (frs ns es (ms ++ shut es (t : Int) fs) l t 0 u = some []) := hide (by rw [frs_zero, if_pos h])
      have q1 : ((u : Int) == (t : Int)) = true := by rw [h]; exact beq_self_eq_true _
      clear hL hM hF hu h
      go_enter Try.func35, Try.ntmps35
      go_wp2_with fail
      refine bodyPost_ret (v := .tuple #[.slice none 0 0, .bool true]) (by simp [results, Try.results35, go_sem]) rfl ⟨⟨_, _, rfl, .inr ⟨[], HR.out, rfl, El.Own.nil _ _ _⟩⟩, hB.out⟩
    · have HR : Hid (frs ns es (ms ++ shut es (t : Int) fs) l t 0 u = none) := hide (by rw [frs_zero, if_neg h])
      have q1 : ((u : Int) == (t : Int)) = false := beq_eq_false_iff_ne.2 (by omega)
      clear hL hM hF hu h
      go_enter Try.func35, Try.ntmps35
      go_wp2_with fail
      refine bodyPost_ret (v := .tuple #[.slice none 0 0, .bool false]) (by simp [results, Try.results35, go_sem]) rfl ⟨⟨_, _, rfl, .inl ⟨HR.out, rfl, rfl⟩⟩, hB.out⟩
  | succ q ih =>
    intro u w hq hu hL hM hF hX
    obtain ⟨W0, hW0⟩ : ∃ W0, w.alloc (.cells #[.slice a n c, .slice a' m c'] 25) = W0 := ⟨_, rfl⟩
    have bA : Below w.heap.size w W0 := by rw [← hW0]; exact (Below.refl _ _).alloc (Nat.le_refl _) _
    have hbox : W0.heap[w.heap.size]? = some (.cells #[.slice a n c, .slice a' m c'] 25) := by rw [← hW0]; exact heap_new _ _
    have HBOX := hide hbox
    have HA := hide bA
    have HW0 := hide hW0
    have HLW : Hid (∀ W, Below W0.heap.size W0 W → Ly W a a' c c' n m ns es ∧ Mk W aM cM k0 ms ∧ Mk W aX cX kX fs) := hide (fun W h => ⟨hL.keep (bA.trans (h.mono bA.size)), hM.keep (bA.trans (h.mono bA.size)), hF.keep (bA.trans (h.mono bA.size))⟩)
    have K46 : Hid (∀ W x, Below W0.heap.size W0 W → Calls Try.prog 46 #[.slice aX kX cX, .int .i64 x] W fun e w' => e = .returned (.bool (decide (x ∈ fs))) ∧ w' = W) := hide (fun W x h => has_any aX cX kX fs x W hF.hk (HLW.out W h).2.2.hM hF.k4)
    have K45 : Hid (∀ W x, Below W0.heap.size W0 W → Calls Try.prog 45 #[.slice aM k0 cM, .int .i64 x] W fun e w' => e = .returned (.bool (decide (x ∉ ms))) ∧ w' = W) := hide (fun W x h => open_any aM cM k0 ms x W hM.hk (HLW.out W h).2.1.hM hM.k4)
    have K47 : Hid (∀ W (y : Nat), Below W0.heap.size W0 W → y < n → Calls Try.prog 47 #[.agg #[.slice a n c, .slice a' m c'], .slice aM k0 cM, .int .i64 (y : Int), .int .i64 (t : Int), .int .i64 (q : Int), .slice aX kX cX] W fun e w' => e = .returned (.bool (decide (0 ≤ va l y) && decide (va l y ≤ (q : Int)))) ∧ Below W.heap.size W w') := hide (fun W y h hy => reached_any a a' aM aX c c' cM cX n m k0 kX y t q ns es ms fs l W (HLW.out W h).1 (HLW.out W h).2.1 (HLW.out W h).2.2 hk hG hy)
    have K35 : Hid (∀ W (y : Nat), Below W0.heap.size W0 W → va l y = (q : Int) → Calls Try.prog 35 #[.agg #[.slice a n c, .slice a' m c'], .slice aM k0 cM, .int .i64 (y : Int), .int .i64 (t : Int), .int .i64 (q : Int), .slice aX kX cX] W fun e w' => (∃ v, e = .returned (.tuple #[v, .bool true]) ∧ intE.Own w' W.heap.size v (pth ns es (ms ++ shut es (t : Int) fs) l t q y)) ∧ Below W.heap.size W w') := hide (fun W y h hy => (ih y W (by omega) (hG.out (by omega)) (HLW.out W h).1 (HLW.out W h).2.1 (HLW.out W h).2.2 (hG.exa hy)).mono (by
      rintro e w' ⟨⟨v, b, rfl, h1⟩, hb⟩
      rw [hG.frs_at hy] at h1
      rcases h1 with ⟨h1, _⟩ | ⟨xs, h1, rfl, h3⟩
      · cases h1
      · obtain rfl := Option.some.inj h1
        exact ⟨⟨v, rfl, h3⟩, hb⟩))
    have Hm := hide hL.hm
    have Hn4 := hide hL.n4
    have Hpl : Hid (∀ y, (pth ns es (ms ++ shut es (t : Int) fs) l t q y).length = q) := hide (fun y => pth_len q y)
    have i0 : (m : Int) ≤ 1000 := by have := hL.m4; omega
    have Hno : Hid ((∀ j, j < m → okD ns es (ms ++ shut es (t : Int) fs) l t (u : Int) (q : Int) j = false) → frs ns es (ms ++ shut es (t : Int) fs) l t (q + 1) u = none) := hide (fun h => by
      rw [frs_succ, if_pos (stp_none (fun i hi => h i (by rw [hL.hm] at hi; exact hi)))])
    have Hyes : Hid (∀ (i y : Nat), es[i]? = some ((u : Int), (y : Int)) → okD ns es (ms ++ shut es (t : Int) fs) l t (u : Int) (q : Int) i = true → (∀ j, j < i → okD ns es (ms ++ shut es (t : Int) fs) l t (u : Int) (q : Int) j = false) → frs ns es (ms ++ shut es (t : Int) fs) l t (q + 1) u = some (((i : Int) + 1) :: pth ns es (ms ++ shut es (t : Int) fs) l t q y)) := hide (fun i y hi h1 h2 => by
      have h3 := stp_of (by omega) h1 h2
      rw [frs_succ, h3, if_neg (by omega), endN_at hi, Int.toNat_natCast, show ((i + 1 : Nat) : Int) = (i : Int) + 1 by omega])
    have HX := hide hX
    have Hedge : Hid (∀ (i y : Nat), es[i]? = some ((u : Int), (y : Int)) → ((i + 1 : Nat) : Int) ∉ ms → (y ≠ t → (y : Int) ∉ fs) → (y = t ∨ kindAt ns (y : Int) = 1) → 0 ≤ va l y → va l y ≤ (q : Int) → va l y = (q : Int) ∧ okD ns es (ms ++ shut es (t : Int) fs) l t (u : Int) (q : Int) i = true) := hide (fun i y hi h1 h2 h3 h4 h5 => by
      have hcs : ((i + 1 : Nat) : Int) ∉ ms ++ shut es (t : Int) fs := fun h => by
        rcases List.mem_append.1 h with h | h
        · exact h1 h
        · obtain ⟨j, e, _, g2, g3, g4, g5⟩ := (dvs_mem es _ _ _).1 h
          obtain rfl : j = i := by omega
          rw [hi] at g3
          obtain rfl := Option.some.inj g3
          exact h2 (fun e => g4 (by simp [e])) g5
      have h6 := hX i y hi hcs h3 h4
      have h7 : va l y = (q : Int) := by omega
      exact ⟨h7, ok_edge hG hi h1 h2 h7 h3⟩)
    have Hnoe : Hid (∀ (x y : Int) (i : Nat), es[i]? = some (x, y) → (x ≠ (u : Int) ∨ ((i + 1 : Nat) : Int) ∈ ms ∨ va l y.toNat ≠ (q : Int) ∨ (y ≠ (t : Int) ∧ kindAt ns y ≠ 1) ∨ (y ≠ (t : Int) ∧ y ∈ fs)) → okD ns es (ms ++ shut es (t : Int) fs) l t (u : Int) (q : Int) i = false) := hide (fun x y i hi h => no_edge hG hi h)
    have Hgz := hide hG.zero
    have Hgo : Hid (∀ y : Nat, va l y = 0 → y = t) := hide (fun y h => hG.only h)
    have Hinb := hide hG.inb
    have j9 : (q : Int) ≤ 1000 := by omega
    have Hq9 : Hid (q ≤ 1000) := hide (by omega)
    obtain ⟨N, hN⟩ : ∃ N : Int, ((q + 1 : Nat) : Int) = N := ⟨_, rfl⟩
    rw [hN]
    have N0 : (N == 0) = false := beq_eq_false_iff_ne.2 (by omega)
    have Nw : IntKind.i64.wrap (N - 1) = (q : Int) := by rw [i64_small _ (by omega) (by omega)]; omega
    have Nq : N - 1 = (q : Int) := by omega
    generalize frs ns es (ms ++ shut es (t : Int) fs) l t (q + 1) u = R at *
    generalize ms ++ shut es (t : Int) fs = cs at *
    clear hL hM hF hu hbox bA hW0 hX ih hq
    by_cases hq0 : q = 0
    · subst hq0
      obtain rfl : N = 1 := by omega
      clear hN N0 Nw Nq
      go_enter Try.func35, Try.ntmps35
      go_upto_region 1 with fail
      rw [HW0.out]
      clear HW0
      go_wp2_with fail
      go_loopw [14] (fun v14 wr => ∃ i : Nat, i ≤ m ∧ v14 = .int .i64 ((i : Int) + 1) ∧ Hid (Below W0.heap.size W0 wr) ∧ Hid (∀ j, j < i → okD ns es cs l t (u : Int) ((0 : Nat) : Int) j = false)) (fun v14 _ => m + 1 - (intOf v14).toNat)
      case atStart => exact ⟨0, by omega, rfl, hide (Below.refl _ _), hide (fun j hj => by omega)⟩
      case round =>
        obtain ⟨i, hi, rfl, HB, HP⟩ := hrel
        obtain ⟨x0, x1⟩ := layc HBOX.out HB.out
        by_cases hlt : i < m
        · obtain ⟨p, hp⟩ : ∃ p, es[i]? = some p := ⟨_, List.getElem?_eq_getElem (by rw [Hm.out]; exact hlt)⟩
          obtain ⟨x, y0⟩ := p
          have hbb := inB_at Hinb.out hp
          obtain ⟨y, rfl⟩ := Int.eq_ofNat_of_zero_le hbb.2.2.1
          obtain ⟨bb, off, rfl, c0, c1⟩ := ed_at (HLW.out wr HB.out).1.hu i (x, (y : Int)) hp
          simp only at c0 c1
          have j0 : (0 : Int) ≤ (i : Int) := by omega
          have j1 : (i : Int) < (m : Int) := by omega
          have j2 : (i : Int) + 1 ≤ (m : Int) := by omega
          have Hp := hide hp
          have HS : Hid (okD ns es cs l t (u : Int) ((0 : Nat) : Int) i = false → ∀ j, j < i + 1 → okD ns es cs l t (u : Int) ((0 : Nat) : Int) j = false) := hide (fun h j hj => by
            rcases Nat.lt_or_ge j i with h' | h'
            · exact HP.out j h'
            · obtain rfl : j = i := by omega
              exact h)
          have y1 : (y : Int) < (n : Int) := hbb.2.2.2
          have y2 : (0 : Int) ≤ (y : Int) := by omega
          have Hyn : Hid (y < n) := hide (by omega)
          clear hp hbb
          by_cases hx : x = (u : Int)
          · subst hx
            have q1 : ((u : Int) != (u : Int)) = false := bne_self_eq_false _
            have eD : ((i + 1 : Nat) : Int) = (i : Int) + 1 := by omega
            by_cases hin : ((i : Int) + 1) ∈ ms
            · have tin : decide (((i : Int) + 1) ∉ ms) = false := decide_eq_false (fun h => h hin)
              have HX1 := hide (HS.out (Hnoe.out _ _ i Hp.out (.inr (.inl (by rw [eD]; exact hin)))))
              clear hin eD
              go_wp2_with (go_at_call 45; refine (K45.out _ _ HB.out).mono ?_; rintro e W1 ⟨rfl, hw⟩; have hw' := hw.symm; clear hw; subst hw'; rw [tin])
              go_roundw
              case rel => exact ⟨i + 1, by omega, by go_num, HB, HX1⟩
              case measure => simp [intOf]; omega
            · have tin : decide (((i : Int) + 1) ∉ ms) = true := decide_eq_true hin
              have Hin : Hid (((i + 1 : Nat) : Int) ∉ ms) := hide (by rw [eD]; exact hin)
              clear hin eD
              obtain ⟨bn, offn, hbn, ck⟩ := (show ∃ b off, a = some ⟨b, off, none⟩ ∧ wr.cell? ⟨b, off + y * 3 + 1, none⟩ = some (.int .i64 (kindAt ns (y : Int))) from by
                have hl : y < ns.length := by rw [(HLW.out wr HB.out).1.hn]; exact Hyn.out
                obtain ⟨b, off, h1, _, h2, _⟩ := nd_at (HLW.out wr HB.out).1.hv y _ (List.getElem?_eq_getElem hl)
                exact ⟨b, off, h1, by rw [kind_at (List.getElem?_eq_getElem hl)]; exact h2⟩)
              subst hbn
              go_upto_region 8 with (go_at_call 45; refine (K45.out _ _ HB.out).mono ?_; rintro e W1 ⟨rfl, hw⟩; have hw' := hw.symm; clear hw; subst hw'; rw [tin])
              by_cases hy : y = t
              · subst hy
                have q2 : ((y : Int) != (y : Int)) = false := bne_self_eq_false _
                have Hvq : Hid (va l y = ((0 : Nat) : Int)) := hide (by rw [Hgz.out]; rfl)
                have HRS := hide (Hyes.out i y Hp.out (Hedge.out i y Hp.out Hin.out (fun h => absurd rfl h) (.inl rfl) (by rw [Hgz.out]; omega) (by rw [Hgz.out]; omega)).2 HP.out)
                obtain ⟨W9, hW9⟩ : ∃ W9, W9 = wr := ⟨_, rfl⟩
                have HB9 : Hid (Below W0.heap.size W0 W9) := hide (by rw [hW9]; exact HB.out)
                rw [← hW9] at x0 x1 c0 c1 ck
                rw [← hW9]
                clear hW9 HB
                go_upto_region 11 with (go_at_call 35; refine (K35.out _ y HB9.out Hvq.out).mono ?_; rintro e W6 ⟨⟨v, rfl, ho6⟩, hb6⟩; have HO6 := hide ho6; have HB6 : Hid (Below W0.heap.size W0 W6) := hide (HB9.out.trans (hb6.mono HB9.out.size)); have HZ6 : Hid (W0.heap.size ≤ W9.heap.size) := hide HB9.out.size; clear ho6 hb6)
                have HB7 := hide (HB6.out.alloc HB6.out.size (.cells #[.int .i64 ((i : Int) + 1)] 3))
                have HO7 : Hid (intE.Own (W6.alloc (.cells #[.int .i64 ((i : Int) + 1)] 3)) W0.heap.size (.slice (some ⟨W6.heap.size, 0, none⟩) 1 1) [(i : Int) + 1]) := hide (El.Own.new intE W6 _ HB6.out.size _ [(i : Int) + 1] rfl (by simp) _ _ _ rfl rfl rfl)
                have HP7 : Hid (intE.Rd (W6.alloc (.cells #[.int .i64 ((i : Int) + 1)] 3)) v (pth ns es cs l y 0 y)) := hide (HO6.out.rd.keep ((Below.refl _ _).alloc (Nat.le_refl _) _))
                have Hln : Hid ([(i : Int) + 1].length + (pth ns es cs l y 0 y).length ≤ 1000000) := hide (by rw [Hpl.out y]; simp; try omega)
                go_wp2_with (at_builtin; refine intE.wp (w0 := W0) HB7.out (by rfl) _ _ rfl _ _ rfl rfl [(i : Int) + 1] (pth ns es cs l y 0 y) HO7.out HP7.out Hln.out ?_; intro v1 w2 ho2 _ _ hb2; have HO8 := hide ho2; have HB8 := hide hb2; clear ho2 hb2)
                refine bodyPost_ret (v := .tuple #[v1, .bool true]) (by simp [results, Try.results35, go_sem]) rfl ?_
                first
                  | exact ⟨⟨_, _, rfl, .inr ⟨_, HRS.out, rfl, HO8.out.mono HA.out.size⟩⟩, HA.out.trans (HB8.out.mono HA.out.size)⟩
                  | exact ⟨⟨_, .inr ⟨rfl, _, HRS.out, HO8.out.mono HA.out.size⟩⟩, HA.out.trans (HB8.out.mono HA.out.size)⟩
              · have q2 : ((y : Int) != (t : Int)) = true := bne_iff_ne.2 (by omega)
                have HX1 := hide (HS.out (Hnoe.out _ _ i Hp.out (.inr (.inr (.inl (by rw [Int.toNat_natCast]; exact fun h => hy (Hgo.out y (by simpa using h))))))))
                go_wp2_with fail
                go_roundw
                case rel => exact ⟨i + 1, by omega, by go_num, HB, HX1⟩
                case measure => simp [intOf]; omega
          · have q1 : (x != (u : Int)) = true := bne_iff_ne.2 hx
            have HX1 := hide (HS.out (Hnoe.out _ _ i Hp.out (.inl hx)))
            clear hx
            go_wp2_with fail
            go_roundw
            case rel => exact ⟨i + 1, by omega, by go_num, HB, HX1⟩
            case measure => simp [intOf]; omega
        · obtain rfl : i = m := by omega
          have j1 : ¬ (i : Int) + 1 ≤ (i : Int) := by omega
          have HRN := hide (Hno.out HP.out)
          go_wp2_with fail
          refine bodyPost_ret (v := .tuple #[.slice none 0 0, .bool false]) (by simp [results, Try.results35, go_sem]) rfl ?_
          first
            | exact ⟨⟨_, _, rfl, .inl ⟨HRN.out, rfl, rfl⟩⟩, HA.out.trans (HB.out.mono HA.out.size)⟩
            | exact ⟨⟨_, .inl ⟨rfl, HRN.out, rfl⟩⟩, HA.out.trans (HB.out.mono HA.out.size)⟩
    · have N1 : N > 1 := by omega
      have N2 : (N == 1) = false := beq_eq_false_iff_ne.2 (by omega)
      have Hq1 : Hid (1 ≤ q) := hide (by omega)
      clear hN hq0
      go_enter Try.func35, Try.ntmps35
      go_upto_region 1 with fail
      rw [HW0.out]
      clear HW0
      go_wp2_with fail
      go_loopw [14] (fun v14 wr => ∃ i : Nat, i ≤ m ∧ v14 = .int .i64 ((i : Int) + 1) ∧ Hid (Below W0.heap.size W0 wr) ∧ Hid (∀ j, j < i → okD ns es cs l t (u : Int) (q : Int) j = false)) (fun v14 _ => m + 1 - (intOf v14).toNat)
      case atStart => exact ⟨0, by omega, rfl, hide (Below.refl _ _), hide (fun j hj => by omega)⟩
      case round =>
        obtain ⟨i, hi, rfl, HB, HP⟩ := hrel
        obtain ⟨x0, x1⟩ := layc HBOX.out HB.out
        by_cases hlt : i < m
        · obtain ⟨p, hp⟩ : ∃ p, es[i]? = some p := ⟨_, List.getElem?_eq_getElem (by rw [Hm.out]; exact hlt)⟩
          obtain ⟨x, y0⟩ := p
          have hbb := inB_at Hinb.out hp
          obtain ⟨y, rfl⟩ := Int.eq_ofNat_of_zero_le hbb.2.2.1
          obtain ⟨bb, off, rfl, c0, c1⟩ := ed_at (HLW.out wr HB.out).1.hu i (x, (y : Int)) hp
          simp only at c0 c1
          have j0 : (0 : Int) ≤ (i : Int) := by omega
          have j1 : (i : Int) < (m : Int) := by omega
          have j2 : (i : Int) + 1 ≤ (m : Int) := by omega
          have Hp := hide hp
          have HS : Hid (okD ns es cs l t (u : Int) (q : Int) i = false → ∀ j, j < i + 1 → okD ns es cs l t (u : Int) (q : Int) j = false) := hide (fun h j hj => by
            rcases Nat.lt_or_ge j i with h' | h'
            · exact HP.out j h'
            · obtain rfl : j = i := by omega
              exact h)
          have y1 : (y : Int) < (n : Int) := hbb.2.2.2
          have y2 : (0 : Int) ≤ (y : Int) := by omega
          have Hyn : Hid (y < n) := hide (by omega)
          clear hp hbb
          by_cases hx : x = (u : Int)
          · subst hx
            have q1 : ((u : Int) != (u : Int)) = false := bne_self_eq_false _
            have eD : ((i + 1 : Nat) : Int) = (i : Int) + 1 := by omega
            by_cases hin : ((i : Int) + 1) ∈ ms
            · have tin : decide (((i : Int) + 1) ∉ ms) = false := decide_eq_false (fun h => h hin)
              have HX1 := hide (HS.out (Hnoe.out _ _ i Hp.out (.inr (.inl (by rw [eD]; exact hin)))))
              clear hin eD
              go_wp2_with (go_at_call 45; refine (K45.out _ _ HB.out).mono ?_; rintro e W1 ⟨rfl, hw⟩; have hw' := hw.symm; clear hw; subst hw'; rw [tin])
              go_roundw
              case rel => exact ⟨i + 1, by omega, by go_num, HB, HX1⟩
              case measure => simp [intOf]; omega
            · have tin : decide (((i : Int) + 1) ∉ ms) = true := decide_eq_true hin
              have Hin : Hid (((i + 1 : Nat) : Int) ∉ ms) := hide (by rw [eD]; exact hin)
              clear hin eD
              obtain ⟨bn, offn, hbn, ck⟩ := (show ∃ b off, a = some ⟨b, off, none⟩ ∧ wr.cell? ⟨b, off + y * 3 + 1, none⟩ = some (.int .i64 (kindAt ns (y : Int))) from by
                have hl : y < ns.length := by rw [(HLW.out wr HB.out).1.hn]; exact Hyn.out
                obtain ⟨b, off, h1, _, h2, _⟩ := nd_at (HLW.out wr HB.out).1.hv y _ (List.getElem?_eq_getElem hl)
                exact ⟨b, off, h1, by rw [kind_at (List.getElem?_eq_getElem hl)]; exact h2⟩)
              subst hbn
              go_upto_region 8 with (go_at_call 45; refine (K45.out _ _ HB.out).mono ?_; rintro e W1 ⟨rfl, hw⟩; have hw' := hw.symm; clear hw; subst hw'; rw [tin])
              have Hty : Hid (y = t → va l y ≠ (q : Int)) := hide (fun h => by rw [h, Hgz.out]; have := Hq1.out; omega)
              by_cases hk1 : kindAt ns (y : Int) = 1
              · have Hk1 := hide hk1
                rw [hk1] at ck
                clear hk1
                have q3 : ((1 : Int) != 1) = false := rfl
                by_cases hf : (y : Int) ∈ fs
                · have tf : decide ((y : Int) ∈ fs) = true := decide_eq_true hf
                  have HX1 := hide (HS.out (by
                    by_cases hyt : y = t
                    · exact Hnoe.out _ _ i Hp.out (.inr (.inr (.inl (by rw [Int.toNat_natCast]; exact Hty.out hyt))))
                    · exact Hnoe.out _ _ i Hp.out (.inr (.inr (.inr (.inr ⟨by omega, hf⟩))))))
                  clear hf
                  go_wp2_with (go_at_call 46; refine (K46.out _ _ HB.out).mono ?_; rintro e W1 ⟨rfl, hw⟩; have hw' := hw.symm; clear hw; subst hw'; rw [tf])
                  go_roundw
                  case rel => exact ⟨i + 1, by omega, by go_num, HB, HX1⟩
                  case measure => simp [intOf]; omega
                · have tf : decide ((y : Int) ∈ fs) = false := decide_eq_false hf
                  have Hf := hide hf
                  clear hf
                  by_cases hyt : y = t
                  · have q4 : ((y : Int) == (t : Int)) = true := by rw [hyt]; exact beq_self_eq_true _
                    have HX1 := hide (HS.out (Hnoe.out _ _ i Hp.out (.inr (.inr (.inl (by rw [Int.toNat_natCast]; exact Hty.out hyt))))))
                    clear hyt
                    go_wp2_with (go_at_call 46; refine (K46.out _ _ HB.out).mono ?_; rintro e W1 ⟨rfl, hw⟩; have hw' := hw.symm; clear hw; subst hw'; rw [tf])
                    go_roundw
                    case rel => exact ⟨i + 1, by omega, by go_num, HB, HX1⟩
                    case measure => simp [intOf]; omega
                  · have q4 : ((y : Int) == (t : Int)) = false := beq_eq_false_iff_ne.2 (by omega)
                    obtain ⟨br, hbr⟩ : ∃ br, (decide (0 ≤ va l y) && decide (va l y ≤ (q : Int))) = br := ⟨_, rfl⟩
                    have Hbr := hide hbr
                    have K47' : Hid (Calls Try.prog 47 #[.agg #[.slice (some ⟨bn, offn, none⟩) n c, .slice (some ⟨bb, off, none⟩) m c'], .slice aM k0 cM, .int .i64 (y : Int), .int .i64 (t : Int), .int .i64 (q : Int), .slice aX kX cX] wr fun e w' => e = .returned (.bool br) ∧ Below wr.heap.size wr w') := hide (by rw [← hbr]; exact K47.out wr y HB.out Hyn.out)
                    clear hbr hyt
                    go_upto_region 9 with (go_at_call 46; refine (K46.out _ _ HB.out).mono ?_; rintro e W1 ⟨rfl, hw⟩; have hw' := hw.symm; clear hw; subst hw'; rw [tf])
                    cases br with
                    | false =>
                      have HX1 := hide (HS.out (Hnoe.out _ _ i Hp.out (.inr (.inr (.inl (by
                        rw [Int.toNat_natCast]
                        intro h
                        have h1 := Hbr.out
                        rw [h, decide_eq_true (by omega), decide_eq_true (Int.le_refl _)] at h1
                        cases h1))))))
                      go_wp2_with (go_at_call 47; refine (K47'.out).mono ?_; rintro e W5 ⟨rfl, hb5⟩; have HB5 : Hid (Below W0.heap.size W0 W5) := hide (HB.out.trans (hb5.mono HB.out.size)); clear hb5)
                      go_roundw
                      case rel => exact ⟨i + 1, by omega, by go_num, HB5, HX1⟩
                      case measure => simp [intOf]; omega
                    | true =>
                      have HE := hide (Hedge.out i y Hp.out Hin.out (fun _ => Hf.out) (.inr Hk1.out) (by have h1 := Hbr.out; simp only [Bool.and_eq_true, decide_eq_true_eq] at h1; exact h1.1) (by have h1 := Hbr.out; simp only [Bool.and_eq_true, decide_eq_true_eq] at h1; exact h1.2))
                      have Hvq := hide HE.out.1
                      have HRS := hide (Hyes.out i y Hp.out HE.out.2 HP.out)
                      go_upto_region 10 with (go_at_call 47; refine (K47'.out).mono ?_; rintro e W9 ⟨rfl, hb5⟩; have HB9 : Hid (Below W0.heap.size W0 W9) := hide (HB.out.trans (hb5.mono HB.out.size)); obtain ⟨x0, x1⟩ := layc HBOX.out HB9.out; clear hb5)
                      go_upto_region 11 with (go_at_call 35; refine (K35.out _ y HB9.out Hvq.out).mono ?_; rintro e W6 ⟨⟨v, rfl, ho6⟩, hb6⟩; have HO6 := hide ho6; have HB6 : Hid (Below W0.heap.size W0 W6) := hide (HB9.out.trans (hb6.mono HB9.out.size)); have HZ6 : Hid (W0.heap.size ≤ W9.heap.size) := hide HB9.out.size; clear ho6 hb6)
                      have HB7 := hide (HB6.out.alloc HB6.out.size (.cells #[.int .i64 ((i : Int) + 1)] 3))
                      have HO7 : Hid (intE.Own (W6.alloc (.cells #[.int .i64 ((i : Int) + 1)] 3)) W0.heap.size (.slice (some ⟨W6.heap.size, 0, none⟩) 1 1) [(i : Int) + 1]) := hide (El.Own.new intE W6 _ HB6.out.size _ [(i : Int) + 1] rfl (by simp) _ _ _ rfl rfl rfl)
                      have HP7 : Hid (intE.Rd (W6.alloc (.cells #[.int .i64 ((i : Int) + 1)] 3)) v (pth ns es cs l t q y)) := hide (HO6.out.rd.keep ((Below.refl _ _).alloc (Nat.le_refl _) _))
                      have Hln : Hid ([(i : Int) + 1].length + (pth ns es cs l t q y).length ≤ 1000000) := hide (by rw [Hpl.out y]; have := Hq9.out; simp; try omega)
                      go_wp2_with (at_builtin; refine intE.wp (w0 := W0) HB7.out (by rfl) _ _ rfl _ _ rfl rfl [(i : Int) + 1] (pth ns es cs l t q y) HO7.out HP7.out Hln.out ?_; intro v1 w2 ho2 _ _ hb2; have HO8 := hide ho2; have HB8 := hide hb2; clear ho2 hb2)
                      refine bodyPost_ret (v := .tuple #[v1, .bool true]) (by simp [results, Try.results35, go_sem]) rfl ?_
                      first
                        | exact ⟨⟨_, _, rfl, .inr ⟨_, HRS.out, rfl, HO8.out.mono HA.out.size⟩⟩, HA.out.trans (HB8.out.mono HA.out.size)⟩
                        | exact ⟨⟨_, .inr ⟨rfl, _, HRS.out, HO8.out.mono HA.out.size⟩⟩, HA.out.trans (HB8.out.mono HA.out.size)⟩
              · have q3 : (kindAt ns (y : Int) != 1) = true := bne_iff_ne.2 hk1
                have HX1 := hide (HS.out (by
                  by_cases hyt : y = t
                  · exact Hnoe.out _ _ i Hp.out (.inr (.inr (.inl (by rw [Int.toNat_natCast]; exact Hty.out hyt))))
                  · exact Hnoe.out _ _ i Hp.out (.inr (.inr (.inr (.inl ⟨by omega, hk1⟩))))))
                clear hk1
                go_wp2_with fail
                go_roundw
                case rel => exact ⟨i + 1, by omega, by go_num, HB, HX1⟩
                case measure => simp [intOf]; omega
          · have q1 : (x != (u : Int)) = true := bne_iff_ne.2 hx
            have HX1 := hide (HS.out (Hnoe.out _ _ i Hp.out (.inl hx)))
            clear hx
            go_wp2_with fail
            go_roundw
            case rel => exact ⟨i + 1, by omega, by go_num, HB, HX1⟩
            case measure => simp [intOf]; omega
        · obtain rfl : i = m := by omega
          have j1 : ¬ (i : Int) + 1 ≤ (i : Int) := by omega
          have HRN := hide (Hno.out HP.out)
          go_wp2_with fail
          refine bodyPost_ret (v := .tuple #[.slice none 0 0, .bool false]) (by simp [results, Try.results35, go_sem]) rfl ?_
          first
            | exact ⟨⟨_, _, rfl, .inl ⟨HRN.out, rfl, rfl⟩⟩, HA.out.trans (HB.out.mono HA.out.size)⟩
            | exact ⟨⟨_, .inl ⟨rfl, HRN.out, rfl⟩⟩, HA.out.trans (HB.out.mono HA.out.size)⟩
end Go.Proofs.Ytmkjpdmhplldjaa
