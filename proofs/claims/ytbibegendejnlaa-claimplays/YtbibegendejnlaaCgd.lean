/- Grants of the document. -/
import Derived.Test.YtbibegendejnlaaCgi
import Derived.Test.YtbibegendejnlaaCga
import Derived.BigRegion
namespace Go.Proofs.Ytbibegendejnlaa
open Go.RowKit
set_option linter.unusedVariables false
variable {pp : Nat → Nat → Prop}

/-- a table that is answered -/
def GRet (pp : Nat → Nat → Prop) (w w' : World) (aH : Option Addr) (cH : Nat) (aQ : Option Addr) (nQ cQ : Nat) (v : Value) (U : Tb) : Prop := ∃ U' l, nQ = U'.q.length ∧ nQ ≤ cQ ∧ U'.hold.length = U.hold.length ∧ Gr U U' l ∧ DT pp w' aH cH aQ cQ U' ∧ intE.Own w' w.heap.size v l

set_option maxRecDepth 100000 in
set_option maxHeartbeats 8000000 in
theorem rgrants_any (aH aQ : Option Addr) (cH cQ : Nat) (U : Tb) (w : World) (hT : DT pp w aH cH aQ cQ U) (hw : Wf U) (hN1 : 1 ≤ U.hold.length) (hcap : U.q.length ≤ cQ) (hp : ∀ k, w.heap.size ≤ k → pp 0 k) :
    Calls Try.prog 32 #[.agg #[.slice aH U.hold.length cH, .slice aQ U.q.length cQ]] w fun e w' => (∃ (aH' : Option Addr) (cH' : Nat) (aQ' : Option Addr) (nQ' cQ' : Nat) (v : Value), e = .returned (.tuple #[.agg #[.slice aH' U.hold.length cH', .slice aQ' nQ' cQ'], v]) ∧ GRet pp w w' aH' cH' aQ' nQ' cQ' v U) ∧ Below w.heap.size w w' := by
  obtain ⟨w0, rfl⟩ : ∃ w0, w0 = w := ⟨_, rfl⟩
  obtain ⟨W1, hW1⟩ : ∃ W1, W1 = (w0.alloc (.cells #[.slice aH U.hold.length cH, .slice aQ U.q.length cQ] 31)).alloc (.cells #[.slice none 0 0, .slice none 0 0] 31) := ⟨_, rfl⟩
  have hz : (w0.alloc (.cells #[.slice aH U.hold.length cH, .slice aQ U.q.length cQ] 31)).heap.size = w0.heap.size + 1 := Array.size_push _
  have hB1 : Below w0.heap.size w0 W1 := by rw [hW1]; exact ((Below.refl _ _).alloc (Nat.le_refl _) _).alloc (by rw [hz]; omega) _
  have hs1 : W1.heap.size = w0.heap.size + 2 := by rw [hW1]; show (Array.push _ _).size = _; rw [Array.size_push, hz]
  have f0 : W1.heap[w0.heap.size]? = some (.cells #[.slice aH U.hold.length cH, .slice aQ U.q.length cQ] 31) := by rw [hW1, Below.heap_alloc _ _ _ (by rw [hz]; omega)]; exact heap_new _ _
  have f1 : W1.heap[w0.heap.size + 1]? = some (.cells #[.slice none 0 0, .slice none 0 0] 31) := by
    rw [hW1]
    have := heap_new (w0.alloc (.cells #[.slice aH U.hold.length cH, .slice aQ U.q.length cQ] 31)) (.cells #[.slice none 0 0, .slice none 0 0] 31)
    rw [hz] at this
    exact this
  obtain ⟨h0, hh0⟩ : ∃ h0, w0.heap.size = h0 := ⟨_, rfl⟩
  have HG0 : Hid (∃ cs, GL pp w0 W1 h0 (.slice none 0 0) aH cH aQ cQ U U cs [] 0) := hide (by
    obtain ⟨cs, hcs⟩ := DS.start (h0 := h0) hT hB1 (by omega)
    rw [hh0] at f0 f1
    exact ⟨cs, f0, f1, hcs, El.Own.nil _ _ _, hB1, by omega, hw, rfl, by simp, fun T' l h => h, fun j hj => by omega, by omega, hcap, fun k hk => hp k (by omega)⟩)
  have HW1 := hide hW1
  have Hq := hide hw.qlen
  have Hh0 := hide hh0
  obtain ⟨N, hN⟩ : ∃ N, U.hold.length = N := ⟨_, rfl⟩
  obtain ⟨M0, hM0⟩ : ∃ M, U.q.length = M := ⟨_, rfl⟩
  rw [hN, hM0] at HW1
  rw [hN, hM0]
  have HNN := hide hN
  have i1 : (1 : Int) ≤ (N : Int) := by omega
  have HN1 : Hid (1 ≤ N) := hide (by omega)
  clear hp hcap hT hw hB1 hs1 f0 f1 hz hW1 hN hM0 hN1
  go_enter Try.func32, Try.ntmps32
  go_upto_region 3 with fail
  rw [← HW1.out]
  try rw [hh0]
  clear HW1 hh0
  go_loopw [4, 5] (fun v4 v5 wr => ∃ (i : Nat) (aH : Option Addr) (cH : Nat) (aQ : Option Addr) (cQ : Nat) (U1 : Tb) (cs : List Cv) (gs : List Int), v5 = .int .i64 i ∧ Hid (GL pp w0 wr h0 v4 aH cH aQ cQ U U1 cs gs i)) (fun v4 v5 _ => (40 - slen v4) * 64 + (40 - (intOf v5).toNat))
  case atStart =>
    obtain ⟨cs, h⟩ := HG0.out
    exact ⟨0, aH, cH, aQ, cQ, U, cs, [], rfl, hide h⟩
  case round =>
    clear HG0
    obtain ⟨i, aH, cH, aQ, cQ, U1, cs, gs, rfl, HG⟩ := hrel
    obtain ⟨v4, hv4⟩ : ∃ v, v = u4 := ⟨_, rfl⟩
    subst hv4
    have c0 := (cells_at HG.out.box 0).1
    have c1 := (cells_at HG.out.box 1).1
    simp only [List.getElem?_toArray, List.getElem?_cons_zero, List.getElem?_cons_succ] at c0 c1
    obtain ⟨M, hM⟩ : ∃ M, U1.q.length = M := ⟨_, rfl⟩
    have hNl : U1.hold.length = N := HG.out.nl.trans HNN.out
    rw [hNl] at c0
    rw [hM] at c1
    have hq30 := HG.out.wf.qlen
    have hiM : i ≤ M := by rw [← hM]; exact HG.out.ile
    have j0 : (0 : Int) ≤ (i : Int) := by omega
    have j1 : (M : Int) ≤ 30 := by omega
    have HM := hide hM
    have HNl := hide hNl
    by_cases hlt : i < M
    · obtain ⟨cl, hcl⟩ : ∃ x, U1.q[i]? = some x := ⟨_, List.getElem?_eq_getElem (by rw [hM]; exact hlt)⟩
      have j2 : (i : Int) < (M : Int) := by omega
      have K43 := hide (rmay_any aH aQ cH cQ U1 wr (HG.out.ds.dt (Agr.refl _ _ _)) HG.out.wf i cl hcl)
      rw [hM, hNl] at K43
      have Hcl := hide hcl
      clear hM hNl hq30 hcl
      cases hb : mayB U1 i with
      | false =>
        rw [hb] at K43
        have HG1 := hide (HG.out.next hb (by rw [HM.out]; exact hlt))
        clear hb
        go_wp2_with (go_at_call 43; refine K43.out.mono ?_; rintro e W4 ⟨rfl, hb4⟩; have HG4 := hide (HG1.out.keep hb4); clear hb4)
        go_roundw
        case rel => exact ⟨i + 1, aH, cH, aQ, cQ, U1, cs, gs, by go_num, HG4⟩
        case measure => simp [intOf]; omega
      | true =>
        rw [hb] at K43
        have Hmay := hide hb
        clear hb
        go_upto_region 6 with (go_at_call 43; refine K43.out.mono ?_; rintro e W4 ⟨rfl, hb4⟩; have HG4 := hide (HG.out.keep hb4); clear hb4)
        clear HG K43 c0 c1
        have hN1 := HN1.out
        obtain ⟨bq, oq, a', c', rfl, hAt⟩ := HG4.out.ds.at i cl Hcl.out
        have HAt := hide hAt
        obtain ⟨d0, d1, _⟩ := hAt W4 (Agr.refl _ _ _)
        have c1 := (cells_at HG4.out.box 1).1
        simp only [List.getElem?_toArray, List.getElem?_cons_zero, List.getElem?_cons_succ] at c1
        rw [HM.out] at c1
        clear hAt
        have Hnd := hide (HG4.out.wf.nodes cl (List.mem_of_getElem? Hcl.out))
        obtain ⟨t, ht⟩ : ∃ t, cl.tote = t := ⟨_, rfl⟩
        obtain ⟨m, hm⟩ : ∃ m, cl.nodes.length = m := ⟨_, rfl⟩
        have Ht := hide ht
        have Hm := hide hm
        have j3 : (m : Int) ≤ 100000 := by have := Hnd.out.2.2; omega
        rw [ht, hm] at HAt
        rw [ht] at d0
        rw [hm] at d1
        clear ht hm
        have Hst : Hid (∀ (w7 : World) (v7 : Value) (r : Option Nat), intE.Own w7 (W4.heap.size + 1) v7 U1.hold → ((W4.alloc (.cells #[.int .i64 t, .slice a' m c'] 71)).alloc (.cells #[] 3)).grownBy w7 r → (∀ k, r = some k → W4.heap.size + 1 ≤ k) → ∃ bh c7, v7 = .slice (some ⟨bh, 0, none⟩) N c7 ∧ GI w0 W4 (w7.setCell ⟨h0, 0, none⟩ (.slice (some ⟨bh, 0, none⟩) N c7)) h0 v4 bh c7 (some ⟨bq, oq, none⟩) M cQ t (.slice a' m c') gs U1.hold ∧ w7.cell? ⟨h0, 0, none⟩ = some (.slice aH N cH) ∧ w7.frozen? ⟨h0, 0, none⟩ = false) := hide (fun w7 v7 r ho hg hr => by
          have hs5 : (W4.alloc (.cells #[.int .i64 t, .slice a' m c'] 71)).heap.size = W4.heap.size + 1 := Array.size_push _
          obtain ⟨bh, c7, hv, _⟩ := ho.some (fun e => by have := HNl.out; rw [e] at this; simp at this; omega)
          have bl7 : Below (W4.alloc (.cells #[.int .i64 t, .slice a' m c'] 71)).heap.size (W4.alloc (.cells #[.int .i64 t, .slice a' m c'] 71)) w7 := ((Below.refl _ _).alloc (Nat.le_refl _) _).grown hg ((Below.refl _ _).alloc (Nat.le_refl _) _).size (fun k hk => by have := hr k hk; omega)
          subst hv
          have h7 := GI.start HG4.out Hh0.out ho bl7
          have hb : w7.heap[h0]? = some (.cells #[.slice aH U1.hold.length cH, .slice (some ⟨bq, oq, none⟩) U1.q.length cQ] 31) := by
            have := heap_lt HG4.out.box
            rw [bl7.block h0 (by omega), Below.heap_alloc _ _ _ this]; exact HG4.out.box
          rw [HNl.out, HM.out] at h7
          rw [HNl.out] at hb
          exact ⟨bh, c7, by rw [HNl.out], h7, (cells_at hb 0).1, (cells_at hb 0).2⟩)
        have HX : Hid (intE.Rd ((W4.alloc (.cells #[.int .i64 t, .slice a' m c'] 71)).alloc (.cells #[] 3)) (.slice aH N cH) U1.hold ∧ W4.heap.size + 1 ≤ ((W4.alloc (.cells #[.int .i64 t, .slice a' m c'] 71)).alloc (.cells #[] 3)).heap.size ∧ intE.Own ((W4.alloc (.cells #[.int .i64 t, .slice a' m c'] 71)).alloc (.cells #[] 3)) (W4.heap.size + 1) (.slice (some ⟨W4.heap.size + 1, 0, none⟩) 0 0) [] ∧ W4.cell? ⟨h0, 0, none⟩ = some (.slice aH N cH) ∧ U1.hold.length ≤ 1000) := hide (by
          have hs5 : (W4.alloc (.cells #[.int .i64 t, .slice a' m c'] 71)).heap.size = W4.heap.size + 1 := Array.size_push _
          have h1 := HG4.out.ds.hold W4 (Agr.refl _ _ _)
          have b5 : Below W4.heap.size W4 (W4.alloc (.cells #[.int .i64 t, .slice a' m c'] 71)) := (Below.refl _ _).alloc (Nat.le_refl _) _
          have b6 : Below W4.heap.size W4 ((W4.alloc (.cells #[.int .i64 t, .slice a' m c'] 71)).alloc (.cells #[] 3)) := b5.alloc b5.size _
          have hb := HG4.out.box
          rw [HNl.out] at h1 hb
          refine ⟨h1.keep b6, ?_, ?_, (cells_at hb 0).1, HG4.out.wf.len⟩
          · show _ ≤ (Array.push _ _).size
            rw [Array.size_push]; omega
          · exact El.Own.new intE _ _ (by omega) #[] [] rfl (by simp) _ _ _ hs5.symm rfl rfl)
        have c0 := HX.out.2.2.2.1
        have Hown : Hid (∀ k, (Value.slice (some ⟨W4.heap.size + 1, 0, none⟩) 0 0).ownBlock = some k → W4.heap.size + 1 ≤ k) := hide (fun k hk => by
          have hs5 : (W4.alloc (.cells #[.int .i64 t, .slice a' m c'] 71)).heap.size = W4.heap.size + 1 := Array.size_push _
          simp [Value.ownBlock] at hk; omega)
        go_upto_region 7 with fail
        have c06 : ((W4.alloc (.cells #[.int .i64 t, .slice a' m c'] 71)).alloc (.cells #[] 3)).cell? ⟨h0, 0, none⟩ = some (.slice aH N cH) := by
          have b5 : Below W4.heap.size W4 (W4.alloc (.cells #[.int .i64 t, .slice a' m c'] 71)) := (Below.refl _ _).alloc (Nat.le_refl _) _
          rw [(b5.alloc b5.size _).cell (cell_lt c0)]; exact c0
        clear d0 d1 c1 c0
        go_upto_region 8 with (at_builtin; refine intE.wpB (B := W4.heap.size + 1) HX.out.2.1 (by rfl) _ _ rfl _ _ rfl rfl [] U1.hold HX.out.2.2.1 HX.out.1 (by have := HX.out.2.2.2.2; simp; omega) ?_; intro v7 w7 ho7 hg7 _; obtain ⟨bh, c7, rfl, hi7, x0, x1⟩ := Hst.out _ _ _ ho7 hg7 Hown.out; have HI := hide hi7; clear ho7 hg7 hi7)
        clear Hst HX Hown
        obtain ⟨W7, hW7⟩ : ∃ W7, W7 = w7.setCell ⟨h0, 0, none⟩ (.slice (some ⟨bh, 0, none⟩) N c7) := ⟨_, rfl⟩
        rw [← hW7] at HI ⊢
        clear hW7 c06
        obtain ⟨k0, k1, k2, k3, k4, _⟩ := HI.out.cells HNl.out
        go_upto_region 9 with fail
        clear k0 k1 k2 k3 k4
        go_loopw [32] (fun v32 wr => ∃ y : Nat, v32 = .int .i64 y ∧ y ≤ m ∧ Hid (GI w0 W4 wr h0 v4 bh c7 (some ⟨bq, oq, none⟩) M cQ t (.slice a' m c') gs (setL U1.hold t (cl.nodes.take y)))) (fun v32 _ => m - (intOf v32).toNat)
        case atStart => exact ⟨0, rfl, Nat.zero_le _, HI⟩
        case round =>
          clear HI
          obtain ⟨y, rfl, hy, HI⟩ := hrel
          have hlen : (setL U1.hold t (cl.nodes.take y)).length = N := by rw [setL_len]; exact HNl.out
          obtain ⟨k0, k1, k2, k3, k4, k5⟩ := HI.out.cells hlen
          have g0 : (0 : Int) ≤ (y : Int) := by omega
          by_cases hym : y < m
          · obtain ⟨n, hn⟩ : ∃ n, cl.nodes[y]? = some n := ⟨_, List.getElem?_eq_getElem (by rw [Hm.out]; exact hym)⟩
            have hnn := Hnd.out.1 n (List.mem_of_getElem? hn)
            obtain ⟨x, rfl⟩ : ∃ x : Nat, n = (x : Int) := ⟨n.toNat, by omega⟩
            have hx : x < N := by have := HNl.out; omega
            obtain ⟨⟨u, f3⟩, f4⟩ := k5 x hx
            obtain ⟨kb, off, rfl, e0⟩ := int_at (HAt.out _ HI.out.agr).2.2 y _ hn
            have g1 : (y : Int) < (m : Int) := by omega
            have g2 : (0 : Int) ≤ (x : Int) := by omega
            have g3 : (x : Int) < (N : Int) := by omega
            have HI2 : Hid (GI w0 W4 (wr.drew.setCell ⟨bh, x, none⟩ (.int .i64 t)) h0 v4 bh c7 (some ⟨bq, oq, none⟩) M cQ t (.slice (some ⟨kb, off, none⟩) m c') gs (setL U1.hold t (cl.nodes.take (y + 1)))) := hide (by
              rw [List.take_add_one, hn]
              show GI _ _ _ _ _ _ _ _ _ _ _ _ _ (setL U1.hold t (cl.nodes.take y ++ [(x : Int)]))
              rw [setL_snoc, show ((x : Int)).toNat = x by omega]
              exact (HI.out.keep ((Below.refl _ _).drew)).put HG4.out.size Hh0.out x)
            clear hn hnn HI k5 hlen k1 k2
            go_upto_region 11 with fail
            go_region
            go_wp2_with fail
            go_roundw
            case rel => exact ⟨y + 1, by go_num, by omega, HI2⟩
            case measure => simp [intOf]; omega
          · obtain rfl : y = m := by omega
            have g1 : ¬ (y : Int) < (y : Int) := by omega
            rw [List.take_of_length_le (by rw [Hm.out]; exact Nat.le_refl _)] at HI
            clear k0 k5 k4 hlen
            go_upto_region 13 with fail
            have Hi1 : Hid (i < U1.q.length) := hide (by have := HM.out; omega)
            have HQ : Hid (rcE.Rd wr (.slice (some ⟨bq, oq, none⟩) M cQ) cs) := hide (by have := HG4.out.ds.q wr HI.out.agr; rw [HM.out] at this; exact this)
            have Hle : Hid (cs.length = M) := hide ((HG4.out.ds.el wr HI.out.agr).1.trans HM.out)
            have Hcap : Hid (M ≤ cQ) := hide (by have := HG4.out.cap; rw [HM.out] at this; exact this)
            have j4 : (i : Int) ≤ (cQ : Int) := by have := Hcap.out; omega
            have j5 : (i : Int) + 1 ≤ (M : Int) := by omega
            have j6 : (M : Int) ≤ (cQ : Int) := by have := Hcap.out; omega
            have j7 : IntKind.i64.wrap ((i : Int) + 1) = (i : Int) + 1 := IntWalk.i64_in _ (by omega)
            have j8 : ¬ ((i : Int) + 1 < 0) := by omega
            have j9 : ((i : Int) + 1).toNat = i + 1 := by omega
            have Hq4 : Hid (∀ W', Below wr.heap.size wr W' → rcE.Rd W' (.slice (some ⟨bq, oq, none⟩) i cQ) (cs.take i)) := hide (fun W' hb => rd_take (HQ.out.keep hb) i (by have := Hle.out; omega))
            have Hq5 : Hid (∀ W', Below wr.heap.size wr W' → rcE.Rd W' (.slice (if cQ = i + 1 then some ⟨bq, oq, none⟩ else some ⟨bq, oq + (i + 1) * 2, none⟩) (M - (i + 1)) (cQ - (i + 1))) (cs.drop (i + 1))) := hide (fun W' hb => rd_drop (HQ.out.keep hb) (by have := Hle.out; have := Hcap.out; omega) (i + 1) (by have := Hle.out; omega))
            have Hcb : Hid (cs.length ≤ 30) := hide (by have := Hle.out; omega)
            have Hdl : Hid ((cs.take i ++ cs.drop (i + 1)).length = M - 1) := hide (by have := Hle.out; simp only [List.length_take, List.length_drop, List.length_append]; omega)
            have Hdq : Hid (M - 1 = (U1.q.take i ++ U1.q.drop (i + 1)).length) := hide (by have := HM.out; simp only [List.length_take, List.length_drop, List.length_append]; omega)
            obtain ⟨SS, hSS⟩ : ∃ SS : World → Prop, SS = fun W' => W'.cell? ⟨h0, 1, none⟩ = some (.slice (some ⟨bq, oq, none⟩) M cQ) ∧ W'.frozen? ⟨h0, 1, none⟩ = false := ⟨_, rfl⟩
            have s1 : ∀ W', SS W' → W'.cell? ⟨h0, 1, none⟩ = some (.slice (some ⟨bq, oq, none⟩) M cQ) := fun W' h => by rw [hSS] at h; exact h.1
            have s2 : ∀ W', SS W' → W'.frozen? ⟨h0, 1, none⟩ = false := fun W' h => by rw [hSS] at h; exact h.2
            have hlt0 := heap_lt HI.out.box
            have FS : Hid (∀ W', Below wr.heap.size wr W' → SS W') := hide (fun W' hW => by
              rw [hSS]
              exact ⟨by rw [World.cell?_of_block (w := wr) (hW.block h0 hlt0)]; exact k1, by rw [World.frozen?_of_block (w := wr) (hW.block h0 hlt0)]; exact k2⟩)
            have hS0 := FS.out _ ((Below.refl _ _).drew)
            clear hSS k1 k2 k3 hlt0
            refine wp_region_E SS 13 (by kernel_rfl) ?_
            refine wpAnyE_take (i := 1) (v := .pointer (some ⟨h0, 1, none⟩)) rfl (by kernel_rfl) (by kernel_rfl) (by kernel_rfl) (by kernel_rfl) (fun _ _ _ h => h) (Or.inl ⟨by rfl, fun W' hW => by go_simp⟩) hS0 ?_
            refine wpAnyE_take (i := 2) (v := .slice (some ⟨bq, oq, none⟩) M cQ) rfl (by kernel_rfl) (by kernel_rfl) (by kernel_rfl) (by kernel_rfl) (fun _ _ _ h => h) (Or.inl ⟨by rfl, fun W' hW => by have := s1 W' hW; go_simp⟩) hS0 ?_
            refine wpAnyE_take (i := 3) (v := .int .i64 (i : Int)) rfl (by kernel_rfl) (by kernel_rfl) (by kernel_rfl) (by kernel_rfl) (fun _ _ _ h => h) (Or.inl ⟨by rfl, fun W' hW => by go_simp⟩) hS0 ?_
            refine wpAnyE_take (i := 4) (v := .slice (some ⟨bq, oq, none⟩) i cQ) rfl (by kernel_rfl) (by kernel_rfl) (by kernel_rfl) (by kernel_rfl) (fun _ _ _ h => h) (Or.inl ⟨by rfl, fun W' hW => by go_simp⟩) hS0 ?_
            refine wpAnyE_take (i := 6) (v := .pointer (some ⟨h0, 1, none⟩)) rfl (by kernel_rfl) (by kernel_rfl) (by kernel_rfl) (by kernel_rfl) (fun _ _ _ h => h) (Or.inl ⟨by rfl, fun W' hW => by go_simp⟩) hS0 ?_
            refine wpAnyE_take (i := 7) (v := .slice (some ⟨bq, oq, none⟩) M cQ) rfl (by kernel_rfl) (by kernel_rfl) (by kernel_rfl) (by kernel_rfl) (fun _ _ _ h => h) (Or.inl ⟨by rfl, fun W' hW => by have := s1 W' hW; go_simp⟩) hS0 ?_
            refine wpAnyE_take (i := 8) (v := .int .i64 (i : Int)) rfl (by kernel_rfl) (by kernel_rfl) (by kernel_rfl) (by kernel_rfl) (fun _ _ _ h => h) (Or.inl ⟨by rfl, fun W' hW => by go_simp⟩) hS0 ?_
            refine wpAnyE_take (i := 9) (v := .int .i64 ((i : Int) + 1)) rfl (by kernel_rfl) (by kernel_rfl) (by kernel_rfl) (by kernel_rfl) (fun _ _ _ h => h) (Or.inl ⟨by rfl, fun W' hW => by go_simp⟩) hS0 ?_
            refine wpAnyE_take (i := 10) (v := .slice (if cQ = i + 1 then some ⟨bq, oq, none⟩ else some ⟨bq, oq + (i + 1) * 2, none⟩) (M - (i + 1)) (cQ - (i + 1))) rfl (by kernel_rfl) (by kernel_rfl) (by kernel_rfl) (by kernel_rfl) (fun _ _ _ h => h) (Or.inl ⟨by rfl, fun W' hW => by go_simp⟩) hS0 ?_
            refine wpAnyE_ready (rs := [0]) (by kernel_rfl) (by simp) ?_
            refine AllReadyE.cons rfl (fun K hK => ?_) AllReadyE.nil
            go_simp
            have bX : Below wr.heap.size wr (wr.drew.alloc (.cells #[] 71)) := ((Below.refl _ _).drew).alloc (Nat.le_refl _) _
            refine hK.out _ _ (fun _ => FS.out _ bX) ?_
            clear hK K
            refine wpAnyE_ready (rs := [5]) (by kernel_rfl) (by simp) ?_
            refine AllReadyE.cons rfl (fun K hK => ?_) AllReadyE.nil
            refine rcE.stepB (B := wr.heap.size) bX.size rfl (.tmp 46) (.tmp 50) rfl (.slice (some ⟨wr.heap.size, 0, none⟩) 0 0) (.slice (some ⟨bq, oq, none⟩) i cQ) rfl rfl [] (cs.take i) (El.Own.new rcE wr.drew wr.heap.size (Nat.le_refl _) #[] [] rfl (by simp) _ _ _ rfl rfl rfl) (Hq4.out _ bX) (by have := Hcb.out; simp only [List.length_take, List.length_nil]; omega) ?_
            intro v5 w5 ho5 hg5 hz5
            have b5 : Below wr.heap.size wr w5 := bX.grown hg5 bX.size (fun k hk => by simp [Value.ownBlock] at hk; omega)
            rw [List.nil_append] at ho5
            refine hK.out _ _ (fun _ => FS.out _ b5) ?_
            clear hK K
            refine wpAnyE_ready (rs := [11]) (by kernel_rfl) (by simp) ?_
            refine AllReadyE.cons rfl (fun K hK => ?_) AllReadyE.nil
            refine rcE.stepB (B := wr.heap.size) b5.size rfl (.tmp 51) (.tmp 56) rfl v5 (.slice (if cQ = i + 1 then some ⟨bq, oq, none⟩ else some ⟨bq, oq + (i + 1) * 2, none⟩) (M - (i + 1)) (cQ - (i + 1))) rfl rfl (cs.take i) (cs.drop (i + 1)) ho5 (Hq5.out _ b5) (by have := Hcb.out; simp only [List.length_take, List.length_drop]; omega) ?_
            intro v8 w8 ho8 hg8 hz8
            have b8 : Below wr.heap.size wr w8 := b5.grown hg8 b5.size (fun k hk => ho5.ge k hk)
            refine hK.out _ _ (fun _ => FS.out _ b8) ?_
            clear hK K
            refine wpAnyE_ready (rs := [12]) (by kernel_rfl) (by simp) ?_
            refine AllReadyE.cons rfl (fun K hK => ?_) AllReadyE.nil
            go_simp
            refine hK.out _ _ (fun _ => FS.out _ b8) ?_
            clear hK K
            refine wpAnyE_ready (rs := [13]) (by kernel_rfl) (by simp) ?_
            refine AllReadyE.cons rfl (fun K hK => ?_) AllReadyE.nil
            have x1 := s1 _ (FS.out _ b8)
            have x2 := s2 _ (FS.out _ b8)
            obtain ⟨a8, c8, hf8⟩ := ho8.rd.form
            rw [Hdl.out] at hf8
            subst hf8
            go_simp
            refine hK.out _ _ (fun h => absurd rfl h) ?_
            clear hK K
            refine wpAnyE_done (by kernel_rfl) ?_ _
            have HO8 := hide ho8
            have HB8 := hide b8
            clear hS0 ho5 hg5 hz5 ho8 hg8 hz8 bX b5 b8 x1 x2 s1 s2
            have HK : Hid (GK pp w0 (w8.setCell ⟨h0, 1, none⟩ (.slice a8 (M - 1) c8)) h0 v4 (some ⟨bh, 0, none⟩) c7 a8 c8 W4.heap.size cl.tote (.slice a' y c') (grant U1 i cl) (cs.take i ++ cs.drop (i + 1)) gs) := hide (by
              have h := HI.out
              rw [← HM.out] at h
              have h2 := GI.cut HG4.out Hh0.out h Hi1.out HB8.out Hdq.out HO8.out
              rw [← Ht.out] at h2
              exact h2)
            clear Hq4 Hq5 Hcb Hdl Hdq FS HQ Hle Hcap HO8 HB8 HI j4 j5 j6 j7 j8 j9
            generalize w8.setCell ⟨h0, 1, none⟩ (.slice a8 (M - 1) c8) = W8 at *
            have hcb := (cells_at HK.out.cbox 0).1
            simp only [List.getElem?_toArray, List.getElem?_cons_zero] at hcb
            have hsz := HK.out.size
            have Hba : Hid (∀ o, Below W8.heap.size W8 (W8.alloc o)) := hide (fun o => (Below.refl _ _).alloc (Nat.le_refl _) _)
            have Hgl : Hid (gs.length + [cl.tote].length ≤ 1000000) := hide (by have := HG4.out.cnt; have := Hq.out; simp only [List.length_cons, List.length_nil]; omega)
            have Hsz := hide hsz
            clear hsz
            go_wp2_with (at_builtin; refine intE.wpB (B := h0 + 2) (Nat.le_trans Hsz.out (Hba.out _).size) (by rfl) _ _ rfl _ _ rfl rfl gs [cl.tote] (HK.out.own.keep (Hba.out _)) (int_new _ _ _ rfl) Hgl.out ?_; intro v10 w10 ho10 hg10 hz10; have HG10 := hide (GK.done HG4.out Hcl.out Hmay.out Hh0.out HK.out ho10 hg10 hz10); clear ho10 hg10 hz10)
            go_roundw
            case rel => exact ⟨0, some ⟨bh, 0, none⟩, c7, a8, c8, grant U1 i cl, cs.take i ++ cs.drop (i + 1), gs ++ [cl.tote], by go_num, HG10⟩
            case measure =>
              have h1 := slen_own HG10.out.own
              have h2 := slen_own HG4.out.own
              have h3 := HG4.out.cnt
              have h4 := Hq.out
              have h5 := HM.out
              simp only [List.length_append, List.length_cons, List.length_nil] at h1
              rw [h1, h2]
              simp [intOf]
              omega
    · obtain rfl : i = M := by omega
      have j2 : ¬ (i : Int) < (i : Int) := by omega
      have HD : Hid (Gr U U1 gs) := hide (by
        have := HG.out.gr U1 [] (.done U1 (fun j => by
          rcases Nat.lt_or_ge j i with h | h
          · exact HG.out.less j h
          · exact mayB_out (by rw [hM]; exact h)))
        rwa [List.append_nil] at this)
      obtain ⟨z0, z1⟩ := cells_at HG.out.ans 0
      obtain ⟨z2, z3⟩ := cells_at HG.out.ans 1
      simp only [List.getElem?_toArray, List.getElem?_cons_zero, List.getElem?_cons_succ] at z0 z2
      have HR : Hid (GRet pp w0 ((wr.setCell ⟨h0 + 1, 0, none⟩ (.slice aH N cH)).setCell ⟨h0 + 1, 1, none⟩ (.slice aQ i cQ)) aH cH aQ i cQ v4 U ∧ Below w0.heap.size w0 ((wr.setCell ⟨h0 + 1, 0, none⟩ (.slice aH N cH)).setCell ⟨h0 + 1, 1, none⟩ (.slice aQ i cQ))) := hide (by
        have ha : Agr h0 v4 wr ((wr.setCell ⟨h0 + 1, 0, none⟩ (.slice aH N cH)).setCell ⟨h0 + 1, 1, none⟩ (.slice aQ i cQ)) := agr_ans.trans agr_ans (by rw [set_size]; exact Nat.le_refl _) (fun k hk => .inl hk)
        have e0 := Hh0.out
        have hne : v4.ownBlock ≠ some (h0 + 1) := zown_ne HG.out.own HG.out.ans (by decide)
        refine ⟨⟨U1, gs, HM.out.symm, by rw [← HM.out]; exact HG.out.cap, HG.out.nl, HD.out, HG.out.ds.dt ha, (own_set_other (own_set_other HG.out.own hne) hne).mono (by omega)⟩, (HG.out.bel.setCell (p := ⟨h0 + 1, 0, none⟩) (by show _ ≤ h0 + 1; omega) _).setCell (p := ⟨h0 + 1, 1, none⟩) (by show _ ≤ h0 + 1; omega) _⟩)
      clear HG hM hNl hq30
      go_wp2_with fail
      refine bodyPost_ret (v := .tuple #[.agg #[.slice aH N cH, .slice aQ i cQ], v4]) (by simp [results, Try.results32, go_sem, z0, z2]) rfl ⟨⟨aH, cH, aQ, i, cQ, v4, rfl, HR.out.1⟩, HR.out.2⟩
end Go.Proofs.Ytbibegendejnlaa
