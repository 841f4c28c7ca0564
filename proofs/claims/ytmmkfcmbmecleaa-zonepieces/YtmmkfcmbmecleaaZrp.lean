/- The document's Pieces. -/
import Derived.Test.YtmmkfcmbmecleaaZrz
namespace Go.Proofs.Ytmmkfcmbmecleaa
open Go.RowKit
set_option linter.unusedVariables false

/-- pieces that are done, and the one that grows -/
structure Db (B : Nat) (w : World) (v6 v7 : Value) (svs : List Sv) (out : List (List Int)) (now : List Int) : Prop where
  lb : Lb B w v6 svs out
  nw : intE.Own w B v7 now
  sp : ∀ (i : Nat) (u : Sv), svs[i]? = some u → Sep v7 (.slice u.a u.l u.c)
theorem Db.keep {B : Nat} {w w' : World} {v6 v7 : Value} {svs : List Sv} {out : List (List Int)} {now : List Int} (h : Db B w v6 v7 svs out now) (hb : Below w.heap.size w w') : Db B w' v6 v7 svs out now := ⟨h.lb.keep hb, h.nw.keep hb, h.sp⟩
theorem Db.grow {B : Nat} {w w' : World} {v6 v7 v' : Value} {svs : List Sv} {out : List (List Int)} {now : List Int} {x : Int} (h : Db B w v6 v7 svs out now) (ho : intE.Own w' B v' (now ++ [x])) (hg : w.grownBy w' v7.ownBlock) (hv : v'.ownBlock = v7.ownBlock ∨ v'.ownBlock = some w.heap.size) : Db B w' v6 v' svs out (now ++ [x]) := by
  refine ⟨⟨El.Own.kept (sl_sep h.lb.own h.nw).symm h.lb.own hg, h.lb.len, fun i s p hs hp => El.Own.kept (h.sp i s hs) (h.lb.el i s p hs hp) hg, h.lb.sep⟩, ho, fun i u hu => ?_⟩
  obtain ⟨p, hp⟩ : ∃ p, out[i]? = some p := ⟨_, List.getElem?_eq_getElem (by rw [← h.lb.len]; exact idx_lt hu)⟩
  exact El.Own.sep (h.sp i u hu) (h.lb.el i u p hu hp) hv
theorem Db.push {B : Nat} {w w' : World} {v6 v' : Value} {s : Sv} {svs : List Sv} {out : List (List Int)} {now : List Int} (h : Db B w v6 (.slice s.a s.l s.c) svs out now) (ho : slE.Own w' B v' (svs ++ [s])) (hg : w.grownBy w' v6.ownBlock) : Lb B w' v' (svs ++ [s]) (out ++ [now]) :=
  h.lb.snoc ho hg h.nw h.sp
theorem Db.new {B : Nat} {w : World} {v6 : Value} {svs : List Sv} {out : List (List Int)} (h : Lb B w v6 svs out) : Db B w v6 (.slice none 0 0) svs out [] := ⟨h, El.Own.nil _ _ _, fun i u hu g hg => by cases hg⟩

def pOut (dz : Int → Int) (path : List Int) (i : Nat) : List (List Int) := (pcs dz path i).dropLast
def pNow (dz : Int → Int) (path : List Int) (i : Nat) : List Int := (pcs dz path i).getLast?.getD []
theorem pcs_join {dz : Int → Int} {path : List Int} {i : Nat} (h : 0 < (pcs dz path i).length) : pcs dz path i = pOut dz path i ++ [pNow dz path i] := by
  obtain ⟨Q, pl, hQ⟩ : ∃ Q pl, pcs dz path i = Q ++ [pl] := ⟨_, _, (List.dropLast_concat_getLast (List.length_pos_iff.1 h)).symm⟩
  unfold pOut pNow
  rw [hQ, List.dropLast_concat, last_snoc]
  rfl
theorem pOut_yes {dz : Int → Int} {path : List Int} {i : Nat} (h : chg dz path i = true) : pOut dz path (i + 1) = pcs dz path i ∧ pNow dz path (i + 1) = [pat path i] := by
  unfold pOut pNow
  rw [pcs_yes h, List.dropLast_concat, last_snoc]
  exact ⟨rfl, rfl⟩
theorem pOut_no {dz : Int → Int} {path : List Int} {i : Nat} (h : chg dz path i = false) : pOut dz path (i + 1) = pOut dz path i ∧ pNow dz path (i + 1) = pNow dz path i ++ [pat path i] := by
  unfold pOut pNow
  rw [pcs_no h, List.dropLast_concat, last_snoc]
  exact ⟨rfl, rfl⟩

/-- what the document's Pieces tells -/
def RPP (ok : Bool) (ps : List (List Int)) (B : Nat) (u : Value) (w' : World) : Prop := (ok = true ∧ ∃ svs, Lb B w' u svs ps) ∨ (ok = false ∧ u = .slice none 0 0)

set_option maxRecDepth 100000 in
set_option maxHeartbeats 8000000 in
theorem rpieces_any (a a' aP : Option Addr) (c c' cP n m k : Nat) (ns : List Nd) (es : List Ed) (path : List Int) (w : World) (hL : Ly w a a' c c' n m ns es) (hk : path.length = k) (hP : intE.Rd w (.slice aP k cP) path) (hk4 : k ≤ 1000) (hzn : ∀ p ∈ ns, 0 ≤ p.zone) :
    Calls Try.prog 14 #[.agg #[.slice a n c, .slice a' m c'], .slice aP k cP] w fun e w' => (∃ u, e = .returned (.tuple #[u, .bool (path.all (dOk es))]) ∧ RPP (path.all (dOk es)) (pcs (dz ns es) path k) w.heap.size u w') ∧ Below w.heap.size w w' := by
  obtain ⟨W0, hW0⟩ : ∃ W0, w.alloc (.cells #[.slice a n c, .slice a' m c'] 25) = W0 := ⟨_, rfl⟩
  have bA : Below w.heap.size w W0 := by rw [← hW0]; exact (Below.refl _ _).alloc (Nat.le_refl _) _
  have hbox : W0.heap[w.heap.size]? = some (.cells #[.slice a n c, .slice a' m c'] 25) := by rw [← hW0]; exact heap_new _ _
  have HA := hide bA
  have HPr : Hid (∀ W, Below W0.heap.size W0 W → intE.Rd W (.slice aP k cP) path) := hide (fun W hb => (hP.keep bA).keep hb)
  have HCb : Hid (∀ W, Below W0.heap.size W0 W → W.cell? ⟨w.heap.size, 0, none⟩ = some (.slice a n c) ∧ W.cell? ⟨w.heap.size, 1, none⟩ = some (.slice a' m c')) := hide (fun W hb => layc hbox hb)
  have K16 : Hid (∀ (W : World) (d : Int), Below W0.heap.size W0 W → Calls Try.prog 16 #[.agg #[.slice a n c, .slice a' m c'], .int .i64 d] W fun e w' => e = .returned (.int .i64 (rdz ns es d)) ∧ Below W.heap.size W w') := hide (fun W d hb => rzone_any a a' c c' n m ns es d W ((hL.keep bA).keep hb))
  have Hneg : Hid (∀ d : Int, dOk es d = false → rdz ns es d = -1) := hide (fun d h => by unfold rdz; rw [if_neg (by rw [h]; decide)])
  have Hpos : Hid (∀ d : Int, dOk es d = true → rdz ns es d = dz ns es d ∧ 0 ≤ dz ns es d) := hide (fun d h => by
    obtain ⟨i, q, e, p, _, _, _, _, hp, hz⟩ := dz_at hL.hn hL.hE h
    exact ⟨by unfold rdz; rw [if_pos h], by rw [← hz]; exact hzn p (List.mem_of_getElem? hp)⟩)
  have no : Hid (∀ (j : Nat) (x : Int), path[j]? = some x → dOk es x = false → path.all (dOk es) = false) := hide (fun j x h e => by
    rw [List.all_eq_false]
    exact ⟨x, List.mem_of_getElem? h, by simp [e]⟩)
  have yes : Hid ((∀ j : Nat, j < k → ∀ x, path[j]? = some x → dOk es x = true) → path.all (dOk es) = true) := hide (fun h => by
    rw [List.all_eq_true]
    intro x hx
    obtain ⟨j, hj⟩ := List.getElem?_of_mem hx
    exact h j (by have := idx_lt hj; omega) x hj)
  have Hk := hide hk
  have i0 : (k : Int) ≤ 1000 := by omega
  generalize path.all (dOk es) = ok at *
  clear hL hP bA hbox hk hzn
  go_enter Try.func14, Try.ntmps14
  go_upto_region 4 with fail
  clear hW0
  go_loopw [6, 7, 11] (fun v6 v7 v11 wr => ∃ (i : Nat) (svs : List Sv), v11 = .int .i64 i ∧ i ≤ k ∧ Hid (Below W0.heap.size W0 wr) ∧ Hid (Db W0.heap.size wr v6 v7 svs (pOut (dz ns es) path i) (pNow (dz ns es) path i)) ∧ Hid (∀ j : Nat, j < i → ∀ x, path[j]? = some x → dOk es x = true)) (fun _ _ v11 _ => k - (intOf v11).toNat)
  case atStart => exact ⟨0, [], rfl, Nat.zero_le _, hide (Below.refl _ _), hide (Db.new (Lb.nil _ _)), hide (fun j hj => by omega)⟩
  case round =>
    obtain ⟨i, svs, rfl, hi, HB, HD, HK⟩ := hrel
    obtain ⟨v6, hv6⟩ : ∃ V, V = u6 := ⟨_, rfl⟩
    subst hv6
    obtain ⟨s7, hs7⟩ : ∃ s : Sv, u7 = .slice s.a s.l s.c := by
      obtain ⟨a, c, h⟩ := HD.out.nw.rd.form
      exact ⟨⟨a, _, c⟩, h⟩
    subst hs7
    by_cases hlt : i < k
    · obtain ⟨x, hx⟩ : ∃ x, path[i]? = some x := ⟨_, List.getElem?_eq_getElem (by rw [Hk.out]; exact hlt)⟩
      obtain ⟨y, hy⟩ : ∃ y, path[i - 1]? = some y := ⟨_, List.getElem?_eq_getElem (by rw [Hk.out]; omega)⟩
      obtain ⟨bp, offp, haP, _⟩ := int_at (HPr.out _ HB.out) i x hx
      subst haP
      obtain ⟨im, him⟩ : ∃ im : Nat, i - 1 = im := ⟨_, rfl⟩
      have HC : Hid (∀ W, Below W0.heap.size W0 W → W.cell? ⟨w.heap.size, 0, none⟩ = some (.slice a n c) ∧ W.cell? ⟨w.heap.size, 1, none⟩ = some (.slice a' m c') ∧ W.cell? ⟨bp, offp + i, none⟩ = some (.int .i64 x) ∧ W.cell? ⟨bp, offp + im, none⟩ = some (.int .i64 y)) := hide (fun W hb => by
        obtain ⟨h1, h2⟩ := HCb.out W hb
        obtain ⟨b1, o1, e1, h3⟩ := int_at (HPr.out _ hb) i x hx
        obtain ⟨b2, o2, e2, h4⟩ := int_at (HPr.out _ hb) (i - 1) y hy
        simp only [Option.some.injEq, Addr.mk.injEq] at e1 e2
        obtain ⟨rfl, rfl, _⟩ := e1
        obtain ⟨rfl, rfl, _⟩ := e2
        exact ⟨h1, h2, h3, by rw [← him]; exact h4⟩)
      have Hx := hide hx
      have Hy := hide hy
      have Him := hide him
      have g0 : (0 : Int) ≤ (i : Int) := by omega
      have g1 : (i : Int) < (k : Int) := by omega
      clear hx hy him
      cases hd : dOk es x with
      | false =>
        have e1 := no.out i x Hx.out hd
        subst e1
        have hrz := Hneg.out x hd
        have Hfin : Hid (∀ W, RPP false (pcs (dz ns es) path k) w.heap.size (.slice none 0 0) W) := hide (fun W => .inr ⟨rfl, rfl⟩)
        generalize rdz ns es x = rv at *
        have K16x : Hid (∀ (W : World), Below W0.heap.size W0 W → Calls Try.prog 16 #[.agg #[.slice a n c, .slice a' m c'], .int .i64 x] W fun e w' => e = .returned (.int .i64 (-1)) ∧ Below W.heap.size W w') := hide (fun W hb => by
          have := K16.out W x hb
          rw [Hneg.out x hd] at this
          exact this)
        clear hd hrz
        go_upto_region 6 with fail
        refine wp_region_held_drew (S := fun W => Below W0.heap.size W0 W) (by kernel_rfl) (HB.out.drew) (fun hS0 => ?_)
        refine wpAnyH_take (i := 0) (v := .agg #[.slice a n c, .slice a' m c']) rfl (by kernel_rfl) (by kernel_rfl) (by kernel_rfl) (fun _ _ _ h => h) (Or.inl ⟨by rfl, fun W' hW => by obtain ⟨z0, z1, z2, z3⟩ := HC.out W' hW; go_simp⟩) hS0 ?_
        refine wpAnyH_take (i := 1) (v := .slice (some ⟨bp, offp, none⟩) k cP) rfl (by kernel_rfl) (by kernel_rfl) (by kernel_rfl) (fun _ _ _ h => h) (Or.inl ⟨by rfl, fun W' hW => by go_simp⟩) hS0 ?_
        refine wpAnyH_take (i := 2) (v := .int .i64 (i : Int)) rfl (by kernel_rfl) (by kernel_rfl) (by kernel_rfl) (fun _ _ _ h => h) (Or.inl ⟨by rfl, fun W' hW => by go_simp⟩) hS0 ?_
        refine wpAnyH_take (i := 3) (v := .pointer (some ⟨bp, offp + i, none⟩)) rfl (by kernel_rfl) (by kernel_rfl) (by kernel_rfl) (fun _ _ _ h => h) (Or.inl ⟨by rfl, fun W' hW => by go_simp⟩) hS0 ?_
        refine wpAnyH_take (i := 4) (v := .int .i64 x) rfl (by kernel_rfl) (by kernel_rfl) (by kernel_rfl) (fun _ _ _ h => h) (Or.inl ⟨by rfl, fun W' hW => by obtain ⟨z0, z1, z2, z3⟩ := HC.out W' hW; go_simp⟩) hS0 ?_
        refine wpAnyH_ready (rs := [5]) (by kernel_rfl) (by simp) ?_
        refine AllReadyH.cons rfl (fun K hK => ?_) AllReadyH.nil
        go_simp
        refine (K16x.out _ hS0).mono ?_
        rintro e W5 ⟨rfl, hb5⟩
        have HB5 := hide (hS0.trans (hb5.mono hS0.size))
        have HK5 := hide hb5
        refine hK.out _ _ HB5.out (fun hS1 => ?_)
        clear hK K hb5
        refine wpAnyH_ready (rs := [6]) (by kernel_rfl) (by simp) ?_
        refine AllReadyH.cons rfl (fun K hK => ?_) AllReadyH.nil
        go_simp
        refine hK.out _ _ hS1 (fun _ => ?_)
        clear hK K
        refine wpAnyH_done (by kernel_rfl) ?_ _
        have HBf := hide (HA.out.trans (HB5.out.mono HA.out.size))
        go_wp2_with fail
        go_ret2
        exact ⟨⟨_, rfl, Hfin.out _⟩, HBf.out⟩
      | true =>
        obtain ⟨hr1, hr2⟩ := Hpos.out x hd
        have HK1 : Hid (∀ j : Nat, j < i + 1 → ∀ x, path[j]? = some x → dOk es x = true) := hide (fun j' hj' x' hx' => by
          rcases Nat.lt_or_ge j' i with g | g
          · exact HK.out j' g x' hx'
          · obtain rfl : j' = i := by omega
            rw [Hx.out] at hx'; cases hx'; exact hd)
        have Hxz : Hid (rdz ns es x = dz ns es x) := hide hr1
        have hr3 : ¬ (rdz ns es x < 0) := by rw [hr1]; omega
        have Hchd : Hid (0 < i → chg (dz ns es) path i = decide (rdz ns es x ≠ rdz ns es y)) := hide (fun h0 => by
          have hyo := HK.out (i - 1) (by omega) y Hy.out
          rw [Hxz.out, (Hpos.out y hyo).1]
          unfold chg
          rw [pat_at Hx.out, pat_at Hy.out]
          simp [show ¬ i = 0 by omega])
        generalize rdz ns es x = rx at *
        have K16x : Hid (∀ (W : World), Below W0.heap.size W0 W → Calls Try.prog 16 #[.agg #[.slice a n c, .slice a' m c'], .int .i64 x] W fun e w' => e = .returned (.int .i64 rx) ∧ Below W.heap.size W w') := hide (fun W hb => by
          have := K16.out W x hb
          rw [(Hpos.out x hd).1, ← Hxz.out] at this
          exact this)
        have hpw := pcf (dz ns es) path i (by rw [Hk.out]; omega)
        have Hpw := hide hpw
        clear hd hr1 hr2 hpw
        go_upto_region 6 with fail
        refine wp_region_held_drew (S := fun W => Below W0.heap.size W0 W) (by kernel_rfl) (HB.out.drew) (fun hS0 => ?_)
        refine wpAnyH_take (i := 0) (v := .agg #[.slice a n c, .slice a' m c']) rfl (by kernel_rfl) (by kernel_rfl) (by kernel_rfl) (fun _ _ _ h => h) (Or.inl ⟨by rfl, fun W' hW => by obtain ⟨z0, z1, z2, z3⟩ := HC.out W' hW; go_simp⟩) hS0 ?_
        refine wpAnyH_take (i := 1) (v := .slice (some ⟨bp, offp, none⟩) k cP) rfl (by kernel_rfl) (by kernel_rfl) (by kernel_rfl) (fun _ _ _ h => h) (Or.inl ⟨by rfl, fun W' hW => by go_simp⟩) hS0 ?_
        refine wpAnyH_take (i := 2) (v := .int .i64 (i : Int)) rfl (by kernel_rfl) (by kernel_rfl) (by kernel_rfl) (fun _ _ _ h => h) (Or.inl ⟨by rfl, fun W' hW => by go_simp⟩) hS0 ?_
        refine wpAnyH_take (i := 3) (v := .pointer (some ⟨bp, offp + i, none⟩)) rfl (by kernel_rfl) (by kernel_rfl) (by kernel_rfl) (fun _ _ _ h => h) (Or.inl ⟨by rfl, fun W' hW => by go_simp⟩) hS0 ?_
        refine wpAnyH_take (i := 4) (v := .int .i64 x) rfl (by kernel_rfl) (by kernel_rfl) (by kernel_rfl) (fun _ _ _ h => h) (Or.inl ⟨by rfl, fun W' hW => by obtain ⟨z0, z1, z2, z3⟩ := HC.out W' hW; go_simp⟩) hS0 ?_
        refine wpAnyH_ready (rs := [5]) (by kernel_rfl) (by simp) ?_
        refine AllReadyH.cons rfl (fun K hK => ?_) AllReadyH.nil
        go_simp
        refine (K16x.out _ hS0).mono ?_
        rintro e W5 ⟨rfl, hb5⟩
        have HB5 := hide (hS0.trans (hb5.mono hS0.size))
        have HK5 := hide hb5
        refine hK.out _ _ HB5.out (fun hS1 => ?_)
        clear hK K hb5
        refine wpAnyH_ready (rs := [6]) (by kernel_rfl) (by simp) ?_
        refine AllReadyH.cons rfl (fun K hK => ?_) AllReadyH.nil
        go_simp
        refine hK.out _ _ hS1 (fun _ => ?_)
        clear hK K
        refine wpAnyH_done (by kernel_rfl) ?_ _
        go_upto_region 8 with fail
        by_cases h0 : i = 0
        · have hgt : ¬ ((i : Int) > 0) := by omega
          have hgN : decide (0 < i) = false := decide_eq_false (by omega)
          have hgZ : decide ((0 : Int) < (i : Int)) = false := decide_eq_false (by omega)
          have Hd1 : Hid (pOut (dz ns es) path (i + 1) = pOut (dz ns es) path i) := hide (by subst h0; rw [(pOut_yes (chg_zero _ _)).1]; rfl)
          have Hd2 : Hid (pNow (dz ns es) path (i + 1) = pNow (dz ns es) path i ++ [x]) := hide (by subst h0; rw [(pOut_yes (chg_zero _ _)).2, pat_at Hx.out]; rfl)
          have Hpl0 : Hid ((pNow (dz ns es) path i).length ≤ 1000) := hide (by subst h0; simp [pNow, pcs])
          clear h0
          refine wp_region_held_drew (S := fun W => Below W0.heap.size W0 W) (by kernel_rfl) (HB5.out.drew) (fun hS0 => ?_)
          refine wpAnyH_ready (rs := [0]) (by kernel_rfl) (by simp) ?_
          refine AllReadyH.cons rfl (fun K hK => ?_) AllReadyH.nil
          go_simp
          refine hK.out _ _ hS0 (fun _ => ?_)
          clear hK K
          refine wpAnyH_ready (rs := [1]) (by kernel_rfl) (by simp) ?_
          refine AllReadyH.cons rfl (fun K hK => ?_) AllReadyH.nil
          go_simp
          refine hK.out _ _ hS0 (fun _ => ?_)
          clear hK K
          refine wpAnyH_ready (rs := [2]) (by kernel_rfl) (by simp) ?_
          refine AllReadyH.cons rfl (fun K hK => ?_) AllReadyH.nil
          go_simp
          refine hK.out _ _ hS0 (fun _ => ?_)
          clear hK K
          refine wpAnyH_take (i := 3) (v := undef) rfl (by kernel_rfl) (by kernel_rfl) (by kernel_rfl) (fun _ _ _ h => h) (Or.inr ⟨by kernel_rfl, rfl⟩) hS0 ?_
          refine wpAnyH_take (i := 4) (v := undef) rfl (by kernel_rfl) (by kernel_rfl) (by kernel_rfl) (fun _ _ _ h => h) (Or.inr ⟨by kernel_rfl, rfl⟩) hS0 ?_
          refine wpAnyH_take (i := 5) (v := undef) rfl (by kernel_rfl) (by kernel_rfl) (by kernel_rfl) (fun _ _ _ h => h) (Or.inr ⟨by kernel_rfl, rfl⟩) hS0 ?_
          refine wpAnyH_take (i := 6) (v := undef) rfl (by kernel_rfl) (by kernel_rfl) (by kernel_rfl) (fun _ _ _ h => h) (Or.inr ⟨by kernel_rfl, rfl⟩) hS0 ?_
          refine wpAnyH_take (i := 7) (v := undef) rfl (by kernel_rfl) (by kernel_rfl) (by kernel_rfl) (fun _ _ _ h => h) (Or.inr ⟨by kernel_rfl, rfl⟩) hS0 ?_
          refine wpAnyH_take (i := 8) (v := undef) rfl (by kernel_rfl) (by kernel_rfl) (by kernel_rfl) (fun _ _ _ h => h) (Or.inr ⟨by kernel_rfl, rfl⟩) hS0 ?_
          refine wpAnyH_take (i := 9) (v := undef) rfl (by kernel_rfl) (by kernel_rfl) (by kernel_rfl) (fun _ _ _ h => h) (Or.inr ⟨by kernel_rfl, rfl⟩) hS0 ?_
          refine wpAnyH_take (i := 10) (v := undef) rfl (by kernel_rfl) (by kernel_rfl) (by kernel_rfl) (fun _ _ _ h => h) (Or.inr ⟨by kernel_rfl, rfl⟩) hS0 ?_
          refine wpAnyH_take (i := 11) (v := undef) rfl (by kernel_rfl) (by kernel_rfl) (by kernel_rfl) (fun _ _ _ h => h) (Or.inr ⟨by kernel_rfl, rfl⟩) hS0 ?_
          refine wpAnyH_take (i := 12) (v := undef) rfl (by kernel_rfl) (by kernel_rfl) (by kernel_rfl) (fun _ _ _ h => h) (Or.inr ⟨by kernel_rfl, rfl⟩) hS0 ?_
          refine wpAnyH_take (i := 13) (v := undef) rfl (by kernel_rfl) (by kernel_rfl) (by kernel_rfl) (fun _ _ _ h => h) (Or.inr ⟨by kernel_rfl, rfl⟩) hS0 ?_
          refine wpAnyH_take (i := 14) (v := undef) rfl (by kernel_rfl) (by kernel_rfl) (by kernel_rfl) (fun _ _ _ h => h) (Or.inr ⟨by kernel_rfl, rfl⟩) hS0 ?_
          refine wpAnyH_take (i := 15) (v := undef) rfl (by kernel_rfl) (by kernel_rfl) (by kernel_rfl) (fun _ _ _ h => h) (Or.inr ⟨by kernel_rfl, rfl⟩) hS0 ?_
          refine wpAnyH_take (i := 16) (v := undef) rfl (by kernel_rfl) (by kernel_rfl) (by kernel_rfl) (fun _ _ _ h => h) (Or.inr ⟨by kernel_rfl, rfl⟩) hS0 ?_
          refine wpAnyH_ready (rs := [17]) (by kernel_rfl) (by simp) ?_
          refine AllReadyH.cons rfl (fun K hK => ?_) AllReadyH.nil
          go_simp
          refine hK.out _ _ hS0 (fun _ => ?_)
          clear hK K
          refine wpAnyH_done (by kernel_rfl) ?_ _
          go_upto_region 11 with fail
          have HDn : Hid (Db W0.heap.size W5.drew v6 (.slice s7.a s7.l s7.c) svs (pOut (dz ns es) path i) (pNow (dz ns es) path i)) := hide ((HD.out.keep ((Below.refl _ _).drew)).keep HK5.out |>.keep ((Below.refl _ _).drew))
          have HBn : Hid (Below W0.heap.size W0 W5.drew) := hide HB5.out.drew
          obtain ⟨W8, hW8⟩ : ∃ W, W5.drew = W := ⟨_, rfl⟩
          rw [hW8] at HDn HBn
          rw [hW8]
          clear hW8
          have HD2 := HDn
          have HBw := HBn
          have Hpl := Hpl0
          obtain ⟨svs2, hsv⟩ : ∃ s, svs = s := ⟨_, rfl⟩
          obtain ⟨Q, hQ⟩ : ∃ Q, pOut (dz ns es) path i = Q := ⟨_, rfl⟩
          obtain ⟨pl, hpl⟩ : ∃ p, pNow (dz ns es) path i = p := ⟨_, rfl⟩
          obtain ⟨v7, hv7⟩ : ∃ v, Value.slice s7.a s7.l s7.c = v := ⟨_, rfl⟩
          rw [hsv, hQ, hpl, hv7] at HD2
          rw [hpl] at Hpl Hd2
          rw [hQ] at Hd1
          rw [hv7]
          clear hsv hQ hpl hv7 HDn HBn
          have Hba : Hid (∀ (o : Obj), Below W8.heap.size W8 (W8.alloc o)) := hide (fun o => (Below.refl _ _).alloc (Nat.le_refl _) o)
          have HDa : Hid (∀ (o : Obj), Db W0.heap.size (W8.alloc o) v6 v7 svs2 Q pl) := hide (fun o => HD2.out.keep (Hba.out o))
          have HBa : Hid (∀ (o : Obj), Below W0.heap.size W0 (W8.alloc o)) := hide (fun o => HBw.out.trans ((Hba.out o).mono HBw.out.size))
          have Hl5 : Hid (pl.length + [x].length ≤ 1000000) := hide (by have := Hpl.out; simp; omega)
          obtain ⟨z0, z1, z2, z3⟩ := HC.out W8 HBw.out
          go_wp2_with (at_builtin; refine intE.wp (w0 := W0) (HBa.out _) (by rfl) _ _ rfl _ _ rfl rfl pl [x] (HDa.out _).nw (int_new W8 _ _ rfl) Hl5.out ?_; intro v3 w3 ho3 hg3 hs3 hb3; have HF := hide ((HDa.out _).grow ho3 hg3 hs3); have HB3 := hide hb3; clear ho3 hg3 hs3 hb3)
          go_roundw
          case rel => exact ⟨i + 1, _, by go_num, by omega, HB3, hide (by rw [Hd1.out, Hd2.out]; exact HF.out), HK1⟩
          case measure => simp [intOf]; omega
        · have hgt : ((i : Int) > 0) := by omega
          have hgN : decide (0 < i) = true := decide_eq_true (by omega)
          have hgZ : decide ((0 : Int) < (i : Int)) = true := decide_eq_true (by omega)
          have hwim : IntKind.i64.wrap (im : Int) = (im : Int) := i64_small _ (by omega) (by have := Him.out; omega)
          have Hi0 : Hid (0 < i) := hide (by omega)
          have hsi : (i : Int) - 1 = (im : Int) := by have := Him.out; omega
          have hwi : IntKind.i64.wrap ((i : Int) - 1) = (im : Int) := by rw [hsi]; exact i64_small _ (by omega) (by have := Him.out; omega)
          have m0 : (0 : Int) ≤ (im : Int) := by omega
          have m1 : (im : Int) < (k : Int) := by have := Him.out; omega
          have Hpos' := hide (Hpw.out.some Hi0.out)
          have Hpl0 : Hid ((pNow (dz ns es) path i).length ≤ 1000) := hide (by
            have := piece_bound Hpw.out (p := pNow (dz ns es) path i) (by rw [pcs_join Hpos'.out]; simp)
            omega)
          obtain ⟨ry, hry⟩ : ∃ ry, rdz ns es y = ry := ⟨_, rfl⟩
          have K16y : Hid (∀ (W : World), Below W0.heap.size W0 W → Calls Try.prog 16 #[.agg #[.slice a n c, .slice a' m c'], .int .i64 y] W fun e w' => e = .returned (.int .i64 ry) ∧ Below W.heap.size W w') := hide (fun W hb => by
            have := K16.out W y hb
            rw [hry] at this
            exact this)
          have Hch := hide (Hchd.out Hi0.out)
          rw [hry] at Hch
          clear hry h0
          by_cases hne : rx = ry
          · have Hch0 : Hid (chg (dz ns es) path i = false) := hide (by rw [Hch.out]; simp [hne])
            have hbn : (rx != ry) = false := by simp [hne]
            have Hd1 : Hid (pOut (dz ns es) path (i + 1) = pOut (dz ns es) path i) := hide (pOut_no Hch0.out).1
            have Hd2 : Hid (pNow (dz ns es) path (i + 1) = pNow (dz ns es) path i ++ [x]) := hide (by rw [(pOut_no Hch0.out).2, pat_at Hx.out])
            refine wp_region_held_drew (S := fun W => Below W0.heap.size W0 W) (by kernel_rfl) (HB5.out.drew) (fun hS0 => ?_)
            refine wpAnyH_ready (rs := [0]) (by kernel_rfl) (by simp) ?_
            refine AllReadyH.cons rfl (fun K hK => ?_) AllReadyH.nil
            go_simp
            refine hK.out _ _ hS0 (fun _ => ?_)
            clear hK K
            refine wpAnyH_ready (rs := [1]) (by kernel_rfl) (by simp) ?_
            refine AllReadyH.cons rfl (fun K hK => ?_) AllReadyH.nil
            go_simp
            refine hK.out _ _ hS0 (fun _ => ?_)
            clear hK K
            refine wpAnyH_ready (rs := [2]) (by kernel_rfl) (by simp) ?_
            refine AllReadyH.cons rfl (fun K hK => ?_) AllReadyH.nil
            go_simp
            refine hK.out _ _ hS0 (fun _ => ?_)
            clear hK K
            refine wpAnyH_take (i := 3) (v := .agg #[.slice a n c, .slice a' m c']) rfl (by kernel_rfl) (by kernel_rfl) (by kernel_rfl) (fun _ _ _ h => h) (Or.inl ⟨by kernel_rfl, fun W' hW => by obtain ⟨z0, z1, z2, z3⟩ := HC.out W' hW; go_simp⟩) hS0 ?_
            refine wpAnyH_take (i := 4) (v := .slice (some ⟨bp, offp, none⟩) k cP) rfl (by kernel_rfl) (by kernel_rfl) (by kernel_rfl) (fun _ _ _ h => h) (Or.inl ⟨by kernel_rfl, fun W' hW => by go_simp⟩) hS0 ?_
            refine wpAnyH_take (i := 5) (v := .int .i64 (i : Int)) rfl (by kernel_rfl) (by kernel_rfl) (by kernel_rfl) (fun _ _ _ h => h) (Or.inl ⟨by kernel_rfl, fun W' hW => by go_simp⟩) hS0 ?_
            refine wpAnyH_take (i := 6) (v := .pointer (some ⟨bp, offp + i, none⟩)) rfl (by kernel_rfl) (by kernel_rfl) (by kernel_rfl) (fun _ _ _ h => h) (Or.inl ⟨by kernel_rfl, fun W' hW => by go_simp⟩) hS0 ?_
            refine wpAnyH_take (i := 7) (v := .int .i64 x) rfl (by kernel_rfl) (by kernel_rfl) (by kernel_rfl) (fun _ _ _ h => h) (Or.inl ⟨by kernel_rfl, fun W' hW => by obtain ⟨z0, z1, z2, z3⟩ := HC.out W' hW; go_simp⟩) hS0 ?_
            refine wpAnyH_take (i := 9) (v := .agg #[.slice a n c, .slice a' m c']) rfl (by kernel_rfl) (by kernel_rfl) (by kernel_rfl) (fun _ _ _ h => h) (Or.inl ⟨by kernel_rfl, fun W' hW => by obtain ⟨z0, z1, z2, z3⟩ := HC.out W' hW; go_simp⟩) hS0 ?_
            refine wpAnyH_take (i := 10) (v := .slice (some ⟨bp, offp, none⟩) k cP) rfl (by kernel_rfl) (by kernel_rfl) (by kernel_rfl) (fun _ _ _ h => h) (Or.inl ⟨by kernel_rfl, fun W' hW => by go_simp⟩) hS0 ?_
            refine wpAnyH_take (i := 11) (v := .int .i64 (i : Int)) rfl (by kernel_rfl) (by kernel_rfl) (by kernel_rfl) (fun _ _ _ h => h) (Or.inl ⟨by kernel_rfl, fun W' hW => by go_simp⟩) hS0 ?_
            refine wpAnyH_take (i := 12) (v := .int .i64 (im : Int)) rfl (by kernel_rfl) (by kernel_rfl) (by kernel_rfl) (fun _ _ _ h => h) (Or.inl ⟨by kernel_rfl, fun W' hW => by go_simp⟩) hS0 ?_
            refine wpAnyH_take (i := 13) (v := .pointer (some ⟨bp, offp + im, none⟩)) rfl (by kernel_rfl) (by kernel_rfl) (by kernel_rfl) (fun _ _ _ h => h) (Or.inl ⟨by kernel_rfl, fun W' hW => by go_simp⟩) hS0 ?_
            refine wpAnyH_take (i := 14) (v := .int .i64 y) rfl (by kernel_rfl) (by kernel_rfl) (by kernel_rfl) (fun _ _ _ h => h) (Or.inl ⟨by kernel_rfl, fun W' hW => by obtain ⟨z0, z1, z2, z3⟩ := HC.out W' hW; go_simp⟩) hS0 ?_
            refine wpAnyH_ready (rs := [8]) (by kernel_rfl) (by simp) ?_
            refine AllReadyH.cons rfl (fun K hK => ?_) AllReadyH.nil
            go_simp
            refine (K16x.out _ hS0).mono ?_
            rintro e W6 ⟨rfl, hb6⟩
            have HB6 := hide (hS0.trans (hb6.mono hS0.size))
            have HK6 := hide hb6
            refine hK.out _ _ HB6.out (fun hS1 => ?_)
            clear hK K hb6
            refine wpAnyH_ready (rs := [15]) (by kernel_rfl) (by simp) ?_
            refine AllReadyH.cons rfl (fun K hK => ?_) AllReadyH.nil
            go_simp
            refine (K16y.out _ hS1).mono ?_
            rintro e W7 ⟨rfl, hb7⟩
            have HB7 := hide (hS1.trans (hb7.mono hS1.size))
            have HK7 := hide hb7
            refine hK.out _ _ HB7.out (fun hS2 => ?_)
            clear hK K hb7
            refine wpAnyH_ready (rs := [16]) (by kernel_rfl) (by simp) ?_
            refine AllReadyH.cons rfl (fun K hK => ?_) AllReadyH.nil
            go_simp
            refine hK.out _ _ hS2 (fun _ => ?_)
            clear hK K
            refine wpAnyH_ready (rs := [17]) (by kernel_rfl) (by simp) ?_
            refine AllReadyH.cons rfl (fun K hK => ?_) AllReadyH.nil
            go_simp
            refine hK.out _ _ hS2 (fun _ => ?_)
            clear hK K
            refine wpAnyH_done (by kernel_rfl) ?_ _
            go_upto_region 11 with fail
            have HDn : Hid (Db W0.heap.size W7 v6 (.slice s7.a s7.l s7.c) svs (pOut (dz ns es) path i) (pNow (dz ns es) path i)) := hide (((((HD.out.keep ((Below.refl _ _).drew)).keep HK5.out).keep ((Below.refl _ _).drew)).keep HK6.out).keep HK7.out)
            have HBn : Hid (Below W0.heap.size W0 W7) := HB7
            have HD2 := HDn
            have HBw := HBn
            have Hpl := Hpl0
            obtain ⟨svs2, hsv⟩ : ∃ s, svs = s := ⟨_, rfl⟩
            obtain ⟨Q, hQ⟩ : ∃ Q, pOut (dz ns es) path i = Q := ⟨_, rfl⟩
            obtain ⟨pl, hpl⟩ : ∃ p, pNow (dz ns es) path i = p := ⟨_, rfl⟩
            obtain ⟨v7, hv7⟩ : ∃ v, Value.slice s7.a s7.l s7.c = v := ⟨_, rfl⟩
            rw [hsv, hQ, hpl, hv7] at HD2
            rw [hpl] at Hpl Hd2
            rw [hQ] at Hd1
            rw [hv7]
            clear hsv hQ hpl hv7 HDn HBn
            have Hba : Hid (∀ (o : Obj), Below W7.heap.size W7 (W7.alloc o)) := hide (fun o => (Below.refl _ _).alloc (Nat.le_refl _) o)
            have HDa : Hid (∀ (o : Obj), Db W0.heap.size (W7.alloc o) v6 v7 svs2 Q pl) := hide (fun o => HD2.out.keep (Hba.out o))
            have HBa : Hid (∀ (o : Obj), Below W0.heap.size W0 (W7.alloc o)) := hide (fun o => HBw.out.trans ((Hba.out o).mono HBw.out.size))
            have Hl5 : Hid (pl.length + [x].length ≤ 1000000) := hide (by have := Hpl.out; simp; omega)
            obtain ⟨z0, z1, z2, z3⟩ := HC.out W7 HBw.out
            go_wp2_with (at_builtin; refine intE.wp (w0 := W0) (HBa.out _) (by rfl) _ _ rfl _ _ rfl rfl pl [x] (HDa.out _).nw (int_new W7 _ _ rfl) Hl5.out ?_; intro v3 w3 ho3 hg3 hs3 hb3; have HF := hide ((HDa.out _).grow ho3 hg3 hs3); have HB3 := hide hb3; clear ho3 hg3 hs3 hb3)
            go_roundw
            case rel => exact ⟨i + 1, _, by go_num, by omega, HB3, hide (by rw [Hd1.out, Hd2.out]; exact HF.out), HK1⟩
            case measure => simp [intOf]; omega
          · have Hch0 : Hid (chg (dz ns es) path i = true) := hide (by rw [Hch.out]; simp [hne])
            have hbn : (rx != ry) = true := by simp [hne]
            have Hd1 : Hid (pOut (dz ns es) path (i + 1) = pOut (dz ns es) path i ++ [pNow (dz ns es) path i]) := hide (by rw [(pOut_yes Hch0.out).1, ← pcs_join Hpos'.out])
            have Hd2 : Hid (pNow (dz ns es) path (i + 1) = [] ++ [x]) := hide (by rw [(pOut_yes Hch0.out).2, pat_at Hx.out]; rfl)
            refine wp_region_held_drew (S := fun W => Below W0.heap.size W0 W) (by kernel_rfl) (HB5.out.drew) (fun hS0 => ?_)
            refine wpAnyH_ready (rs := [0]) (by kernel_rfl) (by simp) ?_
            refine AllReadyH.cons rfl (fun K hK => ?_) AllReadyH.nil
            go_simp
            refine hK.out _ _ hS0 (fun _ => ?_)
            clear hK K
            refine wpAnyH_ready (rs := [1]) (by kernel_rfl) (by simp) ?_
            refine AllReadyH.cons rfl (fun K hK => ?_) AllReadyH.nil
            go_simp
            refine hK.out _ _ hS0 (fun _ => ?_)
            clear hK K
            refine wpAnyH_ready (rs := [2]) (by kernel_rfl) (by simp) ?_
            refine AllReadyH.cons rfl (fun K hK => ?_) AllReadyH.nil
            go_simp
            refine hK.out _ _ hS0 (fun _ => ?_)
            clear hK K
            refine wpAnyH_take (i := 3) (v := .agg #[.slice a n c, .slice a' m c']) rfl (by kernel_rfl) (by kernel_rfl) (by kernel_rfl) (fun _ _ _ h => h) (Or.inl ⟨by kernel_rfl, fun W' hW => by obtain ⟨z0, z1, z2, z3⟩ := HC.out W' hW; go_simp⟩) hS0 ?_
            refine wpAnyH_take (i := 4) (v := .slice (some ⟨bp, offp, none⟩) k cP) rfl (by kernel_rfl) (by kernel_rfl) (by kernel_rfl) (fun _ _ _ h => h) (Or.inl ⟨by kernel_rfl, fun W' hW => by go_simp⟩) hS0 ?_
            refine wpAnyH_take (i := 5) (v := .int .i64 (i : Int)) rfl (by kernel_rfl) (by kernel_rfl) (by kernel_rfl) (fun _ _ _ h => h) (Or.inl ⟨by kernel_rfl, fun W' hW => by go_simp⟩) hS0 ?_
            refine wpAnyH_take (i := 6) (v := .pointer (some ⟨bp, offp + i, none⟩)) rfl (by kernel_rfl) (by kernel_rfl) (by kernel_rfl) (fun _ _ _ h => h) (Or.inl ⟨by kernel_rfl, fun W' hW => by go_simp⟩) hS0 ?_
            refine wpAnyH_take (i := 7) (v := .int .i64 x) rfl (by kernel_rfl) (by kernel_rfl) (by kernel_rfl) (fun _ _ _ h => h) (Or.inl ⟨by kernel_rfl, fun W' hW => by obtain ⟨z0, z1, z2, z3⟩ := HC.out W' hW; go_simp⟩) hS0 ?_
            refine wpAnyH_take (i := 9) (v := .agg #[.slice a n c, .slice a' m c']) rfl (by kernel_rfl) (by kernel_rfl) (by kernel_rfl) (fun _ _ _ h => h) (Or.inl ⟨by kernel_rfl, fun W' hW => by obtain ⟨z0, z1, z2, z3⟩ := HC.out W' hW; go_simp⟩) hS0 ?_
            refine wpAnyH_take (i := 10) (v := .slice (some ⟨bp, offp, none⟩) k cP) rfl (by kernel_rfl) (by kernel_rfl) (by kernel_rfl) (fun _ _ _ h => h) (Or.inl ⟨by kernel_rfl, fun W' hW => by go_simp⟩) hS0 ?_
            refine wpAnyH_take (i := 11) (v := .int .i64 (i : Int)) rfl (by kernel_rfl) (by kernel_rfl) (by kernel_rfl) (fun _ _ _ h => h) (Or.inl ⟨by kernel_rfl, fun W' hW => by go_simp⟩) hS0 ?_
            refine wpAnyH_take (i := 12) (v := .int .i64 (im : Int)) rfl (by kernel_rfl) (by kernel_rfl) (by kernel_rfl) (fun _ _ _ h => h) (Or.inl ⟨by kernel_rfl, fun W' hW => by go_simp⟩) hS0 ?_
            refine wpAnyH_take (i := 13) (v := .pointer (some ⟨bp, offp + im, none⟩)) rfl (by kernel_rfl) (by kernel_rfl) (by kernel_rfl) (fun _ _ _ h => h) (Or.inl ⟨by kernel_rfl, fun W' hW => by go_simp⟩) hS0 ?_
            refine wpAnyH_take (i := 14) (v := .int .i64 y) rfl (by kernel_rfl) (by kernel_rfl) (by kernel_rfl) (fun _ _ _ h => h) (Or.inl ⟨by kernel_rfl, fun W' hW => by obtain ⟨z0, z1, z2, z3⟩ := HC.out W' hW; go_simp⟩) hS0 ?_
            refine wpAnyH_ready (rs := [8]) (by kernel_rfl) (by simp) ?_
            refine AllReadyH.cons rfl (fun K hK => ?_) AllReadyH.nil
            go_simp
            refine (K16x.out _ hS0).mono ?_
            rintro e W6 ⟨rfl, hb6⟩
            have HB6 := hide (hS0.trans (hb6.mono hS0.size))
            have HK6 := hide hb6
            refine hK.out _ _ HB6.out (fun hS1 => ?_)
            clear hK K hb6
            refine wpAnyH_ready (rs := [15]) (by kernel_rfl) (by simp) ?_
            refine AllReadyH.cons rfl (fun K hK => ?_) AllReadyH.nil
            go_simp
            refine (K16y.out _ hS1).mono ?_
            rintro e W7 ⟨rfl, hb7⟩
            have HB7 := hide (hS1.trans (hb7.mono hS1.size))
            have HK7 := hide hb7
            refine hK.out _ _ HB7.out (fun hS2 => ?_)
            clear hK K hb7
            refine wpAnyH_ready (rs := [16]) (by kernel_rfl) (by simp) ?_
            refine AllReadyH.cons rfl (fun K hK => ?_) AllReadyH.nil
            go_simp
            refine hK.out _ _ hS2 (fun _ => ?_)
            clear hK K
            refine wpAnyH_ready (rs := [17]) (by kernel_rfl) (by simp) ?_
            refine AllReadyH.cons rfl (fun K hK => ?_) AllReadyH.nil
            go_simp
            refine hK.out _ _ hS2 (fun _ => ?_)
            clear hK K
            refine wpAnyH_done (by kernel_rfl) ?_ _
            have HDn : Hid (Db W0.heap.size W7 v6 (.slice s7.a s7.l s7.c) svs (pOut (dz ns es) path i) (pNow (dz ns es) path i)) := hide (((((HD.out.keep ((Below.refl _ _).drew)).keep HK5.out).keep ((Below.refl _ _).drew)).keep HK6.out).keep HK7.out)
            have Hba9 : Hid (∀ (o : Obj), Below W7.heap.size W7 (W7.alloc o)) := hide (fun o => (Below.refl _ _).alloc (Nat.le_refl _) o)
            have HDa9 : Hid (∀ (o : Obj), Db W0.heap.size (W7.alloc o) v6 (.slice s7.a s7.l s7.c) svs (pOut (dz ns es) path i) (pNow (dz ns es) path i)) := hide (fun o => HDn.out.keep (Hba9.out o))
            have HBa9 : Hid (∀ (o : Obj), Below W0.heap.size W0 (W7.alloc o)) := hide (fun o => HB7.out.trans ((Hba9.out o).mono HB7.out.size))
            have Hlen9 : Hid (svs.length + [s7].length ≤ 1000000) := hide (by rw [HDn.out.lb.len]; have := pcs_bound (dz ns es) path i; rw [pcs_join Hpos'.out, List.length_append] at this; simp at this ⊢; omega)
            have HNw9 : Hid (slE.Rd (W7.alloc (.cells #[.slice s7.a s7.l s7.c] 26)) (.slice (some ⟨W7.heap.size, 0, none⟩) 1 1) [s7]) := hide ((El.Own.new slE W7 0 (Nat.zero_le _) _ [s7] rfl (by simp) _ _ _ rfl rfl rfl).rd)
            go_upto_region 11 with (at_builtin; refine slE.wp (w0 := W0) (HBa9.out _) (by rfl) _ _ rfl _ _ rfl rfl svs [s7] (HDa9.out _).lb.own HNw9.out Hlen9.out ?_; intro v9 W9 ho9 hg9 hs9 hb9; have HL9 := hide ((HDa9.out _).push ho9 hg9); have HB9 := hide hb9; clear ho9 hg9 hs9 hb9)
            have HD2 := hide (Db.new HL9.out)
            have HBw := HB9
            obtain ⟨svs2, hsv⟩ : ∃ s, svs ++ [s7] = s := ⟨_, rfl⟩
            obtain ⟨Q, hQ⟩ : ∃ Q, pOut (dz ns es) path i ++ [pNow (dz ns es) path i] = Q := ⟨_, rfl⟩
            obtain ⟨pl, hpl⟩ : ∃ p : List Int, ([] : List Int) = p := ⟨_, rfl⟩
            obtain ⟨v7, hv7⟩ : ∃ v, Value.slice none 0 0 = v := ⟨_, rfl⟩
            have Hpl : Hid (pl.length ≤ 1000) := hide (by rw [← hpl]; simp)
            rw [hsv, hQ] at HD2
            have HD2 : Hid (Db W0.heap.size W9 v9 v7 svs2 Q pl) := hide (by rw [← hv7, ← hpl]; exact HD2.out)
            have Hd2 : Hid (pNow (dz ns es) path (i + 1) = pl ++ [x]) := hide (by rw [← hpl]; exact Hd2.out)
            rw [hQ] at Hd1
            clear hsv hQ hpl
            have Hba : Hid (∀ (o : Obj), Below W9.heap.size W9 (W9.alloc o)) := hide (fun o => (Below.refl _ _).alloc (Nat.le_refl _) o)
            have HDa : Hid (∀ (o : Obj), Db W0.heap.size (W9.alloc o) v9 (.slice none 0 0) svs2 Q pl) := hide (fun o => by rw [hv7]; exact HD2.out.keep (Hba.out o))
            have HBa : Hid (∀ (o : Obj), Below W0.heap.size W0 (W9.alloc o)) := hide (fun o => HBw.out.trans ((Hba.out o).mono HBw.out.size))
            have Hl5 : Hid (pl.length + [x].length ≤ 1000000) := hide (by have := Hpl.out; simp; omega)
            obtain ⟨z0, z1, z2, z3⟩ := HC.out W9 HBw.out
            go_wp2_with (at_builtin; refine intE.wp (w0 := W0) (HBa.out _) (by rfl) _ _ rfl _ _ rfl rfl pl [x] (HDa.out _).nw (int_new W9 _ _ rfl) Hl5.out ?_; intro v3 w3 ho3 hg3 hs3 hb3; have HF := hide ((HDa.out _).grow ho3 hg3 hs3); have HB3 := hide hb3; clear ho3 hg3 hs3 hb3)
            go_roundw
            case rel => exact ⟨i + 1, _, by go_num, by omega, HB3, hide (by rw [Hd1.out, Hd2.out]; exact HF.out), HK1⟩
            case measure => simp [intOf]; omega
    · obtain rfl : i = k := by omega
      have g1 : ¬ (i : Int) < (i : Int) := by omega
      have e1 := yes.out HK.out
      subst e1
      have hpw := pcf (dz ns es) path i (by rw [Hk.out]; omega)
      have HBf := hide (HA.out.trans (HB.out.mono HA.out.size))
      by_cases h0 : i = 0
      · have hnow : pNow (dz ns es) path i = [] := by subst h0; simp [pNow, pcs]
        have hpcs : pcs (dz ns es) path i = pOut (dz ns es) path i := by subst h0; rfl
        have hl7 : s7.l = 0 := by
          obtain ⟨a, c, h⟩ := HD.out.nw.rd.form
          simp only [Value.slice.injEq] at h
          rw [h.2.1, hnow]; rfl
        have Hfin : Hid (RPP true (pcs (dz ns es) path i) w.heap.size v6 wr) := hide (.inl ⟨rfl, svs, by rw [hpcs]; exact HD.out.lb.mono HA.out.size⟩)
        obtain ⟨sa, sl, sc⟩ := s7
        simp only at hl7
        subst hl7
        clear hnow hpcs hpw h0
        go_wp2_with fail
        go_ret2
        exact ⟨⟨_, rfl, Hfin.out⟩, HBf.out⟩
      · have hpos := hpw.some (by omega)
        have hj := pcs_join hpos
        have hl7 : s7.l = (pNow (dz ns es) path i).length := by
          obtain ⟨a, c, h⟩ := HD.out.nw.rd.form
          simp only [Value.slice.injEq] at h
          exact h.2.1
        have hne := hpw.ne (pNow (dz ns es) path i) (by rw [hj]; simp)
        have hl8 : 0 < s7.l := by rw [hl7]; exact List.length_pos_iff.2 hne
        have hl9 : (s7.l : Int) > 0 := by omega
        have Hba9 : Hid (∀ (o : Obj), Below wr.heap.size wr (wr.alloc o)) := hide (fun o => (Below.refl _ _).alloc (Nat.le_refl _) o)
        have HDa9 : Hid (∀ (o : Obj), Db W0.heap.size (wr.alloc o) v6 (.slice s7.a s7.l s7.c) svs (pOut (dz ns es) path i) (pNow (dz ns es) path i)) := hide (fun o => HD.out.keep (Hba9.out o))
        have HBa9 : Hid (∀ (o : Obj), Below W0.heap.size W0 (wr.alloc o)) := hide (fun o => HB.out.trans ((Hba9.out o).mono HB.out.size))
        have Hlen9 : Hid (svs.length + [s7].length ≤ 1000000) := hide (by rw [HD.out.lb.len]; have := pcs_bound (dz ns es) path i; rw [hj, List.length_append] at this; simp at this ⊢; omega)
        have HNw9 : Hid (slE.Rd (wr.alloc (.cells #[.slice s7.a s7.l s7.c] 26)) (.slice (some ⟨wr.heap.size, 0, none⟩) 1 1) [s7]) := hide ((El.Own.new slE wr 0 (Nat.zero_le _) _ [s7] rfl (by simp) _ _ _ rfl rfl rfl).rd)
        have Hfin : Hid (∀ v W, Lb W0.heap.size W v (svs ++ [s7]) (pOut (dz ns es) path i ++ [pNow (dz ns es) path i]) → RPP true (pcs (dz ns es) path i) w.heap.size v W) := hide (fun v W h => .inl ⟨rfl, svs ++ [s7], by rw [hj]; exact h.mono HA.out.size⟩)
        clear hpos hj hl7 hne hl8 hpw h0
        go_wp2_with (at_builtin; refine slE.wp (w0 := W0) (HBa9.out _) (by rfl) _ _ rfl _ _ rfl rfl svs [s7] (HDa9.out _).lb.own HNw9.out Hlen9.out ?_; intro v9 W9 ho9 hg9 hs9 hb9; have HF := hide (Hfin.out _ _ ((HDa9.out _).push ho9 hg9)); have HB9 := hide (HA.out.trans (hb9.mono HA.out.size)); clear ho9 hg9 hs9 hb9)
        go_ret2
        exact ⟨⟨_, rfl, HF.out⟩, HB9.out⟩
end Go.Proofs.Ytmmkfcmbmecleaa
