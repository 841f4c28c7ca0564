/- takeNode and takeEdge. -/
import Derived.Test.YtpjolnaomdmnnaaDoorRdr
namespace Go.Proofs.YtpjolnaomdmnnaaDoor
open Go.RowKit Go.Maps Go.ChangeMaps
set_option linter.unusedVariables false

theorem Laid.size {w : World} (L : Laid w) : 5 ≤ w.heap.size := by
  have := (L.t.2 0 (by omega)).1
  exact cell_lt this

theorem El.wpB {P : Program} {α : Type} (E : El P α) {w : World} {B : Nat} (hB : B ≤ w.heap.size) {ops : Array Oper} {rest : List Oper} {o : Oper} {a : Act} {Q : Exit → Act → World → Prop} (hwant : Region.wanted o (yielded ops a.tmps) = true) (s x : Operand)
    (ho : o.op = .call { callee := .builtin .append, args := #[s, x], argTypes := #[E.t, E.t] }) (v u : Value) (hs : a.eval s = v) (hx : a.eval x = u)
    (xs ys : List α) (hown : E.Own w B v xs) (hu : E.Rd w u ys) (hn : xs.length + ys.length ≤ 1000000)
    (h : ∀ v' w', E.Own w' B v' (xs ++ ys) → w.grownBy w' v.ownBlock → wpList P ops Q rest (a.put o.dst v') w') : wpList P ops Q (o :: rest) a w := by
  obtain ⟨v', w', hr, h2, h3, h4⟩ := E.run hown hB hu hn o.type
  refine wpList_step fun K hK => ?_
  rw [if_pos hwant]
  unfold Oper.wp execOp
  simp only [ho, resolve, invoke, builtin, Sem.run_bind, Sem.run_pure, Result.andThen_ok, List.map_toArray, List.map_cons, List.map_nil, hs, hx, hr]
  exact hK _ _ (h v' w' h2 h3)

theorem grown_kept {α : Type} {E : El Tryd.prog α} {w w2 : World} {B g i : Nat} {v v' : Value} {xs ys : List α} {C : Array Value} (ho : E.Own w B v xs) (hbox : w.heap[g]? = some (.cells C 62)) (he : E.e ≠ 62) (o : Obj) (hg : (w.alloc o).grownBy w2 v.ownBlock) (hB : B ≤ g) (hBw : B ≤ w.heap.size) (ho2 : E.Own w2 B v' ys) :
    (w2.setCell ⟨g, i, none⟩ v').heap[g]? = some (.cells (C.setIfInBounds i v') 62) ∧ E.Own (w2.setCell ⟨g, i, none⟩ v') B v' ys ∧ (∀ k, k < w.heap.size → k ≠ g → (∀ cur, w.heap[k]? ≠ some (.cells cur E.e)) → (w2.setCell ⟨g, i, none⟩ v').heap[k]? = w.heap[k]?) ∧ Below B w (w2.setCell ⟨g, i, none⟩ v') := by
  have vb : ∀ q, v.ownBlock = some q → ∃ cur, w.heap[q]? = some (.cells cur E.e) ∧ B ≤ q := by
    intro q hq
    rcases ho.2 with ⟨rfl, _⟩ | ⟨q', cap, cur, rfl, h2, h3, _⟩
    · cases hq
    · simp [Value.ownBlock] at hq
      subst hq
      exact ⟨cur, h3, h2⟩
  have kk : ∀ k, k < w.heap.size → (∀ cur, w.heap[k]? ≠ some (.cells cur E.e)) → w2.heap[k]? = w.heap[k]? := fun k hk hne => by
    rw [hg.block k (by simp; omega) (fun e => by obtain ⟨cur, h1, _⟩ := vb k e.symm; exact hne cur h1)]
    exact Below.heap_alloc _ _ _ (by omega)
  have gb : w2.heap[g]? = some (.cells C 62) := by
    rw [kk g (heap_lt hbox) (fun cur e => by rw [hbox] at e; simp only [Option.some.injEq, Obj.cells.injEq] at e; exact he e.2.1.symm)]; exact hbox
  have bl : Below B w w2 := by
    refine ⟨hg.os, hg.tape, hg.output, Nat.le_trans (by simp) hg.size, fun k hk => ?_⟩
    rw [hg.block k (by simp; omega) (fun e => by obtain ⟨_, _, h2⟩ := vb k e.symm; omega)]
    exact Below.heap_alloc _ _ _ (by omega)
  refine ⟨heap_put gb v', own_chg ho2 fun k cur _ hk => Below.heap_setCell _ _ _ _ (fun e => by subst e; rw [gb] at hk; simp only [Option.some.injEq, Obj.cells.injEq] at hk; exact he hk.2.1.symm), fun k hk hne hc => ?_, bl.setCell (p := ⟨g, i, none⟩) hB v'⟩
  rw [Below.heap_setCell _ _ _ _ hne]
  exact kk k hk hc

set_option maxRecDepth 100000 in
set_option maxHeartbeats 2000000 in
theorem takeNode_no (p : Value) (w : World) (L : Laid w) (aw : Option Addr) (cw : Nat) (ws : List ByteArray) (hw : strE.Rd w (.slice aw ws.length cw) ws) (hn : nodeS ws = none) :
    Calls Tryd.prog 43 #[p, .slice aw ws.length cw] w fun e w' => e = .returned (.bool false) ∧ Below w.heap.size w w' := by
  have b0 : Hid (Below w.heap.size w w) := hide (Below.refl _ _)
  by_cases h3 : ws.length = 3
  · match ws, h3 with
    | [a, b, c], _ =>
    obtain ⟨bb, off, rfl, x0⟩ := cell_of_get hw 0 a rfl
    rw [Nat.add_zero] at x0
    obtain ⟨_, _, e1, x1⟩ := cell_of_get hw 1 b rfl
    obtain ⟨_, _, e2, x2⟩ := cell_of_get hw 2 c rfl
    cases e1
    cases e2
    have X : Hid (∀ W, Below w.heap.size w W → W.cell? ⟨bb, off, none⟩ = some (.string a) ∧ W.cell? ⟨bb, off + 1, none⟩ = some (.string b) ∧ W.cell? ⟨bb, off + 2, none⟩ = some (.string c)) := hide (fun W h => ⟨by rw [h.cell (cell_lt x0)]; exact x0, by rw [h.cell (cell_lt x1)]; exact x1, by rw [h.cell (cell_lt x2)]; exact x2⟩)
    have K50 := hide (fun W => isName_any a W)
    have K57 : Hid (∀ W, Below w.heap.size w W → _) := hide (fun W (h : Below w.heap.size w W) => kindOf_any b W (L.keep L.size h))
    have K58 : Hid (∀ W, Below w.heap.size w W → _) := hide (fun W (h : Below w.heap.size w W) => zoneOf_any c W (L.keep L.size h))
    have hlen : [a, b, c].length = 3 := rfl
    rw [hlen]
    have x0' : w.cell? ⟨bb, off, none⟩ = some (.string a) := x0
    clear x0 x1 x2 hw L hlen
    have hn' : nameB a = true → kindS b = none ∨ zoneS c = none := fun h => by
      unfold nodeS at hn
      simp only [h, if_true] at hn
      cases hk : kindS b with
      | none => exact .inl rfl
      | some k => cases hz : zoneS c with
        | none => exact .inr rfl
        | some z => rw [hk, hz] at hn; cases hn
    clear hn
    cases hna : nameB a with
    | false =>
      rw [hna] at K50
      clear hn' hna K57 K58
      go_enter Tryd.func43, Tryd.ntmps43
      go_wp2_with (go_at_call 50; refine (K50.out _).mono ?_; rintro e W1 ⟨rfl, hb1⟩; have Hb1 := hide hb1; clear hb1)
      go_ret
      exact ⟨rfl, Hb1.out⟩
    | true =>
      rw [hna] at K50
      have hor := hn' hna
      clear hn' hna
      generalize kindS b = kb at *
      generalize zoneS c = zc at *
      cases kb with
      | none =>
        clear hor
        go_enter Tryd.func43, Tryd.ntmps43
        go_wp2_with (first
          | (go_at_call 50; refine (K50.out _).mono ?_; rintro e W1 ⟨rfl, hb1⟩; have Hb1 := hide hb1; have ⟨y0, y1, y2⟩ := X.out _ hb1; clear hb1)
          | (go_at_call 57; refine (K57.out _ Hb1.out).mono ?_; rintro e W2 ⟨rfl, rfl⟩)
          | (go_at_call 58; refine (K58.out _ Hb1.out).mono ?_; rintro e W3 ⟨rfl, hb3⟩; have Hb3 := hide (Hb1.out.trans (hb3.mono Hb1.out.size)); clear hb3))
        go_ret
        exact ⟨rfl, Hb3.out⟩
      | some k =>
        obtain rfl : zc = none := by rcases hor with h | h; cases h; exact h
        clear hor
        go_enter Tryd.func43, Tryd.ntmps43
        go_wp2_with (first
          | (go_at_call 50; refine (K50.out _).mono ?_; rintro e W1 ⟨rfl, hb1⟩; have Hb1 := hide hb1; have ⟨y0, y1, y2⟩ := X.out _ hb1; clear hb1)
          | (go_at_call 57; refine (K57.out _ Hb1.out).mono ?_; rintro e W2 ⟨rfl, rfl⟩)
          | (go_at_call 58; refine (K58.out _ Hb1.out).mono ?_; rintro e W3 ⟨rfl, hb3⟩; have Hb3 := hide (Hb1.out.trans (hb3.mono Hb1.out.size)); clear hb3))
        go_ret
        exact ⟨rfl, Hb3.out⟩
  · have h3' : ¬ (ws.length : Int) = 3 := by omega
    clear hw hn h3
    generalize ws.length = n at *
    go_enter Tryd.func43, Tryd.ntmps43
    go_wp2_with fail
    go_ret
    exact ⟨rfl, b0.out⟩

theorem nd_new (w : World) (p : Nd) (g : Nat) (hg : g = w.heap.size) : ndE.Rd (w.alloc (.cells #[.string p.name, .int .i64 p.kind, .int .i64 p.zone] 44)) (.slice (some ⟨g, 0, none⟩) 1 1) [p] :=
  (El.Own.new ndE w w.heap.size (Nat.le_refl _) _ [p] rfl (by simp) _ _ _ hg rfl rfl).rd
theorem ed_new (w : World) (p : Ed) (g : Nat) (hg : g = w.heap.size) : edE.Rd (w.alloc (.cells #[.int .i64 p.1, .int .i64 p.2] 47)) (.slice (some ⟨g, 0, none⟩) 1 1) [p] :=
  (El.Own.new edE w w.heap.size (Nat.le_refl _) _ [p] rfl (by simp) _ _ _ hg rfl rfl).rd

set_option maxRecDepth 100000 in
set_option maxHeartbeats 4000000 in
theorem takeNode_yes {w : World} {h : Hd} {vN vE : Value} {st : St} (H : Rdr w h vN vE st) (hBw : h.B ≤ w.heap.size) (L : Laid w) (hlen : st.1.length ≤ 5000) (aw : Option Addr) (cw : Nat) (ws : List ByteArray) (hw : strE.Rd w (.slice aw ws.length cw) ws) (hsz : ∀ x ∈ ws, x.size ≤ 100000) (nd : Nd) (hn : nodeS ws = some nd) :
    Calls Tryd.prog 43 #[.pointer (some ⟨h.g, 0, none⟩), .slice aw ws.length cw] w fun e w' => e = .returned (.bool true) ∧ (∃ vN', Rdr w' h vN' vE (st.1 ++ [nd], st.2)) ∧ Chg h w w' := by
  obtain ⟨b, c, rfl, hna, hk, hz⟩ := nodeS_form hn
  clear hn
  obtain ⟨a, kd, z⟩ := nd
  simp only at hna hk hz hw hsz ⊢
  obtain ⟨bb, off, rfl, x0⟩ := cell_of_get hw 0 a rfl
  rw [Nat.add_zero] at x0
  obtain ⟨_, _, e1, x1⟩ := cell_of_get hw 1 b rfl
  obtain ⟨_, _, e2, x2⟩ := cell_of_get hw 2 c rfl
  cases e1
  cases e2
  have X : Hid (∀ W, Below w.heap.size w W → W.cell? ⟨bb, off, none⟩ = some (.string a) ∧ W.cell? ⟨bb, off + 1, none⟩ = some (.string b) ∧ W.cell? ⟨bb, off + 2, none⟩ = some (.string c)) := hide (fun W h => ⟨by rw [h.cell (cell_lt x0)]; exact x0, by rw [h.cell (cell_lt x1)]; exact x1, by rw [h.cell (cell_lt x2)]; exact x2⟩)
  have K50 := hide (fun W => isName_any a W)
  have K57 : Hid (∀ W, Below w.heap.size w W → _) := hide (fun W (h : Below w.heap.size w W) => kindOf_any b W (L.keep L.size h))
  have K58 : Hid (∀ W, Below w.heap.size w W → _) := hide (fun W (h : Below w.heap.size w W) => zoneOf_any c W (L.keep L.size h))
  have K59 := hide (fun W => clone_any a W (hsz a (by simp)))
  rw [hna] at K50
  rw [hk] at K57
  rw [hz] at K58
  have hl3 : [a, b, c].length = 3 := rfl
  rw [hl3]
  have x0' : w.cell? ⟨bb, off, none⟩ = some (.string a) := x0
  have hasz : a.size ≤ maxLen := Nat.le_trans (hsz a (by simp)) (by unfold maxLen; omega)
  have HH := hide H
  have Hlen := hide hlen
  have Hasz := hide hasz
  have HBw := hide hBw
  clear x0 x1 x2 hw L hl3 hna hk hz hsz hasz H hlen hBw
  go_enter Tryd.func43, Tryd.ntmps43
  go_upto_region 8 with (first
    | (go_at_call 50; refine (K50.out _).mono ?_; rintro e W1 ⟨rfl, hb1⟩; have Hb1 := hide hb1; have ⟨y0, y1, y2⟩ := X.out _ hb1; clear hb1)
    | (go_at_call 57; refine (K57.out _ Hb1.out).mono ?_; rintro e W2 ⟨rfl, rfl⟩)
    | (go_at_call 58; refine (K58.out _ Hb1.out).mono ?_; rintro e W3 ⟨rfl, hb3⟩; have Hb3 := hide (Hb1.out.trans (hb3.mono Hb1.out.size)); have ⟨z0, z1, z2⟩ := X.out _ Hb3.out; clear hb3)
    | (go_at_call 59; refine (K59.out _).mono ?_; rintro e W4 ⟨rfl, hb4⟩; have Hb4 := hide (Hb3.out.trans (hb4.mono Hb3.out.size)); clear hb4))
  clear y0 y1 y2 z0 z1 z2 K50 K57 K58 K59 x0'
  have H4 := HH.out.keep Hb4.out
  obtain ⟨aN, cN, rfl⟩ := H4.ns.rd.form
  obtain ⟨n, hn⟩ : ∃ n, st.1.length = n := ⟨_, rfl⟩
  have Hn := hide hn
  obtain ⟨W5, hup, M5, hst, hs5, ho1, ho2, ho3⟩ := (H4.map.keep (w' := W4.drew) rfl).put a Hasz.out (n : Int) (by have := Hlen.out; omega)
  obtain ⟨me, mc, hmb⟩ := H4.map.block
  have hgb : h.g ≠ h.b := fun e => by rw [← e, H4.box] at hmb; cases hmb
  have bx4 := H4.box
  rw [hn] at bx4
  have box5 : W5.heap[h.g]? = some (.cells #[.slice aN n cN, vE, .map (some h.b)] 62) := by rw [hst _ hgb]; exact bx4
  have nsb : ∀ k (cur : Array Value) (tt : TypeId), W4.heap[k]? = some (Obj.cells cur tt) → W5.heap[k]? = W4.heap[k]? := fun k cur tt hk => by
    rw [hst k (fun e => by subst e; rw [hmb] at hk; cases hk)]; rfl
  have ns5 : Hid (ndE.Own W5 h.B (.slice aN st.1.length cN) st.1) := hide (own_chg H4.ns fun k cur _ hk => nsb k cur _ hk)
  have es5 : Hid (edE.Own W5 h.B vE st.2) := hide (own_chg H4.es fun k cur _ hk => nsb k cur _ hk)
  have B5 : Hid (Below h.B w W5) := hide (by
    have b4 := Hb4.out.mono HBw.out
    exact ⟨ho1.trans b4.os, ho2.trans b4.tape, ho3.trans b4.output, by rw [hs5]; exact b4.size, fun k hk => (hst k (by have := H4.hb; omega)).trans (b4.block k hk)⟩)
  have C5 : Hid (Chg h w W5) := hide ⟨B5.out, fun k cur hk => by
    have hk4 : W4.heap[k]? = some (.cells cur 9) := by rw [Hb4.out.block _ (heap_lt hk)]; exact hk
    rw [nsb k cur 9 hk4, hk4, hk]⟩
  have HM5 := hide M5
  have Hbox5 := hide box5
  have Hsz5 : Hid (h.B ≤ W5.heap.size) := hide (Nat.le_trans (by have := H4.hg; exact this) (Nat.le_of_lt (heap_lt box5)))
  have Hgg := hide H4.hg
  have Hbb := hide H4.hb
  obtain ⟨SS, hSS⟩ : ∃ SS : World → Prop, SS = fun W' => W'.heap[h.g]? = some (.cells #[.slice aN n cN, vE, .map (some h.b)] 62) := ⟨_, rfl⟩
  have s1 : ∀ W', SS W' → W'.cell? ⟨h.g, 0, none⟩ = some (.slice aN n cN) := fun W' hh => by rw [hSS] at hh; exact (cells_at hh 0).1
  have s2 : ∀ W', SS W' → W'.cell? ⟨h.g, 2, none⟩ = some (.map (some h.b)) := fun W' hh => by rw [hSS] at hh; exact (cells_at hh 2).1
  have S0 : Hid (SS W4.drew) := hide (by rw [hSS]; exact bx4)
  have S5 : Hid (SS W5) := hide (by rw [hSS]; exact box5)
  clear hSS M5 hst hs5 ho1 ho2 ho3 hmb hgb nsb H4 bx4 box5 hn
  refine wp_region_held_drew (S := SS) (by kernel_rfl) (S0.out) (fun hS0 => ?_)
  refine wpAnyH_take (i := 0) (v := .pointer (some ⟨h.g, 0, none⟩)) rfl (by kernel_rfl) (by kernel_rfl) (by kernel_rfl) (fun _ _ _ h => h) (Or.inl ⟨by rfl, fun W' hW => by go_simp⟩) hS0 ?_
  refine wpAnyH_take (i := 1) (v := .pointer (some ⟨h.g, 0, none⟩)) rfl (by kernel_rfl) (by kernel_rfl) (by kernel_rfl) (fun _ _ _ h => h) (Or.inl ⟨by rfl, fun W' hW => by go_simp⟩) hS0 ?_
  refine wpAnyH_take (i := 2) (v := .pointer (some ⟨h.g, 2, none⟩)) rfl (by kernel_rfl) (by kernel_rfl) (by kernel_rfl) (fun _ _ _ h => h) (Or.inl ⟨by rfl, fun W' hW => by go_simp⟩) hS0 ?_
  refine wpAnyH_take (i := 3) (v := .map (some h.b)) rfl (by kernel_rfl) (by kernel_rfl) (by kernel_rfl) (fun _ _ _ h => h) (Or.inl ⟨by rfl, fun W' hW => by have x0 := s2 W' hW; go_simp⟩) hS0 ?_
  refine wpAnyH_take (i := 4) (v := .string a) rfl (by kernel_rfl) (by kernel_rfl) (by kernel_rfl) (fun _ _ _ h => h) (Or.inl ⟨by rfl, fun W' hW => by go_simp⟩) hS0 ?_
  refine wpAnyH_take (i := 5) (v := .pointer (some ⟨h.g, 0, none⟩)) rfl (by kernel_rfl) (by kernel_rfl) (by kernel_rfl) (fun _ _ _ h => h) (Or.inl ⟨by rfl, fun W' hW => by go_simp⟩) hS0 ?_
  refine wpAnyH_take (i := 6) (v := .pointer (some ⟨h.g, 0, none⟩)) rfl (by kernel_rfl) (by kernel_rfl) (by kernel_rfl) (fun _ _ _ h => h) (Or.inl ⟨by rfl, fun W' hW => by go_simp⟩) hS0 ?_
  refine wpAnyH_take (i := 7) (v := .pointer (some ⟨h.g, 0, none⟩)) rfl (by kernel_rfl) (by kernel_rfl) (by kernel_rfl) (fun _ _ _ h => h) (Or.inl ⟨by rfl, fun W' hW => by go_simp⟩) hS0 ?_
  refine wpAnyH_take (i := 8) (v := .pointer (some ⟨h.g, 0, none⟩)) rfl (by kernel_rfl) (by kernel_rfl) (by kernel_rfl) (fun _ _ _ h => h) (Or.inl ⟨by rfl, fun W' hW => by go_simp⟩) hS0 ?_
  refine wpAnyH_take (i := 9) (v := .slice aN n cN) rfl (by kernel_rfl) (by kernel_rfl) (by kernel_rfl) (fun _ _ _ h => h) (Or.inl ⟨by rfl, fun W' hW => by have x0 := s1 W' hW; go_simp⟩) hS0 ?_
  refine wpAnyH_take (i := 10) (v := .int .i64 n) rfl (by kernel_rfl) (by kernel_rfl) (by kernel_rfl) (fun _ _ _ h => h) (Or.inl ⟨by rfl, fun W' hW => by go_simp⟩) hS0 ?_
  refine wpAnyH_ready (rs := [11]) (by kernel_rfl) (by simp) ?_
  refine AllReadyH.cons rfl (fun K hK => ?_) AllReadyH.nil
  go_simp
  refine hK.out _ _ S5.out (fun _ => ?_)
  clear hK K
  refine wpAnyH_done (by kernel_rfl) ?_ _
  have k0 := s1 W5 S5.out
  clear s1 s2 S0 S5 hup
  have fz : W5.frozen? ⟨h.g, 0, none⟩ = false := (cells_at Hbox5.out 0).2
  have Hal : Hid (h.B ≤ (W5.alloc (.cells #[.string a, .int .i64 kd, .int .i64 z] 44)).heap.size) := hide (by have := Hsz5.out; simp; omega)
  have Hal2 : Hid (ndE.Own (W5.alloc (.cells #[.string a, .int .i64 kd, .int .i64 z] 44)) h.B (.slice aN n cN) st.1) := hide (by rw [← Hn.out]; exact World.ownsRow.alloc ns5.out _)
  have gl : h.g < W5.heap.size := heap_lt Hbox5.out
  have k1 : (W5.alloc (.cells #[.string a, .int .i64 kd, .int .i64 z] 44)).cell? ⟨h.g, 0, none⟩ = some (.slice aN n cN) := by
    rw [((Below.refl W5.heap.size W5).alloc (Nat.le_refl _) _).cell gl]; exact k0
  have Hk0 := hide k0
  have Hfz := hide fz
  clear fz
  go_wp2_with (at_builtin; refine ndE.wpB (B := h.B) Hal.out (by rfl) _ _ rfl _ _ rfl rfl st.1 [⟨a, kd, z⟩] Hal2.out (nd_new W5 ⟨a, kd, z⟩ _ (by simp)) (by have := Hlen.out; simp; omega) ?_; intro v6 W6 ho6 hg6; refine Hid.out ?_)
  refine hide ?_
  obtain ⟨a6, c6, hv6⟩ := ho6.rd.form
  obtain ⟨n6, hn6⟩ : ∃ n6, (st.1 ++ [(⟨a, kd, z⟩ : Nd)]).length = n6 := ⟨_, rfl⟩
  rw [hn6] at hv6
  subst hv6
  clear hn6
  have hg6' : (W5.alloc (.cells #[.string a, .int .i64 kd, .int .i64 z] 44)).grownBy W6 (Value.slice aN n cN).ownBlock := hg6
  clear hg6
  obtain ⟨q1, q2, q3, q4⟩ := grown_kept (i := 0) ns5.out Hbox5.out (by decide) _ (by rw [Hn.out]; exact hg6') Hgg.out Hsz5.out ho6
  have k6 : W6.heap[h.g]? = some (.cells #[.slice aN n cN, vE, .map (some h.b)] 62) := by
    have := hg6'.block h.g (by simp; omega) (fun e => by
      rcases Hal2.out.2 with ⟨hx, _⟩ | ⟨q', cap, cur, hx, h2, h3, _⟩
      · rw [hx] at e; cases e
      · rw [hx] at e
        simp [Value.ownBlock] at e
        subst e
        rw [Below.heap_alloc _ _ _ (by omega), Hbox5.out] at h3
        simp only [Option.some.injEq, Obj.cells.injEq] at h3
        exact absurd h3.2.1 (by decide))
    rw [this, Below.heap_alloc _ _ _ (by omega)]; exact Hbox5.out
  have k7 := (cells_at k6 0).1
  have k8 := (cells_at k6 0).2
  simp at k7
  have HR : Hid (Rdr (W6.setCell ⟨h.g, 0, none⟩ (.slice a6 n6 c6)) h (.slice a6 n6 c6) vE (st.1 ++ [⟨a, kd, z⟩], st.2)) := hide {
    box := q1
    ns := q2
    es := own_chg es5.out fun k cur _ hk => q3 k (heap_lt hk) (fun e => by subst e; rw [Hbox5.out] at hk; simp only [Option.some.injEq, Obj.cells.injEq] at hk; exact absurd hk.2.1 (by decide)) (fun cur' e => by rw [hk] at e; simp only [Option.some.injEq, Obj.cells.injEq] at e; exact absurd e.2.1 (by decide))
    map := by
      have hm := HM5.out
      obtain ⟨me, mc, hmb⟩ := hm.block
      have hm2 := hm.keep (w' := W6.setCell ⟨h.g, 0, none⟩ (.slice a6 n6 c6)) (q3 h.b hm.lt (fun e => by rw [e, Hbox5.out] at hmb; cases hmb) (fun cur e => by rw [hmb] at e; cases e))
      rw [← Hn.out] at hm2
      exact Mp.next (nd := ⟨a, kd, z⟩) hm2 rfl
    hg := Hgg.out
    hb := Hbb.out }
  have HC : Hid (Chg h w (W6.setCell ⟨h.g, 0, none⟩ (.slice a6 n6 c6))) := hide (C5.out.trans ⟨q4, fun k cur hk => q3 k (heap_lt hk) (fun e => by subst e; rw [Hbox5.out] at hk; simp only [Option.some.injEq, Obj.cells.injEq] at hk; exact absurd hk.2.1 (by decide)) (fun cur' e => by rw [hk] at e; simp only [Option.some.injEq, Obj.cells.injEq] at e; exact absurd e.2.1 (by decide))⟩)
  clear q1 q2 q3 q4 ho6 hg6' k6 k1 k0
  go_wp2_with fail
  go_ret
  exact ⟨rfl, ⟨_, HR.out⟩, HC.out⟩
end Go.Proofs.YtpjolnaomdmnnaaDoor
