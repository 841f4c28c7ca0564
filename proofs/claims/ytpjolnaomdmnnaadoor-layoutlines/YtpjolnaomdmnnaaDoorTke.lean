/- takeEdge. -/
import Derived.Test.YtpjolnaomdmnnaaDoorTkn
namespace Go.Proofs.YtpjolnaomdmnnaaDoor
open Go.RowKit Go.Maps Go.ChangeMaps
set_option linter.unusedVariables false

theorem edgeS_form {f : ByteArray → Option Int} {ws : List ByteArray} {ed : Ed} (h : edgeS f ws = some ed) : ∃ a b, ws = [a, b] ∧ f a = some ed.1 ∧ f b = some ed.2 := by
  unfold edgeS at h
  split at h
  · rename_i a b
    split at h
    · rename_i x y hx hy
      cases h
      exact ⟨a, b, rfl, hx, hy⟩
    · cases h
  · cases h

set_option maxRecDepth 100000 in
set_option maxHeartbeats 2000000 in
theorem takeEdge_no {w : World} {h : Hd} {vN vE : Value} {st : St} (H : Rdr w h vN vE st) (aw : Option Addr) (cw : Nat) (ws : List ByteArray) (hw : strE.Rd w (.slice aw ws.length cw) ws) (hsz : ∀ x ∈ ws, x.size ≤ 100000) (hn : edgeS (lastAt st.1) ws = none) :
    Calls Tryd.prog 44 #[.pointer (some ⟨h.g, 0, none⟩), .slice aw ws.length cw] w fun e w' => e = .returned (.bool false) ∧ Below w.heap.size w w' := by
  have b0 : Hid (∀ q, Below w.heap.size w (w.drewN q)) := hide (fun q => ⟨rfl, rfl, rfl, Nat.le_refl _, fun _ _ => rfl⟩)
  by_cases h3 : ws.length = 2
  · match ws, h3 with
    | [a, b], _ =>
    obtain ⟨bb, off, rfl, x0⟩ := cell_of_get hw 0 a rfl
    rw [Nat.add_zero] at x0
    obtain ⟨_, _, e1, x1⟩ := cell_of_get hw 1 b rfl
    cases e1
    have l0 : ∀ q, _ := fun q => (H.map.keep (w' := w.drewN q) rfl).look a (Nat.le_trans (hsz a (by simp)) (by unfold maxLen; omega))
    have l1 : ∀ q, _ := fun q => (H.map.keep (w' := w.drewN q) rfl).look b (Nat.le_trans (hsz b (by simp)) (by unfold maxLen; omega))
    have k2 := (cells_at H.box 2).1
    simp at k2
    have hlen : [a, b].length = 2 := rfl
    rw [hlen]
    have hor : lastAt st.1 a = none ∨ lastAt st.1 b = none := by
      unfold edgeS at hn
      simp only at hn
      cases hk : lastAt st.1 a with
      | none => exact .inl rfl
      | some k => cases hz : lastAt st.1 b with
        | none => exact .inr rfl
        | some z => rw [hk, hz] at hn; cases hn
    clear hn hw hlen hsz H
    generalize lastAt st.1 a = ka at *
    generalize lastAt st.1 b = kb at *
    cases ka with
    | none =>
      clear hor
      go_enter Tryd.func44, Tryd.ntmps44
      go_upto_region 3 with fail
      go_quiet (fail)
      go_upto_region 4 with fail
      go_quiet (fail)
      go_wp2_with fail
      go_ret
      exact ⟨rfl, b0.out _⟩
    | some k =>
      obtain rfl : kb = none := by rcases hor with h | h; cases h; exact h
      clear hor
      go_enter Tryd.func44, Tryd.ntmps44
      go_upto_region 3 with fail
      go_quiet (fail)
      go_upto_region 4 with fail
      go_quiet (fail)
      go_wp2_with fail
      go_ret
      exact ⟨rfl, b0.out _⟩
  · have h3' : ¬ (ws.length : Int) = 2 := by omega
    clear hw hn h3 hsz
    generalize ws.length = n at *
    go_enter Tryd.func44, Tryd.ntmps44
    go_wp2_with fail
    go_ret
    exact ⟨rfl, b0.out 0⟩

set_option maxRecDepth 100000 in
set_option maxHeartbeats 4000000 in
theorem takeEdge_yes {w : World} {h : Hd} {vN vE : Value} {st : St} (H : Rdr w h vN vE st) (hBw : h.B ≤ w.heap.size) (hlen : st.2.length ≤ 5000) (aw : Option Addr) (cw : Nat) (ws : List ByteArray) (hw : strE.Rd w (.slice aw ws.length cw) ws) (hsz : ∀ x ∈ ws, x.size ≤ 100000) (ed : Ed) (hn : edgeS (lastAt st.1) ws = some ed) :
    Calls Tryd.prog 44 #[.pointer (some ⟨h.g, 0, none⟩), .slice aw ws.length cw] w fun e w' => e = .returned (.bool true) ∧ (∃ vE', Rdr w' h vN vE' (st.1, st.2 ++ [ed])) ∧ Chg h w w' := by
  obtain ⟨a, b, rfl, hk, hz⟩ := edgeS_form hn
  clear hn
  obtain ⟨x, y⟩ := ed
  simp only at hk hz hw hsz ⊢
  obtain ⟨bb, off, rfl, x0⟩ := cell_of_get hw 0 a rfl
  rw [Nat.add_zero] at x0
  obtain ⟨_, _, e1, x1⟩ := cell_of_get hw 1 b rfl
  cases e1
  have l0 : ∀ q, _ := fun q => (H.map.keep (w' := w.drewN q) rfl).look a (Nat.le_trans (hsz a (by simp)) (by unfold maxLen; omega))
  have l1 : ∀ q, _ := fun q => (H.map.keep (w' := w.drewN q) rfl).look b (Nat.le_trans (hsz b (by simp)) (by unfold maxLen; omega))
  rw [hk] at l0
  rw [hz] at l1
  have k2 := (cells_at H.box 2).1
  simp at k2
  have hl3 : [a, b].length = 2 := rfl
  rw [hl3]
  have HH := hide H
  have Hlen := hide hlen
  have HBw := hide hBw
  clear hw hl3 hk hz hsz H hlen hBw
  go_enter Tryd.func44, Tryd.ntmps44
  go_upto_region 3 with fail
  go_quiet (fail)
  rename Nat => nq1
  go_upto_region 4 with fail
  go_quiet (fail)
  clear l0 l1 k2
  go_upto_region 7 with fail
  have bq : Below w.heap.size w (w.drewN (nq1 + nq)) := ⟨rfl, rfl, rfl, Nat.le_refl _, fun _ _ => rfl⟩
  have H5 := HH.out.keep bq
  have C5 : Hid (Chg h w (w.drewN (nq1 + nq))) := hide (Chg.of HBw.out bq)
  have Hsz5 : Hid (h.B ≤ (w.drewN (nq1 + nq)).heap.size) := hide HBw.out
  clear x0 x1 HBw HH bq
  generalize w.drewN (nq1 + nq) = W5 at *
  obtain ⟨aN, cN, rfl⟩ := H5.es.rd.form
  obtain ⟨n, hn⟩ : ∃ n, st.2.length = n := ⟨_, rfl⟩
  have bx := H5.box
  have own5 := H5.es
  rw [hn] at bx own5
  have es5 := hide own5
  have ns5 := hide H5.ns
  have Hbox5 := hide bx
  have HM5 := hide H5.map
  have Hgg := hide H5.hg
  have Hbb := hide H5.hb
  have k0 : W5.cell? ⟨h.g, 1, none⟩ = some (.slice aN n cN) := (cells_at bx 1).1
  have fz : W5.frozen? ⟨h.g, 1, none⟩ = false := (cells_at bx 1).2
  have gl : h.g < W5.heap.size := heap_lt bx
  have Hal : Hid (h.B ≤ (W5.alloc (.cells #[.int .i64 x, .int .i64 y] 47)).heap.size) := hide (by have := Hsz5.out; simp; omega)
  have Hal2 : Hid (edE.Own (W5.alloc (.cells #[.int .i64 x, .int .i64 y] 47)) h.B (.slice aN n cN) st.2) := hide (World.ownsRow.alloc es5.out _)
  have k1 : (W5.alloc (.cells #[.int .i64 x, .int .i64 y] 47)).cell? ⟨h.g, 1, none⟩ = some (.slice aN n cN) := by
    rw [((Below.refl W5.heap.size W5).alloc (Nat.le_refl _) _).cell gl]; exact k0
  clear fz bx own5 H5 hn
  go_wp2_with (at_builtin; refine edE.wpB (B := h.B) Hal.out (by rfl) _ _ rfl _ _ rfl rfl st.2 [(x, y)] Hal2.out (ed_new W5 (x, y) _ (by simp)) (by have := Hlen.out; simp; omega) ?_; intro v6 W6 ho6 hg6; refine Hid.out ?_)
  refine hide ?_
  obtain ⟨a6, c6, hv6⟩ := ho6.rd.form
  obtain ⟨n6, hn6⟩ : ∃ n6, (st.2 ++ [((x, y) : Ed)]).length = n6 := ⟨_, rfl⟩
  rw [hn6] at hv6
  subst hv6
  clear hn6
  have hg6' : (W5.alloc (.cells #[.int .i64 x, .int .i64 y] 47)).grownBy W6 (Value.slice aN n cN).ownBlock := hg6
  clear hg6
  obtain ⟨q1, q2, q3, q4⟩ := grown_kept (i := 1) es5.out Hbox5.out (by decide) _ hg6' Hgg.out Hsz5.out ho6
  have k6 : W6.heap[h.g]? = some (.cells #[vN, .slice aN n cN, .map (some h.b)] 62) := by
    have := hg6'.block h.g (by simp; omega) (fun e => by
      rcases Hal2.out.2 with ⟨hx, _⟩ | ⟨q', cap, cur, hx, h2, h3, _⟩
      · rw [hx] at e; cases e
      · rw [hx] at e
        simp [Value.ownBlock] at e
        subst e
        rw [Below.heap_alloc _ _ _ (by omega), Hbox5.out] at h3
        simp only [Option.some.injEq, Obj.cells.injEq] at h3
        exact absurd h3.2.1 (by decide))
    rw [this, Below.heap_alloc _ _ _ (by omega)]; exact Hbox5.out
  have k7 := (cells_at k6 1).1
  have k8 := (cells_at k6 1).2
  simp at k7
  have HR : Hid (Rdr (W6.setCell ⟨h.g, 1, none⟩ (.slice a6 n6 c6)) h vN (.slice a6 n6 c6) (st.1, st.2 ++ [(x, y)])) := hide {
    box := q1
    ns := own_chg ns5.out fun k cur _ hk => q3 k (heap_lt hk) (fun e => by subst e; rw [Hbox5.out] at hk; simp only [Option.some.injEq, Obj.cells.injEq] at hk; exact absurd hk.2.1 (by decide)) (fun cur' e => by rw [hk] at e; simp only [Option.some.injEq, Obj.cells.injEq] at e; exact absurd e.2.1 (by decide))
    es := q2
    map := by
      have hm := HM5.out
      obtain ⟨me, mc, hmb⟩ := hm.block
      exact hm.keep (w' := W6.setCell ⟨h.g, 1, none⟩ (.slice a6 n6 c6)) (q3 h.b hm.lt (fun e => by rw [e, Hbox5.out] at hmb; cases hmb) (fun cur e => by rw [hmb] at e; cases e))
    hg := Hgg.out
    hb := Hbb.out }
  have HC : Hid (Chg h w (W6.setCell ⟨h.g, 1, none⟩ (.slice a6 n6 c6))) := hide (C5.out.trans ⟨q4, fun k cur hk => q3 k (heap_lt hk) (fun e => by subst e; rw [Hbox5.out] at hk; simp only [Option.some.injEq, Obj.cells.injEq] at hk; exact absurd hk.2.1 (by decide)) (fun cur' e => by rw [hk] at e; simp only [Option.some.injEq, Obj.cells.injEq] at e; exact absurd e.2.1 (by decide))⟩)
  clear q1 q2 q3 q4 ho6 hg6' k6 k1 k0
  go_wp2_with fail
  go_ret
  exact ⟨rfl, ⟨_, HR.out⟩, HC.out⟩
end Go.Proofs.YtpjolnaomdmnnaaDoor
