/- grant: a tote holds its claim's nodes, and the claim goes. -/
import Derived.Test.YtbibegendejnlaaCdl
import Derived.BigRegion
namespace Go.Proofs.Ytbibegendejnlaa
open Go.RowKit
set_option linter.unusedVariables false

/-- while a claim is granted -/
structure GS (W0 : World) (B g gh : Nat) (b : Nat → Prop) (vw : Value) (cs : List Cv) (q : List Cl) (t : Int) (v : Value) (ns : List Int) (w : World) (hold : List Int) : Prop where
  tab : Tab w B g gh b vw cs ⟨hold, q⟩
  fr : Fr B g gh W0 w
  box : w.heap[W0.heap.size]? = some (.cells #[.int .i64 t, v] 67)
  own : intE.Own w B v ns
  ne : v.ownBlock ≠ some gh
  fx : Fx g gh vw W0 w
theorem GS.keep {W0 w w' : World} {B g gh : Nat} {b : Nat → Prop} {vw : Value} {cs : List Cv} {q : List Cl} {t : Int} {v : Value} {ns hold : List Int} (h : GS W0 B g gh b vw cs q t v ns w hold) (hb : Below w.heap.size w w') : GS W0 B g gh b vw cs q t v ns w' hold :=
  ⟨h.tab.keep hb, h.fr.trans (Fr.of_below hb), by rw [hb.block _ (heap_lt h.box)]; exact h.box, h.own.keep hb, h.ne, fun k hk h1 h2 h3 => by rw [hb.block k (Nat.lt_of_lt_of_le hk h.fr.size)]; exact h.fx k hk h1 h2 h3⟩
theorem GS.put {W0 w : World} {B g gh : Nat} {b : Nat → Prop} {vw : Value} {cs : List Cv} {q : List Cl} {t : Int} {v : Value} {ns hold : List Int} (h : GS W0 B g gh b vw cs q t v ns w hold) (x : Nat) : GS W0 B g gh b vw cs q t v ns (w.setCell ⟨gh, x, none⟩ (.int .i64 t)) (hold.set x t) := by
  have h1 := h.tab.put (x : Int) t (by omega)
  rw [show ((x : Int)).toNat = x by omega] at h1
  refine ⟨h1, h.fr.trans (Fr.setH w x _), ?_, own_set_other h.own h.ne, h.ne, fun k hk h1 h2 h3 => by rw [Below.heap_setCell _ _ _ _ h2]; exact h.fx k hk h1 h2 h3⟩
  rw [Below.heap_setCell _ _ _ _ (fun e => ?_)]
  · exact h.box
  · obtain ⟨cur, hc⟩ := own_type h.tab.hold gh rfl
    have e' : W0.heap.size = gh := e
    rw [← e', h.box] at hc
    simp only [Option.some.injEq, Obj.cells.injEq] at hc
    exact absurd hc.2.1 (show ¬ (67 : TypeId) = 3 by decide)

set_option maxRecDepth 100000 in
set_option maxHeartbeats 4000000 in
theorem grant_any {w : World} {B g gh : Nat} {b : Nat → Prop} {vw : Value} {cs : List Cv} {T : Tb} (h : Tab w B g gh b vw cs T) (hw : Wf T) (i : Nat) (p : Cl) (hi : T.q[i]? = some p) :
    Calls Try.prog 42 #[.pointer (some ⟨g, 0, none⟩), .int .i64 (i : Int)] w fun e w' => e = .returned (.tuple #[]) ∧ Tbl w' B g gh b (grant T i p) ∧ Fr B g gh w w' ∧ Fx g gh vw w w' := by
  have hlt : i < T.q.length := idx_lt hi
  have hql := hw.qlen
  obtain ⟨k, c, rfl, hc1, hc2⟩ := h.qs.full (by omega)
  obtain ⟨k', a', c', hk', d0, d1, hown, hne⟩ := h.qs.at i p hi
  cases hk'
  have c1 := h.cells.2.1
  have hlen := (hw.nodes p (List.mem_of_getElem? hi)).2.2
  have Hin : Hid (∀ j n, p.nodes[j]? = some n → ∃ x : Nat, n = (x : Int) ∧ x < T.hold.length) := hide (fun j n hn => by
    have := (hw.nodes p (List.mem_of_getElem? hi)).1 n (List.mem_of_getElem? hn)
    exact ⟨n.toNat, by omega, by omega⟩)
  obtain ⟨w0, rfl⟩ : ∃ w0, w0 = w := ⟨_, rfl⟩
  obtain ⟨v, hv⟩ : ∃ v, (Value.slice a' p.nodes.length c') = v := ⟨_, rfl⟩
  have HG : Hid (GS w0 B g gh b (.slice (some ⟨k, 0, none⟩) T.q.length c) cs T.q p.tote (.slice a' p.nodes.length c') p.nodes (w0.alloc (.cells #[.int .i64 p.tote, .slice a' p.nodes.length c'] 67)) T.hold) :=
    have hb : Below w0.heap.size w0 (w0.alloc (.cells #[.int .i64 p.tote, .slice a' p.nodes.length c'] 67)) := (Below.refl _ _).alloc (Nat.le_refl _) _
    hide ⟨h.keep hb, Fr.of_below hb, heap_new _ _, hown.keep hb, hne, fun k hk _ _ _ => hb.block k hk⟩
  have KR : Hid (∀ W hold, GS w0 B g gh b (.slice (some ⟨k, 0, none⟩) T.q.length c) cs T.q p.tote (.slice a' p.nodes.length c') p.nodes W hold → Calls Try.prog 33 #[.pointer (some ⟨g, 0, none⟩), .int .i64 (i : Int)] W fun e w' => e = .returned (.tuple #[]) ∧ Tbl w' B g gh b ⟨hold, T.q.take i ++ T.q.drop (i + 1)⟩ ∧ Fr B g gh W w' ∧ Fx g gh (.slice (some ⟨k, 0, none⟩) T.q.length c) W w') := hide (fun W hold hg => remove_any hg.tab i hlt (by show T.q.length ≤ _; omega))
  have Hhl : Hid (∀ W hold, GS w0 B g gh b (.slice (some ⟨k, 0, none⟩) T.q.length c) cs T.q p.tote (.slice a' p.nodes.length c') p.nodes W hold → W.cell? ⟨g, 0, none⟩ = some (.slice (some ⟨gh, 0, none⟩) hold.length hold.length) ∧ W.cell? ⟨w0.heap.size, 0, none⟩ = some (.int .i64 p.tote) ∧ ∀ x : Nat, x < hold.length → (∃ u, W.cell? ⟨gh, x, none⟩ = some (.int .i64 u)) ∧ W.frozen? ⟨gh, x, none⟩ = false) := hide (fun W hold hg => by
    refine ⟨hg.tab.cells.1, (cells_at hg.box 0).1, fun x hx => ?_⟩
    have := hg.tab.at (x : Int) ⟨by omega, by show (x : Int) < (hold.length : Int); omega⟩
    rw [show ((x : Int)).toNat = x by omega] at this
    exact ⟨⟨_, this.1⟩, this.2⟩)
  have Hres : Hid (grant T i p = ⟨setL T.hold p.tote p.nodes, T.q.take i ++ T.q.drop (i + 1)⟩) := hide rfl
  have j0 : (0 : Int) ≤ (i : Int) := by omega
  have j1 : (i : Int) < (T.q.length : Int) := by omega
  have j2 : (p.nodes.length : Int) ≤ 100000 := by omega
  obtain ⟨m, hm⟩ : ∃ m, p.nodes.length = m := ⟨_, rfl⟩
  have Hm := hide hm
  rw [hm] at d1 HG KR Hhl j2
  generalize hN : T.q.length = N at *
  generalize hs : p.tote = s at *
  clear h hw hql hc1 hc2 hown hne hlen hi hlt hN hs hv v hm
  go_enter Try.func42, Try.ntmps42
  go_wp2_with fail
  go_loopw [17] (fun v17 wr => ∃ (j : Nat), j ≤ m ∧ v17 = .int .i64 j ∧ Hid (GS w0 B g gh b (.slice (some ⟨k, 0, none⟩) N c) cs T.q s (.slice a' m c') p.nodes wr (setL T.hold s (p.nodes.take j)))) (fun v17 _ => m - (intOf v17).toNat)
  case atStart => exact ⟨0, by omega, rfl, HG⟩
  case round =>
    obtain ⟨j, hj, rfl, HG'⟩ := hrel
    by_cases hjm : j < m
    · obtain ⟨n, hn⟩ : ∃ n, p.nodes[j]? = some n := ⟨_, List.getElem?_eq_getElem (by rw [Hm.out]; exact hjm)⟩
      obtain ⟨x, rfl, hx⟩ := Hin.out j n hn
      obtain ⟨kb, off, rfl, e0⟩ := int_at HG'.out.own.rd j _ hn
      obtain ⟨f0, f1, f2⟩ := Hhl.out _ _ HG'.out
      obtain ⟨⟨u, f3⟩, f4⟩ := f2 x (by rw [setL_len]; exact hx)
      rw [setL_len] at f0
      have g0 : (0 : Int) ≤ (j : Int) := by omega
      have g1 : (j : Int) < (m : Int) := by omega
      have g2 : (0 : Int) ≤ (x : Int) := by omega
      have g3 : (x : Int) < (T.hold.length : Int) := by omega
      have HG2 : Hid (GS w0 B g gh b (.slice (some ⟨k, 0, none⟩) N c) cs T.q s (.slice (some ⟨kb, off, none⟩) m c') p.nodes (wr.drew.setCell ⟨gh, x, none⟩ (.int .i64 s)) (setL T.hold s (p.nodes.take (j + 1)))) := hide (by
        rw [List.take_add_one, hn]
        show GS _ _ _ _ _ _ _ _ _ _ _ _ (setL T.hold s (p.nodes.take j ++ [(x : Int)]))
        rw [setL_snoc, show ((x : Int)).toNat = x by omega]
        exact (HG'.out.keep ((Below.refl _ _).drew)).put x)
      clear f2 hn HG'
      generalize T.hold.length = H at *
      go_upto_region 4 with fail
      go_region
      go_wp2_with fail
      go_roundw
      case rel => exact ⟨j + 1, by omega, by go_num, HG2⟩
      case measure => simp [intOf]; omega
    · obtain rfl : j = m := by omega
      have g1 : ¬ (j : Int) < (j : Int) := by omega
      have K := hide (KR.out _ _ HG'.out)
      rw [List.take_of_length_le (by rw [Hm.out]; exact Nat.le_refl _), ← Hres.out] at K
      have HF := hide HG'.out.fr
      have HF2 := hide HG'.out.fx
      go_wp2_with (go_at_call 33; refine K.out.mono ?_; rintro e W3 ⟨rfl, t1, t2, t3⟩; have HT1 := hide t1; have HT2 := hide (HF.out.trans t2); have HT3 : Hid (Fx g gh (.slice (some ⟨k, 0, none⟩) N c) w0 W3) := hide (fun y hy h1 h2 h3 => (by rw [t3 y (Nat.lt_of_lt_of_le hy HF.out.size) h1 h2 h3]; exact HF2.out y hy h1 h2 h3)); clear t1 t2 t3)
      refine bodyPost_end (results_none rfl _ _ _) rfl ?_
      exact ⟨rfl, HT1.out, HT2.out, HT3.out⟩
end Go.Proofs.Ytbibegendejnlaa
