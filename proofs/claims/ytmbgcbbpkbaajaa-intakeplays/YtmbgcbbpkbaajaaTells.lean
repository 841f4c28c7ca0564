/- The document's Waiting; tells answers true where the two intakes agree. -/
import Derived.Test.YtmbgcbbpkbaajaaRelM
import Derived.Test.YtmbgcbbpkbaajaaROrd
namespace Go.Proofs.Ytmbgcbbpkbaajaa
open Go.RowKit
set_option linter.unusedVariables false

set_option maxHeartbeats 2000000 in
set_option maxRecDepth 100000 in
theorem rwait_any (win nx : Int) (came : List Pc) (ac : Option Addr) (cc : Nat) (aq : Option Addr) (nq cq : Nat) (w : World) (hn : 0 ≤ nx ∧ nx ≤ 65535) (hc : piecesE.Rd w (.slice ac came.length cc) came) (hr : ∀ c ∈ came, 0 ≤ c.1 ∧ c.1 ≤ 65535) (hl : came.length ≤ 500) :
    Calls Try.prog 24 #[.agg #[.int .i64 win, .int .u16 nx, .slice ac came.length cc, .slice aq nq cq]] w fun e w' => ∃ v r, e = .returned v ∧ Ow w' w.heap.size v r ∧ Ordd nx (came.map (·.1)) r ∧ Below w.heap.size w w' := by
  obtain ⟨W0, hW0⟩ : ∃ W0, w.alloc (boxOf win nx (.slice ac came.length cc) (.slice aq nq cq)) = W0 := ⟨_, rfl⟩
  have hB : Below w.heap.size w W0 := by rw [← hW0]; exact (Below.refl _ _).alloc (Nat.le_refl _) _
  have hz : W0.heap.size = w.heap.size + 1 := by rw [← hW0]; simp
  have hb0 : W0.heap[w.heap.size]? = some (boxOf win nx (.slice ac came.length cc) (.slice aq nq cq)) := by
    rw [← hW0]
    show (w.heap.push _)[w.heap.size]? = _
    simp
  have Hc := hide hc
  have Hb0 := hide hb0
  have HB := hide hB
  have Hz := hide hz
  have Hr := hide hr
  have c2 := (cells_of hb0 2).1
  simp at c2
  obtain ⟨m, hm⟩ : ∃ m, came.length = m := ⟨_, rfl⟩
  have Hm := hide hm
  have i0 : (m : Int) ≤ 500 := by omega
  rw [hm] at c2 hW0 Hb0 Hc ⊢
  clear hc hb0 hB hz hr hm
  obtain ⟨n0, n1⟩ := hn
  unfold boxOf at hW0
  go_enter Try.func24, Try.ntmps24
  go_wp2_with fail
  go_loopw [3, 8] (fun v3 v8 wr => ∃ (k : Nat), k ≤ m ∧ v8 = .int .i64 (k : Int) ∧ Hid (Ow wr W0.heap.size v3 ((came.take k).map (·.1))) ∧ Hid (Below W0.heap.size W0 wr)) (fun _ v8 _ => (500 - intOf v8).toNat)
  case atStart => exact ⟨0, by omega, rfl, hide ⟨by simp, .inl ⟨rfl, by simp⟩⟩, hide (Below.refl _ _)⟩
  case round =>
    clear hW0
    obtain ⟨k, hk, rfl, HO, HBr⟩ := hrel
    have hlt0 : w.heap.size < W0.heap.size := by rw [Hz.out]; omega
    have d2 : wr.cell? ⟨w.heap.size, 2, none⟩ = some (.slice ac m cc) := by rw [HBr.out.cell hlt0]; exact c2
    have HBw : Hid (Below w.heap.size w wr) := hide (HB.out.trans (HBr.out.mono HB.out.size))
    have k0 : (0 : Int) ≤ (k : Int) := by omega
    by_cases hkm : k < m
    · have k1 : (k : Int) < (m : Int) := by omega
      obtain ⟨p, hp⟩ : ∃ p, came[k]? = some p := ⟨_, List.getElem?_eq_getElem (by rw [Hm.out]; exact hkm)⟩
      obtain ⟨bc, oc, rfl, hcell⟩ := (Hc.out.keep HBw.out).at k p hp
      have d3 : wr.cell? ⟨bc, oc + k * 2, none⟩ = some (.int .u16 p.1) := hcell 0 (by decide)
      have htk : (came.take (k + 1)).map (·.1) = (came.take k).map (·.1) ++ [p.1] := by rw [List.take_add_one, hp]; simp
      have Htk := hide htk
      have hlen : ((came.take k).map (·.1)).length ≤ 500 := by simp; omega
      clear hcell hp htk
      generalize p.1 = y at *
      obtain ⟨l0, hl0⟩ : ∃ l0, (came.take k).map (fun c : Pc => c.1) = l0 := ⟨_, rfl⟩
      have HO' : Hid (Ow wr W0.heap.size u3 l0) := hide (by rw [← hl0]; exact HO.out)
      have Htk' : Hid ((came.take (k + 1)).map (fun c : Pc => c.1) = l0 ++ [y]) := hide (by rw [← hl0]; exact Htk.out)
      have hlen' : l0.length ≤ 500 := by rw [← hl0]; exact hlen
      clear hl0 hlen Htk HO
      go_wp2_with (at_builtin; refine wpList_appG (w0 := W0) (HBr.out.alloc HBr.out.size _) (by rfl) _ _ rfl _ _ rfl rfl l0 [y] (World.ownsRow.alloc HO'.out _) (bs_one' _ _ _ rfl) (by simp; omega) ?_; intro v5 w5 hown5 hg5 hb5; refine Hid.out ?_)
      refine hide ?_
      rw [← Htk'.out] at hown5
      go_wp2_with fail
      go_roundw
      case rel => exact ⟨k + 1, by omega, by go_num, hide hown5, hide hb5⟩
      case measure => simp [intOf]; omega
    · have hkm' : k = m := by omega
      subst hkm'
      have d1 : wr.cell? ⟨w.heap.size, 1, none⟩ = some (.int .u16 nx) := by
        rw [HBr.out.cell hlt0, (cells_of Hb0.out 1).1]; rfl
      rw [← Hm.out, List.take_length] at HO
      have K27 := hide (rorder_any nx (came.map (·.1)) u3 wr (Bs.own HO.out) (fun z hz => by obtain ⟨c, hc, rfl⟩ := List.mem_map.1 hz; exact Hr.out c hc) ⟨n0, n1⟩ (by simp; have := Hm.out; omega))
      go_wp2_with (go_at_call 27; refine K27.out.mono ?_; rintro e w6 ⟨v6, r6, rfl, ho6, hord, hb6⟩)
      go_ret
      exact ⟨v6, r6, rfl, ho6.mono HBw.out.size, hord, HBw.out.trans (hb6.mono HBw.out.size)⟩

theorem same_of {S : Ik} {came : List Pc} {queue : List ByteArray} (hR : Rel S came queue) {w : World} {B B' : Nat} {v v' : Value} {r r' : List Int} (hw : Wtg S r) (ho : Ordd S.nx (came.map (fun c : Pc => c.1)) r') (h1 : Ow w B v r) (h2 : Ow w B' v' r') (hl : r.length ≤ 100000) :
    Calls Try.prog 23 #[v, v'] w fun e w' => e = .returned (.bool true) ∧ ∃ n, w' = w.drewN n := by
  have := rel_wtg hR hw ho
  subst this
  exact same_eq (Bs.own h1) (Bs.own h2) hl

theorem wtg_len {S : Ik} {r : List Int} (h : Wtg S r) : r.length ≤ 100000 := by
  have key : ∀ (r : List Int) (a : Int), a ≤ 65536 → r.Pairwise (fun x y => up S.nx x < up S.nx y) → (∀ x ∈ r, a ≤ up S.nx x) → (r.length : Int) ≤ 65536 - a := by
    intro r
    induction r with
    | nil => intro a ha _ _; simp; omega
    | cons y r ih =>
      intro a ha hp hx
      obtain ⟨h1, h2⟩ := List.pairwise_cons.1 hp
      have hy := hx y (by simp)
      have hu := up_in S.nx y
      have := ih (up S.nx y + 1) (by omega) h2 (fun x hx => by have := h1 x hx; omega)
      simp only [List.length_cons]
      omega
  have := key r 0 (by omega) h.1 (fun x _ => (up_in S.nx x).1)
  omega

set_option maxHeartbeats 4000000 in
set_option maxRecDepth 100000 in
theorem tells_any {w : World} {h : Hd} {S : Ik} {came : List Pc} {queue : List ByteArray} (H : Has w h S) (hn : S.n ≤ 900) (hR : Rel S came queue) (win : Int) (ac aq : Option Addr) (cc cq : Nat) (hc : piecesE.Rd w (.slice ac came.length cc) came) (hl : came.length ≤ 500) :
    Calls Try.prog 14 #[.pointer (some ⟨h.g, 0, none⟩), .agg #[.int .i64 win, .int .u16 S.nx, .slice ac came.length cc, .slice aq queue.length cq]] w fun e w' => e = .returned (.bool true) ∧ Below w.heap.size w w' := by
  obtain ⟨W0, hW0⟩ : ∃ W0, w.alloc (boxOf win S.nx (.slice ac came.length cc) (.slice aq queue.length cq)) = W0 := ⟨_, rfl⟩
  have hB : Below w.heap.size w W0 := by rw [← hW0]; exact (Below.refl _ _).alloc (Nat.le_refl _) _
  have hz : W0.heap.size = w.heap.size + 1 := by rw [← hW0]; simp
  have hb0 : W0.heap[w.heap.size]? = some (boxOf win S.nx (.slice ac came.length cc) (.slice aq queue.length cq)) := by
    rw [← hW0]
    show (w.heap.push _)[w.heap.size]? = _
    simp
  have hql : S.q.length = queue.length := by rw [hR.q]; simp
  have hnr := H.nx
  have FC : Hid (∀ W, Below W0.heap.size W0 W → W.cell? ⟨w.heap.size, 0, none⟩ = some (.int .i64 win) ∧ W.cell? ⟨w.heap.size, 1, none⟩ = some (.int .u16 S.nx) ∧ W.cell? ⟨w.heap.size, 2, none⟩ = some (.slice ac came.length cc) ∧ W.cell? ⟨w.heap.size, 3, none⟩ = some (.slice aq queue.length cq)) := hide (fun W hW => by
    have hlt : w.heap.size < W0.heap.size := by omega
    have c0 := (cells_of hb0 0).1
    have c1 := (cells_of hb0 1).1
    have c2 := (cells_of hb0 2).1
    have c3 := (cells_of hb0 3).1
    simp at c0 c1 c2 c3
    exact ⟨by rw [hW.cell hlt]; exact c0, by rw [hW.cell hlt]; exact c1, by rw [hW.cell hlt]; exact c2, by rw [hW.cell hlt]; exact c3⟩)
  have K16 : Hid (∀ W, Below W0.heap.size W0 W → Calls Try.prog 16 #[.pointer (some ⟨h.g, 0, none⟩)] W fun e w' => e = .returned (.int .u16 S.nx) ∧ w' = W) := hide (fun W hW => next_any ((H.keep hB).keep hW))
  have K15 : Hid (∀ W, Below W0.heap.size W0 W → Calls Try.prog 15 #[.pointer (some ⟨h.g, 0, none⟩)] W fun e w' => e = .returned (.int .i64 queue.length) ∧ w' = W) := hide (fun W hW => by have := ready_any ((H.keep hB).keep hW); rw [hql] at this; exact this)
  have K17 : Hid (∀ W, Below W0.heap.size W0 W → Calls Try.prog 17 #[.pointer (some ⟨h.g, 0, none⟩)] W fun e w' => ∃ v r, e = .returned v ∧ Ow w' W.heap.size v r ∧ Wtg S r ∧ Below W.heap.size W w') := hide (fun W hW => waiting_any ((H.keep hB).keep hW) hn)
  have K24 : Hid (∀ W, Below W0.heap.size W0 W → Calls Try.prog 24 #[.agg #[.int .i64 win, .int .u16 S.nx, .slice ac came.length cc, .slice aq queue.length cq]] W fun e w' => ∃ v r, e = .returned v ∧ Ow w' W.heap.size v r ∧ Ordd S.nx (came.map (fun c : Pc => c.1)) r ∧ Below W.heap.size W w') := hide (fun W hW => rwait_any win S.nx came ac cc aq queue.length cq W hnr ((hc.keep hB).keep hW) hR.rng hl)
  have HR := hide hR
  have HB := hide hB
  have b0 : Below W0.heap.size W0 W0.drew := (Below.refl _ _).drew
  obtain ⟨x0, x1, x2, x3⟩ := FC.out _ (Below.refl _ _)
  clear H hc hR hB hb0 hz hnr hn
  have ql0 : (queue.length : Int) = (queue.length : Int) := rfl
  generalize queue.length = qn at *
  generalize came.length = cn at *
  clear hql ql0
  unfold boxOf at hW0
  go_enter Try.func14, Try.ntmps14
  go_upto_region 1 with fail
  clear hW0
  go_region_with (first
    | (go_at_call 16; refine (K16.out _ ?_).mono ?_; exact b0; rintro e w1 ⟨rfl, rfl⟩)
    | (go_at_call 15; refine (K15.out _ ?_).mono ?_; exact b0; rintro e w1 ⟨rfl, rfl⟩)
    | (go_at_call 17; refine (K17.out _ ?_).mono ?_; (first | exact b8 | exact b0); rintro e w7 ⟨v7, r7, rfl, ho7, hw7, hb7⟩; (first | (have b7 : Below W0.heap.size W0 w7 := b8.trans (hb7.mono b8.size)) | (have b7 : Below W0.heap.size W0 w7 := b0.trans hb7)); obtain ⟨y0, y1, y2, y3⟩ := FC.out _ b7; try (have hS := hide (same_of HR.out hw7 hord8 ho7 (ho8.keep hb7) (wtg_len hw7))))
    | (go_at_call 24; refine (K24.out _ ?_).mono ?_; (first | exact b7 | exact b0); rintro e w8 ⟨v8, r8, rfl, ho8, hord8, hb8⟩; (first | (have b8 : Below W0.heap.size W0 w8 := b7.trans (hb8.mono b7.size)) | (have b8 : Below W0.heap.size W0 w8 := b0.trans hb8)); obtain ⟨z0, z1, z2, z3⟩ := FC.out _ b8; try (have hS := hide (same_of HR.out hw7 hord8 (ho7.keep hb8) ho8 (wtg_len hw7))))
    | (go_at_call 23; refine hS.out.mono ?_; rintro e w9 ⟨rfl, n9, rfl⟩))
  all_goals
    have f7 := HB.out.trans (b7.mono HB.out.size)
    have f8 := HB.out.trans (b8.mono HB.out.size)
    clear x0 x1 x2 x3 y0 y1 y2 y3 z0 z1 z2 z3 ho7 ho8 hw7 hord8 hb7 hb8 hS b0 b7 b8 K15 K16 K17 K24 FC HR
    go_wp2_with fail
    go_ret
    first
      | exact ⟨rfl, ⟨f8.os, f8.tape, f8.output, f8.size, f8.block⟩⟩
      | exact ⟨rfl, ⟨f7.os, f7.tape, f7.output, f7.size, f7.block⟩⟩
end Go.Proofs.Ytmbgcbbpkbaajaa
