/- Tables in memory; what the pairs save. -/
import Derived.Test.YtochllbnlnammabPrb
import Derived.Test.YtochllbnlnammabPrm
import Derived.Laws.Rows
import Derived.Laws.Tables
import Derived.Great.BuildSlice
import Derived.Great.Ranges
import Derived.Laws.ResultCell
namespace Go.Proofs.Ytochllbnlnammab
open Go.RowKit
set_option linter.unusedVariables false

/-- a table of n rows of m numbers in a row of cells -/
structure Tb (n m : Nat) (C : Array Value) (f : Nat → Nat → Int) : Prop where
  sz : C.size = n * m
  at' : ∀ i j, i < n → j < m → C[i * m + j]? = some (.int .i64 (f i j))
def upd (f : Nat → Nat → Int) (i j : Nat) (z : Int) : Nat → Nat → Int := fun a b => if a = i ∧ b = j then z else f a b
theorem idx_inj {m i j a b : Nat} (hj : j < m) (hb : b < m) (h : i * m + j = a * m + b) : i = a ∧ j = b := by
  have h1 : (i * m + j) / m = i := by rw [Nat.mul_comm, Nat.mul_add_div (by omega), Nat.div_eq_of_lt hj, Nat.add_zero]
  have h2 : (a * m + b) / m = a := by rw [Nat.mul_comm, Nat.mul_add_div (by omega), Nat.div_eq_of_lt hb, Nat.add_zero]
  rw [h, h2] at h1
  subst h1
  exact ⟨rfl, by omega⟩
theorem idx_in {n m i j : Nat} (hi : i < n) (hj : j < m) : i * m + j < n * m := by
  have : (i + 1) * m ≤ n * m := Nat.mul_le_mul_right _ hi
  rw [Nat.succ_mul] at this; omega
theorem Tb.set {n m : Nat} {C : Array Value} {f : Nat → Nat → Int} (h : Tb n m C f) {i j : Nat} (hi : i < n) (hj : j < m) (z : Int) : Tb n m (C.setIfInBounds (i * m + j) (.int .i64 z)) (upd f i j z) := by
  refine ⟨by rw [Array.size_setIfInBounds]; exact h.sz, fun a b ha hb => ?_⟩
  rw [Array.getElem?_setIfInBounds]
  unfold upd
  by_cases e : i * m + j = a * m + b
  · obtain ⟨rfl, rfl⟩ := idx_inj hj hb e
    rw [if_pos rfl, if_pos (by rw [h.sz]; exact idx_in hi hj), if_pos ⟨rfl, rfl⟩]
  · rw [if_neg e, if_neg (fun h => e (by rw [h.1, h.2]))]
    exact h.at' a b ha hb
theorem Tb.one {n m : Nat} {C : Array Value} {f : Nat → Nat → Int} (h : Tb n m C f) : C.all (·.oneCell') = true := by
  rw [Array.all_eq_true]
  intro k hk
  have hk' : k < n * m := by rw [← h.sz]; exact hk
  have hm : 0 < m := by
    rcases Nat.eq_zero_or_pos m with rfl | h
    · omega
    · exact h
  have h1 := h.at' (k / m) (k % m) ((Nat.div_lt_iff_lt_mul hm).2 hk') (Nat.mod_lt _ hm)
  rw [show k / m * m + k % m = k by rw [Nat.mul_comm]; exact Nat.div_add_mod k m, Array.getElem?_eq_getElem hk] at h1
  rw [Option.some.inj h1]
  rfl
theorem Tb.cell {n m : Nat} {C : Array Value} {f : Nat → Nat → Int} (h : Tb n m C f) {w : World} {g : Nat} {t : TypeId} (hg : w.heap[g]? = some (.cells C t)) {i j : Nat} (hi : i < n) (hj : j < m) : w.cell? ⟨g, i * m + j, none⟩ = some (.int .i64 (f i j)) ∧ w.frozen? ⟨g, i * m + j, none⟩ = false := by
  obtain ⟨h1, h2⟩ := cells_at hg (i * m + j)
  exact ⟨by rw [h1]; exact h.at' i j hi hj, h2⟩
theorem Tb.zero (n m : Nat) : Tb n m (Array.replicate (n * m) (.int .i64 0)) (fun _ _ => 0) :=
  ⟨by simp, fun i j hi hj => by rw [Array.getElem?_replicate, if_pos (idx_in hi hj)]⟩

theorem Sm.zero : Sm 0 := by unfold Sm; omega
theorem In.sm {p : Int × Int} (h : In p) : Sm p.1 ∧ Sm p.2 := by unfold In at h; unfold Sm; omega
theorem dr_bd {p q : Int × Int} (hp : In p) (hq : In q) : 0 ≤ dr p q ∧ dr p q ≤ 1000 := by
  unfold In at hp hq
  unfold dr ad
  refine ⟨?_, ?_⟩ <;> (repeat' split) <;> omega
theorem In.zero : In (0, 0) := by unfold In; simp
/-- what a store and a retrieval save -/
def sgs (p q : Int × Int) : Int := dr (0, 0) p + dr (0, 0) q - dr p q
def sg (L M : List (Int × Int)) (s g : Nat) : Int := sgs (L.getD s (0, 0)) (M.getD g (0, 0))
theorem sg_at {L M : List (Int × Int)} {s g : Nat} {p q : Int × Int} (hp : L[s]? = some p) (hq : M[g]? = some q) : sg L M s g = sgs p q := by
  unfold sg; rw [List.getD_eq_getElem?_getD, List.getD_eq_getElem?_getD, hp, hq]; rfl

/-- two spots in boxes of their own -/
def Bx2 (g1 g2 : Nat) (x1 y1 x2 y2 : Int) (W : World) : Prop := W.cell? ⟨g1, 0, none⟩ = some (.int .i64 x1) ∧ W.cell? ⟨g1, 1, none⟩ = some (.int .i64 y1) ∧ W.cell? ⟨g2, 0, none⟩ = some (.int .i64 x2) ∧ W.cell? ⟨g2, 1, none⟩ = some (.int .i64 y2)
theorem Bx2.keep {g1 g2 : Nat} {x1 y1 x2 y2 : Int} {W W' : World} (h : Bx2 g1 g2 x1 y1 x2 y2 W) (hb : Below W.heap.size W W') : Bx2 g1 g2 x1 y1 x2 y2 W' := by
  obtain ⟨h1, h2, h3, h4⟩ := h
  exact ⟨by rw [hb.cell (cell_lt h1)]; exact h1, by rw [hb.cell (cell_lt h2)]; exact h2, by rw [hb.cell (cell_lt h3)]; exact h3, by rw [hb.cell (cell_lt h4)]; exact h4⟩
theorem cell_put_other {w : World} {a b : Addr} {v : Value} (h : a.block ≠ b.block) : (w.setCell a v).cell? b = w.cell? b := by
  unfold World.cell?
  rw [Below.heap_setCell _ _ _ _ (fun e => h e.symm)]
theorem Bx2.put {g1 g2 : Nat} {x1 y1 x2 y2 : Int} {W : World} (h : Bx2 g1 g2 x1 y1 x2 y2 W) {g i : Nat} {v : Value} (h1 : g ≠ g1) (h2 : g ≠ g2) : Bx2 g1 g2 x1 y1 x2 y2 (W.setCell ⟨g, i, none⟩ v) := by
  obtain ⟨q1, q2, q3, q4⟩ := h
  exact ⟨by rw [cell_put_other h1]; exact q1, by rw [cell_put_other h1]; exact q2, by rw [cell_put_other h2]; exact q3, by rw [cell_put_other h2]; exact q4⟩
/-- only blocks from B on change -/
theorem below_put {w W : World} {g i : Nat} {v : Value} (h : Below w.heap.size w W) (hg : w.heap.size ≤ g) : Below w.heap.size w (W.setCell ⟨g, i, none⟩ v) := by
  exact h.setCell (p := ⟨g, i, none⟩) hg _
theorem below_row {w W : World} {g : Nat} {C : Array Value} (h : Below w.heap.size w W) (hg : w.heap.size ≤ g) : Below w.heap.size w (W.setRow g C) :=
  h.trans ⟨rfl, rfl, rfl, by simp [World.setRow], fun k hk => setRow_other _ _ _ _ (by omega)⟩

/-- the world of savingsOf: the table in block B + 1 -/
structure Sw (w : World) (W : World) (C : Array Value) (f : Nat → Nat → Int) : Prop where
  bel : Below w.heap.size w W
  r : ∃ Z, W.heap[w.heap.size]? = some (.cells Z 39) ∧ Z.size = 36
  t : W.heap[w.heap.size + 1]? = some (.cells C 39)
  tb : Tb 6 6 C f
theorem Sw.keep {w W W' : World} {C : Array Value} {f : Nat → Nat → Int} (h : Sw w W C f) (hb : Below W.heap.size W W') : Sw w W' C f := by
  obtain ⟨Z, hZ, hs⟩ := h.r
  exact ⟨h.bel.trans (hb.mono h.bel.size), ⟨Z, by rw [hb.block _ (heap_lt hZ)]; exact hZ, hs⟩, by rw [hb.block _ (heap_lt h.t)]; exact h.t, h.tb⟩
theorem Sw.set {w W : World} {C : Array Value} {f : Nat → Nat → Int} (h : Sw w W C f) {i j : Nat} (hi : i < 6) (hj : j < 6) (z : Int) : Sw w (W.setCell ⟨w.heap.size + 1, i * 6 + j, none⟩ (.int .i64 z)) (C.setIfInBounds (i * 6 + j) (.int .i64 z)) (upd f i j z) := by
  obtain ⟨Z, hZ, hs⟩ := h.r
  refine ⟨below_put h.bel (by omega), ⟨Z, ?_, hs⟩, heap_put h.t _, h.tb.set hi hj z⟩
  rw [Below.heap_setCell _ _ _ _ (by simp)]
  exact hZ

theorem results_cell1 {P : Program} {fn : Func} {p : Tmp} {ty : TypeId} (h : fn.results = #[.cell p ty]) (tmps : Array Value) (w : World) {a : Addr} (hp : tmps.getD p undef = .pointer (some a)) {v : Value} (hl : (loadVar ty a).run P w = .ok v w) : (results fn tmps).run P w = .ok v w := by
  simp only [results, h]
  have hp' : tmps[p]?.getD undef = .pointer (some a) := by simpa using hp
  simp [hp', asAddr, hl]

/-- what savingsOf answers -/
def SavP (n m : Nat) (L M : List (Int × Int)) (w : World) (e : Ending) (w' : World) : Prop := ∃ C f, e = .returned (.agg C) ∧ Tb 6 6 C f ∧ (∀ s g, s < n → g < m → f s g = sg L M s g) ∧ Below w.heap.size w w'
set_option maxRecDepth 100000 in
set_option maxHeartbeats 4000000 in
theorem savings_any (a b : Option Addr) (n c m d : Nat) (L M : List (Int × Int)) (w : World) (hn : L.length = n) (hm : M.length = m) (hv : spE.Rd w (.slice a n c) L) (hu : spE.Rd w (.slice b m d) M) (hL : Alw L) (hM : Alw M) :
    Calls Try.prog 12 #[.slice a n c, .slice b m d] w (SavP n m L M w) := by
  obtain ⟨w0, rfl⟩ : ∃ w0, w0 = w := ⟨_, rfl⟩
  have Hn := hide hn
  have Hm := hide hm
  have HV := hide hv
  have HU := hide hu
  have HL := hide hL
  have HM := hide hM
  have n6 : n ≤ 6 := by rw [← hn]; exact hL.1
  have m6 : m ≤ 6 := by rw [← hm]; exact hM.1
  have i0 : (n : Int) ≤ 6 := by omega
  have i1 : (m : Int) ≤ 6 := by omega
  have H0 : Hid (∃ C f, Sw w0 ((w0.alloc (.cells (Array.replicate (6 * 6) (.int .i64 0)) 39)).alloc (.cells (Array.replicate (6 * 6) (.int .i64 0)) 39)) C f) := hide (by
    obtain ⟨h1, h2⟩ := heap_new2 w0 (.cells (Array.replicate (6 * 6) (.int .i64 0)) 39) (.cells (Array.replicate (6 * 6) (.int .i64 0)) 39)
    exact ⟨_, _, below_alloc2 w0 _ _, ⟨_, h1, by simp⟩, h2, Tb.zero 6 6⟩)
  obtain ⟨B, hB⟩ : ∃ B, w0.heap.size = B := ⟨_, rfl⟩
  clear hn hm hv hu hL hM
  go_enter Try.func12, Try.ntmps12
  go_upto_region 3 with fail
  try rw [hB]
  have HB := hide hB
  clear hB
  go_loopw [12] (fun v12 wr => ∃ (k : Nat) (C : Array Value) (f : Nat → Nat → Int), v12 = .int .i64 k ∧ k ≤ n ∧ Hid (Sw w0 wr C f) ∧ Hid (∀ s g, s < k → g < m → f s g = sg L M s g)) (fun v12 _ => n - (intOf v12).toNat)
  case atStart =>
    obtain ⟨C, f, h⟩ := H0.out
    exact ⟨0, C, f, rfl, Nat.zero_le _, hide h, hide (fun s g hs => by omega)⟩
  case round =>
    obtain ⟨k, C, f, rfl, hk, HS, HF⟩ := hrel
    clear H0
    by_cases hlt : k < n
    · obtain ⟨⟨x1, y1⟩, hp⟩ : ∃ p, L[k]? = some p := ⟨_, List.getElem?_eq_getElem (by rw [Hn.out]; exact hlt)⟩
      obtain ⟨b1, off1, rfl, c0, c1⟩ := sp_at (HV.out.keep HS.out.bel) k _ hp
      have HI1 : Hid (In (x1, y1)) := hide (HL.out.2 _ (List.mem_of_getElem? hp))
      have Hp := hide hp
      have j0 : (0 : Int) ≤ (k : Int) := by omega
      have j1 : (k : Int) < (n : Int) := by omega
      have j2 : (k : Int) < 6 := by omega
      obtain ⟨g7, hg7⟩ : ∃ g7, wr.heap.size = g7 := ⟨_, rfl⟩
      have H7 : Hid ((wr.alloc (.cells #[.int .i64 x1, .int .i64 y1] 23)).heap[g7]? = some (.cells #[.int .i64 x1, .int .i64 y1] 23)) := hide (by rw [← hg7]; exact heap_new _ _)
      have HS1 := hide (HS.out.keep ((Below.refl _ _).alloc (Nat.le_refl _) (.cells #[.int .i64 x1, .int .i64 y1] 23)))
      have H7B : Hid (B + 1 < g7) := hide (by rw [← hg7, ← HB.out]; exact heap_lt HS.out.t)
      clear hp
      go_upto_region 6 with fail
      try rw [hg7]
      clear hg7 c0 c1
      generalize wr.alloc (.cells #[.int .i64 x1, .int .i64 y1] 23) = w1 at *
      obtain ⟨wA, rfl⟩ : ∃ W, W = wr := ⟨_, rfl⟩
      go_loopw [19] (fun v19 wr => ∃ (j : Nat) (C : Array Value) (f : Nat → Nat → Int), v19 = .int .i64 j ∧ j ≤ m ∧ Hid (Sw w0 wr C f) ∧ Hid (∀ s g, s < k → g < m → f s g = sg L M s g) ∧ Hid (∀ g, g < j → f k g = sg L M k g) ∧ Hid (wr.heap[g7]? = some (.cells #[.int .i64 x1, .int .i64 y1] 23))) (fun v19 _ => m - (intOf v19).toNat)
      case atStart => exact ⟨0, C, f, rfl, Nat.zero_le _, HS1, HF, hide (fun g hg => by omega), H7⟩
      case round =>
        clear HS HS1 HF H7
        obtain ⟨j, C, f, rfl, hj, HS, HF, HG, H7⟩ := hrel
        by_cases hlj : j < m
        · obtain ⟨⟨x2, y2⟩, hq⟩ : ∃ p, M[j]? = some p := ⟨_, List.getElem?_eq_getElem (by rw [Hm.out]; exact hlj)⟩
          obtain ⟨b2, off2, rfl, c0, c1⟩ := sp_at (HU.out.keep HS.out.bel) j _ hq
          have HI2 : Hid (In (x2, y2)) := hide (HM.out.2 _ (List.mem_of_getElem? hq))
          have l0 : (0 : Int) ≤ (j : Int) := by omega
          have l1 : (j : Int) < (m : Int) := by omega
          have l2 : (j : Int) < 6 := by omega
          have Hsg : Hid (sg L M k j = sgs (x1, y1) (x2, y2)) := hide (sg_at Hp.out hq)
          obtain ⟨g9, hg9⟩ : ∃ g9, wr.heap.size = g9 := ⟨_, rfl⟩
          have H9B : Hid (B + 1 < g9) := hide (by rw [← hg9, ← HB.out]; exact heap_lt HS.out.t)
          have HS1 := hide (HS.out.keep ((Below.refl _ _).alloc (Nat.le_refl _) (.cells #[.int .i64 x2, .int .i64 y2] 23)))
          have HX : Hid (Bx2 g7 g9 x1 y1 x2 y2 (wr.alloc (.cells #[.int .i64 x2, .int .i64 y2] 23))) := hide (by
            have e7 : (wr.alloc (.cells #[.int .i64 x2, .int .i64 y2] 23)).heap[g7]? = some (.cells #[.int .i64 x1, .int .i64 y1] 23) := by
              rw [((Below.refl wr.heap.size wr).alloc (Nat.le_refl _) (.cells #[.int .i64 x2, .int .i64 y2] 23)).block _ (heap_lt H7.out)]; exact H7.out
            have e9 : (wr.alloc (.cells #[.int .i64 x2, .int .i64 y2] 23)).heap[g9]? = some (.cells #[.int .i64 x2, .int .i64 y2] 23) := by rw [← hg9]; exact heap_new _ _
            exact ⟨(cells_at e7 0).1, (cells_at e7 1).1, (cells_at e9 0).1, (cells_at e9 1).1⟩)
          have H71 : Hid ((wr.alloc (.cells #[.int .i64 x2, .int .i64 y2] 23)).heap[g7]? = some (.cells #[.int .i64 x1, .int .i64 y1] 23)) := hide (by rw [((Below.refl wr.heap.size wr).alloc (Nat.le_refl _) (.cells #[.int .i64 x2, .int .i64 y2] 23)).block _ (heap_lt H7.out)]; exact H7.out)
          clear hq
          go_upto_region 8 with fail
          try rw [hg9]
          clear hg9 c0 c1
          generalize wr.alloc (.cells #[.int .i64 x2, .int .i64 y2] 23) = w2 at *
          obtain ⟨s1, s2⟩ := HI1.out.sm
          obtain ⟨s3, s4⟩ := HI2.out.sm
          have K1 := hide (fun W => drive_any 0 0 x1 y1 W Sm.zero Sm.zero s1 s2)
          have K2 := hide (fun W => drive_any 0 0 x2 y2 W Sm.zero Sm.zero s3 s4)
          have K3 := hide (fun W => drive_any x1 y1 x2 y2 W s1 s2 s3 s4)
          obtain ⟨d10, d11⟩ := dr_bd In.zero HI1.out
          obtain ⟨d20, d21⟩ := dr_bd In.zero HI2.out
          obtain ⟨d30, d31⟩ := dr_bd HI1.out HI2.out
          unfold sgs at Hsg
          generalize dr (0, 0) (x1, y1) = d1 at *
          generalize dr (0, 0) (x2, y2) = d2 at *
          generalize dr (x1, y1) (x2, y2) = d3 at *
          obtain ⟨d12, e12⟩ : ∃ x, IntKind.i64.wrap (d1 + d2) = x ∧ x = d1 + d2 := ⟨_, rfl, by rw [IntKind.wrap_i64]; omega⟩
          obtain ⟨z, ez⟩ : ∃ x, IntKind.i64.wrap (d12 - d3) = x ∧ x = d12 - d3 := ⟨_, rfl, by rw [IntKind.wrap_i64, e12.2]; omega⟩
          have Hz : Hid (sg L M k j = z) := hide (by rw [Hsg.out, ez.2, e12.2])
          obtain ⟨e12, -⟩ := e12
          obtain ⟨ez, -⟩ := ez
          clear s1 s2 s3 s4 Hsg d10 d11 d20 d21 d30 d31
          have SI : Hid (∀ W W', Bx2 g7 g9 x1 y1 x2 y2 W → Below W.heap.size W W' → Bx2 g7 g9 x1 y1 x2 y2 W') := hide (fun W W' h hb => h.keep hb)
          have SP : Hid (∀ W, Bx2 g7 g9 x1 y1 x2 y2 W → Bx2 g7 g9 x1 y1 x2 y2 (W.setCell ⟨B + 1, k * 6 + j, none⟩ (.int .i64 z))) := hide (fun W h => h.put (by have := H7B.out; omega) (by have := H9B.out; omega))
          have SD : Hid (∀ W, Bx2 g7 g9 x1 y1 x2 y2 W → W.cell? ⟨g7, 0, none⟩ = some (.int .i64 x1) ∧ W.cell? ⟨g7, 1, none⟩ = some (.int .i64 y1) ∧ W.cell? ⟨g9, 0, none⟩ = some (.int .i64 x2) ∧ W.cell? ⟨g9, 1, none⟩ = some (.int .i64 y2)) := hide (fun W h => h)
          obtain ⟨S0, hS0⟩ : ∃ S : World → Prop, S = Bx2 g7 g9 x1 y1 x2 y2 := ⟨_, rfl⟩
          rw [← hS0] at SI SP SD HX
          clear hS0
          have hS := SI.out w2 w2.drew HX.out (Below.refl _ _).drew
          have HT := hide (HS1.out.keep (Below.refl w2.heap.size w2).drew)
          have H7 : Hid (w2.drew.heap[g7]? = some (.cells #[.int .i64 x1, .int .i64 y1] 23)) := hide H71.out
          refine wp_region_held_drew (S := S0) (by kernel_rfl) hS (fun _ => ?_)
          refine wpAnyH_take (i := 0) (v := .int .i64 k) rfl (by kernel_rfl) (by kernel_rfl) (by kernel_rfl) (fun _ _ _ h => h) (Or.inl ⟨by rfl, fun W' hW => by go_simp⟩) hS ?_
          refine wpAnyH_take (i := 1) (v := .int .i64 j) rfl (by kernel_rfl) (by kernel_rfl) (by kernel_rfl) (fun _ _ _ h => h) (Or.inl ⟨by rfl, fun W' hW => by go_simp⟩) hS ?_
          refine wpAnyH_take (i := 2) (v := .agg #[.int .i64 0, .int .i64 0]) rfl (by kernel_rfl) (by kernel_rfl) (by kernel_rfl) (fun _ _ _ h => h) (Or.inl ⟨by rfl, fun W' hW => by go_simp⟩) hS ?_
          refine wpAnyH_take (i := 3) (v := .agg #[.int .i64 x1, .int .i64 y1]) rfl (by kernel_rfl) (by kernel_rfl) (by kernel_rfl) (fun _ _ _ h => h) (Or.inl ⟨by rfl, fun W' hW => by have z0 := SD.out W' hW; go_simp⟩) hS ?_
          refine wpAnyH_take (i := 5) (v := .agg #[.int .i64 0, .int .i64 0]) rfl (by kernel_rfl) (by kernel_rfl) (by kernel_rfl) (fun _ _ _ h => h) (Or.inl ⟨by rfl, fun W' hW => by go_simp⟩) hS ?_
          refine wpAnyH_take (i := 6) (v := .agg #[.int .i64 x2, .int .i64 y2]) rfl (by kernel_rfl) (by kernel_rfl) (by kernel_rfl) (fun _ _ _ h => h) (Or.inl ⟨by rfl, fun W' hW => by have z0 := SD.out W' hW; go_simp⟩) hS ?_
          refine wpAnyH_take (i := 9) (v := .agg #[.int .i64 x1, .int .i64 y1]) rfl (by kernel_rfl) (by kernel_rfl) (by kernel_rfl) (fun _ _ _ h => h) (Or.inl ⟨by rfl, fun W' hW => by have z0 := SD.out W' hW; go_simp⟩) hS ?_
          refine wpAnyH_take (i := 10) (v := .agg #[.int .i64 x2, .int .i64 y2]) rfl (by kernel_rfl) (by kernel_rfl) (by kernel_rfl) (fun _ _ _ h => h) (Or.inl ⟨by rfl, fun W' hW => by have z0 := SD.out W' hW; go_simp⟩) hS ?_
          refine wpAnyH_take (i := 13) (v := .pointer (some ⟨B + 1, k * 6, none⟩)) rfl (by kernel_rfl) (by kernel_rfl) (by kernel_rfl) (fun _ _ _ h => h) (Or.inl ⟨by rfl, fun W' hW => by go_simp⟩) hS ?_
          refine wpAnyH_ready (rs := [4]) (by kernel_rfl) (by simp) ?_
          refine AllReadyH.cons rfl (fun K hK => ?_) AllReadyH.nil
          go_simp
          go_at_call 6
          refine (K1.out _).mono ?_
          rintro e W4 ⟨rfl, hb⟩
          have hSW4 := SI.out _ _ hS hb
          have HTW4 := hide (HT.out.keep hb)
          have H7W4 : Hid (W4.heap[g7]? = some (.cells #[.int .i64 x1, .int .i64 y1] 23)) := hide (by rw [hb.block _ (heap_lt H7.out)]; exact H7.out)
          clear hb
          go_simp
          refine hK.out _ _ hSW4 (fun _ => ?_)
          clear hK K
          refine wpAnyH_ready (rs := [7]) (by kernel_rfl) (by simp) ?_
          refine AllReadyH.cons rfl (fun K hK => ?_) AllReadyH.nil
          go_simp
          go_at_call 6
          refine (K2.out _).mono ?_
          rintro e W7 ⟨rfl, hb⟩
          have hSW7 := SI.out _ _ hSW4 hb
          have HTW7 := hide (HTW4.out.keep hb)
          have H7W7 : Hid (W7.heap[g7]? = some (.cells #[.int .i64 x1, .int .i64 y1] 23)) := hide (by rw [hb.block _ (heap_lt H7W4.out)]; exact H7W4.out)
          clear hb
          go_simp
          refine hK.out _ _ hSW7 (fun _ => ?_)
          clear hK K
          refine wpAnyH_take (i := 8) (v := .int .i64 d12) rfl (by kernel_rfl) (by kernel_rfl) (by kernel_rfl) (fun _ _ _ h => h) (Or.inl ⟨by rfl, fun W' hW => by go_simp⟩) hSW7 ?_
          refine wpAnyH_ready (rs := [11]) (by kernel_rfl) (by simp) ?_
          refine AllReadyH.cons rfl (fun K hK => ?_) AllReadyH.nil
          go_simp
          go_at_call 6
          refine (K3.out _).mono ?_
          rintro e W8 ⟨rfl, hb⟩
          have hSW8 := SI.out _ _ hSW7 hb
          have HTW8 := hide (HTW7.out.keep hb)
          have H7W8 : Hid (W8.heap[g7]? = some (.cells #[.int .i64 x1, .int .i64 y1] 23)) := hide (by rw [hb.block _ (heap_lt H7W7.out)]; exact H7W7.out)
          clear hb
          go_simp
          refine hK.out _ _ hSW8 (fun _ => ?_)
          clear hK K
          refine wpAnyH_ready (rs := [12]) (by kernel_rfl) (by simp) ?_
          refine AllReadyH.cons rfl (fun K hK => ?_) AllReadyH.nil
          go_simp
          refine hK.out _ _ hSW8 (fun _ => ?_)
          clear hK K
          refine wpAnyH_ready (rs := [14]) (by kernel_rfl) (by simp) ?_
          refine AllReadyH.cons rfl (fun K hK => ?_) AllReadyH.nil
          go_simp
          refine hK.out _ _ hSW8 (fun _ => ?_)
          clear hK K
          refine wpAnyH_ready (rs := [15]) (by kernel_rfl) (by simp) ?_
          refine AllReadyH.cons rfl (fun K hK => ?_) AllReadyH.nil
          obtain ⟨q0, q1⟩ := HTW8.out.tb.cell HTW8.out.t (i := k) (j := j) (by omega) (by omega)
          rw [HB.out] at q0 q1
          go_simp
          clear q0 q1
          refine hK.out _ _ (SP.out _ hSW8) (fun _ => ?_)
          clear hK K
          refine wpAnyH_done (by kernel_rfl) ?_ _
          have HSn := hide (HTW8.out.set (i := k) (j := j) (by omega) (by omega) z)
          rw [HB.out] at HSn
          have H7n : Hid ((W8.setCell ⟨B + 1, k * 6 + j, none⟩ (.int .i64 z)).heap[g7]? = some (.cells #[.int .i64 x1, .int .i64 y1] 23)) := hide (by rw [Below.heap_setCell _ _ _ _ (by have := H7B.out; simp; omega)]; exact H7W8.out)
          have HFn : Hid (∀ s g, s < k → g < m → upd f k j z s g = sg L M s g) := hide (fun s g hs hg => by unfold upd; rw [if_neg (by omega)]; exact HF.out s g hs hg)
          have HGn : Hid (∀ g, g < j + 1 → upd f k j z k g = sg L M k g) := hide (fun g hg => by
            unfold upd
            by_cases e : g = j
            · subst e; rw [if_pos ⟨rfl, rfl⟩]; exact Hz.out.symm
            · rw [if_neg (fun h => e h.2)]; exact HG.out g (by omega))
          generalize W8.setCell ⟨B + 1, k * 6 + j, none⟩ (.int .i64 z) = w5 at *
          go_wp2_with fail
          go_roundw
          case rel => exact ⟨j + 1, _, _, by go_num, by omega, HSn, HFn, HGn, H7n⟩
          case measure => simp [intOf]; omega
        · obtain rfl : j = m := by omega
          have l1 : ¬ (j : Int) < (j : Int) := by omega
          have HFn : Hid (∀ s g, s < k + 1 → g < j → f s g = sg L M s g) := hide (fun s g hs hg => by
            rcases Nat.lt_or_ge s k with h | h
            · exact HF.out s g h hg
            · obtain rfl : s = k := by omega
              exact HG.out g hg)
          go_wp2_with fail
          go_roundw
          case rel => exact ⟨k + 1, _, _, by go_num, by omega, HS, HFn⟩
          case measure => simp [intOf]; omega
    · obtain rfl : k = n := by omega
      have j1 : ¬ (k : Int) < (k : Int) := by omega
      obtain ⟨Z, hZ, hZs⟩ := HS.out.r
      have hT := HS.out.t
      rw [HB.out] at hZ hT
      have hi : (Try.prog.info? 39).map (·.size) = some C.size := by rw [HS.out.tb.sz]; kernel_rfl
      have ho : Z.size = C.size := by rw [HS.out.tb.sz, hZs]
      have h1 := HS.out.tb.one
      have Hr : Hid (∀ W : World, W = wr.setRow B C → W.heap[B]? = some (.cells C 39) ∧ Below w0.heap.size w0 W) := hide (fun W e => by
        subst e
        refine ⟨setRow_heap wr B Z C 39 _ hZ, ?_⟩
        exact below_row HS.out.bel (by rw [HB.out]; exact Nat.le_refl _))
      have HT := hide hT
      have HZ := hide hZ
      have Hi := hide hi
      have Ho := hide ho
      have H1 := hide h1
      clear hT hZ hi ho h1 hZs
      go_wp2_with (first
        | (refine wpList_load_row rfl 39 _ rfl (B + 1) rfl 39 C _ _ HT.out Try.underlying39 rfl Hi.out ?_)
        | (refine wpList_store_rowTo rfl 39 _ _ rfl rfl B C rfl rfl 39 Z HZ.out Hi.out Ho.out H1.out ?_))
      obtain ⟨r1, r2⟩ := Hr.out _ rfl
      refine bodyPost_ret (v := .agg C) ?_ rfl ⟨C, f, rfl, HS.out.tb, HF.out, r2⟩
      have hl := run_loadVar_row (P := Try.prog) (wr.setRow B C) B 39 39 C (0, 0) _ r1 Try.underlying39 rfl Hi.out
      generalize wr.setRow B C = w9 at *
      exact results_cell1 rfl _ _ rfl hl
end Go.Proofs.Ytochllbnlnammab
