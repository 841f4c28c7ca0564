/- What is saved at most, from each store on, by each set of retrievals: the table. -/
import Derived.Test.YtochllbnlnammabPrc
import Derived.Deep.WholeRow
namespace Go.Proofs.Ytochllbnlnammab
open Go.RowKit
set_option linter.unusedVariables false

theorem zero67 : (Try.prog.info? 43).map (fun i => (i.zero, i.size)) = some (some (.agg (Array.replicate (7 * 64) (.int .i64 0))), 448) := by kernel_rfl
theorem bit_test : ∀ l < 64, ∀ g < 6, bits .and .i64 (((l : Nat) : Int) / 2 ^ (g : Nat)) 1 = if l.testBit g then 1 else 0 := by decide +kernel
theorem bit_off : ∀ l < 64, ∀ g < 6, bits .andNot .i64 ((l : Nat) : Int) (2 ^ (g : Nat)) = if l.testBit g then ((clr l g : Nat) : Int) else (l : Int) := by decide +kernel
theorem two_pow_sm {m : Nat} (h : m ≤ 6) : 2 ^ m ≤ 64 ∧ 1 ≤ 2 ^ m := ⟨Nat.pow_le_pow_right (by omega) h, Nat.one_le_two_pow⟩

/-- the table's rows of the last r stores are whole, and that of the next one below left -/
def Ti (F : Nat → Nat → Int) (m n r left : Nat) (T : Nat → Nat → Int) : Prop := (∀ q l, q ≤ r → l < 2 ^ m → T (n - q) l = tp F m n q l) ∧ ∀ l, l < left → T (n - (r + 1)) l = tp F m n (r + 1) l
theorem Ti.put {F : Nat → Nat → Int} {m n r left : Nat} {T : Nat → Nat → Int} (h : Ti F m n r left T) (hr : r < n) (z : Int) : Ti F m n r left (upd T (n - (r + 1)) left z) := by
  refine ⟨fun q l hq hl => ?_, fun l hl => ?_⟩
  · unfold upd; rw [if_neg (by omega)]; exact h.1 q l hq hl
  · unfold upd; rw [if_neg (by omega)]; exact h.2 l hl
theorem Ti.more {F : Nat → Nat → Int} {m n r left : Nat} {T : Nat → Nat → Int} (h : Ti F m n r left T) (ht : T (n - (r + 1)) left = mxg (F (n - (r + 1))) (tp F m n r) left m) : Ti F m n r (left + 1) T :=
  ⟨h.1, fun l hl => by
    rcases Nat.lt_or_ge l left with h' | h'
    · exact h.2 l h'
    · obtain rfl : l = left := by omega
      exact ht⟩
theorem Ti.next {F : Nat → Nat → Int} {m n r : Nat} {T : Nat → Nat → Int} (h : Ti F m n r (2 ^ m) T) : Ti F m n (r + 1) 0 T :=
  ⟨fun q l hq hl => by
    rcases Nat.lt_or_ge q (r + 1) with h' | h'
    · exact h.1 q l (by omega) hl
    · obtain rfl : q = r + 1 := by omega
      exact h.2 l hl, fun l hl => by omega⟩

/-- the world of mostOf -/
structure Mw (w W : World) (C D : Array Value) (T : Nat → Nat → Int) : Prop where
  bel : Below w.heap.size w W
  c : W.heap[w.heap.size]? = some (.cells C 39)
  r : ∃ Z, W.heap[w.heap.size + 1]? = some (.cells Z 43) ∧ Z.size = 448
  t : W.heap[w.heap.size + 1 + 1]? = some (.cells D 43)
  tb : Tb 7 64 D T
theorem Mw.keep {w W W' : World} {C D : Array Value} {T : Nat → Nat → Int} (h : Mw w W C D T) (hb : Below W.heap.size W W') : Mw w W' C D T := by
  obtain ⟨Z, hZ, hs⟩ := h.r
  exact ⟨h.bel.trans (hb.mono h.bel.size), by rw [hb.block _ (heap_lt h.c)]; exact h.c, ⟨Z, by rw [hb.block _ (heap_lt hZ)]; exact hZ, hs⟩, by rw [hb.block _ (heap_lt h.t)]; exact h.t, h.tb⟩
theorem Mw.set {w W : World} {C D : Array Value} {T : Nat → Nat → Int} (h : Mw w W C D T) {i j : Nat} (hi : i < 7) (hj : j < 64) (z : Int) : Mw w (W.setCell ⟨w.heap.size + 1 + 1, i * 64 + j, none⟩ (.int .i64 z)) C (D.setIfInBounds (i * 64 + j) (.int .i64 z)) (upd T i j z) := by
  obtain ⟨Z, hZ, hs⟩ := h.r
  refine ⟨below_put h.bel (by omega), ?_, ⟨Z, ?_, hs⟩, heap_put h.t _, h.tb.set hi hj z⟩
  · rw [Below.heap_setCell _ _ _ _ (by simp; omega)]; exact h.c
  · rw [Below.heap_setCell _ _ _ _ (by simp)]; exact hZ
theorem heap_new3 (w : World) (o1 o2 o3 : Obj) : (((w.alloc o1).alloc o2).alloc o3).heap[w.heap.size]? = some o1 ∧ (((w.alloc o1).alloc o2).alloc o3).heap[w.heap.size + 1]? = some o2 ∧ (((w.alloc o1).alloc o2).alloc o3).heap[w.heap.size + 1 + 1]? = some o3 := by
  refine ⟨?_, ?_, ?_⟩
  · show (((w.heap.push o1).push o2).push o3)[w.heap.size]? = _
    rw [Array.getElem?_push, if_neg (by simp; omega), Array.getElem?_push, if_neg (by simp)]; simp
  · show (((w.heap.push o1).push o2).push o3)[w.heap.size + 1]? = _
    rw [Array.getElem?_push, if_neg (by simp), Array.getElem?_push, if_pos (by simp)]
  · show (((w.heap.push o1).push o2).push o3)[w.heap.size + 1 + 1]? = _
    rw [Array.getElem?_push, if_pos (by simp)]
theorem mw_new (w : World) (C : Array Value) : Mw w (((w.alloc (.cells C 39)).alloc (.cells (Array.replicate (7 * 64) (.int .i64 0)) 43)).alloc (.cells (Array.replicate (7 * 64) (.int .i64 0)) 43)) C (Array.replicate (7 * 64) (.int .i64 0)) (fun _ _ => 0) := by
  obtain ⟨h1, h2, h3⟩ := heap_new3 w (.cells C 39) (.cells (Array.replicate (7 * 64) (.int .i64 0)) 43) (.cells (Array.replicate (7 * 64) (.int .i64 0)) 43)
  refine ⟨(below_alloc2 w _ _).alloc ?_ _, h1, ⟨_, h2, by simp⟩, h3, Tb.zero 7 64⟩
  exact (below_alloc2 w _ _).size
/-- a cell of another place stays -/
theorem cell_put_off {w : World} {g i j : Nat} {v : Value} (h : i ≠ j) : (w.setCell ⟨g, i, none⟩ v).cell? ⟨g, j, none⟩ = w.cell? ⟨g, j, none⟩ := by
  unfold World.cell?
  simp only [World.setCell, Array.getElem?_modify]
  cases hg : w.heap[g]? with
  | none => simp
  | some o => cases o <;> simp [h]

/-- what mostOf answers -/
def MostP (f : Nat → Nat → Int) (n m : Nat) (w : World) (e : Ending) (w' : World) : Prop := ∃ D T, e = .returned (.agg D) ∧ Tb 7 64 D T ∧ (∀ q l, q ≤ n → l < 2 ^ m → T (n - q) l = tp f m n q l) ∧ Below w.heap.size w w'
/-- cells that are read -/
def Rc (B x y : Nat) (a b : Int) (W : World) : Prop := W.cell? ⟨B, x, none⟩ = some (.int .i64 a) ∧ W.cell? ⟨B + 1 + 1, y, none⟩ = some (.int .i64 b)

set_option maxRecDepth 100000 in
set_option maxHeartbeats 8000000 in
theorem most_any (C : Array Value) (f : Nat → Nat → Int) (n m : Nat) (w : World) (hC : Tb 6 6 C f) (hn : n ≤ 6) (hm : m ≤ 6) (hF : ∀ s g, s < n → g < m → -1000 ≤ f s g ∧ f s g ≤ 2000) :
    Calls Try.prog 13 #[.agg C, .int .i64 n, .int .i64 m] w (MostP f n m w) := by
  obtain ⟨w0, rfl⟩ : ∃ w0, w0 = w := ⟨_, rfl⟩
  have HC := hide hC
  have HF := hide hF
  have i0 : (n : Int) ≤ 6 := by omega
  have i1 : (m : Int) ≤ 6 := by omega
  have hz := (zero_of_info zero67).1
  have H0 := hide (mw_new w0 C)
  have HT0 : Hid (Ti f m n 0 0 (fun _ _ => 0)) := hide ⟨fun q l hq hl => by obtain rfl : q = 0 := by omega
                                                                            rfl, fun l hl => by omega⟩
  generalize Array.replicate (7 * 64) (Value.int .i64 0) = Z at *
  obtain ⟨B, hB⟩ : ∃ B, w0.heap.size = B := ⟨_, rfl⟩
  obtain ⟨N, hN⟩ : ∃ N, 2 ^ m = N := ⟨_, rfl⟩
  obtain ⟨hN1, hN2⟩ := two_pow_sm hm
  rw [hN] at hN1 hN2
  have h2 : wrap64 (2 ^ m) = (N : Int) := by
    have e : ((2 : Int) ^ m) = (N : Int) := by rw [← hN]; simp
    rw [e]; unfold wrap64; omega
  have HN := hide hN
  have Hbd : Hid (∀ r l q, r < n → q ≤ m → 0 ≤ mxg (f (n - (r + 1))) (tp f m n r) l q ∧ mxg (f (n - (r + 1))) (tp f m n r) l q ≤ 12000) := hide (fun r l q hr hq => by
    have := mxg_bd f m n 2000 (by omega) (fun s g hs hg => (hF s g hs hg).2) r l q hr hq
    omega)
  have Hbt : Hid (∀ r l, r ≤ n → 0 ≤ tp f m n r l ∧ tp f m n r l ≤ 12000) := hide (fun r l hr => by
    have := tp_bd f m n 2000 (by omega) (fun s g hs hg => (hF s g hs hg).2) r l hr
    omega)
  clear hC hF hN
  go_enter Try.func13, Try.ntmps13
  go_upto_region 3 with fail
  try rw [hB]
  have HB := hide hB
  clear hB
  go_loopw [8] (fun v8 wr => ∃ (r : Nat) (x : Int) (D : Array Value) (T : Nat → Nat → Int), v8 = .int .i64 x ∧ r ≤ n ∧ Hid (x = (n : Int) - 1 - r) ∧ Hid (Mw w0 wr C D T) ∧ Hid (Ti f m n r 0 T)) (fun v8 _ => (intOf v8 + 1).toNat)
  case atStart => exact ⟨0, _, _, _, rfl, Nat.zero_le _, hide (by simp), H0, HT0⟩
  case round =>
    obtain ⟨r, x, D, T, rfl, hr, HX, HM, HT⟩ := hrel
    clear H0 HT0
    by_cases hrn : r < n
    · obtain ⟨k, hk⟩ : ∃ k, n - (r + 1) = k := ⟨_, rfl⟩
      have hx : x = (k : Int) := by rw [HX.out]; omega
      subst hx
      have Hk := hide hk
      have k6 : k < 6 := by omega
      have j0 : (0 : Int) ≤ (k : Int) := by omega
      have j1 : (k : Int) < 6 := by omega
      have j2 : (k : Int) < 7 := by omega
      clear hk
      go_upto_region 6 with fail
      rw [h2]
      obtain ⟨wA, rfl⟩ : ∃ W, W = wr := ⟨_, rfl⟩
      go_loopw [19] (fun v19 wr => ∃ (l : Nat) (D : Array Value) (T : Nat → Nat → Int), v19 = .int .i64 l ∧ l ≤ N ∧ Hid (Mw w0 wr C D T) ∧ Hid (Ti f m n r l T)) (fun v19 _ => N - (intOf v19).toNat)
      case atStart => exact ⟨0, D, T, rfl, Nat.zero_le _, HM, HT⟩
      case round =>
        clear HM HT
        obtain ⟨l, D, T, rfl, hl, HM, HT⟩ := hrel
        by_cases hlt : l < N
        · have l0 : (0 : Int) ≤ (l : Int) := by omega
          have l1 : (l : Int) < (N : Int) := by omega
          have l2 : (l : Int) < 64 := by omega
          have l64 : l < 64 := by omega
          go_upto_region 8 with fail
          obtain ⟨k1, hk1⟩ : ∃ k1, k1 = k + 1 := ⟨_, rfl⟩
          have e1 : IntKind.i64.wrap ((k : Int) + 1) = (k1 : Int) := by rw [IntKind.wrap_i64]; omega
          have k10 : (0 : Int) ≤ (k1 : Int) := by omega
          have k11 : (k1 : Int) < 7 := by omega
          have k17 : k1 < 7 := by omega
          have Hk1 : Hid (k1 = n - r) := hide (by rw [hk1, ← Hk.out]; omega)
          have hne : k ≠ k1 := by omega
          clear hk1
          obtain ⟨a0, ha0⟩ : ∃ a0, T k1 l = a0 := ⟨_, rfl⟩
          have Ha0 : Hid (a0 = mxg (f k) (tp f m n r) l 0) := hide (by rw [← ha0, Hk1.out]; exact HT.out.1 r l (Nat.le_refl _) (by rw [HN.out]; exact hlt))
          have SI : Hid (∀ W, Mw w0 W C D T → W.cell? ⟨B + 1 + 1, k1 * 64 + l, none⟩ = some (.int .i64 a0)) := hide (fun W h => by
            have := (h.tb.cell h.t k17 l64).1
            rw [HB.out, ha0] at this; exact this)
          have SP : Hid (∀ W : World, W.cell? ⟨B + 1 + 1, k1 * 64 + l, none⟩ = some (.int .i64 a0) → (W.setCell ⟨B + 1 + 1, k * 64 + l, none⟩ (.int .i64 a0)).cell? ⟨B + 1 + 1, k1 * 64 + l, none⟩ = some (.int .i64 a0)) := hide (fun W h => by
            rw [cell_put_off (by omega)]; exact h)
          have SD : Hid (∀ W : World, W.cell? ⟨B + 1 + 1, k1 * 64 + l, none⟩ = some (.int .i64 a0) → W.cell? ⟨B + 1 + 1, k1 * 64 + l, none⟩ = some (.int .i64 a0)) := hide (fun W h => h)
          obtain ⟨S0, hS0⟩ : ∃ S : World → Prop, S = fun W => W.cell? ⟨B + 1 + 1, k1 * 64 + l, none⟩ = some (.int .i64 a0) := ⟨_, rfl⟩
          have SI : Hid (∀ W, Mw w0 W C D T → S0 W) := hide (fun W h => by rw [hS0]; exact SI.out W h)
          have SP : Hid (∀ W, S0 W → S0 (W.setCell ⟨B + 1 + 1, k * 64 + l, none⟩ (.int .i64 a0))) := hide (fun W h => by rw [hS0] at h ⊢; exact SP.out W h)
          have SD : Hid (∀ W, S0 W → W.cell? ⟨B + 1 + 1, k1 * 64 + l, none⟩ = some (.int .i64 a0)) := hide (fun W h => by rw [hS0] at h; exact h)
          clear hS0
          have HMd := hide (HM.out.keep (Below.refl wr.heap.size wr).drew)
          have hS := SI.out _ HMd.out
          have HMa := hide (HM.out.set (i := k) (j := l) (by omega) l64 a0)
          rw [HB.out] at HMa
          have HM8 : Hid (Mw w0 (wr.setCell ⟨B + 1 + 1, k * 64 + l, none⟩ (.int .i64 a0)).drew C (D.setIfInBounds (k * 64 + l) (.int .i64 a0)) (upd T k l a0)) := hide (HMa.out.keep (Below.refl _ _).drew)
          clear HMa
          have HT8 : Hid (Ti f m n r l (upd T k l a0)) := hide (by have := HT.out.put hrn a0; rw [Hk.out] at this; exact this)
          have HE8 : Hid (upd T k l a0 k l = mxg (f k) (tp f m n r) l 0) := hide (by unfold upd; rw [if_pos ⟨rfl, rfl⟩]; exact Ha0.out)
          clear ha0
          refine wp_region_held_drew (S := S0) (by kernel_rfl) hS (fun _ => ?_)
          refine wpAnyH_take (i := 0) (v := .int .i64 k) rfl (by kernel_rfl) (by kernel_rfl) (by kernel_rfl) (fun _ _ _ h => h) (Or.inl ⟨by rfl, fun W' hW => by go_simp⟩) hS ?_
          refine wpAnyH_take (i := 1) (v := .int .i64 l) rfl (by kernel_rfl) (by kernel_rfl) (by kernel_rfl) (fun _ _ _ h => h) (Or.inl ⟨by rfl, fun W' hW => by go_simp⟩) hS ?_
          refine wpAnyH_take (i := 2) (v := .int .i64 k) rfl (by kernel_rfl) (by kernel_rfl) (by kernel_rfl) (fun _ _ _ h => h) (Or.inl ⟨by rfl, fun W' hW => by go_simp⟩) hS ?_
          refine wpAnyH_take (i := 3) (v := .int .i64 k1) rfl (by kernel_rfl) (by kernel_rfl) (by kernel_rfl) (fun _ _ _ h => h) (Or.inl ⟨by rfl, fun W' hW => by go_simp⟩) hS ?_
          refine wpAnyH_take (i := 4) (v := .int .i64 l) rfl (by kernel_rfl) (by kernel_rfl) (by kernel_rfl) (fun _ _ _ h => h) (Or.inl ⟨by rfl, fun W' hW => by go_simp⟩) hS ?_
          refine wpAnyH_take (i := 5) (v := .pointer (some ⟨B + 1 + 1, k1 * 64, none⟩)) rfl (by kernel_rfl) (by kernel_rfl) (by kernel_rfl) (fun _ _ _ h => h) (Or.inl ⟨by rfl, fun W' hW => by go_simp⟩) hS ?_
          refine wpAnyH_take (i := 6) (v := .pointer (some ⟨B + 1 + 1, k1 * 64 + l, none⟩)) rfl (by kernel_rfl) (by kernel_rfl) (by kernel_rfl) (fun _ _ _ h => h) (Or.inl ⟨by rfl, fun W' hW => by go_simp⟩) hS ?_
          refine wpAnyH_take (i := 7) (v := .int .i64 a0) rfl (by kernel_rfl) (by kernel_rfl) (by kernel_rfl) (fun _ _ _ h => h) (Or.inl ⟨by rfl, fun W' hW => by have z0 := SD.out W' hW; go_simp⟩) hS ?_
          refine wpAnyH_take (i := 8) (v := .pointer (some ⟨B + 1 + 1, k * 64, none⟩)) rfl (by kernel_rfl) (by kernel_rfl) (by kernel_rfl) (fun _ _ _ h => h) (Or.inl ⟨by rfl, fun W' hW => by go_simp⟩) hS ?_
          refine wpAnyH_ready (rs := [9]) (by kernel_rfl) (by simp) ?_
          refine AllReadyH.cons rfl (fun K hK => ?_) AllReadyH.nil
          go_simp
          refine hK.out _ _ hS (fun _ => ?_)
          clear hK K
          refine wpAnyH_ready (rs := [10]) (by kernel_rfl) (by simp) ?_
          refine AllReadyH.cons rfl (fun K hK => ?_) AllReadyH.nil
          obtain ⟨q0, q1⟩ := HMd.out.tb.cell HMd.out.t (i := k) (j := l) (by omega) l64
          rw [HB.out] at q0 q1
          go_simp
          clear q0 q1
          refine hK.out _ _ (SP.out _ hS) (fun _ => ?_)
          clear hK K
          refine wpAnyH_done (by kernel_rfl) ?_ _
          clear SI SP SD HMd HM HT Ha0
          generalize (wr.setCell ⟨B + 1 + 1, k * 64 + l, none⟩ (.int .i64 a0)).drew = w8 at *
          obtain ⟨wC, rfl⟩ : ∃ W, W = wr := ⟨_, rfl⟩
          go_upto_region 10 with fail
          go_loopw [33] (fun v33 wr => ∃ (g : Nat) (D : Array Value) (T : Nat → Nat → Int), v33 = .int .i64 g ∧ g ≤ m ∧ Hid (Mw w0 wr C D T) ∧ Hid (Ti f m n r l T) ∧ Hid (T k l = mxg (f k) (tp f m n r) l g)) (fun v33 _ => m - (intOf v33).toNat)
          case atStart => exact ⟨0, _, _, rfl, Nat.zero_le _, HM8, HT8, HE8⟩
          case round =>
            clear HM8 HT8 HE8
            obtain ⟨g, D, T, rfl, hg, HM, HT, HE⟩ := hrel
            by_cases hgm : g < m
            · have g0 : (0 : Int) ≤ (g : Int) := by omega
              have g1 : (g : Int) < (m : Int) := by omega
              have g2 : (g : Int) < 6 := by omega
              have g6 : g < 6 := by omega
              have hbt := bit_test l l64 g g6
              obtain ⟨sh, hsh⟩ : ∃ sh, (l : Int) / 2 ^ g = sh := ⟨_, rfl⟩
              rw [hsh] at hbt
              by_cases hb : l.testBit g = true
              · rw [if_pos hb] at hbt
                have hbo := bit_off l l64 g g6
                rw [if_pos hb] at hbo
                obtain ⟨cl, hcl⟩ : ∃ cl, clr l g = cl := ⟨_, rfl⟩
                rw [hcl] at hbo
                obtain ⟨p, hp⟩ : ∃ p : Int, (2 : Int) ^ g = p := ⟨_, rfl⟩
                have hp2 : p = ((2 ^ g : Nat) : Int) := by rw [← hp]; simp
                have hp3 := (two_pow_sm (Nat.le_of_lt g6)).1
                have e2 : IntKind.i64.wrap ((2 : Int) ^ g) = p := by
                  rw [hp, IntKind.wrap_i64, hp2]
                  generalize (2 : Nat) ^ g = pn at hp3
                  omega
                rw [hp] at hbo
                have hcN : cl < N := by rw [← hcl, ← HN.out]; exact clr_lt (by rw [HN.out]; exact hlt) hgm
                have c0 : (0 : Int) ≤ (cl : Int) := by omega
                have c1 : (cl : Int) < 64 := by omega
                have c64 : cl < 64 := by omega
                obtain ⟨a, ha⟩ : ∃ a, T k l = a := ⟨_, rfl⟩
                obtain ⟨fv, hfv⟩ : ∃ a, f k g = a := ⟨_, rfl⟩
                obtain ⟨t1, ht1⟩ : ∃ a, T k1 cl = a := ⟨_, rfl⟩
                have Hb1 : Hid (mxg (f k) (tp f m n r) l (g + 1) = if fv + t1 > a then fv + t1 else a) := hide (by
                  rw [mxg, if_pos hb, hfv, hcl, ← HE.out, ha, ← ht1, Hk1.out, HT.out.1 r cl (Nat.le_refl _) (by rw [HN.out]; exact hcN)])
                obtain ⟨f0, f1⟩ := HF.out k g (by rw [← Hk.out]; omega) hgm
                rw [hfv] at f0 f1
                have t01 : 0 ≤ t1 ∧ t1 ≤ 12000 := by rw [← ht1, Hk1.out, HT.out.1 r cl (Nat.le_refl _) (by rw [HN.out]; exact hcN)]; exact Hbt.out r cl hr
                obtain ⟨su, hsu⟩ : ∃ su, fv + t1 = su := ⟨_, rfl⟩
                have e3 : IntKind.i64.wrap (fv + t1) = su := by rw [IntKind.wrap_i64]; omega
                obtain ⟨z, hz1⟩ : ∃ z, (if su > a then su else a) = z := ⟨_, rfl⟩
                rw [hsu, hz1] at Hb1
                have hz' : max a su = z := by rw [← hz1, Int.max_def]; split <;> split <;> omega
                clear hz1
                have SI : Hid (∀ W, Mw w0 W C D T → Rc B (k * 6 + g) (k1 * 64 + cl) fv t1 W) := hide (fun W h => by
                  have x1 := (HC.out.cell h.c k6 g6).1
                  have x2 := (h.tb.cell h.t k17 c64).1
                  rw [HB.out, hfv] at x1
                  rw [HB.out, ht1] at x2
                  exact ⟨x1, x2⟩)
                have SP : Hid (∀ W, Rc B (k * 6 + g) (k1 * 64 + cl) fv t1 W → Rc B (k * 6 + g) (k1 * 64 + cl) fv t1 (W.setCell ⟨B + 1 + 1, k * 64 + l, none⟩ (.int .i64 z))) := hide (fun W h =>
                  ⟨by rw [cell_put_other (by show B + 1 + 1 ≠ B; omega)]; exact h.1, by rw [cell_put_off (by omega)]; exact h.2⟩)
                have SD : Hid (∀ W, Rc B (k * 6 + g) (k1 * 64 + cl) fv t1 W → W.cell? ⟨B, k * 6 + g, none⟩ = some (.int .i64 fv) ∧ W.cell? ⟨B + 1 + 1, k1 * 64 + cl, none⟩ = some (.int .i64 t1)) := hide (fun W h => h)
                obtain ⟨S0, hS0⟩ : ∃ S : World → Prop, S = Rc B (k * 6 + g) (k1 * 64 + cl) fv t1 := ⟨_, rfl⟩
                rw [← hS0] at SI SP SD
                have HMd := hide (HM.out.keep (Below.refl wr.heap.size wr).drew)
                have hS := SI.out _ HMd.out
                have HMa := hide (HM.out.set (i := k) (j := l) (by omega) l64 z)
                rw [HB.out] at HMa
                have HMn : Hid (Mw w0 (wr.setCell ⟨B + 1 + 1, k * 64 + l, none⟩ (.int .i64 z)).drew C (D.setIfInBounds (k * 64 + l) (.int .i64 z)) (upd T k l z)) := hide (HMa.out.keep (Below.refl _ _).drew)
                clear HMa
                have HTn : Hid (Ti f m n r l (upd T k l z)) := hide (by have := HT.out.put hrn z; rw [Hk.out] at this; exact this)
                have HEn : Hid (upd T k l z k l = mxg (f k) (tp f m n r) l (g + 1)) := hide (by unfold upd; rw [if_pos ⟨rfl, rfl⟩]; exact Hb1.out.symm)
                have HQ : Hid (wr.drew.cell? ⟨B + 1 + 1, k * 64 + l, none⟩ = some (.int .i64 a) ∧ wr.drew.frozen? ⟨B + 1 + 1, k * 64 + l, none⟩ = false) := hide (by
                  obtain ⟨q0, q1⟩ := HMd.out.tb.cell HMd.out.t (i := k) (j := l) (by omega) l64
                  rw [HB.out, ha] at q0
                  rw [HB.out] at q1
                  exact ⟨q0, q1⟩)
                clear hS0 ha hfv ht1 hcl hp hp2 hp3 hb hsu f0 f1 t01 hcN Hb1 HE HM HT
                go_upto_region 13 with fail
                refine wp_region_held_drew (S := S0) (by kernel_rfl) hS (fun _ => ?_)
                refine wpAnyH_take (i := 0) (v := .int .i64 k) rfl (by kernel_rfl) (by kernel_rfl) (by kernel_rfl) (fun _ _ _ h => h) (Or.inl ⟨by rfl, fun W' hW => by go_simp⟩) hS ?_
                refine wpAnyH_take (i := 1) (v := .int .i64 l) rfl (by kernel_rfl) (by kernel_rfl) (by kernel_rfl) (fun _ _ _ h => h) (Or.inl ⟨by rfl, fun W' hW => by go_simp⟩) hS ?_
                refine wpAnyH_take (i := 2) (v := .int .i64 k) rfl (by kernel_rfl) (by kernel_rfl) (by kernel_rfl) (fun _ _ _ h => h) (Or.inl ⟨by rfl, fun W' hW => by go_simp⟩) hS ?_
                refine wpAnyH_take (i := 3) (v := .int .i64 l) rfl (by kernel_rfl) (by kernel_rfl) (by kernel_rfl) (fun _ _ _ h => h) (Or.inl ⟨by rfl, fun W' hW => by go_simp⟩) hS ?_
                refine wpAnyH_take (i := 4) (v := .pointer (some ⟨B + 1 + 1, k * 64, none⟩)) rfl (by kernel_rfl) (by kernel_rfl) (by kernel_rfl) (fun _ _ _ h => h) (Or.inl ⟨by rfl, fun W' hW => by go_simp⟩) hS ?_
                refine wpAnyH_take (i := 5) (v := .pointer (some ⟨B + 1 + 1, k * 64 + l, none⟩)) rfl (by kernel_rfl) (by kernel_rfl) (by kernel_rfl) (fun _ _ _ h => h) (Or.inl ⟨by rfl, fun W' hW => by go_simp⟩) hS ?_
                refine wpAnyH_take (i := 7) (v := .int .i64 k) rfl (by kernel_rfl) (by kernel_rfl) (by kernel_rfl) (fun _ _ _ h => h) (Or.inl ⟨by rfl, fun W' hW => by go_simp⟩) hS ?_
                refine wpAnyH_take (i := 8) (v := .int .i64 g) rfl (by kernel_rfl) (by kernel_rfl) (by kernel_rfl) (fun _ _ _ h => h) (Or.inl ⟨by rfl, fun W' hW => by go_simp⟩) hS ?_
                refine wpAnyH_take (i := 9) (v := .pointer (some ⟨B, k * 6, none⟩)) rfl (by kernel_rfl) (by kernel_rfl) (by kernel_rfl) (fun _ _ _ h => h) (Or.inl ⟨by rfl, fun W' hW => by go_simp⟩) hS ?_
                refine wpAnyH_take (i := 10) (v := .pointer (some ⟨B, k * 6 + g, none⟩)) rfl (by kernel_rfl) (by kernel_rfl) (by kernel_rfl) (fun _ _ _ h => h) (Or.inl ⟨by rfl, fun W' hW => by go_simp⟩) hS ?_
                refine wpAnyH_take (i := 11) (v := .int .i64 fv) rfl (by kernel_rfl) (by kernel_rfl) (by kernel_rfl) (fun _ _ _ h => h) (Or.inl ⟨by rfl, fun W' hW => by have z0 := SD.out W' hW; go_simp⟩) hS ?_
                refine wpAnyH_take (i := 12) (v := .int .i64 k) rfl (by kernel_rfl) (by kernel_rfl) (by kernel_rfl) (fun _ _ _ h => h) (Or.inl ⟨by rfl, fun W' hW => by go_simp⟩) hS ?_
                refine wpAnyH_take (i := 13) (v := .int .i64 k1) rfl (by kernel_rfl) (by kernel_rfl) (by kernel_rfl) (fun _ _ _ h => h) (Or.inl ⟨by rfl, fun W' hW => by go_simp⟩) hS ?_
                refine wpAnyH_take (i := 14) (v := .int .i64 l) rfl (by kernel_rfl) (by kernel_rfl) (by kernel_rfl) (fun _ _ _ h => h) (Or.inl ⟨by rfl, fun W' hW => by go_simp⟩) hS ?_
                refine wpAnyH_take (i := 15) (v := .int .i64 g) rfl (by kernel_rfl) (by kernel_rfl) (by kernel_rfl) (fun _ _ _ h => h) (Or.inl ⟨by rfl, fun W' hW => by go_simp⟩) hS ?_
                refine wpAnyH_take (i := 16) (v := .int .i64 p) rfl (by kernel_rfl) (by kernel_rfl) (by kernel_rfl) (fun _ _ _ h => h) (Or.inl ⟨by rfl, fun W' hW => by go_simp⟩) hS ?_
                refine wpAnyH_take (i := 17) (v := .int .i64 cl) rfl (by kernel_rfl) (by kernel_rfl) (by kernel_rfl) (fun _ _ _ h => h) (Or.inl ⟨by rfl, fun W' hW => by go_simp⟩) hS ?_
                refine wpAnyH_take (i := 18) (v := .pointer (some ⟨B + 1 + 1, k1 * 64, none⟩)) rfl (by kernel_rfl) (by kernel_rfl) (by kernel_rfl) (fun _ _ _ h => h) (Or.inl ⟨by rfl, fun W' hW => by go_simp⟩) hS ?_
                refine wpAnyH_take (i := 19) (v := .pointer (some ⟨B + 1 + 1, k1 * 64 + cl, none⟩)) rfl (by kernel_rfl) (by kernel_rfl) (by kernel_rfl) (fun _ _ _ h => h) (Or.inl ⟨by rfl, fun W' hW => by go_simp⟩) hS ?_
                refine wpAnyH_take (i := 20) (v := .int .i64 t1) rfl (by kernel_rfl) (by kernel_rfl) (by kernel_rfl) (fun _ _ _ h => h) (Or.inl ⟨by rfl, fun W' hW => by have z0 := SD.out W' hW; go_simp⟩) hS ?_
                refine wpAnyH_take (i := 21) (v := .int .i64 su) rfl (by kernel_rfl) (by kernel_rfl) (by kernel_rfl) (fun _ _ _ h => h) (Or.inl ⟨by rfl, fun W' hW => by go_simp⟩) hS ?_
                refine wpAnyH_take (i := 23) (v := .pointer (some ⟨B + 1 + 1, k * 64, none⟩)) rfl (by kernel_rfl) (by kernel_rfl) (by kernel_rfl) (fun _ _ _ h => h) (Or.inl ⟨by rfl, fun W' hW => by go_simp⟩) hS ?_
                refine wpAnyH_ready (rs := [6]) (by kernel_rfl) (by simp) ?_
                refine AllReadyH.cons rfl (fun K hK => ?_) AllReadyH.nil
                have q0 := HQ.out.1
                go_simp
                clear q0
                refine hK.out _ _ hS (fun _ => ?_)
                clear hK K
                refine wpAnyH_ready (rs := [22]) (by kernel_rfl) (by simp) ?_
                refine AllReadyH.cons rfl (fun K hK => ?_) AllReadyH.nil
                go_simp
                refine hK.out _ _ hS (fun _ => ?_)
                clear hK K
                refine wpAnyH_ready (rs := [24]) (by kernel_rfl) (by simp) ?_
                refine AllReadyH.cons rfl (fun K hK => ?_) AllReadyH.nil
                go_simp
                refine hK.out _ _ hS (fun _ => ?_)
                clear hK K
                refine wpAnyH_ready (rs := [25]) (by kernel_rfl) (by simp) ?_
                refine AllReadyH.cons rfl (fun K hK => ?_) AllReadyH.nil
                obtain ⟨q0, q1⟩ := HQ.out
                go_simp
                clear q0 q1
                refine hK.out _ _ (SP.out _ hS) (fun _ => ?_)
                clear hK K
                refine wpAnyH_done (by kernel_rfl) ?_ _
                clear SI SP SD HMd HQ
                generalize (wr.setCell ⟨B + 1 + 1, k * 64 + l, none⟩ (.int .i64 z)).drew = w9 at *
                go_wp2_with fail
                go_roundw
                case rel => exact ⟨g + 1, _, _, by go_num, by omega, HMn, HTn, HEn⟩
                case measure => simp [intOf] <;> omega
              · rw [if_neg hb] at hbt
                have HEn : Hid (T k l = mxg (f k) (tp f m n r) l (g + 1)) := hide (by rw [mxg, if_neg hb]; exact HE.out)
                clear hb
                go_wp2_with fail
                go_roundw
                case rel => exact ⟨g + 1, _, _, by go_num, by omega, HM, HT, HEn⟩
                case measure => simp [intOf] <;> omega
            · obtain rfl : g = m := by omega
              have g1 : ¬ (g : Int) < (g : Int) := by omega
              have HTn : Hid (Ti f g n r (l + 1) T) := hide (HT.out.more (by rw [Hk.out]; exact HE.out))
              go_wp2_with fail
              go_roundw
              case rel => exact ⟨l + 1, _, _, by go_num, by omega, HM, HTn⟩
              case measure => simp [intOf] <;> omega
        · obtain rfl : l = N := by omega
          have l1 : ¬ (l : Int) < (l : Int) := by omega
          have HTn : Hid (Ti f m n (r + 1) 0 T) := hide (Ti.next (by rw [HN.out]; exact HT.out))
          go_wp2_with fail
          go_roundw
          case rel => exact ⟨r + 1, _, _, _, rfl, by omega, hide (by have := Hk.out; omega), HM, HTn⟩
          case measure => simp [intOf] <;> omega
    · obtain rfl : r = n := by omega
      have hx : x = -1 := by rw [HX.out]; omega
      subst hx
      obtain ⟨Z', hZ, hZs⟩ := HM.out.r
      have hT := HM.out.t
      rw [HB.out] at hZ hT
      have hi : (Try.prog.info? 43).map (·.size) = some D.size := by rw [HM.out.tb.sz]; exact (zero_of_info zero67).2
      have ho : Z'.size = D.size := by rw [HM.out.tb.sz, hZs]
      have h1 := HM.out.tb.one
      have Hr : Hid (∀ W : World, W = wr.setRow (B + 1) D → W.heap[B + 1]? = some (.cells D 43) ∧ Below w0.heap.size w0 W) := hide (fun W e => by
        subst e
        exact ⟨setRow_heap wr (B + 1) Z' D 43 _ hZ, below_row HM.out.bel (by rw [HB.out]; omega)⟩)
      have HTT := hide hT
      have HZ := hide hZ
      have Hi := hide hi
      have Ho := hide ho
      have H1 := hide h1
      clear hT hZ hi ho h1 hZs
      go_wp2_with (first
        | (refine wpList_load_row rfl 43 _ rfl (B + 1 + 1) rfl 43 D _ _ HTT.out Try.underlying43 rfl Hi.out ?_)
        | (refine wpList_store_rowTo rfl 43 _ _ rfl rfl (B + 1) D rfl rfl 43 Z' HZ.out Hi.out Ho.out H1.out ?_))
      obtain ⟨r1, r2⟩ := Hr.out _ rfl
      refine bodyPost_ret (v := .agg D) ?_ rfl ⟨D, T, rfl, HM.out.tb, HT.out.1, r2⟩
      have hl := run_loadVar_row (P := Try.prog) (wr.setRow (B + 1) D) (B + 1) 43 43 D (0, 0) _ r1 Try.underlying43 rfl Hi.out
      generalize wr.setRow (B + 1) D = w9 at *
      exact results_cell1 rfl _ _ rfl hl
end Go.Proofs.Ytochllbnlnammab
