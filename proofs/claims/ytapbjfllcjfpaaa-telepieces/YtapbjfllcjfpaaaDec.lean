/- The telegram whose bytes these are: the program's Decode. -/
import Derived.Test.YtapbjfllcjfpaaaEnc
import Derived.Deep.CutRange
import Derived.Deep.DeepCutAuto
import Derived.Deep.RegionHeld3
namespace Go.Proofs.Ytapbjfllcjfpaaa
open Go.ChangeShapes Go.WideShapes Go.ChangeAt Go.RowKit

def tz : Tl := ⟨0, 0, 0, 0, 0⟩

/-- the fields that lie in twelve bytes -/
def dcd (l : List Int) : Tl := ⟨l[1]?.getD 0, wd l 2, wd l 4, wd l 6, wd l 8⟩
def dcode (l : List Int) : Int :=
  if l.length = 12 then (if l[0]?.getD 0 = 165 then (if uv (sm 0xFFFF#16 (l.take 10)) = wd l 10 then chk (dcd l) else 22) else 21) else 20
def dtele (l : List Int) : Tl := if dcode l = 0 then dcd l else tz


/-- the capacity is not below the length -/
def Cp (v : Value) : Prop := ∃ a n c, v = .slice a n c ∧ n ≤ c

theorem bs_take {w : World} {a : Option Addr} {len cap : Nat} {l : List Int} (h : Bs w (.slice a len cap) l) (k : Nat) (hk : k ≤ l.length) : Bs w (.slice a k cap) (l.take k) := by
  rcases h with ⟨h, rfl⟩ | ⟨x, c, h, hc⟩
  · simp only [Value.slice.injEq] at h
    obtain ⟨rfl, rfl, rfl⟩ := h
    have : k = 0 := by simpa using hk
    subst this
    exact .inl ⟨rfl, rfl⟩
  · simp only [Value.slice.injEq] at h
    have e : (l.take k).length = k := by simp; omega
    refine .inr ⟨x, c, by rw [h.1, e, h.2.2], fun i hi => ?_⟩
    rw [e] at hi
    rw [List.getElem?_take_of_lt hi]
    exact hc i (by omega)
theorem in_take {l : List Int} (h : InB l) (k : Nat) : InB (l.take k) := fun z hz => h z (List.mem_of_mem_take hz)

theorem alloc_cell {w : World} {p : Addr} {u : Value} (h : w.cell? p = some u) (o : Obj) : (w.alloc o).cell? p = some u := by
  rw [((Below.refl w.heap.size w).alloc (Nat.le_refl _) o).cell (Bs.lt h)]; exact h

theorem word_at {w : World} {v : Value} {l : List Int} (hs : Bs w v l) (hr : InB l) (i : Nat) (I : Int) (hI : I = (i : Int)) (hi : i + 1 < l.length) (hi2 : i ≤ 100) :
    Calls Try.prog 16 #[v, .int .i64 I] w fun e w' => e = .returned (.int .u16 (wd l i)) ∧ ∃ n, w' = w.drewN n := by
  rw [hI]; exact word_any hs hr i hi hi2

theorem below_put5 {B : Nat} {a w : World} (h : Below B a w) (g : Nat) (hg : B ≤ g) (u0 u1 u2 u3 u4 : Value) :
    Below B a (((((w.setCell ⟨g, 0, none⟩ u0).setCell ⟨g, 1, none⟩ u1).setCell ⟨g, 2, none⟩ u2).setCell ⟨g, 3, none⟩ u3).setCell ⟨g, 4, none⟩ u4) :=
  ((((h.setCell hg _).setCell hg _).setCell hg _).setCell hg _).setCell hg _

theorem decode_len {w : World} {v : Value} {l : List Int} (hs : Bs w v l) (h : l.length ≠ 12) :
    Calls Try.prog 11 #[v] w fun e w' => e = .returned (.tuple #[tv (dtele l), .int .i64 (dcode l)]) ∧ Below w.heap.size w w' := by
  have h20 : dcode l = 20 := by simp [dcode, h]
  have hz : dtele l = tz := by simp [dtele, h20]
  rw [h20, hz]
  clear h20 hz
  obtain ⟨a, cap, rfl⟩ := hs.form
  have hne : ((l.length : Int) == 12) = false := by simp; omega
  have hne2 : ¬ ((l.length : Int) = 12) := by omega
  generalize l.length = n at *
  go_enter Try.func11, Try.ntmps11
  go_wp2_with fail
  exact bodyPost_ret (v := .tuple #[tv tz, .int .i64 20]) (by simp [results, Try.results11, go_sem, tv, tz]) rfl ⟨rfl, (Below.refl _ _).alloc (Nat.le_refl _) _⟩

theorem decode_mark {w : World} {v : Value} {l : List Int} (hs : Bs w v l) (h : l.length = 12) (h0 : l[0]?.getD 0 ≠ 165) :
    Calls Try.prog 11 #[v] w fun e w' => e = .returned (.tuple #[tv (dtele l), .int .i64 (dcode l)]) ∧ Below w.heap.size w w' := by
  have h21 : dcode l = 21 := by simp only [dcode, if_pos h, if_neg h0]
  have hz : dtele l = tz := by simp [dtele, h21]
  rw [h21, hz]
  clear h21 hz
  rcases hs with ⟨rfl, rfl⟩ | ⟨x, cap, rfl, hc⟩
  · simp at h
  obtain ⟨b, off, spot⟩ := x
  have hspot : spot = none := by simpa [Addr.add] using World.cell?_spot (hc 0 (by omega))
  subst hspot
  have c0 := hc 0 (by omega)
  rw [add_plain, Nat.add_zero] at c0
  have cA := alloc_cell c0
  clear c0
  clear hc
  rw [h]
  generalize l[0]?.getD 0 = x at *
  go_enter Try.func11, Try.ntmps11
  go_wp2_with fail
  exact bodyPost_ret (v := .tuple #[tv tz, .int .i64 21]) (by simp [results, Try.results11, go_sem, tv, tz]) rfl ⟨rfl, (Below.refl _ _).alloc (Nat.le_refl _) _⟩


set_option maxHeartbeats 2000000 in
theorem decode_sum {w : World} {v : Value} {l : List Int} (hs : Bs w v l) (hcp : Cp v) (hr : InB l) (h : l.length = 12) (h0 : l[0]?.getD 0 = 165) (hne : uv (sm 0xFFFF#16 (l.take 10)) ≠ wd l 10) :
    Calls Try.prog 11 #[v] w fun e w' => e = .returned (.tuple #[tv (dtele l), .int .i64 (dcode l)]) ∧ Below w.heap.size w w' := by
  have h22 : dcode l = 22 := by simp only [dcode, if_pos h, if_pos h0, if_neg hne]
  have hz : dtele l = tz := by simp [dtele, h22]
  rw [h22, hz]
  clear h22 hz
  have hsw : ∀ o, Bs (w.alloc o) v l := fun o => hs.keep ((Below.refl _ _).alloc (Nat.le_refl _) o)
  rcases hs with ⟨rfl, rfl⟩ | ⟨x, cap, rfl, hc⟩
  · simp at h
  obtain ⟨b, off, spot⟩ := x
  have hspot : spot = none := by simpa [Addr.add] using World.cell?_spot (hc 0 (by omega))
  subst hspot
  have c0 := hc 0 (by omega)
  rw [add_plain, Nat.add_zero, h0] at c0
  have cA := alloc_cell c0
  clear c0
  clear hc
  obtain ⟨a, n, c, hv, hn⟩ := hcp
  simp only [Value.slice.injEq] at hv
  obtain ⟨rfl, rfl, rfl⟩ := hv
  rw [h] at hn hsw ⊢
  have h10 : (10 : Int) ≤ (cap : Int) := by omega
  have k1 : ∀ o, Calls Try.prog 10 #[.slice (some ⟨b, off, none⟩) 10 cap] (w.alloc o) fun e w' => e = .returned (.int .u16 (uv (sm 0xFFFF#16 (l.take 10)))) ∧ w' = w.alloc o := fun o =>
    sum_bs (bs_take (hsw o) 10 (by rw [h]; omega)) (in_take hr 10) (by simp; omega)
  have k2 : ∀ o, Calls Try.prog 16 #[.slice (some ⟨b, off, none⟩) 12 cap, .int .i64 10] (w.alloc o) fun e w' => e = .returned (.int .u16 (wd l 10)) ∧ ∃ n, w' = (w.alloc o).drewN n := fun o =>
    word_at (hsw o) hr 10 10 rfl (by rw [h]; omega) (by omega)
  generalize uv (sm 0xFFFF#16 (l.take 10)) = x at hne k1
  generalize wd l 10 = y at hne k2
  have K1 := hide k1
  have K2 := hide k2
  clear h hr hsw h0 k1 k2 hn
  go_enter Try.func11, Try.ntmps11
  go_wp2_with (first | (go_at_call 10; refine (K1.out _).mono ?_; rintro e w' ⟨rfl, rfl⟩) | (go_at_call 16; refine (K2.out _).mono ?_; rintro e w' ⟨rfl, nd, rfl⟩))
  exact bodyPost_ret (v := .tuple #[tv tz, .int .i64 22]) (by simp [results, Try.results11, go_sem, tv, tz]) rfl ⟨rfl, below_put5 (((Below.refl _ _).alloc (Nat.le_refl _) _).drewN _) _ (Nat.le_refl _) _ _ _ _ _⟩


/-- what block g holds: a telegram -/
def Blk (w : World) (g : Nat) (t : Tl) : Prop := w.heap[g]? = some (.cells #[.int .u8 t.k, .int .u16 t.d, .int .u16 t.s, .int .u16 t.a, .int .u16 t.b] 28)

theorem Blk.cell {w : World} {g : Nat} {t : Tl} (h : Blk w g t) (i : Nat) : w.cell? ⟨g, i, none⟩ = #[Value.int .u8 t.k, .int .u16 t.d, .int .u16 t.s, .int .u16 t.a, .int .u16 t.b][i]? := by
  unfold World.cell?
  simp only [show w.heap[g]? = _ from h]
  rfl
theorem Blk.frozen {w : World} {g : Nat} {t : Tl} (h : Blk w g t) (i : Nat) : w.frozen? ⟨g, i, none⟩ = false := by
  unfold World.frozen?
  simp only [show w.heap[g]? = _ from h]
  simp
theorem Blk.lt {w : World} {g : Nat} {t : Tl} (h : Blk w g t) : g < w.heap.size := by
  rcases Nat.lt_or_ge g w.heap.size with h' | h'
  · exact h'
  · unfold Blk at h; rw [Array.getElem?_eq_none h'] at h; cases h
theorem Blk.keep {w w' : World} {g : Nat} {t : Tl} (h : Blk w g t) (hb : Below w.heap.size w w') : Blk w' g t := by
  unfold Blk; rw [hb.block _ h.lt]; exact h
theorem Blk.new (w : World) (n : Nat) (hn : n = w.heap.size) (k d s a b : Int) : Blk (w.alloc (.cells #[.int .u8 k, .int .u16 d, .int .u16 s, .int .u16 a, .int .u16 b] 28)) n ⟨k, d, s, a, b⟩ := by
  subst hn
  show (w.heap.push _)[w.heap.size]? = _
  simp
theorem Blk.drewN {w : World} {g : Nat} {t : Tl} (h : Blk w g t) (n : Nat) : Blk (w.drewN n) g t := h
theorem Blk.put5 {w : World} {g : Nat} {t : Tl} (h : Blk w g t) (k d s a b : Int) :
    Blk (((((w.setCell ⟨g, 0, none⟩ (.int .u8 k)).setCell ⟨g, 1, none⟩ (.int .u16 d)).setCell ⟨g, 2, none⟩ (.int .u16 s)).setCell ⟨g, 3, none⟩ (.int .u16 a)).setCell ⟨g, 4, none⟩ (.int .u16 b)) g ⟨k, d, s, a, b⟩ := by
  unfold Blk at h ⊢
  simp only [World.setCell, Array.getElem?_modify, h]
  simp
theorem Blk.put5_far {w : World} {g g' : Nat} {t : Tl} (h : Blk w g t) (hg : g ≠ g') (u0 u1 u2 u3 u4 : Value) :
    Blk (((((w.setCell ⟨g', 0, none⟩ u0).setCell ⟨g', 1, none⟩ u1).setCell ⟨g', 2, none⟩ u2).setCell ⟨g', 3, none⟩ u3).setCell ⟨g', 4, none⟩ u4) g t := by
  unfold Blk at h ⊢
  rw [Below.heap_setCell _ _ _ _ hg, Below.heap_setCell _ _ _ _ hg, Below.heap_setCell _ _ _ _ hg, Below.heap_setCell _ _ _ _ hg, Below.heap_setCell _ _ _ _ hg]
  exact h

theorem met_a (w : World) (n : Nat) (k d s a b : Int) :
    Below w.heap.size w (((w.alloc (.cells #[.int .u8 0, .int .u16 0, .int .u16 0, .int .u16 0, .int .u16 0] 28)).drewN n).alloc (.cells #[.int .u8 k, .int .u16 d, .int .u16 s, .int .u16 a, .int .u16 b] 28)) ∧
    Blk (((w.alloc (.cells #[.int .u8 0, .int .u16 0, .int .u16 0, .int .u16 0, .int .u16 0] 28)).drewN n).alloc (.cells #[.int .u8 k, .int .u16 d, .int .u16 s, .int .u16 a, .int .u16 b] 28)) w.heap.size ⟨0, 0, 0, 0, 0⟩ ∧
    Blk (((w.alloc (.cells #[.int .u8 0, .int .u16 0, .int .u16 0, .int .u16 0, .int .u16 0] 28)).drewN n).alloc (.cells #[.int .u8 k, .int .u16 d, .int .u16 s, .int .u16 a, .int .u16 b] 28)) (w.heap.size + 1) ⟨k, d, s, a, b⟩ := by
  refine ⟨(((Below.refl _ _).alloc (Nat.le_refl _) _).drewN n).alloc ?_ _, ?_, ?_⟩
  · show w.heap.size ≤ (w.alloc _).heap.size
    simp
  · exact ((Blk.new w _ rfl _ _ _ _ _).drewN _).keep ((Below.refl _ _).alloc (Nat.le_refl _) _)
  · exact Blk.new _ _ (by simp) _ _ _ _ _
theorem met_b (w : World) (n m : Nat) (k d s a b : Int) (W : World) (hW : W = ((((w.alloc (.cells #[.int .u8 0, .int .u16 0, .int .u16 0, .int .u16 0, .int .u16 0] 28)).drewN n).alloc (.cells #[.int .u8 0, .int .u16 0, .int .u16 0, .int .u16 0, .int .u16 0] 28)).drewN m)) :
    Below w.heap.size w (((((W.setCell ⟨w.heap.size + 1, 0, none⟩ (.int .u8 k)).setCell ⟨w.heap.size + 1, 1, none⟩ (.int .u16 d)).setCell ⟨w.heap.size + 1, 2, none⟩ (.int .u16 s)).setCell ⟨w.heap.size + 1, 3, none⟩ (.int .u16 a)).setCell ⟨w.heap.size + 1, 4, none⟩ (.int .u16 b)) ∧
    Blk (((((W.setCell ⟨w.heap.size + 1, 0, none⟩ (.int .u8 k)).setCell ⟨w.heap.size + 1, 1, none⟩ (.int .u16 d)).setCell ⟨w.heap.size + 1, 2, none⟩ (.int .u16 s)).setCell ⟨w.heap.size + 1, 3, none⟩ (.int .u16 a)).setCell ⟨w.heap.size + 1, 4, none⟩ (.int .u16 b)) w.heap.size ⟨0, 0, 0, 0, 0⟩ ∧
    Blk (((((W.setCell ⟨w.heap.size + 1, 0, none⟩ (.int .u8 k)).setCell ⟨w.heap.size + 1, 1, none⟩ (.int .u16 d)).setCell ⟨w.heap.size + 1, 2, none⟩ (.int .u16 s)).setCell ⟨w.heap.size + 1, 3, none⟩ (.int .u16 a)).setCell ⟨w.heap.size + 1, 4, none⟩ (.int .u16 b)) (w.heap.size + 1) ⟨k, d, s, a, b⟩ := by
  obtain ⟨h1, h2, h3⟩ := met_a w n 0 0 0 0 0
  have e1 : Below w.heap.size w W := by rw [hW]; exact h1.drewN m
  have e2 : Blk W w.heap.size ⟨0, 0, 0, 0, 0⟩ := by rw [hW]; exact h2.drewN m
  have e3 : Blk W (w.heap.size + 1) ⟨0, 0, 0, 0, 0⟩ := by rw [hW]; exact h3.drewN m
  exact ⟨below_put5 e1 _ (by omega) _ _ _ _ _, e2.put5_far (by omega) _ _ _ _ _, e3.put5 _ _ _ _ _⟩


set_option maxHeartbeats 4000000 in
theorem decode_all {w : World} {v : Value} {l : List Int} (hs : Bs w v l) (hcp : Cp v) (hr : InB l) (h : l.length = 12) (h0 : l[0]?.getD 0 = 165) (heq : uv (sm 0xFFFF#16 (l.take 10)) = wd l 10) :
    Calls Try.prog 11 #[v] w fun e w' => e = .returned (.tuple #[tv (dtele l), .int .i64 (dcode l)]) ∧ Below w.heap.size w w' := by
  have Hco : Hid (dcode l = chk (dcd l)) := hide (by simp only [dcode, if_pos h, if_pos h0, if_pos heq])
  have Hte : Hid (dtele l = if chk (dcd l) = 0 then dcd l else tz) := hide (by unfold dtele; rw [Hco.out])
  have hsw : ∀ W, Below w.heap.size w W → Bs W v l := fun W hW => hs.keep hW
  rcases hs with ⟨rfl, rfl⟩ | ⟨x, cap, rfl, hc⟩
  · simp at h
  obtain ⟨b, off, spot⟩ := x
  have hspot : spot = none := by simpa [Addr.add] using World.cell?_spot (hc 0 (by omega))
  subst hspot
  have c0 := hc 0 (by omega)
  have c1 := hc 1 (by omega)
  rw [add_plain, Nat.add_zero, h0] at c0
  rw [add_plain] at c1
  have cA := alloc_cell c0
  have n0 := World.new_ne w _ c1
  have b0 : b < w.heap.size := Bs.lt c1
  have b1 : w.heap.size + 1 ≠ b := by omega
  have b2 : b ≠ w.heap.size + 1 := by omega
  have b3 : b ≠ w.heap.size := by omega
  clear c0
  obtain ⟨a, n, c, hv, hn⟩ := hcp
  simp only [Value.slice.injEq] at hv
  obtain ⟨rfl, rfl, rfl⟩ := hv
  rw [h] at hn hsw ⊢
  have h10 : (10 : Int) ≤ (cap : Int) := by omega
  have k1 : ∀ W, Below w.heap.size w W → Calls Try.prog 10 #[.slice (some ⟨b, off, none⟩) 10 cap] W fun e w' => e = .returned (.int .u16 (uv (sm 0xFFFF#16 (l.take 10)))) ∧ w' = W := fun W hW =>
    sum_bs (bs_take (hsw W hW) 10 (by rw [h]; omega)) (in_take hr 10) (by simp; omega)
  have k2 : ∀ (i : Nat) (I : Int), I = i → i ≤ 10 → ∀ W, Below w.heap.size w W → Calls Try.prog 16 #[.slice (some ⟨b, off, none⟩) 12 cap, .int .i64 I] W fun e w' => e = .returned (.int .u16 (wd l i)) ∧ ∃ n, w' = W.drewN n := fun i I hI hi W hW =>
    word_at (hsw W hW) hr i I hI (by rw [h]; omega) (by omega)
  have w10 := k2 10 10 rfl (by omega)
  have w2 := k2 2 2 rfl (by omega)
  have w4 := k2 4 4 rfl (by omega)
  have w6 := k2 6 6 rfl (by omega)
  have w8 := k2 8 8 rfl (by omega)
  rw [heq] at k1
  unfold dcd at Hco Hte
  generalize wd l 10 = y at k1 w10
  generalize wd l 2 = f2 at *
  generalize wd l 4 = f4 at *
  generalize wd l 6 = f6 at *
  generalize wd l 8 = f8 at *
  generalize l[1]?.getD 0 = f1 at *
  have K1 := hide k1
  have W10 := hide w10
  have W2 := hide w2
  have W4 := hide w4
  have W6 := hide w6
  have W8 := hide w8
  clear h hr hsw h0 k1 k2 hn heq w10 w2 w4 w6 w8 hc
  have hb0 : ∀ o, Below w.heap.size w (w.alloc o) := fun o => (Below.refl _ _).alloc (Nat.le_refl _) o
  have q1 : ∀ o n, Below w.heap.size w ((w.alloc o).drewN n) := fun o n => (hb0 o).drewN n
  have q2 : ∀ o n o', Below w.heap.size w (((w.alloc o).drewN n).alloc o') := fun o n o' => (q1 o n).alloc (q1 o n).size o'
  have q3 : ∀ o n o' m, Below w.heap.size w ((((w.alloc o).drewN n).alloc o').drewN m) := fun o n o' m => (q2 o n o').drewN m
  go_enter Try.func11, Try.ntmps11
  go_upto_region 7 with (first | (go_at_call 10; refine (K1.out _ (hb0 _)).mono ?_; rintro e w' ⟨rfl, rfl⟩) | (go_at_call 16; refine (W10.out _ (hb0 _)).mono ?_; rintro e w' ⟨rfl, nd, rfl⟩))
  go_cut [4] (fun v wx => v = .pointer (some ⟨w.heap.size + 1, 0, none⟩) ∧ Below w.heap.size w wx ∧ Blk wx w.heap.size ⟨0, 0, 0, 0, 0⟩ ∧ Blk wx (w.heap.size + 1) ⟨f1, f2, f4, f6, f8⟩)
  case first =>
    go_region_held3 (fun w' => w'.cell? ⟨b, off + 1, none⟩ = some (.int .u8 f1)) (go_keep)
      (first | (go_at_call_of 16 (Value.int .i64 2); refine (W2.out _ ?_).mono ?_; (solve | exact q1 _ _ | exact q2 _ _ _ | exact q3 _ _ _ _); rintro e w' ⟨rfl, nd, rfl⟩) | (go_at_call_of 16 (Value.int .i64 4); refine (W4.out _ ?_).mono ?_; (solve | exact q1 _ _ | exact q2 _ _ _ | exact q3 _ _ _ _); rintro e w' ⟨rfl, nd, rfl⟩) | (go_at_call_of 16 (Value.int .i64 6); refine (W6.out _ ?_).mono ?_; (solve | exact q1 _ _ | exact q2 _ _ _ | exact q3 _ _ _ _); rintro e w' ⟨rfl, nd, rfl⟩) | (go_at_call_of 16 (Value.int .i64 8); refine (W8.out _ ?_).mono ?_; (solve | exact q1 _ _ | exact q2 _ _ _ | exact q3 _ _ _ _); rintro e w' ⟨rfl, nd, rfl⟩))
    all_goals (go_wp2_with fail; go_meet)
    all_goals refine ⟨rfl, ?_⟩
    all_goals first
      | with_reducible exact met_a _ _ _ _ _ _ _
      | with_reducible exact met_b _ _ _ _ _ _ _ _ _ rfl
  case rest =>
    obtain ⟨rfl, hb, hz, ht⟩ := hcut
    have t0 := ht.cell 0
    have t1 := ht.cell 1
    have t2 := ht.cell 2
    have t3 := ht.cell 3
    have t4 := ht.cell 4
    simp at t0 t1 t2 t3 t4
    have kc : ∀ W, Calls Try.prog 8 #[.agg #[.int .u8 f1, .int .u16 f2, .int .u16 f4, .int .u16 f6, .int .u16 f8]] W fun e w' => e = .returned (.int .i64 (chk ⟨f1, f2, f4, f6, f8⟩)) ∧ Below W.heap.size W w' := fun W => check_any _ _ _ _ _ W
    have Hz := hide hz
    have Ht := hide ht
    clear hz ht cA n0 c1 q1 q2 q3 hb0
    generalize chk ⟨f1, f2, f4, f6, f8⟩ = z at *
    have Kc := hide kc
    clear kc
    go_upto_region 9 with (go_at_call 8; refine (Kc.out _).mono ?_; rintro e w2 ⟨rfl, hb2⟩)
    have r0 := (Hz.out.keep hb2).cell 0
    have r1 := (Hz.out.keep hb2).cell 1
    have r2 := (Hz.out.keep hb2).cell 2
    have r3 := (Hz.out.keep hb2).cell 3
    have r4 := (Hz.out.keep hb2).cell 4
    have rf := (Hz.out.keep hb2).frozen
    have s0 := (Ht.out.keep hb2).cell 0
    have s1 := (Ht.out.keep hb2).cell 1
    have s2 := (Ht.out.keep hb2).cell 2
    have s3 := (Ht.out.keep hb2).cell 3
    have s4 := (Ht.out.keep hb2).cell 4
    simp at r0 r1 r2 r3 r4 s0 s1 s2 s3 s4
    clear t0 t1 t2 t3 t4
    have Hb := hide (hb.trans (hb2.mono hb.size))
    clear hb hb2
    by_cases hz0 : z = 0
    · subst hz0
      go_wp2_with fail
      exact bodyPost_ret (v := .tuple #[tv ⟨f1, f2, f4, f6, f8⟩, .int .i64 0]) (by simp [results, Try.results11, go_sem, tv, r0, r1, r2, r3, r4]) rfl ⟨by rw [Hco.out, Hte.out]; simp, below_put5 Hb.out _ (Nat.le_refl _) _ _ _ _ _⟩
    · go_wp2_with fail
      exact bodyPost_ret (v := .tuple #[tv tz, .int .i64 z]) (by simp [results, Try.results11, go_sem, tv, tz, r0, r1, r2, r3, r4]) rfl ⟨by rw [Hco.out, Hte.out, if_neg hz0], below_put5 Hb.out _ (Nat.le_refl _) _ _ _ _ _⟩

theorem decode_any {w : World} {v : Value} {l : List Int} (hs : Bs w v l) (hcp : Cp v) (hr : InB l) :
    Calls Try.prog 11 #[v] w fun e w' => e = .returned (.tuple #[tv (dtele l), .int .i64 (dcode l)]) ∧ Below w.heap.size w w' := by
  by_cases h : l.length = 12
  · by_cases h0 : l[0]?.getD 0 = 165
    · by_cases h1 : uv (sm 0xFFFF#16 (l.take 10)) = wd l 10
      · exact decode_all hs hcp hr h h0 h1
      · exact decode_sum hs hcp hr h h0 h1
    · exact decode_mark hs h h0
  · exact decode_len hs h

end Go.Proofs.Ytapbjfllcjfpaaa
