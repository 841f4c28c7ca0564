/- The document's Put. -/
import Derived.Test.YtddcjkbdgneklaaGrk
namespace Go.Proofs.Ytddcjkbdgneklaa
open Go.RowKit
set_option linter.unusedVariables false

/-- two boxes: a rack and the answer's -/
structure X2 (w0 : World) (h : Nat) (v z : Value) (W : World) : Prop where
  bel : Below h w0 W
  b1 : W.heap[h]? = some (.cells #[v] 31)
  b2 : W.heap[h + 1]? = some (.cells #[z] 31)
section
variable {w0 W W' : World} {h : Nat} {v z : Value}
theorem X2.cells (x : X2 w0 h v z W) : W.cell? ⟨h, 0, none⟩ = some v ∧ W.cell? ⟨h + 1, 0, none⟩ = some z ∧ (∀ i, W.frozen? ⟨h, i, none⟩ = false) ∧ ∀ i, W.frozen? ⟨h + 1, i, none⟩ = false :=
  ⟨(cells_at x.b1 0).1, (cells_at x.b2 0).1, fun i => (cells_at x.b1 i).2, fun i => (cells_at x.b2 i).2⟩
theorem X2.keep (x : X2 w0 h v z W) (hb : Below W.heap.size W W') : X2 w0 h v z W' :=
  ⟨x.bel.trans (hb.mono (Nat.le_of_lt (heap_lt x.b1))), (hb.block _ (heap_lt x.b1)).trans x.b1, (hb.block _ (heap_lt x.b2)).trans x.b2⟩
theorem X2.new (w : World) (v : Value) (h : Nat) (hh : w.heap.size = h) : X2 w h v (.slice none 0 0) ((w.alloc (.cells #[v] 31)).alloc (.cells #[.slice none 0 0] 31)) := by
  subst hh
  have sz : ∀ (V : World) (o : Obj), (V.alloc o).heap.size = V.heap.size + 1 := fun V o => by show (V.heap.push _).size = _; simp
  have b0 : ∀ (V : World) (o : Obj), Below V.heap.size V (V.alloc o) := fun V o => (Below.refl _ _).alloc (Nat.le_refl _) o
  have n1 := heap_new w (.cells #[v] 31)
  have n2 := heap_new (w.alloc (.cells #[v] 31)) (.cells #[.slice none 0 0] 31)
  rw [sz] at n2
  have m1 := (b0 (w.alloc (.cells #[v] 31)) (.cells #[.slice none 0 0] 31)).block _ (heap_lt n1)
  exact ⟨(b0 w _).trans ((b0 _ _).mono (by rw [sz]; omega)), m1.trans n1, n2⟩
theorem X2.out (x : X2 w0 h v z W) (u : Value) : X2 w0 h v u (W.setCell ⟨h + 1, 0, none⟩ u) :=
  ⟨x.bel.setCell (p := ⟨h + 1, 0, none⟩) (by show h ≤ h + 1; omega) _, by rw [Below.heap_setCell _ _ _ _ (by show h ≠ h + 1; omega)]; exact x.b1, by rw [heap_put x.b2]; rfl⟩
theorem X2.size (x : X2 w0 h v z W) : h + 2 ≤ W.heap.size := heap_lt x.b2
end
/-- a rack of the document's stays where a box of a rack is written -/
theorem DR.box {W : World} {B : Nat} {a : Option Addr} {n c : Nat} {es : List LnV} {R : Rack} {g i : Nat} {C : Array Value} {t : TypeId} {u : Value} (x : DR W B a n c es R) (hg : W.heap[g]? = some (.cells C t)) (h1 : t ≠ 75) (h2 : t ≠ 3) : DR (W.setCell ⟨g, i, none⟩ u) B a n c es R :=
  ⟨own_set_other x.row (zown_ne x.row hg h1), x.en, x.rn, x.n32, fun j e l he hl => ⟨(x.at' j e l he hl).1, (x.at' j e l he hl).2.1, own_set_other (x.at' j e l he hl).2.2 (zown_ne (x.at' j e l he hl).2.2 hg h2)⟩, x.bd⟩

/-- a call of the document's that answers a rack -/
def RP (h : Nat) (w0 : World) (B n : Nat) (f : Value → Value) (R : Rack) (e : Ending) (w' : World) : Prop := ∃ a' c' es', e = .returned (f (.agg #[.slice a' n c'])) ∧ DR w' B a' n c' es' R ∧ Below h w0 w'

section
variable {B : Nat} {a : Option Addr} {n c : Nat} {es : List LnV} {R : Rack}
set_option maxRecDepth 100000 in
set_option maxHeartbeats 8000000 in
theorem rput_any (t : Int) (w : World) (hr : DR w B a n c es R) (hB : B ≤ w.heap.size) :
    Calls Try.prog 14 #[.agg #[.slice a n c], .int .i64 t] w (RP w.heap.size w B n (fun v => .tuple #[v, .int .i64 (putN R t), .int .i64 (putC R t)]) (putR R t)) := by
  obtain ⟨w0, rfl⟩ : ∃ w0, w0 = w := ⟨_, rfl⟩
  obtain ⟨h, hh⟩ : ∃ h, w0.heap.size = h := ⟨_, rfl⟩
  have HX0 := hide (X2.new w0 (.slice a n c) h hh)
  have HD : Hid (∀ W, Below h w0 W → DR W B a n c es R) := hide (fun W hb => hr.keep (by rw [hh]; exact hb))
  have HBh : Hid (B ≤ h) := hide (by rw [← hh]; exact hB)
  obtain ⟨rn, hrn⟩ : ∃ rn, rn = putN R t := ⟨_, rfl⟩
  obtain ⟨rc, hrc⟩ : ∃ rc, rc = putC R t := ⟨_, rfl⟩
  obtain ⟨rr, hrr⟩ : ∃ rr, rr = putR R t := ⟨_, rfl⟩
  rw [← hrn, ← hrc, ← hrr, hh]
  have Hrn := hide hrn
  have Hrc := hide hrc
  have Hrr := hide hrr
  have Hh := hide hh
  have n32 := hr.n32
  have HE : Hid (R.length = n) := hide hr.rn
  have Hbd := hide hr.bd
  clear hr hh hB hrn hrc hrr
  go_enter Try.func14, Try.ntmps14
  go_upto_region 1 with fail
  rw [Hh.out]
  generalize (w0.alloc (.cells #[.slice a n c] 31)).alloc (.cells #[.slice none 0 0] 31) = W at *
  obtain ⟨x0, x1, x2, x3⟩ := HX0.out.cells
  by_cases ht : t < 1 ∨ 30 < t
  · have e1 : putC R t = 1 := if_pos ht
    have e2 : putN R t = 0 := if_neg (by rw [e1]; decide)
    have e3 : putR R t = R := if_neg (by rw [e1]; decide)
    have g1 := Hrc.out.trans e1
    have g2 := Hrn.out.trans e2
    have g3 := Hrr.out.trans e3
    clear e1 e2 e3 Hrc Hrn Hrr
    subst g1 g2 g3
    have HX := hide (HX0.out.out (.slice a n c))
    rcases ht with ht | ht
    · go_wp2_with fail
      refine bodyPost_ret (v := .tuple #[.agg #[.slice a n c], .int .i64 0, .int .i64 1]) (by have x := HX.out.cells; simp [results, Try.results14, go_sem, x.2.1]) rfl ⟨_, _, _, rfl, HD.out _ HX.out.bel, HX.out.bel⟩
    · have h1 : ¬ t < 1 := by omega
      have h2 : t > 30 := ht
      go_wp2_with fail
      refine bodyPost_ret (v := .tuple #[.agg #[.slice a n c], .int .i64 0, .int .i64 1]) (by have x := HX.out.cells; simp [results, Try.results14, go_sem, x.2.1]) rfl ⟨_, _, _, rfl, HD.out _ HX.out.bel, HX.out.bel⟩
  have h1 : ¬ t < 1 := by omega
  have h2 : ¬ t > 30 := by omega
  have K29 := hide (rwhere_any t W (HD.out _ HX0.out.bel))
  rcases whr_form R t with ⟨hw, hno⟩ | ⟨k, l, hw, _, _⟩
  rotate_left
  · have e1 : putC R t = 2 := (if_neg ht).trans (if_pos (by rw [hw]; omega))
    have e2 : putN R t = 0 := if_neg (by rw [e1]; decide)
    have e3 : putR R t = R := if_neg (by rw [e1]; decide)
    have g1 := Hrc.out.trans e1
    have g2 := Hrn.out.trans e2
    have g3 := Hrr.out.trans e3
    clear e1 e2 e3 Hrc Hrn Hrr
    subst g1 g2 g3
    rw [hw] at K29
    have q0 : (k : Int) ≥ 0 := by omega
    clear ht hw
    go_upto_region 4 with (go_at_call 29; refine K29.out.mono ?_; rintro e W1 ⟨rfl, hb⟩; have HX1 := hide (HX0.out.keep hb); clear hb)
    clear x0 x1 x2 x3
    obtain ⟨x0, x1, x2, x3⟩ := HX1.out.cells
    have HX := hide (HX1.out.out (.slice a n c))
    go_wp2_with fail
    refine bodyPost_ret (v := .tuple #[.agg #[.slice a n c], .int .i64 0, .int .i64 2]) (by have x := HX.out.cells; simp [results, Try.results14, go_sem, x.2.1]) rfl ⟨_, _, _, rfl, HD.out _ HX.out.bel, HX.out.bel⟩
  have hw2 : ¬ whr R t ≠ -1 := fun h => h hw
  rw [hw] at K29
  have K30 : Hid (∀ W, Below h w0 W → Calls Try.prog 30 #[.agg #[.slice a n c], .int .i64 (-1)] W fun e w' => e = .returned (.int .i64 (bst (lds R) (-1))) ∧ Below W.heap.size W w') := hide (fun W hb => rbest_any (-1) W (HD.out W hb))
  have hB := bst_is (lds R) (-1)
  by_cases hb : bst (lds R) (-1) = -1
  · have e1 : putC R t = 5 := (if_neg ht).trans ((if_neg hw2).trans (if_pos hb))
    have e2 : putN R t = 0 := if_neg (by rw [e1]; decide)
    have e3 : putR R t = R := if_neg (by rw [e1]; decide)
    have g1 := Hrc.out.trans e1
    have g2 := Hrn.out.trans e2
    have g3 := Hrr.out.trans e3
    clear e1 e2 e3 Hrc Hrn Hrr
    subst g1 g2 g3
    rw [hb] at K30
    clear ht hw hw2 hno hB hb
    go_upto_region 5 with (go_at_call 29; refine K29.out.mono ?_; rintro e W1 ⟨rfl, hb⟩; have HX1 := hide (HX0.out.keep hb); clear hb)
    clear x0 x1 x2 x3
    obtain ⟨x0, x1, x2, x3⟩ := HX1.out.cells
    go_upto_region 7 with (go_at_call 30; refine (K30.out _ HX1.out.bel).mono ?_; rintro e W2 ⟨rfl, hb⟩; have HX2 := hide (HX1.out.keep hb); clear hb)
    clear x0 x1 x2 x3
    obtain ⟨x0, x1, x2, x3⟩ := HX2.out.cells
    have HX := hide (HX2.out.out (.slice a n c))
    go_wp2_with fail
    refine bodyPost_ret (v := .tuple #[.agg #[.slice a n c], .int .i64 0, .int .i64 5]) (by have x := HX.out.cells; simp [results, Try.results14, go_sem, x.2.1]) rfl ⟨_, _, _, rfl, HD.out _ HX.out.bel, HX.out.bel⟩
  rcases hB with ⟨hx, _⟩ | ⟨k, l, hk, hkl, hl, _, hl2, _⟩
  · exact absurd hx hb
  rw [lds_len] at hkl
  obtain ⟨L, hL⟩ : ∃ L, R[k]? = some L := ⟨_, List.getElem?_eq_getElem hkl⟩
  rw [lds_at hL] at hl
  cases hl
  simp only at hl2
  have e1 : putC R t = 0 := (if_neg ht).trans ((if_neg hw2).trans (if_neg hb))
  have e2 : putN R t = k := (if_pos e1).trans hk
  have e3 : putR R t = R.set k (L.1, L.2 ++ [t]) := by
    unfold putR; rw [if_pos e1, hk, Int.toNat_natCast]; unfold addAt; rw [ln_at hL]
  have g1 := Hrc.out.trans e1
  have g2 := Hrn.out.trans e2
  have g3 := Hrr.out.trans e3
  clear e1 e2 e3 Hrc Hrn Hrr
  have hm : t ∉ L.2 := hno k L hL
  have hp1 : pushC L.1 L.2 t = 0 := (if_neg ht).trans ((if_neg hm).trans (if_neg (by omega)))
  have hp2 : pushL L.1 L.2 t = L.2 ++ [t] := if_pos hp1
  have hbdL := Hbd.out k L hL
  have hkn : k < n := by rw [← HE.out]; exact hkl
  rw [hk] at K30
  have HX1' : Hid (∀ W, Below h w0 W → ∃ b off a' c', a = some ⟨b, off, none⟩ ∧ W.cell? ⟨b, off + k * 2, none⟩ = some (.int .i64 L.1) ∧ W.cell? ⟨b, off + k * 2 + 1, none⟩ = some (.slice a' L.2.length c') ∧ Calls Try.prog 31 #[.agg #[.int .i64 L.1, .slice a' L.2.length c'], .int .i64 t] W fun e w' => ∃ a3 c3, e = .returned (.tuple #[.agg #[.int .i64 L.1, .slice a3 (L.2.length + 1) c3], .int .i64 0]) ∧ intE.Own w' B (.slice a3 (L.2.length + 1) c3) (L.2 ++ [t]) ∧ Below W.heap.size W w') := hide (fun W hb => by
    obtain ⟨b, off, a', c', h1, he, h2, h3, h4, _⟩ := (HD.out W hb).lane hL
    refine ⟨b, off, a', c', h1, h2, h3, (rpush_any (B := B) t h4 (by have := hb.size; have h9 := HBh.out; have := Hh.out; omega) rfl (by omega) (by omega)).mono ?_⟩
    rintro e w' ⟨v, rfl, ho, hb'⟩
    rw [hp2] at ho
    obtain ⟨a3, c3, hv⟩ := ho.rd.form
    rw [List.length_append, List.length_singleton] at hv
    subst hv
    exact ⟨a3, c3, by rw [hp1], ho, hb'⟩)
  have K32 : Hid (∀ (W : World) (a3 : Option Addr) (c3 : Nat), Below h w0 W → intE.Own W B (.slice a3 (L.2.length + 1) c3) (L.2 ++ [t]) → Calls Try.prog 32 #[.agg #[.slice a n c], .int .i64 k, .agg #[.int .i64 L.1, .slice a3 (L.2.length + 1) c3]] W fun e w' => ∃ a' c' es', e = .returned (.agg #[.slice a' n c']) ∧ DR w' B a' n c' es' (R.set k (L.1, L.2 ++ [t])) ∧ Below W.heap.size W w') := hide (fun W a3 c3 hb ho => rset_any k W (HD.out W hb) hkn (by have := hb.size; have h9 := HBh.out; have := Hh.out; omega) ho (by simp) (by omega) (by omega))
  simp only [← g3] at K32
  clear g3
  subst g1 g2
  have q0 : ¬ (k : Int) < 0 := by omega
  have q1 : (0 : Int) ≤ (k : Int) := by omega
  have q2 : (k : Int) < (n : Int) := by omega
  obtain ⟨lm, hlm⟩ : ∃ lm, L.2.length + 1 = lm := ⟨_, rfl⟩
  obtain ⟨lo, hlo⟩ : ∃ lo, L.2.length = lo := ⟨_, rfl⟩
  obtain ⟨ld, hld⟩ : ∃ ld, L.1 = ld := ⟨_, rfl⟩
  simp only [hlm] at HX1' K32
  simp only [hlo, hld] at HX1'
  simp only [hld] at K32
  have Hlm : Hid (lo + 1 = lm) := hide (by rw [← hlo]; exact hlm)
  generalize L.2 ++ [t] = ys at *
  clear ht hw hw2 hno hb hk hkl hL hl2 hm hp1 hp2 hbdL hlm hlo hld Hbd
  go_upto_region 5 with (go_at_call 29; refine K29.out.mono ?_; rintro e W1 ⟨rfl, hb⟩; have HX1 := hide (HX0.out.keep hb); clear hb)
  clear x0 x1 x2 x3
  obtain ⟨x0, x1, x2, x3⟩ := HX1.out.cells
  go_upto_region 8 with (go_at_call 30; refine (K30.out _ HX1.out.bel).mono ?_; rintro e W2 ⟨rfl, hb⟩; have HX2 := hide (HX1.out.keep hb); clear hb)
  clear x0 x1 x2 x3
  obtain ⟨x0, x1, x2, x3⟩ := HX2.out.cells
  obtain ⟨b, off, a', c', rfl, y0, y1, hK⟩ := HX1'.out W2 HX2.out.bel
  have K31 := hide hK
  clear hK
  have Hba : Hid (∀ (V : World) (o : Obj), Below V.heap.size V (V.alloc o)) := hide (fun V o => (Below.refl _ _).alloc (Nat.le_refl _) o)
  go_upto_region 9 with (go_at_call 31; refine K31.out.mono ?_; rintro e W3 ⟨a3, c3, rfl, ho, hb⟩; have HX3 := hide ((HX2.out.keep hb).keep (Hba.out W3 (.cells #[.int .i64 ld, .slice a3 lm c3] 75))); have HO3 := hide (ho.keep (Hba.out W3 (.cells #[.int .i64 ld, .slice a3 lm c3] 75))); have hbx := heap_new W3 (.cells #[.int .i64 ld, .slice a3 lm c3] 75); clear ho hb)
  have v0 := (cells_at hbx 0).1
  have v1 := (cells_at hbx 1).1
  have v0' : (W3.alloc (.cells #[.int .i64 ld, .slice a3 lm c3] 75)).cell? ⟨W3.heap.size, 0, none⟩ = some (.int .i64 ld) := v0
  have v1' : (W3.alloc (.cells #[.int .i64 ld, .slice a3 lm c3] 75)).cell? ⟨W3.heap.size, 1, none⟩ = some (.slice a3 lm c3) := v1
  clear v0 v1 hbx x0 x1 x2 x3 y0 y1
  generalize W3.heap.size = g3 at *
  generalize W3.alloc (.cells #[.int .i64 ld, .slice a3 lm c3] 75) = W4 at *
  obtain ⟨x0, x1, x2, x3⟩ := HX3.out.cells
  have K32' := hide (K32.out W4 a3 c3 HX3.out.bel HO3.out)
  go_wp2_with (go_at_call 32; refine K32'.out.mono ?_; rintro e W5 ⟨a5, c5, es5, rfl, hd, hb⟩; have HD5 := hide hd; have HX5 := hide (HX3.out.keep hb); clear hd hb; obtain ⟨y0, y1, y2, y3⟩ := HX5.out.cells)
  have HX := hide (HX5.out.out (.slice a5 n c5))
  have HD6 := hide (HD5.out.box (i := 0) (u := .slice a5 n c5) HX5.out.b2 (by decide) (by decide))
  refine bodyPost_ret (v := .tuple #[.agg #[.slice a5 n c5], .int .i64 k, .int .i64 0]) (by have x := HX.out.cells; simp [results, Try.results14, go_sem, x.2.1]) rfl ⟨_, _, _, rfl, HD6.out, HX.out.bel⟩
end
end Go.Proofs.Ytddcjkbdgneklaa
