/- The document's set, Add. -/
import Derived.Test.YtfmpipihjnpimaaBrb
import Derived.Test.YtfmpipihjnpimaaBtm
namespace Go.Proofs.Ytfmpipihjnpimaa
open Go.RowKit
set_option linter.unusedVariables false

theorem Its.put1 {w0 w : World} {b : Nat} {C : Array Value} {t : TypeId} {l : List It} (h : Its w0 (.box b C t :: l) w) (i : Nat) (x : Value) : Its w0 (.box b (C.setIfInBounds i x) t :: l) (w.setCell ⟨b, i, none⟩ x) :=
  h.chg (x' := .box b (C.setIfInBounds i x) t) (heap_put h.one x) (fun k hk => .inl hk) (Frm.set w b i x)
theorem Its.out2 {w0 w : World} {b : Nat} {p q : Value} {t : TypeId} {l : List It} (h : Its w0 (.box b #[p, q] t :: l) w) (x y : Value) : Its w0 (.box b #[x, y] t :: l) ((w.setCell ⟨b, 0, none⟩ x).setCell ⟨b, 1, none⟩ y) := (h.put1 0 x).put1 1 y
theorem Its.cells2 {w0 w : World} {b : Nat} {p q : Value} {t : TypeId} {l : List It} (h : Its w0 (.box b #[p, q] t :: l) w) : w.cell? ⟨b, 0, none⟩ = some p ∧ w.cell? ⟨b, 1, none⟩ = some q ∧ (∀ i, w.frozen? ⟨b, i, none⟩ = false) := ⟨(cells_at h.one 0).1, (cells_at h.one 1).1, fun i => (cells_at h.one i).2⟩
theorem Its.cells3 {w0 w : World} {b : Nat} {p q r : Value} {t : TypeId} {l : List It} (h : Its w0 (.box b #[p, q, r] t :: l) w) : w.cell? ⟨b, 0, none⟩ = some p ∧ w.cell? ⟨b, 1, none⟩ = some q ∧ w.cell? ⟨b, 2, none⟩ = some r := ⟨(cells_at h.one 0).1, (cells_at h.one 1).1, (cells_at h.one 2).1⟩
/-- a new box -/
theorem Its.boxN {w0 w : World} {l : List It} (h : Its w0 l w) (C : Array Value) (t : TypeId) {n : Nat} (hn : w.heap.size = n) : Its w0 (.box n C t :: l) (w.alloc (.cells C t)) := by
  subst hn
  exact h.new (x := .box w.heap.size C t) (heap_new w _) (fun k hk => by cases hk; exact Nat.le_refl _) (below_new w _)
theorem Its.nothingE {w0 w : World} {l : List It} (h : Its w0 l w) {n : Nat} (hn : w.heap.size = n) : Its w0 (.row enE w0.heap.size (.slice (some ⟨n, 0, none⟩) 0 0) [] :: l) (w.alloc (.cells #[] 69)) := by
  subst hn
  exact h.fresh (El.Own.new enE w w.heap.size (Nat.le_refl _) #[] [] rfl (by simp) w.heap.size 0 0 rfl rfl rfl) (below_new w _)
theorem Its.oneE {w0 w : World} {l : List It} (h : Its w0 l w) (e : En) {n : Nat} (hn : w.heap.size = n) : Its w0 (.row enE w0.heap.size (.slice (some ⟨n, 0, none⟩) 1 1) [e] :: l) (w.alloc (.cells #[.int .i64 e.r.id, .int .i64 e.r.st, .int .i64 e.r.tt, .int .i64 e.en] 69)) := by
  subst hn
  exact h.fresh (El.Own.new enE w w.heap.size (Nat.le_refl _) #[.int .i64 e.r.id, .int .i64 e.r.st, .int .i64 e.r.tt, .int .i64 e.en] [e] rfl (by simp) w.heap.size 1 1 rfl rfl rfl) (below_new w _)
section
variable {aA aD : Option Addr} {nA cA nD cD : Nat}

set_option maxRecDepth 100000 in
set_option maxHeartbeats 2000000 in
theorem rset_any (l : List En) (i : Nat) (e : En) (v : Int) (w : World) (hn : l.length = nA) (hv : enE.Rd w (.slice aA nA cA) l) (hl : nA ≤ 10000) (hi : l[i]? = some e) :
    Calls Try.prog 29 #[.agg #[.slice aA nA cA, .slice aD nD cD], .int .i64 (i : Int), .int .i64 v] w fun r w' => ∃ a' c', r = .returned (.agg #[.slice a' nA c', .slice aD nD cD]) ∧ enE.Own w' w.heap.size (.slice a' nA c') (l.set i ⟨e.r, v⟩) ∧ Below w.heap.size w w' := by
  obtain ⟨w0, rfl⟩ : ∃ w0, w0 = w := ⟨_, rfl⟩
  have HI0 := hide (((Its.nil w0).boxN #[.slice aA nA cA, .slice aD nD cD] 29 rfl).boxN #[.slice none 0 0, .slice none 0 0] 29 (n := w0.heap.size + 1) (by simp))
  have HV : Hid (∀ W, Below w0.heap.size w0 W → enE.Rd W (.slice aA nA cA) l) := hide (fun W h => hv.keep h)
  have Hn := hide hn
  have hin : i < nA := by rw [← hn]; exact idx_lt hi
  have Hi := hide hi
  have j0 : (0 : Int) ≤ (i : Int) := by omega
  have j1 : (i : Int) < (nA : Int) := by omega
  have HNm : Hid (([] : List En).length + l.length ≤ 1000000) := hide (by simp; omega)
  clear hn hv hl hi
  go_enter Try.func29, Try.ntmps29
  go_upto_region 1 with fail
  generalize (w0.alloc (.cells #[.slice aA nA cA, .slice aD nD cD] 29)).alloc (.cells #[.slice none 0 0, .slice none 0 0] 29) = W1 at *
  obtain ⟨c0, c1, cf⟩ := HI0.out.tail.cells2
  have HI1 := hide (HI0.out.nothingE rfl)
  clear HI0
  have HC1 : Hid (∀ W : World, W.heap[w0.heap.size]? = some (.cells #[.slice aA nA cA, .slice aD nD cD] 29) → W.cell? ⟨w0.heap.size, 0, none⟩ = some (.slice aA nA cA) ∧ (∀ i, W.frozen? ⟨w0.heap.size, i, none⟩ = false)) := hide (fun W h => ⟨(cells_at h 0).1, fun i => (cells_at h i).2⟩)
  have hcc : (W1.alloc (.cells #[] 69)).heap[w0.heap.size]? = some (.cells #[.slice aA nA cA, .slice aD nD cD] 29) := HI1.out.three
  obtain ⟨k0, k1⟩ := HC1.out _ hcc
  clear hcc
  go_upto_region 2 with (at_builtin; refine enE.wp (w0 := w0) HI1.out.bel (by rfl) _ _ rfl _ _ rfl rfl [] l HI1.out.one (HV.out _ HI1.out.bel) HNm.out ?_; intro v2 W2 ho hg hs hb; have HI2 := hide (HI1.out.grow ho hg hs); obtain ⟨a2, p2, hf2⟩ := ho.rd.form; rw [List.nil_append, Hn.out] at hf2; subst hf2; clear ho hg hs hb; obtain ⟨m0, m1⟩ := HC1.out W2 HI2.out.three)
  have HI3 : Hid (Its w0 (.box w0.heap.size #[.slice a2 nA p2, .slice aD nD cD] 29 :: .row enE w0.heap.size (.slice a2 nA p2) l :: .box (w0.heap.size + 1) #[.slice none 0 0, .slice none 0 0] 29 :: []) (W2.setCell ⟨w0.heap.size, 0, none⟩ (.slice a2 nA p2))) := hide (HI2.out.rot3.put1 0 _)
  generalize W2.setCell ⟨w0.heap.size, 0, none⟩ (.slice a2 nA p2) = W3 at *
  clear HI1 HI2 k0 k1 m0 m1 c0 c1 cf HC1 HV
  obtain ⟨g2, cap2, hv2, _⟩ := El.Own.some HI3.out.two (fun e => by have := Hi.out; rw [e] at this; cases this)
  simp only [Value.slice.injEq] at hv2
  obtain ⟨rfl, hlx, rfl⟩ := hv2
  have hlt4 : i * 4 + 3 < l.length * 4 := by rw [Hn.out]; omega
  have hfz : W3.frozen? ⟨g2, i * 4 + 3, none⟩ = false := (El.Own.cell HI3.out.two (i * 4 + 3) hlt4).2.1
  obtain ⟨b2, off2, hb2, d0, d1, d2, d3⟩ := en_at (El.Own.rd HI3.out.two) i e Hi.out
  simp only [Option.some.injEq, Addr.mk.injEq, and_true] at hb2
  obtain ⟨rfl, rfl⟩ := hb2
  simp only [Nat.zero_add] at d3
  obtain ⟨c0, c1, cf⟩ := HI3.out.cells2
  have HI4 : Hid (Its w0 (.row enE w0.heap.size (.slice (some ⟨g2, 0, none⟩) nA p2) (l.set i ⟨e.r, v⟩) :: .box w0.heap.size #[.slice (some ⟨g2, 0, none⟩) nA p2, .slice aD nD cD] 29 :: .box (w0.heap.size + 1) #[.slice none 0 0, .slice none 0 0] 29 :: []) (W3.setCell ⟨g2, i * 4 + 3, none⟩ (.int .i64 v))) := hide (HI3.out.swap.chg (x' := .row enE w0.heap.size (.slice (some ⟨g2, 0, none⟩) nA p2) (l.set i ⟨e.r, v⟩)) (own_setC (E := enE) (j := 3) (x := e) (z := ⟨e.r, v⟩) (u := .int .i64 v) HI3.out.two Hi.out (by decide) rfl) (fun k hk => .inl hk) ((Frm.set W3 g2 (i * 4 + 3) _).mono fun k _ e => by show Option.some g2 = some k; rw [e]))
  clear hlx d0 d1 d2 hlt4
  go_upto_region 3 with fail
  generalize W3.setCell ⟨g2, i * 4 + 3, none⟩ (.int .i64 v) = W4 at *
  clear c0 c1 cf hfz d3 HI3
  obtain ⟨c0, c1, cf⟩ := HI4.out.swap.cells2
  obtain ⟨e0, e1, ef⟩ := HI4.out.rot3.cells2
  have HI5 := hide (HI4.out.rot3.out2 (.slice (some ⟨g2, 0, none⟩) nA p2) (.slice aD nD cD))
  go_wp2_with fail
  generalize (W4.setCell ⟨w0.heap.size + 1, 0, none⟩ (.slice (some ⟨g2, 0, none⟩) nA p2)).setCell ⟨w0.heap.size + 1, 1, none⟩ (.slice aD nD cD) = W5 at *
  obtain ⟨y0, y1, _⟩ := HI5.out.cells2
  have hfin : enE.Own W5 w0.heap.size (.slice (some ⟨g2, 0, none⟩) nA p2) (l.set i ⟨e.r, v⟩) ∧ Below w0.heap.size w0 W5 := ⟨HI5.out.two, HI5.out.bel⟩
  exact bodyPost_ret (v := .agg #[.slice (some ⟨g2, 0, none⟩) nA p2, .slice aD nD cD]) (by simp [results, Try.results29, go_sem, y0, y1]) rfl ⟨_, _, rfl, hfin.1, hfin.2⟩
end
end Go.Proofs.Ytfmpipihjnpimaa
