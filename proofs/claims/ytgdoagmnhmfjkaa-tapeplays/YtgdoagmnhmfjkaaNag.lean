/- What came in: notes, bytes, three numbers. -/
import Derived.Test.YtgdoagmnhmfjkaaNwr
import Derived.Test.YtgdoagmnhmfjkaaLag
namespace Go.Proofs.Ytgdoagmnhmfjkaa
open Go.ChangeShapes Go.WideShapes Go.ChangeAt Go.RowKit
set_option linter.unusedVariables false

section
variable {H : Type} {enc : TypeId × Value → H} {w : World} {base : Nat} {spare : Nat → Bool} {held : Bool} {fuel : Nat} {cs : List Value} {x : DataW H × List MemPlace}
set_option maxRecDepth 100000 in
theorem nt_of_trod (h : DataW.trod enc Try.prog w base spare held fuel 43 cs = some x) : ∃ y : Nt, cs = ntE.enc y ∧ True := by
  obtain ⟨xs, n, _, _, hl, hn, hf⟩ := DataW.trod_struct Try.underlying43 h
  rw [show Try.prog.cellsOf 43 = 4 by kernel_rfl] at hl
  have e3 : Try.prog.cellsOf 3 = 1 := by kernel_rfl
  have f0 : DataW.trod enc Try.prog w base spare held n 3 ((cs.drop 0).take (Try.prog.cellsOf 3)) = xs[0]? := hf 0 _ rfl
  have f1 : DataW.trod enc Try.prog w base spare held n 3 ((cs.drop 1).take (Try.prog.cellsOf 3)) = xs[1]? := hf 1 _ rfl
  have f2 : DataW.trod enc Try.prog w base spare held n 3 ((cs.drop 2).take (Try.prog.cellsOf 3)) = xs[2]? := hf 2 _ rfl
  have f3 : DataW.trod enc Try.prog w base spare held n 3 ((cs.drop 3).take (Try.prog.cellsOf 3)) = xs[3]? := hf 3 _ rfl
  rw [e3] at f0 f1 f2 f3
  match xs, hn, cs, hl with
  | [y0, y1, y2, y3], _, [c0, c1, c2, c3], _ =>
    obtain ⟨i0, e0, _, _⟩ := DataW.trod_int Try.underlying3 f0
    obtain ⟨i1, e1, _, _⟩ := DataW.trod_int Try.underlying3 f1
    obtain ⟨i2, e2, _, _⟩ := DataW.trod_int Try.underlying3 f2
    obtain ⟨i3, e4, _, _⟩ := DataW.trod_int Try.underlying3 f3
    simp at e0 e1 e2 e4
    exact ⟨⟨i0, i1, i2, i3⟩, by simp [ntE, e0, e1, e2, e4], trivial⟩
theorem notes_of_trod {a : Option Addr} {len cap : Nat} (h : DataW.trod enc Try.prog w base spare held fuel 29 cs = some x) (hcs : cs = [.slice a len cap]) : ∃ os : List Nt, os.length = len ∧ ntE.Rd w (.slice a len cap) os := by
  obtain ⟨vs, h1, h2, h3⟩ := rd_of_trod ntE (fun _ => True) (by kernel_rfl) (fun n cs y hy => nt_of_trod hy) h hcs
  exact ⟨vs, h1, h2⟩
theorem notesc_of_trod {a : Option Addr} {len cap : Nat} (h : DataW.trod enc Try.prog w base spare held fuel 29 cs = some x) (hcs : cs = [.slice a len cap]) : ∃ os : List Nt, os.length = len ∧ ntE.Rd w (.slice a len cap) os ∧ len ≤ cap := by
  obtain ⟨os, h1, h2⟩ := notes_of_trod h hcs
  refine ⟨os, h1, h2, ?_⟩
  rcases DataW.trod_slice Try.underlying29 h with ⟨h3, _⟩ | ⟨x0, len', cap', _, _, _, _, h3, _, _, hl, _⟩
  · rw [hcs] at h3
    simp at h3
    rw [h3.2.1, h3.2.2]; exact Nat.le_refl _
  · rw [hcs] at h3
    simp at h3
    rw [h3.2.1, h3.2.2]; exact hl
theorem arr3_of_trod (h : DataW.trod enc Try.prog w base spare held fuel 80 cs = some x) :
    ∃ x0 x1 x2 : Int, cs = [.int .i64 x0, .int .i64 x1, .int .i64 x2] ∧ (Lit.int .i64 x0).wf = true ∧ (Lit.int .i64 x1).wf = true ∧ (Lit.int .i64 x2).wf = true := by
  obtain ⟨xs, m, _, _, hl, hn, hg⟩ := DataW.trod_array Try.underlying80 h
  have e : Try.prog.cellsOf 3 = 1 := by kernel_rfl
  rw [show Try.prog.cellsOf 80 = 3 by kernel_rfl] at hl
  have g0 := hg 0 (by omega)
  have g1 := hg 1 (by omega)
  have g2 := hg 2 (by omega)
  rw [e] at g0 g1 g2
  match xs, hn, cs, hl with
  | [y0, y1, y2], _, [c0, c1, c2], _ =>
    obtain ⟨i0, e0, _, q0⟩ := DataW.trod_int Try.underlying3 g0
    obtain ⟨i1, e1, _, q1⟩ := DataW.trod_int Try.underlying3 g1
    obtain ⟨i2, e2, _, q2⟩ := DataW.trod_int Try.underlying3 g2
    simp at e0 e1 e2
    exact ⟨i0, i1, i2, by simp [e0, e1, e2], q0, q1, q2⟩
end
/-- a slice of integers that came in: nil, or a row of 'cap' cells that read 'zs', each fitting its kind -/
def IsRow (k : IntKind) (w : World) (a : Option Addr) (len cap : Nat) (zs : List Int) : Prop :=
  (a = none ∧ len = 0 ∧ cap = 0 ∧ zs = []) ∨
  ∃ x, a = some x ∧ len ≤ cap ∧ cap ≤ maxLen ∧ zs.length = cap ∧ (∀ i, i < zs.length → w.cell? (x.add i) = some (.int k (zs.getD i 0))) ∧ ∀ n ∈ zs, (Lit.int k n).wf = true
theorem sl_of_row {w : World} {a : Option Addr} {len cap : Nat} {zs : List Int} (h : IsRow .u8 w a len cap zs) : ∃ l : List Int, Sl w a len cap l ∧ InB l := by
  rcases h with ⟨rfl, rfl, rfl, rfl⟩ | ⟨x, rfl, hl, hm, hz, hc, hw⟩
  · exact ⟨[], Sl.nil w, InB.nil⟩
  · have e : (zs.take len).length = len := by rw [List.length_take]; omega
    refine ⟨zs.take len, ⟨.inr ⟨x, cap, by rw [e], fun i hi => ?_⟩, e, hl⟩, fun z hz => ?_⟩
    · have hi' : i < len := by rw [e] at hi; have : byE.k = 1 := rfl; rw [this] at hi; omega
      rw [hc i (by omega), by_fl, List.getElem?_map, List.getElem?_take_of_lt hi', List.getD_eq_getElem?_getD, List.getElem?_eq_getElem (by omega)]
      rfl
    · exact bounds_u8 (hw z (List.mem_of_mem_take hz))
end Go.Proofs.Ytgdoagmnhmfjkaa
