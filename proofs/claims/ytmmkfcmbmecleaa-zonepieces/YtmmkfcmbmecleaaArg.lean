/- A layout that came in: its nodes and edges. -/
import Derived.Test.YtmmkfcmbmecleaaLyb
namespace Go.Proofs.Ytmmkfcmbmecleaa
open Go.ChangeShapes Go.WideShapes Go.ChangeAt Go.RowKit
set_option linter.unusedVariables false

section
variable {H : Type} {enc : TypeId × Value → H} {w : World} {base : Nat} {spare : Nat → Bool} {held : Bool} {fuel : Nat} {cs : List Value} {x : DataW H × List MemPlace}

theorem list_of {β : Type} (R : Nat → β → Prop) (len : Nat) (h : ∀ i, i < len → ∃ y, R i y) : ∃ ys : List β, ys.length = len ∧ ∀ (i : Nat) (y : β), ys[i]? = some y → R i y := by
  induction len with
  | zero => exact ⟨[], rfl, by simp⟩
  | succ m ih =>
    obtain ⟨ys, h1, h2⟩ := ih (fun i hi => h i (by omega))
    obtain ⟨y, hy⟩ := h m (by omega)
    refine ⟨ys ++ [y], by simp [h1], fun i u hu => ?_⟩
    rcases Nat.lt_or_ge i m with h' | h'
    · rw [List.getElem?_append_left (by omega)] at hu; exact h2 i u hu
    · rw [List.getElem?_append_right (by omega)] at hu
      have : i = m := by
        rcases Nat.lt_or_ge i (m + 1) with h'' | h''
        · omega
        · rw [List.getElem?_eq_none (by simp; omega)] at hu; cases hu
      subst this
      rw [h1] at hu
      simp at hu
      subst hu
      exact hy

theorem rd_of_trod {α : Type} (E : El Try.prog α) (Q : α → Prop) (hc : Try.prog.cellsOf E.e = E.k)
    (elem : ∀ (n : Nat) (cs : List Value) (y : DataW H × List MemPlace), DataW.trod enc Try.prog w base spare held n E.e cs = some y → ∃ x : α, cs = E.enc x ∧ Q x)
    {a : Option Addr} {len cap : Nat} (h : DataW.trod enc Try.prog w base spare held fuel E.t cs = some x) (hcs : cs = [.slice a len cap]) :
    ∃ xs : List α, xs.length = len ∧ E.Rd w (.slice a len cap) xs ∧ ∀ y ∈ xs, Q y := by
  rcases DataW.trod_slice E.ht h with ⟨h1, _⟩ | ⟨x0, len', cap', elems, rest, n, _, h1, _, _, hl, hcm, he, hr, _⟩
  · rw [hcs] at h1
    simp at h1
    obtain ⟨rfl, rfl, rfl⟩ := h1
    exact ⟨[], rfl, .inl ⟨rfl, rfl⟩, by simp⟩
  · rw [hcs] at h1
    simp at h1
    obtain ⟨rfl, rfl, rfl⟩ := h1
    rw [hc] at hr
    have one : ∀ i, i < len → ∃ y : α, Q y ∧ ∀ j, j < E.k → w.cell? ((x0.add (i * E.k)).add j) = (E.enc y)[j]? := by
      intro i hi
      have hi' : i < elems.length := by omega
      have h2 := hr i hi
      rw [List.getElem?_eq_getElem hi'] at h2
      obtain ⟨cs', h3, h4⟩ := Option.bind_eq_some_iff.1 h2
      obtain ⟨y, hy, hq⟩ := elem _ _ _ h4
      obtain ⟨_, _, h5⟩ := World.cells?_some h3
      subst hy
      exact ⟨y, hq, fun j hj => by rw [h5 j (by omega)]⟩
    obtain ⟨ys, hy1, hy2⟩ := list_of _ len one
    refine ⟨ys, hy1, .inr ⟨x0, cap, by rw [hy1], fun q hq => ?_⟩, fun y hy => ?_⟩
    · have hk := E.kpos
      have hpos : 0 < len := by
        rcases Nat.eq_zero_or_pos len with h0 | h0
        · rw [hy1, h0, Nat.zero_mul] at hq; omega
        · exact h0
      have hspot : x0.spot = none := by
        obtain ⟨y, _, z⟩ := one 0 hpos
        have z0 := z 0 hk
        have : (E.enc y)[0]? = some ((E.enc y)[0]'(by rw [E.len]; exact hk)) := List.getElem?_eq_getElem _
        rw [this] at z0
        simpa [Addr.add] using World.cell?_spot z0
      obtain ⟨b, off, spot⟩ := x0
      simp only at hspot
      subst hspot
      have hi : q / E.k < ys.length := (Nat.div_lt_iff_lt_mul hk).2 hq
      have hj : q % E.k < E.k := Nat.mod_lt _ hk
      have e : q / E.k * E.k + q % E.k = q := by rw [Nat.mul_comm]; exact Nat.div_add_mod q E.k
      have hx := hy2 (q / E.k) ys[q / E.k] (List.getElem?_eq_getElem hi)
      have := hx.2 (q % E.k) hj
      rw [addr_plain, addr_plain, Nat.add_assoc, e] at this
      have e5 := E.fl_at ys (q / E.k) (q % E.k) ys[q / E.k] (List.getElem?_eq_getElem hi) hj
      rw [e] at e5
      rw [addr_plain, this, e5]
    · obtain ⟨i, hi⟩ := List.mem_iff_getElem?.1 hy
      exact (hy2 i y hi).1

set_option maxRecDepth 100000 in
theorem nd_of_trod (h : DataW.trod enc Try.prog w base spare held fuel 46 cs = some x) : ∃ y : Nd, cs = ndE.enc y ∧ y.name.size ≤ maxLen := by
  obtain ⟨xs, n, _, _, hl, hn, hf⟩ := DataW.trod_struct Try.underlying46 h
  rw [show Try.prog.cellsOf 46 = 3 by kernel_rfl] at hl
  have e9 : Try.prog.cellsOf 9 = 1 := by kernel_rfl
  have e3 : Try.prog.cellsOf 3 = 1 := by kernel_rfl
  have f0 : DataW.trod enc Try.prog w base spare held n 9 ((cs.drop 0).take (Try.prog.cellsOf 9)) = xs[0]? := hf 0 _ rfl
  have f1 : DataW.trod enc Try.prog w base spare held n 3 ((cs.drop 1).take (Try.prog.cellsOf 3)) = xs[1]? := hf 1 _ rfl
  have f2 : DataW.trod enc Try.prog w base spare held n 3 ((cs.drop 2).take (Try.prog.cellsOf 3)) = xs[2]? := hf 2 _ rfl
  rw [e9] at f0
  rw [e3] at f1 f2
  match xs, hn, cs, hl with
  | [y0, y1, y2], _, [c0, c1, c2], _ =>
    obtain ⟨s, e0, _, hs⟩ := DataW.trod_string Try.underlying9 f0
    obtain ⟨i1, e1, _, _⟩ := DataW.trod_int Try.underlying3 f1
    obtain ⟨i2, e2, _, _⟩ := DataW.trod_int Try.underlying3 f2
    simp at e0 e1 e2
    exact ⟨⟨s, i1, i2⟩, by simp [e0, e1, e2, ndE], hs⟩
set_option maxRecDepth 100000 in
theorem ed_of_trod (h : DataW.trod enc Try.prog w base spare held fuel 43 cs = some x) : ∃ y : Ed, cs = edE.enc y ∧ True := by
  obtain ⟨xs, n, _, _, hl, hn, hf⟩ := DataW.trod_array Try.underlying43 h
  have e3 : Try.prog.cellsOf 3 = 1 := by kernel_rfl
  rw [show Try.prog.cellsOf 43 = 2 by kernel_rfl] at hl
  have f0 := hf 0 (by omega)
  have f1 := hf 1 (by omega)
  rw [e3] at f0 f1
  match xs, hn, cs, hl with
  | [y0, y1], _, [c0, c1], _ =>
    obtain ⟨i1, e1, _, _⟩ := DataW.trod_int Try.underlying3 (show DataW.trod enc Try.prog w base spare held n 3 _ = some y0 from f0)
    obtain ⟨i2, e2, _, _⟩ := DataW.trod_int Try.underlying3 (show DataW.trod enc Try.prog w base spare held n 3 _ = some y1 from f1)
    simp at e1 e2
    exact ⟨(i1, i2), by simp [e1, e2, edE], trivial⟩
set_option maxRecDepth 100000 in
/-- a layout that came in -/
theorem layout_of_trod (h : DataW.trod enc Try.prog w base spare held fuel 25 cs = some x) : ∃ a c a' c' ns es, cs = [.slice a (ns : List Nd).length c, .slice a' (es : List Ed).length c'] ∧ ndE.Rd w (.slice a ns.length c) ns ∧ edE.Rd w (.slice a' es.length c') es ∧ ∀ n ∈ ns, n.name.size ≤ maxLen := by
  obtain ⟨xs, n, _, _, hl, hn, hf⟩ := DataW.trod_struct Try.underlying25 h
  rw [show Try.prog.cellsOf 25 = 2 by kernel_rfl] at hl
  have e22 : Try.prog.cellsOf 22 = 1 := by kernel_rfl
  have e23 : Try.prog.cellsOf 23 = 1 := by kernel_rfl
  have f0 : DataW.trod enc Try.prog w base spare held n 22 ((cs.drop 0).take (Try.prog.cellsOf 22)) = xs[0]? := hf 0 _ rfl
  have f1 : DataW.trod enc Try.prog w base spare held n 23 ((cs.drop 1).take (Try.prog.cellsOf 23)) = xs[1]? := hf 1 _ rfl
  rw [e22] at f0
  rw [e23] at f1
  match xs, hn, cs, hl with
  | [y0, y1], _, [c0, c1], _ =>
    have g0 : ∃ a len cap, c0 = .slice a len cap := by
      rcases DataW.trod_slice Try.underlying22 f0 with ⟨h1, _⟩ | ⟨x0, len', cap', _, _, _, _, h1, _⟩
      · simp at h1; exact ⟨_, _, _, h1⟩
      · simp at h1; exact ⟨_, _, _, h1⟩
    have g1 : ∃ a len cap, c1 = .slice a len cap := by
      rcases DataW.trod_slice Try.underlying23 f1 with ⟨h1, _⟩ | ⟨x0, len', cap', _, _, _, _, h1, _⟩
      · simp at h1; exact ⟨_, _, _, h1⟩
      · simp at h1; exact ⟨_, _, _, h1⟩
    obtain ⟨a, len, c, rfl⟩ := g0
    obtain ⟨a', len', c', rfl⟩ := g1
    obtain ⟨ns, hn1, hn2, hn3⟩ := rd_of_trod ndE (fun y => y.name.size ≤ maxLen) (by kernel_rfl) (fun n cs y hy => nd_of_trod hy) f0 rfl
    obtain ⟨es, he1, he2, _⟩ := rd_of_trod edE (fun _ => True) (by kernel_rfl) (fun n cs y hy => ed_of_trod hy) f1 rfl
    subst hn1
    subst he1
    exact ⟨a, c, a', c', ns, es, rfl, hn2, he2, hn3⟩
end
end Go.Proofs.Ytmmkfcmbmecleaa
