/- Slices of bytes and settings that came in; bytes as a string. -/
import Derived.Test.YteihajppgooadaaEls
import Derived.Test.YteihajppgooadaaRowz
import Derived.Laws.BytesString
import Derived.Laws.BytesArg
namespace Go.Proofs.Yteihajppgooadaa
open Go.ChangeShapes Go.WideShapes Go.ChangeAt Go.RowKit

/-- the string of bytes -/
def str (l : List Int) : ByteArray := l.foldl (fun r n => r.push (UInt8.ofNat n.toNat)) ByteArray.empty
theorem str_size (l : List Int) : (str l).size = l.length := by
  have : ∀ (l : List Int) (r : ByteArray), (l.foldl (fun r n => r.push (UInt8.ofNat n.toNat)) r).size = r.size + l.length := by
    intro l
    induction l with
    | nil => intro r; simp
    | cons z l ih => intro r; rw [List.foldl_cons, ih]; simp [ByteArray.size_push]; omega
  unfold str
  rw [this]; simp

theorem rd_bytes {w : World} {v : Value} {l : List Int} (h : bytesE.Rd w v l) : (v = .slice none 0 0 ∧ l = []) ∨ ∃ x cap, v = .slice (some x) l.length cap ∧ ∀ i, i < l.length → w.cell? (x.add i) = some (.int .u8 (l[i]?.getD 0)) := by
  rcases h with h | ⟨x, cap, h1, h2⟩
  · exact .inl h
  · refine .inr ⟨x, cap, h1, fun i hi => ?_⟩
    have := h2 i (by rw [show bytesE.k = 1 from rfl]; omega)
    rw [this]
    have e := bytesE.fl_at l i 0 (l[i]) (List.getElem?_eq_getElem hi) (by rw [show bytesE.k = 1 from rfl]; omega)
    rw [show bytesE.k = 1 from rfl, Nat.mul_one, Nat.add_zero] at e
    rw [e, List.getElem?_eq_getElem hi]
    rfl

theorem conv_str {w : World} {v : Value} {l : List Int} (h : bytesE.Rd w v l) : (convert 36 9 v).run Try.prog w = .ok (.string (str l)) w := by
  rcases rd_bytes h with ⟨rfl, rfl⟩ | ⟨x, cap, rfl, hc⟩
  · exact run_convert_bytes_nil (P := Try.prog) w 36 5 Try.underlying36 Try.underlying5 0 0 9 Try.underlying9
  · have hl : (loadCells x l.length).run Try.prog w = .ok (l.map (Value.int .u8)).toArray w := by
      have := run_loadCells_list (P := Try.prog) w x (l.map (Value.int .u8)) (fun j y hy => by
        have hj : j < l.length := by
          rcases Nat.lt_or_ge j l.length with h | h
          · exact h
          · simp [List.getElem?_eq_none h] at hy
        rw [hc j hj]; simpa [hj] using hy)
      simpa using this
    rw [run_convert_bytes_string (P := Try.prog) w 36 9 5 _ _ _ Try.underlying36 Try.underlying5 Try.underlying9, run_bytesToString w x _ cap l hl]
    rfl

/-- a slice of bytes that came in -/
def Isb (w : World) (v : Value) (l : List Int) : Prop := ∃ a cap, v = .slice a l.length cap ∧ bytesE.Rd w v l ∧ l.length ≤ cap ∧ cap ≤ maxLen

section
variable {H : Type} {enc : TypeId × Value → H} {w : World} {base : Nat} {spare : Nat → Bool} {held : Bool} {fuel : Nat} {cs : List Value} {x : DataW H × List MemPlace}

theorem bytes_of_trod (h : DataW.trod enc Try.prog w base spare held fuel 36 cs = some x) : ∃ v l, cs = [v] ∧ Isb w v l := by
  have e5 : Try.prog.cellsOf 5 = 1 := by kernel_rfl
  rcases DataW.trod_slice Try.underlying36 h with ⟨h1, _⟩ | ⟨x0, len, cap, elems, rest, n, _, h1, _, _, hl, hc, he, hr, _⟩
  · exact ⟨_, [], h1, none, 0, rfl, .inl ⟨rfl, rfl⟩, Nat.le_refl _, Nat.zero_le _⟩
  · rw [e5] at hr
    have one : ∀ i, i < len → ∃ z : Int, w.cell? (x0.add i) = some (.int .u8 z) := by
      intro i hi
      have hi' : i < elems.length := by omega
      have h2 := hr i hi
      rw [List.getElem?_eq_getElem hi'] at h2
      obtain ⟨cs', h3, h4⟩ := Option.bind_eq_some_iff.1 h2
      obtain ⟨z, hz, _⟩ := DataW.trod_int Try.underlying5 h4
      obtain ⟨_, _, h5⟩ := World.cells?_some h3
      refine ⟨z, ?_⟩
      have := h5 0 (by omega)
      rw [hz] at this
      simpa [Addr.add] using this
    have all : ∀ m, m ≤ len → ∃ l : List Int, l.length = m ∧ ∀ (i : Nat), i < m → w.cell? (x0.add i) = some (.int .u8 (l[i]?.getD 0)) := by
      intro m
      induction m with
      | zero => intro _; exact ⟨[], rfl, by simp⟩
      | succ m ih =>
        intro hm
        obtain ⟨l, h1, h2⟩ := ih (by omega)
        obtain ⟨z, hz⟩ := one m (by omega)
        refine ⟨l ++ [z], by simp [h1], fun i hi => ?_⟩
        rcases Nat.lt_or_ge i m with h' | h'
        · rw [List.getElem?_append_left (by omega)]; exact h2 i h'
        · have : i = m := by omega
          subst this
          rw [List.getElem?_append_right (by omega), h1]; simpa using hz
    obtain ⟨l, h2, h3⟩ := all len (Nat.le_refl _)
    subst h2
    refine ⟨_, l, h1, some x0, cap, rfl, .inr ⟨x0, cap, rfl, fun i hi => ?_⟩, hl, hc⟩
    rw [show bytesE.k = 1 from rfl, Nat.mul_one] at hi
    rw [h3 i hi]
    have e := bytesE.fl_at l i 0 (l[i]) (List.getElem?_eq_getElem hi) (by rw [show bytesE.k = 1 from rfl]; omega)
    rw [show bytesE.k = 1 from rfl, Nat.mul_one, Nat.add_zero] at e
    rw [e, List.getElem?_eq_getElem hi]
    rfl

theorem list_of {β : Type} (R : Nat → β → Prop) (len : Nat) (h : ∀ i, i < len → ∃ y, R i y) : ∃ ys : List β, ys.length = len ∧ ∀ (i : Nat) (y : β), ys[i]? = some y → R i y := by
  induction len with
  | zero => exact ⟨[], rfl, by simp⟩
  | succ m ih =>
    obtain ⟨ys, h1, h2⟩ := ih (fun i hi => h i (by omega))
    obtain ⟨y, hy⟩ := h m (by omega)
    refine ⟨ys ++ [y], by simp [h1], fun i u hu => ?_⟩
    rcases Nat.lt_or_ge i m with h' | h'
    · rw [List.getElem?_append_left (by omega)] at hu; exact h2 i u hu
    · rw [List.getElem?_append_right (by omega)] at hu
      have : i = m := by
        rcases Nat.lt_or_ge i (m + 1) with h'' | h''
        · omega
        · rw [List.getElem?_eq_none (by simp; omega)] at hu; cases hu
      subst this
      rw [h1] at hu
      simp at hu
      subst hu
      exact hy

set_option maxRecDepth 100000 in
theorem how_of_trod (h : DataW.trod enc Try.prog w base spare held fuel 24 cs = some x) :
    ∃ x0 x1 x2 x3 : Int, (0 ≤ x3 ∧ x3 ≤ 65535) ∧ cs = [.int .i64 x0, .int .i64 x1, .int .i64 x2, .int .u16 x3] := by
  obtain ⟨xs, n, _, _, hl, hn, hf⟩ := DataW.trod_struct Try.underlying24 h
  rw [show Try.prog.cellsOf 24 = 4 by kernel_rfl] at hl
  have e3 : Try.prog.cellsOf 3 = 1 := by kernel_rfl
  have e22 : Try.prog.cellsOf 22 = 1 := by kernel_rfl
  have f0 : DataW.trod enc Try.prog w base spare held n 3 ((cs.drop 0).take (Try.prog.cellsOf 3)) = xs[0]? := hf 0 _ rfl
  have f1 : DataW.trod enc Try.prog w base spare held n 3 ((cs.drop 1).take (Try.prog.cellsOf 3)) = xs[1]? := hf 1 _ rfl
  have f2 : DataW.trod enc Try.prog w base spare held n 3 ((cs.drop 2).take (Try.prog.cellsOf 3)) = xs[2]? := hf 2 _ rfl
  have f3 : DataW.trod enc Try.prog w base spare held n 22 ((cs.drop 3).take (Try.prog.cellsOf 22)) = xs[3]? := hf 3 _ rfl
  rw [e3] at f0 f1 f2
  rw [e22] at f3
  match xs, hn, cs, hl with
  | [y0, y1, y2, y3], _, [c0, c1, c2, c3], _ =>
    obtain ⟨i0, e0, _, g0⟩ := DataW.trod_int Try.underlying3 f0
    obtain ⟨i1, e1, _, g1⟩ := DataW.trod_int Try.underlying3 f1
    obtain ⟨i2, e2, _, g2⟩ := DataW.trod_int Try.underlying3 f2
    obtain ⟨i3, e3, _, g3⟩ := DataW.trod_int Try.underlying22 f3
    simp at e0 e1 e2 e3
    exact ⟨i0, i1, i2, i3, bounds_u16 g3, by simp [e0, e1, e2, e3]⟩
end
end Go.Proofs.Yteihajppgooadaa
