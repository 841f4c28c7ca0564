/- Slices of bytes, slices of such slices and slices of calls that came in; bytes as a string. -/
import Derived.Test.YtmbgcbbpkbaajaaEls
import Derived.Test.YtmbgcbbpkbaajaaRowz
import Derived.Laws.BytesString
import Derived.Laws.BytesArg
namespace Go.Proofs.Ytmbgcbbpkbaajaa
open Go.ChangeShapes Go.WideShapes Go.ChangeAt Go.RowKit

/-- the string of bytes -/
def str (l : List Int) : ByteArray := l.foldl (fun r n => r.push (UInt8.ofNat n.toNat)) ByteArray.empty
theorem str_size (l : List Int) : (str l).size = l.length := by
  have : ∀ (l : List Int) (r : ByteArray), (l.foldl (fun r n => r.push (UInt8.ofNat n.toNat)) r).size = r.size + l.length := by
    intro l
    induction l with
    | nil => intro r; simp
    | cons z l ih => intro r; rw [List.foldl_cons, ih]; simp [ByteArray.size_push]; omega
  unfold str
  rw [this]; simp

theorem rd_bytes {w : World} {v : Value} {l : List Int} (h : bytesE.Rd w v l) : (v = .slice none 0 0 ∧ l = []) ∨ ∃ x cap, v = .slice (some x) l.length cap ∧ ∀ i, i < l.length → w.cell? (x.add i) = some (.int .u8 (l[i]?.getD 0)) := by
  rcases h with h | ⟨x, cap, h1, h2⟩
  · exact .inl h
  · refine .inr ⟨x, cap, h1, fun i hi => ?_⟩
    have := h2 i (by rw [show bytesE.k = 1 from rfl]; omega)
    rw [this]
    have e := bytesE.fl_at l i 0 (l[i]) (List.getElem?_eq_getElem hi) (by rw [show bytesE.k = 1 from rfl]; omega)
    rw [show bytesE.k = 1 from rfl, Nat.mul_one, Nat.add_zero] at e
    rw [e, List.getElem?_eq_getElem hi]
    rfl

theorem conv_str {w : World} {v : Value} {l : List Int} (h : bytesE.Rd w v l) : (convert 33 9 v).run Try.prog w = .ok (.string (str l)) w := by
  rcases rd_bytes h with ⟨rfl, rfl⟩ | ⟨x, cap, rfl, hc⟩
  · exact run_convert_bytes_nil (P := Try.prog) w 33 5 Try.underlying33 Try.underlying5 0 0 9 Try.underlying9
  · have hl : (loadCells x l.length).run Try.prog w = .ok (l.map (Value.int .u8)).toArray w := by
      have := run_loadCells_list (P := Try.prog) w x (l.map (Value.int .u8)) (fun j y hy => by
        have hj : j < l.length := by
          rcases Nat.lt_or_ge j l.length with h | h
          · exact h
          · simp [List.getElem?_eq_none h] at hy
        rw [hc j hj]; simpa [hj] using hy)
      simpa using this
    rw [run_convert_bytes_string (P := Try.prog) w 33 9 5 _ _ _ Try.underlying33 Try.underlying5 Try.underlying9, run_bytesToString w x _ cap l hl]
    rfl

/-- a slice of bytes that came in -/
def Isb (w : World) (v : Value) (l : List Int) : Prop := ∃ a cap, v = .slice a l.length cap ∧ bytesE.Rd w v l ∧ l.length ≤ cap ∧ cap ≤ maxLen

section
variable {H : Type} {enc : TypeId × Value → H} {w : World} {base : Nat} {spare : Nat → Bool} {held : Bool} {fuel : Nat} {cs : List Value} {x : DataW H × List MemPlace}

theorem bytes_of_trod (h : DataW.trod enc Try.prog w base spare held fuel 33 cs = some x) : ∃ v l, cs = [v] ∧ Isb w v l := by
  have e5 : Try.prog.cellsOf 5 = 1 := by kernel_rfl
  rcases DataW.trod_slice Try.underlying33 h with ⟨h1, _⟩ | ⟨x0, len, cap, elems, rest, n, _, h1, _, _, hl, hc, he, hr, _⟩
  · exact ⟨_, [], h1, none, 0, rfl, .inl ⟨rfl, rfl⟩, Nat.le_refl _, Nat.zero_le _⟩
  · rw [e5] at hr
    have one : ∀ i, i < len → ∃ z : Int, w.cell? (x0.add i) = some (.int .u8 z) := by
      intro i hi
      have hi' : i < elems.length := by omega
      have h2 := hr i hi
      rw [List.getElem?_eq_getElem hi'] at h2
      obtain ⟨cs', h3, h4⟩ := Option.bind_eq_some_iff.1 h2
      obtain ⟨z, hz, _⟩ := DataW.trod_int Try.underlying5 h4
      obtain ⟨_, _, h5⟩ := World.cells?_some h3
      refine ⟨z, ?_⟩
      have := h5 0 (by omega)
      rw [hz] at this
      simpa [Addr.add] using this
    have all : ∀ m, m ≤ len → ∃ l : List Int, l.length = m ∧ ∀ (i : Nat), i < m → w.cell? (x0.add i) = some (.int .u8 (l[i]?.getD 0)) := by
      intro m
      induction m with
      | zero => intro _; exact ⟨[], rfl, by simp⟩
      | succ m ih =>
        intro hm
        obtain ⟨l, h1, h2⟩ := ih (by omega)
        obtain ⟨z, hz⟩ := one m (by omega)
        refine ⟨l ++ [z], by simp [h1], fun i hi => ?_⟩
        rcases Nat.lt_or_ge i m with h' | h'
        · rw [List.getElem?_append_left (by omega)]; exact h2 i h'
        · have : i = m := by omega
          subst this
          rw [List.getElem?_append_right (by omega), h1]; simpa using hz
    obtain ⟨l, h2, h3⟩ := all len (Nat.le_refl _)
    subst h2
    refine ⟨_, l, h1, some x0, cap, rfl, .inr ⟨x0, cap, rfl, fun i hi => ?_⟩, hl, hc⟩
    rw [show bytesE.k = 1 from rfl, Nat.mul_one] at hi
    rw [h3 i hi]
    have e := bytesE.fl_at l i 0 (l[i]) (List.getElem?_eq_getElem hi) (by rw [show bytesE.k = 1 from rfl]; omega)
    rw [show bytesE.k = 1 from rfl, Nat.mul_one, Nat.add_zero] at e
    rw [e, List.getElem?_eq_getElem hi]
    rfl

theorem list_of {β : Type} (R : Nat → β → Prop) (len : Nat) (h : ∀ i, i < len → ∃ y, R i y) : ∃ ys : List β, ys.length = len ∧ ∀ (i : Nat) (y : β), ys[i]? = some y → R i y := by
  induction len with
  | zero => exact ⟨[], rfl, by simp⟩
  | succ m ih =>
    obtain ⟨ys, h1, h2⟩ := ih (fun i hi => h i (by omega))
    obtain ⟨y, hy⟩ := h m (by omega)
    refine ⟨ys ++ [y], by simp [h1], fun i u hu => ?_⟩
    rcases Nat.lt_or_ge i m with h' | h'
    · rw [List.getElem?_append_left (by omega)] at hu; exact h2 i u hu
    · rw [List.getElem?_append_right (by omega)] at hu
      have : i = m := by
        rcases Nat.lt_or_ge i (m + 1) with h'' | h''
        · omega
        · rw [List.getElem?_eq_none (by simp; omega)] at hu; cases hu
      subst this
      rw [h1] at hu
      simp at hu
      subst hu
      exact hy

/-- a slice of slices of bytes that came in -/
def IsBss (w : World) (a : Option Addr) (len : Nat) (ls : List (List Int)) : Prop :=
  ls.length = len ∧ ∀ (i : Nat) (l : List Int), ls[i]? = some l → ∃ b off v, a = some ⟨b, off, none⟩ ∧ b < w.heap.size ∧ w.cell? ⟨b, off + i, none⟩ = some v ∧ Isb w v l
/-- a slice of calls that came in -/
def IsOps (w : World) (a : Option Addr) (len : Nat) (os : List (Bool × Int × List Int)) : Prop :=
  os.length = len ∧ ∀ (i : Nat) (o : Bool × Int × List Int), os[i]? = some o → (0 ≤ o.2.1 ∧ o.2.1 ≤ 65535) ∧ ∃ b off v, a = some ⟨b, off, none⟩ ∧ b < w.heap.size ∧ w.cell? ⟨b, off + i * 3, none⟩ = some (.bool o.1) ∧ w.cell? ⟨b, off + i * 3 + 1, none⟩ = some (.int .u16 o.2.1) ∧ w.cell? ⟨b, off + i * 3 + 2, none⟩ = some v ∧ Isb w v o.2.2

theorem bss_of_trod {a : Option Addr} {len cap : Nat} (h : DataW.trod enc Try.prog w base spare held fuel 49 cs = some x) (hcs : cs = [.slice a len cap]) : (∃ ls, IsBss w a len ls) ∧ len ≤ maxLen := by
  have e33 : Try.prog.cellsOf 33 = 1 := by kernel_rfl
  rcases DataW.trod_slice Try.underlying49 h with ⟨h1, _⟩ | ⟨x0, len', cap', elems, rest, n, _, h1, _, _, hl, hcm, he, hr, _⟩
  · rw [hcs] at h1
    simp at h1
    obtain ⟨rfl, rfl, rfl⟩ := h1
    exact ⟨⟨[], rfl, by simp⟩, Nat.zero_le _⟩
  · rw [hcs] at h1
    simp at h1
    obtain ⟨rfl, rfl, rfl⟩ := h1
    rw [e33] at hr
    refine ⟨?_, by omega⟩
    refine list_of _ len (fun i hi => ?_)
    have hi' : i < elems.length := by omega
    have h2 := hr i hi
    rw [List.getElem?_eq_getElem hi'] at h2
    obtain ⟨cs', h3, h4⟩ := Option.bind_eq_some_iff.1 h2
    obtain ⟨v, l, hv, hb⟩ := bytes_of_trod h4
    obtain ⟨_, _, h5⟩ := World.cells?_some h3
    have h6 := h5 0 (by omega)
    rw [hv] at h6
    have h7 : w.cell? (x0.add i) = some v := by simpa [Addr.add] using h6
    have h8 : ∃ v0, w.cell? (x0.add 0) = some v0 := by
      have h2 := hr 0 (by omega)
      rw [List.getElem?_eq_getElem (by omega)] at h2
      obtain ⟨cs', h3, h4⟩ := Option.bind_eq_some_iff.1 h2
      obtain ⟨v, l, hv, hb⟩ := bytes_of_trod h4
      obtain ⟨_, _, h5⟩ := World.cells?_some h3
      have h6 := h5 0 (by omega)
      rw [hv] at h6
      exact ⟨v, by simpa [Addr.add] using h6⟩
    obtain ⟨b, off, spot⟩ := x0
    obtain ⟨v0, hv0⟩ := h8
    have hspot : spot = none := by simpa [Addr.add] using World.cell?_spot hv0
    subst hspot
    rw [add_plain] at h7
    exact ⟨l, b, off, v, rfl, cell_lt h7, h7, hb⟩

theorem op_of_trod (h : DataW.trod enc Try.prog w base spare held fuel 35 cs = some x) : ∃ g s v l, cs = [.bool g, .int .u16 s, v] ∧ (0 ≤ s ∧ s ≤ 65535) ∧ Isb w v l := by
  obtain ⟨xs, n, _, _, hl, hn, hf⟩ := DataW.trod_struct Try.underlying35 h
  rw [show Try.prog.cellsOf 35 = 3 by kernel_rfl] at hl
  have e4 : Try.prog.cellsOf 4 = 1 := by kernel_rfl
  have e22 : Try.prog.cellsOf 22 = 1 := by kernel_rfl
  have e33 : Try.prog.cellsOf 33 = 1 := by kernel_rfl
  have f0 : DataW.trod enc Try.prog w base spare held n 4 ((cs.drop 0).take (Try.prog.cellsOf 4)) = xs[0]? := hf 0 _ rfl
  have f1 : DataW.trod enc Try.prog w base spare held n 22 ((cs.drop 1).take (Try.prog.cellsOf 22)) = xs[1]? := hf 1 _ rfl
  have f2 : DataW.trod enc Try.prog w base spare held n 33 ((cs.drop 2).take (Try.prog.cellsOf 33)) = xs[2]? := hf 2 _ rfl
  rw [e4] at f0
  rw [e22] at f1
  rw [e33] at f2
  match xs, hn, cs, hl with
  | [y0, y1, y2], _, [c0, c1, c2], _ =>
    obtain ⟨g, e0, _⟩ := DataW.trod_bool Try.underlying4 f0
    obtain ⟨s, e1, _, g1⟩ := DataW.trod_int Try.underlying22 f1
    obtain ⟨v, l, e2, hb⟩ := bytes_of_trod f2
    simp at e0 e1 e2
    refine ⟨g, s, v, l, ?_, bounds_u16 g1, hb⟩
    simp [e0, e1, e2]

theorem ops_of_trod {a : Option Addr} {len cap : Nat} (h : DataW.trod enc Try.prog w base spare held fuel 23 cs = some x) (hcs : cs = [.slice a len cap]) : (∃ os, IsOps w a len os) ∧ len ≤ maxLen := by
  have e35 : Try.prog.cellsOf 35 = 3 := by kernel_rfl
  rcases DataW.trod_slice Try.underlying23 h with ⟨h1, _⟩ | ⟨x0, len', cap', elems, rest, n, _, h1, _, _, hl, hcm, he, hr, _⟩
  · rw [hcs] at h1
    simp at h1
    obtain ⟨rfl, rfl, rfl⟩ := h1
    exact ⟨⟨[], rfl, by simp⟩, Nat.zero_le _⟩
  · rw [hcs] at h1
    simp at h1
    obtain ⟨rfl, rfl, rfl⟩ := h1
    rw [e35] at hr
    have one : ∀ i, i < len → ∃ g s v l, (0 ≤ s ∧ s ≤ 65535) ∧ Isb w v l ∧ w.cell? ((x0.add (i * 3)).add 0) = some (.bool g) ∧ w.cell? ((x0.add (i * 3)).add 1) = some (.int .u16 s) ∧ w.cell? ((x0.add (i * 3)).add 2) = some v := by
      intro i hi
      have hi' : i < elems.length := by omega
      have h2 := hr i hi
      rw [List.getElem?_eq_getElem hi'] at h2
      obtain ⟨cs', h3, h4⟩ := Option.bind_eq_some_iff.1 h2
      obtain ⟨g, s, v, l, hv, hs, hb⟩ := op_of_trod h4
      obtain ⟨_, _, h5⟩ := World.cells?_some h3
      subst hv
      exact ⟨g, s, v, l, hs, hb, h5 0 (by omega), h5 1 (by omega), h5 2 (by omega)⟩
    refine ⟨?_, by omega⟩
    refine list_of _ len (fun i hi => ?_)
    obtain ⟨b, off, spot⟩ := x0
    obtain ⟨_, _, _, _, _, _, z0, _, _⟩ := one 0 (by omega)
    have hspot : spot = none := by simpa [Addr.add] using World.cell?_spot z0
    subst hspot
    obtain ⟨g, s, v, l, hs, hb, k0, k1, k2⟩ := one i hi
    rw [add_plain, add_plain] at k0 k1 k2
    exact ⟨(g, s, l), hs, b, off, v, rfl, cell_lt k1, k0, k1, k2, hb⟩
end
end Go.Proofs.Ytmbgcbbpkbaajaa
