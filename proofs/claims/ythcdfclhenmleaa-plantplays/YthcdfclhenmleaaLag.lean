/- Numbers, lists of numbers and calls that came in. -/
import Derived.Test.YthcdfclhenmleaaCba
import Derived.SizedLaws
import Derived.ChangeOld
import Derived.Deep.RegionWith
namespace Go.Proofs.Ythcdfclhenmleaa
open Go.ChangeShapes Go.WideShapes Go.ChangeAt Go.RowKit
set_option linter.unusedVariables false

theorem list_of {β : Type} (R : Nat → β → Prop) (len : Nat) (h : ∀ i, i < len → ∃ y, R i y) : ∃ ys : List β, ys.length = len ∧ ∀ (i : Nat) (y : β), ys[i]? = some y → R i y := by
  induction len with
  | zero => exact ⟨[], rfl, by simp⟩
  | succ m ih =>
    obtain ⟨ys, h1, h2⟩ := ih (fun i hi => h i (by omega))
    obtain ⟨y, hy⟩ := h m (by omega)
    refine ⟨ys ++ [y], by simp [h1], fun i u hu => ?_⟩
    rcases Nat.lt_or_ge i m with h' | h'
    · rw [List.getElem?_append_left (by omega)] at hu; exact h2 i u hu
    · rw [List.getElem?_append_right (by omega)] at hu
      have : i = m := by
        rcases Nat.lt_or_ge i (m + 1) with h'' | h''
        · omega
        · rw [List.getElem?_eq_none (by simp; omega)] at hu; cases hu
      subst this
      rw [h1] at hu
      simp at hu
      subst hu
      exact hy

section
variable {H : Type} {enc : TypeId × Value → H} {w : World} {base : Nat} {spare : Nat → Bool} {held : Bool} {fuel : Nat} {cs : List Value} {x : DataW H × List MemPlace}
theorem rd_of_trod {α : Type} (E : El Try.prog α) (Q : α → Prop) (hc : Try.prog.cellsOf E.e = E.k)
    (elem : ∀ (n : Nat) (cs : List Value) (y : DataW H × List MemPlace), DataW.trod enc Try.prog w base spare held n E.e cs = some y → ∃ x : α, cs = E.enc x ∧ Q x)
    {a : Option Addr} {len cap : Nat} (h : DataW.trod enc Try.prog w base spare held fuel E.t cs = some x) (hcs : cs = [.slice a len cap]) :
    ∃ xs : List α, xs.length = len ∧ E.Rd w (.slice a len cap) xs ∧ ∀ y ∈ xs, Q y := by
  rcases DataW.trod_slice E.ht h with ⟨h1, _⟩ | ⟨x0, len', cap', elems, rest, n, _, h1, _, _, hl, hcm, he, hr, _⟩
  · rw [hcs] at h1
    simp at h1
    obtain ⟨rfl, rfl, rfl⟩ := h1
    exact ⟨[], rfl, .inl ⟨rfl, rfl⟩, by simp⟩
  · rw [hcs] at h1
    simp at h1
    obtain ⟨rfl, rfl, rfl⟩ := h1
    rw [hc] at hr
    have one : ∀ i, i < len → ∃ y : α, Q y ∧ ∀ j, j < E.k → w.cell? ((x0.add (i * E.k)).add j) = (E.enc y)[j]? := by
      intro i hi
      have hi' : i < elems.length := by omega
      have h2 := hr i hi
      rw [List.getElem?_eq_getElem hi'] at h2
      obtain ⟨cs', h3, h4⟩ := Option.bind_eq_some_iff.1 h2
      obtain ⟨y, hy, hq⟩ := elem _ _ _ h4
      obtain ⟨_, _, h5⟩ := World.cells?_some h3
      subst hy
      exact ⟨y, hq, fun j hj => by rw [h5 j (by omega)]⟩
    obtain ⟨ys, hy1, hy2⟩ := list_of _ len one
    refine ⟨ys, hy1, .inr ⟨x0, cap, by rw [hy1], fun q hq => ?_⟩, fun y hy => ?_⟩
    · have hk := E.kpos
      have hpos : 0 < len := by
        rcases Nat.eq_zero_or_pos len with h0 | h0
        · rw [hy1, h0, Nat.zero_mul] at hq; omega
        · exact h0
      have hspot : x0.spot = none := by
        obtain ⟨y, _, z⟩ := one 0 hpos
        have z0 := z 0 hk
        have : (E.enc y)[0]? = some ((E.enc y)[0]'(by rw [E.len]; exact hk)) := List.getElem?_eq_getElem _
        rw [this] at z0
        simpa [Addr.add] using World.cell?_spot z0
      obtain ⟨b, off, spot⟩ := x0
      simp only at hspot
      subst hspot
      have hi : q / E.k < ys.length := (Nat.div_lt_iff_lt_mul hk).2 hq
      have hj : q % E.k < E.k := Nat.mod_lt _ hk
      have e : q / E.k * E.k + q % E.k = q := by rw [Nat.mul_comm]; exact Nat.div_add_mod q E.k
      have hx := hy2 (q / E.k) ys[q / E.k] (List.getElem?_eq_getElem hi)
      have := hx.2 (q % E.k) hj
      rw [addr_plain, addr_plain, Nat.add_assoc, e] at this
      have e5 := E.fl_at ys (q / E.k) (q % E.k) ys[q / E.k] (List.getElem?_eq_getElem hi) hj
      rw [e] at e5
      rw [addr_plain, this, e5]
    · obtain ⟨i, hi⟩ := List.mem_iff_getElem?.1 hy
      exact (hy2 i y hi).1
theorem int_of_trod (h : DataW.trod enc Try.prog w base spare held fuel 3 cs = some x) : ∃ y : Int, cs = intE.enc y ∧ (Lit.int .i64 y).wf = true := by
  obtain ⟨i, e, _, q⟩ := DataW.trod_int Try.underlying3 h
  exact ⟨i, e, q⟩
def I64 (x : Int) : Prop := -9223372036854775808 ≤ x ∧ x ≤ 9223372036854775807
theorem I64.wf {x : Int} (h : I64 x) : (Lit.int .i64 x).wf = true := by
  unfold I64 at h
  simp [Lit.wf, IntKind.min, IntKind.max, IntKind.bits, IntKind.signed]; omega
theorem I64.of {x : Int} (h : (Lit.int .i64 x).wf = true) : I64 x := by
  unfold I64
  simp [Lit.wf, IntKind.min, IntKind.max, IntKind.bits, IntKind.signed] at h; omega
end
/-- a number turned into one of a few -/
theorem few (x : Int) (m : Int) (hm : 1 ≤ m ∧ m ≤ 100) : ∃ k : Nat, wrap64 ((IntKind.u64.wrap x).tmod m) = (k : Int) ∧ (k : Int) < m := by
  have h0 : 0 ≤ IntKind.u64.wrap x := by simp [IntKind.wrap, IntKind.bits, IntKind.signed]; omega
  have e : (IntKind.u64.wrap x).tmod m = IntKind.u64.wrap x % m := Int.tmod_eq_emod_of_nonneg h0
  rw [e]
  generalize IntKind.u64.wrap x = b at h0
  have h1 := Int.emod_nonneg b (show m ≠ 0 by omega)
  have h2 := Int.emod_lt_of_pos b (show 0 < m by omega)
  obtain ⟨k, hk⟩ := Int.eq_ofNat_of_zero_le h1
  refine ⟨k, ?_, by omega⟩
  rw [hk]
  unfold wrap64
  omega
end Go.Proofs.Ythcdfclhenmleaa
