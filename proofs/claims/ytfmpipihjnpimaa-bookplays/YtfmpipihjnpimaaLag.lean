/- Numbers, lists of numbers and calls that came in. -/
import Derived.Test.YtfmpipihjnpimaaCba
import Derived.Test.YtfmpipihjnpimaaBmt
import Derived.SizedLaws
import Derived.ChangeOld
import Derived.Deep.RegionWith
namespace Go.Proofs.Ytfmpipihjnpimaa
open Go.ChangeShapes Go.WideShapes Go.ChangeAt Go.RowKit
set_option linter.unusedVariables false

theorem list_of {β : Type} (R : Nat → β → Prop) (len : Nat) (h : ∀ i, i < len → ∃ y, R i y) : ∃ ys : List β, ys.length = len ∧ ∀ (i : Nat) (y : β), ys[i]? = some y → R i y := by
  induction len with
  | zero => exact ⟨[], rfl, by simp⟩
  | succ m ih =>
    obtain ⟨ys, h1, h2⟩ := ih (fun i hi => h i (by omega))
    obtain ⟨y, hy⟩ := h m (by omega)
    refine ⟨ys ++ [y], by simp [h1], fun i u hu => ?_⟩
    rcases Nat.lt_or_ge i m with h' | h'
    · rw [List.getElem?_append_left (by omega)] at hu; exact h2 i u hu
    · rw [List.getElem?_append_right (by omega)] at hu
      have : i = m := by
        rcases Nat.lt_or_ge i (m + 1) with h'' | h''
        · omega
        · rw [List.getElem?_eq_none (by simp; omega)] at hu; cases hu
      subst this
      rw [h1] at hu
      simp at hu
      subst hu
      exact hy

section
variable {H : Type} {enc : TypeId × Value → H} {w : World} {base : Nat} {spare : Nat → Bool} {held : Bool} {fuel : Nat} {cs : List Value} {x : DataW H × List MemPlace}
theorem rd_of_trod {α : Type} (E : El Try.prog α) (Q : α → Prop) (hc : Try.prog.cellsOf E.e = E.k)
    (elem : ∀ (n : Nat) (cs : List Value) (y : DataW H × List MemPlace), DataW.trod enc Try.prog w base spare held n E.e cs = some y → ∃ x : α, cs = E.enc x ∧ Q x)
    {a : Option Addr} {len cap : Nat} (h : DataW.trod enc Try.prog w base spare held fuel E.t cs = some x) (hcs : cs = [.slice a len cap]) :
    ∃ xs : List α, xs.length = len ∧ E.Rd w (.slice a len cap) xs ∧ ∀ y ∈ xs, Q y := by
  rcases DataW.trod_slice E.ht h with ⟨h1, _⟩ | ⟨x0, len', cap', elems, rest, n, _, h1, _, _, hl, hcm, he, hr, _⟩
  · rw [hcs] at h1
    simp at h1
    obtain ⟨rfl, rfl, rfl⟩ := h1
    exact ⟨[], rfl, .inl ⟨rfl, rfl⟩, by simp⟩
  · rw [hcs] at h1
    simp at h1
    obtain ⟨rfl, rfl, rfl⟩ := h1
    rw [hc] at hr
    have one : ∀ i, i < len → ∃ y : α, Q y ∧ ∀ j, j < E.k → w.cell? ((x0.add (i * E.k)).add j) = (E.enc y)[j]? := by
      intro i hi
      have hi' : i < elems.length := by omega
      have h2 := hr i hi
      rw [List.getElem?_eq_getElem hi'] at h2
      obtain ⟨cs', h3, h4⟩ := Option.bind_eq_some_iff.1 h2
      obtain ⟨y, hy, hq⟩ := elem _ _ _ h4
      obtain ⟨_, _, h5⟩ := World.cells?_some h3
      subst hy
      exact ⟨y, hq, fun j hj => by rw [h5 j (by omega)]⟩
    obtain ⟨ys, hy1, hy2⟩ := list_of _ len one
    refine ⟨ys, hy1, .inr ⟨x0, cap, by rw [hy1], fun q hq => ?_⟩, fun y hy => ?_⟩
    · have hk := E.kpos
      have hpos : 0 < len := by
        rcases Nat.eq_zero_or_pos len with h0 | h0
        · rw [hy1, h0, Nat.zero_mul] at hq; omega
        · exact h0
      have hspot : x0.spot = none := by
        obtain ⟨y, _, z⟩ := one 0 hpos
        have z0 := z 0 hk
        have : (E.enc y)[0]? = some ((E.enc y)[0]'(by rw [E.len]; exact hk)) := List.getElem?_eq_getElem _
        rw [this] at z0
        simpa [Addr.add] using World.cell?_spot z0
      obtain ⟨b, off, spot⟩ := x0
      simp only at hspot
      subst hspot
      have hi : q / E.k < ys.length := (Nat.div_lt_iff_lt_mul hk).2 hq
      have hj : q % E.k < E.k := Nat.mod_lt _ hk
      have e : q / E.k * E.k + q % E.k = q := by rw [Nat.mul_comm]; exact Nat.div_add_mod q E.k
      have hx := hy2 (q / E.k) ys[q / E.k] (List.getElem?_eq_getElem hi)
      have := hx.2 (q % E.k) hj
      rw [addr_plain, addr_plain, Nat.add_assoc, e] at this
      have e5 := E.fl_at ys (q / E.k) (q % E.k) ys[q / E.k] (List.getElem?_eq_getElem hi) hj
      rw [e] at e5
      rw [addr_plain, this, e5]
    · obtain ⟨i, hi⟩ := List.mem_iff_getElem?.1 hy
      exact (hy2 i y hi).1
theorem int_of_trod (h : DataW.trod enc Try.prog w base spare held fuel 3 cs = some x) : ∃ y : Int, cs = intE.enc y ∧ (Lit.int .i64 y).wf = true := by
  obtain ⟨i, e, _, q⟩ := DataW.trod_int Try.underlying3 h
  exact ⟨i, e, q⟩
/-- a call of a script -/
structure Op where
  kind : Int
  r : Rq
def opE : El Try.prog Op where
  t := 22
  e := 33
  k := 4
  by' := 32
  z := .agg #[.int .i64 0, .int .i64 0, .int .i64 0, .int .i64 0]
  enc x := [.int .i64 x.kind, .int .i64 x.r.id, .int .i64 x.r.st, .int .i64 x.r.tt]
  ht := Try.underlying22
  info := by kernel_rfl
  zc := rfl
  kpos := by omega
  bsm := by omega
  len _ := rfl
  one x v hv := by simp at hv; rcases hv with rfl | rfl | rfl | rfl <;> rfl
theorem I64.wf {x : Int} (h : I64 x) : (Lit.int .i64 x).wf = true := by
  unfold I64 at h
  simp [Lit.wf, IntKind.min, IntKind.max, IntKind.bits, IntKind.signed]; omega
theorem I64.of {x : Int} (h : (Lit.int .i64 x).wf = true) : I64 x := by
  unfold I64
  simp [Lit.wf, IntKind.min, IntKind.max, IntKind.bits, IntKind.signed] at h; omega
def Ops (w : World) (v : Value) (os : List Op) : Prop := opE.Rd w v os ∧ ∀ o ∈ os, I64 o.r.id ∧ I64 o.r.st
set_option maxRecDepth 100000 in
theorem rq_of_trod (h : DataW.trod enc Try.prog w base spare held fuel 31 cs = some x) : ∃ y : Rq, cs = [.int .i64 y.id, .int .i64 y.st, .int .i64 y.tt] ∧ I64 y.id ∧ I64 y.st := by
  obtain ⟨xs, n, _, _, hl, hn, hf⟩ := DataW.trod_struct Try.underlying31 h
  rw [show Try.prog.cellsOf 31 = 3 by kernel_rfl] at hl
  have e3 : Try.prog.cellsOf 3 = 1 := by kernel_rfl
  have f0 : DataW.trod enc Try.prog w base spare held n 3 ((cs.drop 0).take (Try.prog.cellsOf 3)) = xs[0]? := hf 0 _ rfl
  have f1 : DataW.trod enc Try.prog w base spare held n 3 ((cs.drop 1).take (Try.prog.cellsOf 3)) = xs[1]? := hf 1 _ rfl
  have f2 : DataW.trod enc Try.prog w base spare held n 3 ((cs.drop 2).take (Try.prog.cellsOf 3)) = xs[2]? := hf 2 _ rfl
  rw [e3] at f0 f1 f2
  match xs, hn, cs, hl with
  | [y0, y1, y2], _, [c0, c1, c2], _ =>
    obtain ⟨i0, e0, _, q0⟩ := DataW.trod_int Try.underlying3 f0
    obtain ⟨i1, e1, _, q1⟩ := DataW.trod_int Try.underlying3 f1
    obtain ⟨i2, e2, _, _⟩ := DataW.trod_int Try.underlying3 f2
    simp at e0 e1 e2
    exact ⟨⟨i0, i1, i2⟩, by simp [e0, e1, e2], .of q0, .of q1⟩
set_option maxRecDepth 100000 in
theorem op_of_trod (h : DataW.trod enc Try.prog w base spare held fuel 33 cs = some x) : ∃ y : Op, cs = opE.enc y ∧ I64 y.r.id ∧ I64 y.r.st := by
  obtain ⟨xs, n, _, _, hl, hn, hf⟩ := DataW.trod_struct Try.underlying33 h
  rw [show Try.prog.cellsOf 33 = 4 by kernel_rfl] at hl
  have e3 : Try.prog.cellsOf 3 = 1 := by kernel_rfl
  have e31 : Try.prog.cellsOf 31 = 3 := by kernel_rfl
  have f0 : DataW.trod enc Try.prog w base spare held n 3 ((cs.drop 0).take (Try.prog.cellsOf 3)) = xs[0]? := hf 0 _ rfl
  have f1 : DataW.trod enc Try.prog w base spare held n 31 ((cs.drop 1).take (Try.prog.cellsOf 31)) = xs[1]? := hf 1 _ rfl
  rw [e3] at f0
  rw [e31] at f1
  match xs, hn, cs, hl with
  | [y0, y1], _, [c0, c1, c2, c3], _ =>
    obtain ⟨i0, e0, _, q0⟩ := DataW.trod_int Try.underlying3 f0
    obtain ⟨r, e1, q1⟩ := rq_of_trod f1
    simp at e0 e1
    exact ⟨⟨i0, r⟩, by simp [opE, e0, e1], q1⟩
theorem ops_of_trod {a : Option Addr} {len cap : Nat} (h : DataW.trod enc Try.prog w base spare held fuel 22 cs = some x) (hcs : cs = [.slice a len cap]) : ∃ os : List Op, os.length = len ∧ Ops w (.slice a len cap) os := by
  obtain ⟨vs, h1, h2, h3⟩ := rd_of_trod opE (fun o => I64 o.r.id ∧ I64 o.r.st) (by kernel_rfl) (fun n cs y hy => op_of_trod hy) h hcs
  exact ⟨vs, h1, h2, h3⟩
end
theorem Ops.keep {w w' : World} {v : Value} {os : List Op} (h : Ops w v os) (hb : Below w.heap.size w w') : Ops w' v os := ⟨El.Rd.keep h.1 hb, h.2⟩
theorem Ops.at {w : World} {a : Option Addr} {n c : Nat} {os : List Op} (h : Ops w (.slice a n c) os) (i : Nat) (p : Op) (hp : os[i]? = some p) : ∃ b off, a = some ⟨b, off, none⟩ ∧ w.cell? ⟨b, off + i * 4, none⟩ = some (.int .i64 p.kind) ∧ w.cell? ⟨b, off + i * 4 + 1, none⟩ = some (.int .i64 p.r.id) ∧ w.cell? ⟨b, off + i * 4 + 2, none⟩ = some (.int .i64 p.r.st) ∧ w.cell? ⟨b, off + i * 4 + 3, none⟩ = some (.int .i64 p.r.tt) ∧ I64 p.r.id ∧ I64 p.r.st := by
  obtain ⟨b, off, e, hc⟩ := El.Rd.at h.1 i p hp
  exact ⟨b, off, e, hc 0 (by decide), hc 1 (by decide), hc 2 (by decide), hc 3 (by decide), h.2 p (List.mem_of_getElem? hp)⟩
/-- a number turned into one of a few -/
theorem few (x : Int) (m : Int) (hm : 1 ≤ m ∧ m ≤ 100) : ∃ k : Nat, wrap64 ((IntKind.u64.wrap x).tmod m) = (k : Int) ∧ (k : Int) < m := by
  have h0 : 0 ≤ IntKind.u64.wrap x := by simp [IntKind.wrap, IntKind.bits, IntKind.signed]; omega
  have e : (IntKind.u64.wrap x).tmod m = IntKind.u64.wrap x % m := Int.tmod_eq_emod_of_nonneg h0
  rw [e]
  generalize IntKind.u64.wrap x = b at h0
  have h1 := Int.emod_nonneg b (show m ≠ 0 by omega)
  have h2 := Int.emod_lt_of_pos b (show 0 < m by omega)
  obtain ⟨k, hk⟩ := Int.eq_ofNat_of_zero_le h1
  refine ⟨k, ?_, by omega⟩
  rw [hk]
  unfold wrap64
  omega
end Go.Proofs.Ytfmpipihjnpimaa
