/- Numbers, lists of numbers and calls that came in. -/
import Derived.Test.YtbibegendejnlaaCba
import Derived.SizedLaws
import Derived.ChangeOld
import Derived.Deep.RegionWith
namespace Go.Proofs.Ytbibegendejnlaa
open Go.ChangeShapes Go.WideShapes Go.ChangeAt Go.RowKit
set_option linter.unusedVariables false

theorem list_of {β : Type} (R : Nat → β → Prop) (len : Nat) (h : ∀ i, i < len → ∃ y, R i y) : ∃ ys : List β, ys.length = len ∧ ∀ (i : Nat) (y : β), ys[i]? = some y → R i y := by
  induction len with
  | zero => exact ⟨[], rfl, by simp⟩
  | succ m ih =>
    obtain ⟨ys, h1, h2⟩ := ih (fun i hi => h i (by omega))
    obtain ⟨y, hy⟩ := h m (by omega)
    refine ⟨ys ++ [y], by simp [h1], fun i u hu => ?_⟩
    rcases Nat.lt_or_ge i m with h' | h'
    · rw [List.getElem?_append_left (by omega)] at hu; exact h2 i u hu
    · rw [List.getElem?_append_right (by omega)] at hu
      have : i = m := by
        rcases Nat.lt_or_ge i (m + 1) with h'' | h''
        · omega
        · rw [List.getElem?_eq_none (by simp; omega)] at hu; cases hu
      subst this
      rw [h1] at hu
      simp at hu
      subst hu
      exact hy

section
variable {H : Type} {enc : TypeId × Value → H} {w : World} {base : Nat} {spare : Nat → Bool} {held : Bool} {fuel : Nat} {cs : List Value} {x : DataW H × List MemPlace}
theorem rd_of_trod {α : Type} (E : El Try.prog α) (Q : α → Prop) (hc : Try.prog.cellsOf E.e = E.k)
    (elem : ∀ (n : Nat) (cs : List Value) (y : DataW H × List MemPlace), DataW.trod enc Try.prog w base spare held n E.e cs = some y → ∃ x : α, cs = E.enc x ∧ Q x)
    {a : Option Addr} {len cap : Nat} (h : DataW.trod enc Try.prog w base spare held fuel E.t cs = some x) (hcs : cs = [.slice a len cap]) :
    ∃ xs : List α, xs.length = len ∧ E.Rd w (.slice a len cap) xs ∧ ∀ y ∈ xs, Q y := by
  rcases DataW.trod_slice E.ht h with ⟨h1, _⟩ | ⟨x0, len', cap', elems, rest, n, _, h1, _, _, hl, hcm, he, hr, _⟩
  · rw [hcs] at h1
    simp at h1
    obtain ⟨rfl, rfl, rfl⟩ := h1
    exact ⟨[], rfl, .inl ⟨rfl, rfl⟩, by simp⟩
  · rw [hcs] at h1
    simp at h1
    obtain ⟨rfl, rfl, rfl⟩ := h1
    rw [hc] at hr
    have one : ∀ i, i < len → ∃ y : α, Q y ∧ ∀ j, j < E.k → w.cell? ((x0.add (i * E.k)).add j) = (E.enc y)[j]? := by
      intro i hi
      have hi' : i < elems.length := by omega
      have h2 := hr i hi
      rw [List.getElem?_eq_getElem hi'] at h2
      obtain ⟨cs', h3, h4⟩ := Option.bind_eq_some_iff.1 h2
      obtain ⟨y, hy, hq⟩ := elem _ _ _ h4
      obtain ⟨_, _, h5⟩ := World.cells?_some h3
      subst hy
      exact ⟨y, hq, fun j hj => by rw [h5 j (by omega)]⟩
    obtain ⟨ys, hy1, hy2⟩ := list_of _ len one
    refine ⟨ys, hy1, .inr ⟨x0, cap, by rw [hy1], fun q hq => ?_⟩, fun y hy => ?_⟩
    · have hk := E.kpos
      have hpos : 0 < len := by
        rcases Nat.eq_zero_or_pos len with h0 | h0
        · rw [hy1, h0, Nat.zero_mul] at hq; omega
        · exact h0
      have hspot : x0.spot = none := by
        obtain ⟨y, _, z⟩ := one 0 hpos
        have z0 := z 0 hk
        have : (E.enc y)[0]? = some ((E.enc y)[0]'(by rw [E.len]; exact hk)) := List.getElem?_eq_getElem _
        rw [this] at z0
        simpa [Addr.add] using World.cell?_spot z0
      obtain ⟨b, off, spot⟩ := x0
      simp only at hspot
      subst hspot
      have hi : q / E.k < ys.length := (Nat.div_lt_iff_lt_mul hk).2 hq
      have hj : q % E.k < E.k := Nat.mod_lt _ hk
      have e : q / E.k * E.k + q % E.k = q := by rw [Nat.mul_comm]; exact Nat.div_add_mod q E.k
      have hx := hy2 (q / E.k) ys[q / E.k] (List.getElem?_eq_getElem hi)
      have := hx.2 (q % E.k) hj
      rw [addr_plain, addr_plain, Nat.add_assoc, e] at this
      have e5 := E.fl_at ys (q / E.k) (q % E.k) ys[q / E.k] (List.getElem?_eq_getElem hi) hj
      rw [e] at e5
      rw [addr_plain, this, e5]
    · obtain ⟨i, hi⟩ := List.mem_iff_getElem?.1 hy
      exact (hy2 i y hi).1
theorem int_of_trod (h : DataW.trod enc Try.prog w base spare held fuel 3 cs = some x) : ∃ y : Int, cs = intE.enc y ∧ (Lit.int .i64 y).wf = true := by
  obtain ⟨i, e, _, q⟩ := DataW.trod_int Try.underlying3 h
  exact ⟨i, e, q⟩
/-- a list as it lies -/
structure Sv where
  a : Option Addr
  l : Nat
  c : Nat
def slE : El Try.prog Sv where
  t := 54
  e := 28
  k := 1
  by' := 24
  z := .slice none 0 0
  enc x := [.slice x.a x.l x.c]
  ht := Try.underlying54
  info := by kernel_rfl
  zc := rfl
  kpos := by omega
  bsm := by omega
  len _ := rfl
  one x v hv := by simp at hv; subst hv; rfl
/-- a slice of lists -/
def Lds (w : World) (v : Value) (ls : List (List Int)) : Prop := ∃ vs, slE.Rd w v vs ∧ vs.length = ls.length ∧ ∀ (i : Nat) (s : Sv) (p : List Int), vs[i]? = some s → ls[i]? = some p → intE.Rd w (.slice s.a s.l s.c) p
theorem sv_of_trod (h : DataW.trod enc Try.prog w base spare held fuel 28 cs = some x) : ∃ y : Sv, cs = slE.enc y ∧ ∃ p : List Int, intE.Rd w (.slice y.a y.l y.c) p := by
  have g0 : ∃ a len cap, cs = [.slice a len cap] := by
    rcases DataW.trod_slice Try.underlying28 h with ⟨h1, _⟩ | ⟨x0, len', cap', _, _, _, _, h1, _⟩
    · exact ⟨_, _, _, h1⟩
    · exact ⟨_, _, _, h1⟩
  obtain ⟨a, len, c, rfl⟩ := g0
  obtain ⟨ms, _, hm2, _⟩ := rd_of_trod intE (fun y => (Lit.int .i64 y).wf = true) (by kernel_rfl) (fun n cs y hy => int_of_trod hy) h rfl
  exact ⟨⟨a, len, c⟩, rfl, ms, hm2⟩
theorem lists_of_trod {a : Option Addr} {len cap : Nat} (h : DataW.trod enc Try.prog w base spare held fuel 54 cs = some x) (hcs : cs = [.slice a len cap]) : ∃ ls : List (List Int), ls.length = len ∧ Lds w (.slice a len cap) ls := by
  obtain ⟨vs, h1, h2, h3⟩ := rd_of_trod slE (fun y => ∃ p : List Int, intE.Rd w (.slice y.a y.l y.c) p) (by kernel_rfl) (fun n cs y hy => sv_of_trod hy) h hcs
  obtain ⟨hs, e1, e2⟩ := list_of (fun i (p : List Int) => ∀ v, vs[i]? = some v → intE.Rd w (.slice v.a v.l v.c) p) len (fun i hi => by
    have hv : vs[i]? = some vs[i] := List.getElem?_eq_getElem (by omega)
    obtain ⟨p, hp⟩ := h3 vs[i] (List.mem_of_getElem? hv)
    exact ⟨p, fun v hv' => by rw [hv] at hv'; cases hv'; exact hp⟩)
  exact ⟨hs, e1, vs, h2, by omega, fun i v p hv hp => e2 i p hp v hv⟩
/-- a call of a script as it lies, and as it reads -/
structure Ov where
  kind : Int
  tote : Int
  node : Int
  a : Option Addr
  l : Nat
  c : Nat
structure Op where
  kind : Int
  tote : Int
  node : Int
  nodes : List Int
def opE : El Try.prog Ov where
  t := 22
  e := 33
  k := 4
  by' := 48
  z := .agg #[.int .i64 0, .int .i64 0, .int .i64 0, .slice none 0 0]
  enc x := [.int .i64 x.kind, .int .i64 x.tote, .int .i64 x.node, .slice x.a x.l x.c]
  ht := Try.underlying22
  info := by kernel_rfl
  zc := rfl
  kpos := by omega
  bsm := by omega
  len _ := rfl
  one x v hv := by simp at hv; rcases hv with rfl | rfl | rfl | rfl <;> rfl
def Ops (w : World) (v : Value) (os : List Op) : Prop := ∃ vs, opE.Rd w v vs ∧ vs.length = os.length ∧ ∀ (i : Nat) (s : Ov) (p : Op), vs[i]? = some s → os[i]? = some p → s.kind = p.kind ∧ s.tote = p.tote ∧ s.node = p.node ∧ intE.Rd w (.slice s.a s.l s.c) p.nodes
set_option maxRecDepth 100000 in
theorem ov_of_trod (h : DataW.trod enc Try.prog w base spare held fuel 33 cs = some x) : ∃ y : Ov, cs = opE.enc y ∧ ∃ p : List Int, intE.Rd w (.slice y.a y.l y.c) p := by
  obtain ⟨xs, n, _, _, hl, hn, hf⟩ := DataW.trod_struct Try.underlying33 h
  rw [show Try.prog.cellsOf 33 = 4 by kernel_rfl] at hl
  have e28 : Try.prog.cellsOf 28 = 1 := by kernel_rfl
  have e3 : Try.prog.cellsOf 3 = 1 := by kernel_rfl
  have f0 : DataW.trod enc Try.prog w base spare held n 3 ((cs.drop 0).take (Try.prog.cellsOf 3)) = xs[0]? := hf 0 _ rfl
  have f1 : DataW.trod enc Try.prog w base spare held n 3 ((cs.drop 1).take (Try.prog.cellsOf 3)) = xs[1]? := hf 1 _ rfl
  have f2 : DataW.trod enc Try.prog w base spare held n 3 ((cs.drop 2).take (Try.prog.cellsOf 3)) = xs[2]? := hf 2 _ rfl
  have f3 : DataW.trod enc Try.prog w base spare held n 28 ((cs.drop 3).take (Try.prog.cellsOf 28)) = xs[3]? := hf 3 _ rfl
  rw [e3] at f0 f1 f2
  rw [e28] at f3
  match xs, hn, cs, hl with
  | [y0, y1, y2, y3], _, [c0, c1, c2, c3], _ =>
    obtain ⟨i0, e0, _, _⟩ := DataW.trod_int Try.underlying3 f0
    obtain ⟨i1, e1, _, _⟩ := DataW.trod_int Try.underlying3 f1
    obtain ⟨i2, e2, _, _⟩ := DataW.trod_int Try.underlying3 f2
    obtain ⟨s, e3, p, hp⟩ := sv_of_trod (show DataW.trod enc Try.prog w base spare held n 28 _ = some y3 from f3)
    simp [slE] at e0 e1 e2 e3
    exact ⟨⟨i0, i1, i2, s.a, s.l, s.c⟩, by simp [opE, e0, e1, e2, e3], p, hp⟩
theorem ops_of_trod {a : Option Addr} {len cap : Nat} (h : DataW.trod enc Try.prog w base spare held fuel 22 cs = some x) (hcs : cs = [.slice a len cap]) : ∃ os : List Op, os.length = len ∧ Ops w (.slice a len cap) os := by
  obtain ⟨vs, h1, h2, h3⟩ := rd_of_trod opE (fun y => ∃ p : List Int, intE.Rd w (.slice y.a y.l y.c) p) (by kernel_rfl) (fun n cs y hy => ov_of_trod hy) h hcs
  obtain ⟨hs, e1, e2⟩ := list_of (fun i (p : Op) => ∀ v, vs[i]? = some v → v.kind = p.kind ∧ v.tote = p.tote ∧ v.node = p.node ∧ intE.Rd w (.slice v.a v.l v.c) p.nodes) len (fun i hi => by
    have hv : vs[i]? = some vs[i] := List.getElem?_eq_getElem (by omega)
    obtain ⟨p, hp⟩ := h3 vs[i] (List.mem_of_getElem? hv)
    exact ⟨⟨vs[i].kind, vs[i].tote, vs[i].node, p⟩, fun v hv' => by rw [hv] at hv'; cases hv'; exact ⟨rfl, rfl, rfl, hp⟩⟩)
  exact ⟨hs, e1, vs, h2, by omega, fun i v p hv hp => e2 i p hp v hv⟩
end
theorem Lds.keep {w w' : World} {v : Value} {ls : List (List Int)} (h : Lds w v ls) (hb : Below w.heap.size w w') : Lds w' v ls := by
  obtain ⟨vs, h1, h2, h3⟩ := h
  exact ⟨vs, h1.keep hb, h2, fun i s p hs hp => (h3 i s p hs hp).keep hb⟩
theorem Ops.keep {w w' : World} {v : Value} {os : List Op} (h : Ops w v os) (hb : Below w.heap.size w w') : Ops w' v os := by
  obtain ⟨vs, h1, h2, h3⟩ := h
  exact ⟨vs, h1.keep hb, h2, fun i s p hs hp => by obtain ⟨e1, e2, e3, e4⟩ := h3 i s p hs hp; exact ⟨e1, e2, e3, e4.keep hb⟩⟩
theorem Lds.at {w : World} {a : Option Addr} {n c : Nat} {ls : List (List Int)} (h : Lds w (.slice a n c) ls) (i : Nat) (p : List Int) (hp : ls[i]? = some p) : ∃ b off a' c', a = some ⟨b, off, none⟩ ∧ w.cell? ⟨b, off + i, none⟩ = some (.slice a' p.length c') ∧ intE.Rd w (.slice a' p.length c') p := by
  obtain ⟨vs, h1, h2, h3⟩ := h
  obtain ⟨s, hs⟩ : ∃ s, vs[i]? = some s := ⟨_, List.getElem?_eq_getElem (by rw [h2]; exact idx_lt hp)⟩
  obtain ⟨b, off, e, hc⟩ := h1.at i s hs
  have e2 := h3 i s p hs hp
  obtain ⟨a', c', e3⟩ := e2.form
  simp only [Value.slice.injEq] at e3
  refine ⟨b, off, s.a, s.c, e, ?_, by rw [← e3.2.1]; exact e2⟩
  have := hc 0 (by decide)
  rw [show off + i * slE.k + 0 = off + i by show off + i * 1 + 0 = _; omega] at this
  rw [this, ← e3.2.1]; rfl
theorem Ops.at {w : World} {a : Option Addr} {n c : Nat} {os : List Op} (h : Ops w (.slice a n c) os) (i : Nat) (p : Op) (hp : os[i]? = some p) : ∃ b off a' c', a = some ⟨b, off, none⟩ ∧ w.cell? ⟨b, off + i * 4, none⟩ = some (.int .i64 p.kind) ∧ w.cell? ⟨b, off + i * 4 + 1, none⟩ = some (.int .i64 p.tote) ∧ w.cell? ⟨b, off + i * 4 + 2, none⟩ = some (.int .i64 p.node) ∧ w.cell? ⟨b, off + i * 4 + 3, none⟩ = some (.slice a' p.nodes.length c') ∧ intE.Rd w (.slice a' p.nodes.length c') p.nodes := by
  obtain ⟨vs, h1, h2, h3⟩ := h
  obtain ⟨s, hs⟩ : ∃ s, vs[i]? = some s := ⟨_, List.getElem?_eq_getElem (by rw [h2]; exact idx_lt hp)⟩
  obtain ⟨b, off, e, hc⟩ := h1.at i s hs
  obtain ⟨e0, e1, e2, e4⟩ := h3 i s p hs hp
  obtain ⟨a', c', e3⟩ := e4.form
  simp only [Value.slice.injEq] at e3
  refine ⟨b, off, s.a, s.c, e, ?_, ?_, ?_, ?_, by rw [← e3.2.1]; exact e4⟩
  · rw [← e0]; exact hc 0 (by decide)
  · rw [← e1]; exact hc 1 (by decide)
  · rw [← e2]; exact hc 2 (by decide)
  · rw [← e3.2.1]; exact hc 3 (by decide)
/-- a number turned into one of a few -/
theorem few (x : Int) (m : Int) (hm : 1 ≤ m ∧ m ≤ 100) : ∃ k : Nat, wrap64 ((IntKind.u64.wrap x).tmod m) = (k : Int) ∧ (k : Int) < m := by
  have h0 : 0 ≤ IntKind.u64.wrap x := by simp [IntKind.wrap, IntKind.bits, IntKind.signed]; omega
  have e : (IntKind.u64.wrap x).tmod m = IntKind.u64.wrap x % m := Int.tmod_eq_emod_of_nonneg h0
  rw [e]
  generalize IntKind.u64.wrap x = b at h0
  have h1 := Int.emod_nonneg b (show m ≠ 0 by omega)
  have h2 := Int.emod_lt_of_pos b (show 0 < m by omega)
  obtain ⟨k, hk⟩ := Int.eq_ofNat_of_zero_le h1
  refine ⟨k, ?_, by omega⟩
  rw [hk]
  unfold wrap64
  omega
end Go.Proofs.Ytbibegendejnlaa
