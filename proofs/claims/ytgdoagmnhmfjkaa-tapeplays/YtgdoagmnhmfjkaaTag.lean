/- What came in: lists of notes, calls of a script. -/
import Derived.Test.YtgdoagmnhmfjkaaNag
namespace Go.Proofs.Ytgdoagmnhmfjkaa
open Go.ChangeShapes Go.WideShapes Go.ChangeAt Go.RowKit
set_option linter.unusedVariables false

/-- a slice as it lies -/
structure Sv where
  a : Option Addr
  l : Nat
  c : Nat
def slE : El Try.prog Sv where
  t := 48
  e := 29
  k := 1
  by' := 24
  z := .slice none 0 0
  enc x := [.slice x.a x.l x.c]
  ht := Try.underlying48
  info := by kernel_rfl
  zc := rfl
  kpos := by omega
  bsm := by omega
  len _ := rfl
  one x v hv := by simp at hv; subst hv; rfl
/-- notes that lie in a slice -/
def Nsl (w : World) (s : Sv) (p : List Nt) : Prop := ntE.Rd w (.slice s.a s.l s.c) p ∧ p.length = s.l ∧ s.l ≤ s.c
theorem Nsl.keep {w w' : World} {s : Sv} {p : List Nt} (h : Nsl w s p) (hb : Below w.heap.size w w') : Nsl w' s p := ⟨h.1.keep hb, h.2⟩
def Nls (w : World) (v : Value) (ls : List (List Nt)) : Prop := ∃ vs, slE.Rd w v vs ∧ vs.length = ls.length ∧ ∀ (i : Nat) (s : Sv) (p : List Nt), vs[i]? = some s → ls[i]? = some p → Nsl w s p
section
variable {H : Type} {enc : TypeId × Value → H} {w : World} {base : Nat} {spare : Nat → Bool} {held : Bool} {fuel : Nat} {cs : List Value} {x : DataW H × List MemPlace}
theorem sv_of_trod (h : DataW.trod enc Try.prog w base spare held fuel 29 cs = some x) : ∃ y : Sv, cs = slE.enc y ∧ ∃ p : List Nt, Nsl w y p := by
  have g0 : ∃ a len cap, cs = [.slice a len cap] := by
    rcases DataW.trod_slice Try.underlying29 h with ⟨h1, _⟩ | ⟨x0, len', cap', _, _, _, _, h1, _⟩
    · exact ⟨_, _, _, h1⟩
    · exact ⟨_, _, _, h1⟩
  obtain ⟨a, len, c, rfl⟩ := g0
  obtain ⟨ms, h1, h2, h3⟩ := notesc_of_trod h rfl
  exact ⟨⟨a, len, c⟩, rfl, ms, h2, h1, h3⟩
theorem nlists_of_trod {a : Option Addr} {len cap : Nat} (h : DataW.trod enc Try.prog w base spare held fuel 48 cs = some x) (hcs : cs = [.slice a len cap]) : ∃ ls : List (List Nt), ls.length = len ∧ Nls w (.slice a len cap) ls := by
  obtain ⟨vs, h1, h2, h3⟩ := rd_of_trod slE (fun y => ∃ p : List Nt, Nsl w y p) (by kernel_rfl) (fun n cs y hy => sv_of_trod hy) h hcs
  obtain ⟨hs, e1, e2⟩ := list_of (fun i (p : List Nt) => ∀ v, vs[i]? = some v → Nsl w v p) len (fun i hi => by
    have hv : vs[i]? = some vs[i] := List.getElem?_eq_getElem (by omega)
    obtain ⟨p, hp⟩ := h3 vs[i] (List.mem_of_getElem? hv)
    exact ⟨p, fun v hv' => by rw [hv] at hv'; cases hv'; exact hp⟩)
  exact ⟨hs, e1, vs, h2, by omega, fun i v p hv hp => e2 i p hp v hv⟩
/-- a call of a script as it lies, and as it reads -/
structure Ov where
  kind : Int
  n : Int
  s : Sv
structure Op where
  kind : Int
  n : Int
  notes : List Nt
def opE : El Try.prog Ov where
  t := 22
  e := 31
  k := 3
  by' := 40
  z := .agg #[.int .i64 0, .int .i64 0, .slice none 0 0]
  enc x := [.int .i64 x.kind, .int .i64 x.n, .slice x.s.a x.s.l x.s.c]
  ht := Try.underlying22
  info := by kernel_rfl
  zc := rfl
  kpos := by omega
  bsm := by omega
  len _ := rfl
  one x v hv := by simp at hv; rcases hv with rfl | rfl | rfl <;> rfl
def Opl (w : World) (s : Ov) (p : Op) : Prop := s.kind = p.kind ∧ s.n = p.n ∧ Nsl w s.s p.notes
def Ops (w : World) (v : Value) (os : List Op) : Prop := ∃ vs, opE.Rd w v vs ∧ vs.length = os.length ∧ ∀ (i : Nat) (s : Ov) (p : Op), vs[i]? = some s → os[i]? = some p → Opl w s p
set_option maxRecDepth 100000 in
theorem op_of_trod (h : DataW.trod enc Try.prog w base spare held fuel 31 cs = some x) : ∃ y : Ov, cs = opE.enc y ∧ ∃ p : Op, Opl w y p := by
  obtain ⟨xs, n, _, _, hl, hn, hf⟩ := DataW.trod_struct Try.underlying31 h
  rw [show Try.prog.cellsOf 31 = 3 by kernel_rfl] at hl
  have e3 : Try.prog.cellsOf 3 = 1 := by kernel_rfl
  have e29 : Try.prog.cellsOf 29 = 1 := by kernel_rfl
  have f0 : DataW.trod enc Try.prog w base spare held n 3 ((cs.drop 0).take (Try.prog.cellsOf 3)) = xs[0]? := hf 0 _ rfl
  have f1 : DataW.trod enc Try.prog w base spare held n 3 ((cs.drop 1).take (Try.prog.cellsOf 3)) = xs[1]? := hf 1 _ rfl
  have f2 : DataW.trod enc Try.prog w base spare held n 29 ((cs.drop 2).take (Try.prog.cellsOf 29)) = xs[2]? := hf 2 _ rfl
  rw [e3] at f0 f1
  rw [e29] at f2
  match xs, hn, cs, hl with
  | [y0, y1, y2], _, [c0, c1, c2], _ =>
    obtain ⟨i0, e0, _, _⟩ := DataW.trod_int Try.underlying3 f0
    obtain ⟨i1, e1, _, _⟩ := DataW.trod_int Try.underlying3 f1
    obtain ⟨s, e2, p, hp⟩ := sv_of_trod f2
    simp at e0 e1
    simp [slE] at e2
    exact ⟨⟨i0, i1, s⟩, by simp [opE, e0, e1, e2], ⟨i0, i1, p⟩, rfl, rfl, hp⟩
theorem ops_of_trod {a : Option Addr} {len cap : Nat} (h : DataW.trod enc Try.prog w base spare held fuel 22 cs = some x) (hcs : cs = [.slice a len cap]) : ∃ os : List Op, os.length = len ∧ Ops w (.slice a len cap) os := by
  obtain ⟨vs, h1, h2, h3⟩ := rd_of_trod opE (fun y => ∃ p : Op, Opl w y p) (by kernel_rfl) (fun n cs y hy => op_of_trod hy) h hcs
  obtain ⟨hs, e1, e2⟩ := list_of (fun i (p : Op) => ∀ v, vs[i]? = some v → Opl w v p) len (fun i hi => by
    have hv : vs[i]? = some vs[i] := List.getElem?_eq_getElem (by omega)
    obtain ⟨p, hp⟩ := h3 vs[i] (List.mem_of_getElem? hv)
    exact ⟨p, fun v hv' => by rw [hv] at hv'; cases hv'; exact hp⟩)
  exact ⟨hs, e1, vs, h2, by omega, fun i v p hv hp => e2 i p hp v hv⟩
end
theorem Nls.keep {w w' : World} {v : Value} {ls : List (List Nt)} (h : Nls w v ls) (hb : Below w.heap.size w w') : Nls w' v ls := by
  obtain ⟨vs, h1, h2, h3⟩ := h
  exact ⟨vs, h1.keep hb, h2, fun i s p hs hp => (h3 i s p hs hp).keep hb⟩
theorem Ops.keep {w w' : World} {v : Value} {os : List Op} (h : Ops w v os) (hb : Below w.heap.size w w') : Ops w' v os := by
  obtain ⟨vs, h1, h2, h3⟩ := h
  exact ⟨vs, h1.keep hb, h2, fun i s p hs hp => by obtain ⟨e1, e2, e3⟩ := h3 i s p hs hp; exact ⟨e1, e2, e3.keep hb⟩⟩
theorem Nls.at {w : World} {a : Option Addr} {n c : Nat} {ls : List (List Nt)} (h : Nls w (.slice a n c) ls) (i : Nat) (p : List Nt) (hp : ls[i]? = some p) : ∃ b off a' c', a = some ⟨b, off, none⟩ ∧ w.cell? ⟨b, off + i, none⟩ = some (.slice a' p.length c') ∧ ntE.Rd w (.slice a' p.length c') p ∧ p.length ≤ c' := by
  obtain ⟨vs, h1, h2, h3⟩ := h
  obtain ⟨s, hs⟩ : ∃ s, vs[i]? = some s := ⟨_, List.getElem?_eq_getElem (by rw [h2]; exact idx_lt hp)⟩
  obtain ⟨b, off, e, hc⟩ := h1.at i s hs
  obtain ⟨e2, e3, e4⟩ := h3 i s p hs hp
  refine ⟨b, off, s.a, s.c, e, ?_, by rw [e3]; exact e2, by rw [e3]; exact e4⟩
  have := hc 0 (by decide)
  rw [show off + i * slE.k + 0 = off + i by show off + i * 1 + 0 = _; omega] at this
  rw [this, e3]; rfl
theorem Ops.at {w : World} {a : Option Addr} {n c : Nat} {os : List Op} (h : Ops w (.slice a n c) os) (i : Nat) (p : Op) (hp : os[i]? = some p) : ∃ b off a' c', a = some ⟨b, off, none⟩ ∧ w.cell? ⟨b, off + i * 3, none⟩ = some (.int .i64 p.kind) ∧ w.cell? ⟨b, off + i * 3 + 1, none⟩ = some (.int .i64 p.n) ∧ w.cell? ⟨b, off + i * 3 + 2, none⟩ = some (.slice a' p.notes.length c') ∧ ntE.Rd w (.slice a' p.notes.length c') p.notes ∧ p.notes.length ≤ c' := by
  obtain ⟨vs, h1, h2, h3⟩ := h
  obtain ⟨s, hs⟩ : ∃ s, vs[i]? = some s := ⟨_, List.getElem?_eq_getElem (by rw [h2]; exact idx_lt hp)⟩
  obtain ⟨b, off, e, hc⟩ := h1.at i s hs
  obtain ⟨e0, e1, e2, e3, e4⟩ := h3 i s p hs hp
  refine ⟨b, off, s.s.a, s.s.c, e, ?_, ?_, ?_, by rw [e3]; exact e2, by rw [e3]; exact e4⟩
  · rw [← e0]; exact hc 0 (by decide)
  · rw [← e1]; exact hc 1 (by decide)
  · rw [e3]; exact hc 2 (by decide)
end Go.Proofs.Ytgdoagmnhmfjkaa
