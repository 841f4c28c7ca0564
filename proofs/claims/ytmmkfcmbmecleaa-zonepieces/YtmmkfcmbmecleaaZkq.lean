/- Lists that are written into, and all else that stays. -/
import Derived.Test.YtmmkfcmbmecleaaZrp
namespace Go.Proofs.Ytmmkfcmbmecleaa
open Go.RowKit
set_option linter.unusedVariables false

/-- all stays but the blocks from Bg on ahead of Ng -/
structure Kq (Bg Ng : Nat) (W1 w : World) : Prop where
  os : w.os = W1.os
  tape : w.tape = W1.tape
  output : w.output = W1.output
  size : W1.heap.size ≤ w.heap.size
  block : ∀ k, k < W1.heap.size → (k < Bg ∨ Ng ≤ k) → w.heap[k]? = W1.heap[k]?
theorem Kq.refl (Bg Ng : Nat) (W : World) : Kq Bg Ng W W := ⟨rfl, rfl, rfl, Nat.le_refl _, fun _ _ _ => rfl⟩
theorem Kq.keep {Bg Ng : Nat} {W1 w w' : World} (h : Kq Bg Ng W1 w) (hb : Below w.heap.size w w') : Kq Bg Ng W1 w' :=
  ⟨hb.os.trans h.os, hb.tape.trans h.tape, hb.output.trans h.output, Nat.le_trans h.size hb.size, fun k hk h1 => by rw [hb.block k (Nat.lt_of_lt_of_le hk h.size)]; exact h.block k hk h1⟩
theorem Kq.set {Bg Ng g i : Nat} {W1 w : World} (h : Kq Bg Ng W1 w) (hg : Bg ≤ g) (hg' : g < Ng ∨ W1.heap.size ≤ g) (u : Value) : Kq Bg Ng W1 (w.setCell ⟨g, i, none⟩ u) :=
  ⟨h.os, h.tape, h.output, by rw [show (w.setCell ⟨g, i, none⟩ u).heap.size = w.heap.size by simp [World.setCell]]; exact h.size, fun k hk h1 => by
    rw [Below.heap_setCell _ _ _ _ (by show k ≠ g; omega)]
    exact h.block k hk h1⟩
theorem Kq.grown {Bg Ng : Nat} {W1 w w' : World} {row : Option Nat} (h : Kq Bg Ng W1 w) (hg : w.grownBy w' row) (hr : ∀ b, row = some b → Bg ≤ b ∧ (b < Ng ∨ W1.heap.size ≤ b)) : Kq Bg Ng W1 w' :=
  ⟨hg.os.trans h.os, hg.tape.trans h.tape, hg.output.trans h.output, Nat.le_trans h.size hg.size, fun k hk h1 => by
    rw [hg.block k (Nat.lt_of_lt_of_le hk h.size) (fun e => by have := hr k e.symm; omega)]
    exact h.block k hk h1⟩
theorem Kq.own {α : Type} {E : El Try.prog α} {Bg Ng B : Nat} {W1 w : World} {v : Value} {xs : List α} (h : Kq Bg Ng W1 w) (ho : E.Own W1 B v xs) (hB : Ng ≤ B) : E.Own w B v xs := by
  obtain ⟨h0, ho⟩ := ho
  refine ⟨h0, ?_⟩
  rcases ho with ho | ⟨g, cap, cur, h1, h2, h3, h4⟩
  · exact .inl ho
  · exact .inr ⟨g, cap, cur, h1, h2, by rw [h.block g (heap_lt h3) (.inr (by omega))]; exact h3, h4⟩
theorem Kq.lb {Bg Ng B : Nat} {W1 w : World} {v : Value} {svs : List Sv} {ps : List (List Int)} (h : Kq Bg Ng W1 w) (hl : Lb B W1 v svs ps) (hB : Ng ≤ B) : Lb B w v svs ps :=
  ⟨h.own hl.own hB, hl.len, fun i s p hs hp => h.own (hl.el i s p hs hp) hB, hl.sep⟩
theorem Kq.below {Ng : Nat} {Wb W1 w : World} (h : Kq Wb.heap.size Ng W1 w) (hb : Below Wb.heap.size Wb W1) : Below Wb.heap.size Wb w :=
  ⟨h.os.trans hb.os, h.tape.trans hb.tape, h.output.trans hb.output, Nat.le_trans hb.size h.size, fun k hk => by
    rw [h.block k (Nat.lt_of_lt_of_le hk hb.size) (.inl hk)]; exact hb.block k hk⟩

/-- the lists that are written into -/
structure Gq (Bg Ng N : Nat) (w : World) (gv : Value) (svs : List Sv) (qs : List (List Int)) : Prop where
  lb : Lb Bg w gv svs qs
  ob : ∀ b, gv.ownBlock = some b → b < Ng
  eb : ∀ (i : Nat) (s : Sv) (b : Nat), svs[i]? = some s → (Value.slice s.a s.l s.c).ownBlock = some b → b < Ng ∨ N ≤ b
theorem Gq.keep {Bg Ng N : Nat} {w w' : World} {gv : Value} {svs : List Sv} {qs : List (List Int)} (h : Gq Bg Ng N w gv svs qs) (hb : Below w.heap.size w w') : Gq Bg Ng N w' gv svs qs := ⟨h.lb.keep hb, h.ob, h.eb⟩
theorem Gq.start {Bg : Nat} {w : World} {gv : Value} {svs : List Sv} {qs : List (List Int)} (N : Nat) (h : Lb Bg w gv svs qs) : Gq Bg w.heap.size N w gv svs qs :=
  ⟨h, fun b hb => h.own.lt b hb, fun i s b hs hb => by
    obtain ⟨p, hp⟩ : ∃ p, qs[i]? = some p := ⟨_, List.getElem?_eq_getElem (by rw [← h.len]; exact idx_lt hs)⟩
    exact .inl ((h.el i s p hs hp).lt b hb)⟩
/-- a number of one of them is written over -/
theorem Gq.setc {Bg Ng i j b n cap : Nat} {W1 w : World} {gv : Value} {svs : List Sv} {qs : List (List Int)} {p : List Int} {x : Int} (hk : Kq Bg Ng W1 w) (h : Gq Bg Ng W1.heap.size w gv svs qs) (hs : svs[i]? = some ⟨some ⟨b, 0, none⟩, n, cap⟩) (hp : qs[i]? = some p) (hj : j < p.length) :
    (∃ y, w.cell? ⟨b, j, none⟩ = some (.int .i64 y)) ∧ w.frozen? ⟨b, j, none⟩ = false ∧ Kq Bg Ng W1 (w.setCell ⟨b, j, none⟩ (.int .i64 x)) ∧ Gq Bg Ng W1.heap.size (w.setCell ⟨b, j, none⟩ (.int .i64 x)) gv svs (qs.set i (p.set j x)) := by
  have ho : intE.Own w Bg (.slice (some ⟨b, 0, none⟩) n cap) p := h.lb.el i _ p hs hp
  obtain ⟨c0, c1⟩ := ho.at1 (Value.int .i64) (fun _ => rfl) rfl j p[j] (List.getElem?_eq_getElem hj)
  have hge := ho.ge b rfl
  have heb := h.eb i _ b hs rfl
  refine ⟨⟨_, c0⟩, c1, hk.set hge heb _, ⟨?_, by rw [List.length_set]; exact h.lb.len, ?_, h.lb.sep⟩, h.ob, h.eb⟩
  · exact own_set_other h.lb.own (fun e => sl_sep h.lb.own ho b e rfl)
  · intro i' s q hs' hq
    rw [List.getElem?_set] at hq
    by_cases e : i = i'
    · subst e
      rw [hs] at hs'
      cases hs'
      rw [if_pos rfl, if_pos (idx_lt hp)] at hq
      cases hq
      exact ho.set (Value.int .i64) (fun _ => rfl) rfl j x
    · rw [if_neg e] at hq
      exact own_set_other (h.lb.el i' s q hs' hq) (fun e' => h.lb.sep i i' _ s e hs hs' b rfl e')
/-- one of them grows -/
theorem Gq.put {Bg Ng g n cap i : Nat} {W1 w w' : World} {svs : List Sv} {qs : List (List Int)} {s : Sv} {p p' : List Int} {pa : Option Addr} {pl pc : Nat} (hk : Kq Bg Ng W1 w) (h : Gq Bg Ng W1.heap.size w (.slice (some ⟨g, 0, none⟩) n cap) svs qs) (hp : qs[i]? = some p) (hs : svs[i]? = some s) (ho : intE.Own w' Bg (.slice pa pl pc) p')
    (hg : w.grownBy w' (Value.slice s.a s.l s.c).ownBlock) (hv' : (Value.slice pa pl pc).ownBlock = (Value.slice s.a s.l s.c).ownBlock ∨ (Value.slice pa pl pc).ownBlock = some w.heap.size) :
    (w'.cell? ⟨g, i, none⟩ = some (.slice s.a s.l s.c) ∧ w'.frozen? ⟨g, i, none⟩ = false) ∧ Kq Bg Ng W1 (w'.setCell ⟨g, i, none⟩ (.slice pa pl pc)) ∧ Gq Bg Ng W1.heap.size (w'.setCell ⟨g, i, none⟩ (.slice pa pl pc)) (.slice (some ⟨g, 0, none⟩) n cap) (svs.set i ⟨pa, pl, pc⟩) (qs.set i p') := by
  obtain ⟨hc, hl⟩ := h.lb.put hp hs ho hg hv'
  have hov := h.lb.el i s p hs hp
  refine ⟨hc, (hk.grown hg (fun b hb => ⟨hov.ge b hb, h.eb i s b hs hb⟩)).set (h.lb.own.ge g rfl) (.inl (h.ob g rfl)) _, hl, h.ob, fun j u b hu hb => ?_⟩
  rw [List.getElem?_set] at hu
  by_cases e : i = j
  · subst e
    rw [if_pos rfl, if_pos (idx_lt hs)] at hu
    cases hu
    rcases hv' with h' | h'
    · rw [show (Value.slice (⟨pa, pl, pc⟩ : Sv).a (⟨pa, pl, pc⟩ : Sv).l (⟨pa, pl, pc⟩ : Sv).c).ownBlock = (Value.slice pa pl pc).ownBlock from rfl, h'] at hb
      exact h.eb i s b hs hb
    · rw [show (Value.slice (⟨pa, pl, pc⟩ : Sv).a (⟨pa, pl, pc⟩ : Sv).l (⟨pa, pl, pc⟩ : Sv).c).ownBlock = (Value.slice pa pl pc).ownBlock from rfl, h'] at hb
      have := hk.size
      simp at hb
      omega
  · rw [if_neg e] at hu
    exact h.eb j u b hu hb
theorem Lb.at {B n c i : Nat} {a : Option Addr} {w : World} {svs : List Sv} {ps : List (List Int)} {p : List Int} {s : Sv} (h : Lb B w (.slice a n c) svs ps) (hp : ps[i]? = some p) (hs : svs[i]? = some s) :
    ∃ b off, a = some ⟨b, off, none⟩ ∧ w.cell? ⟨b, off + i, none⟩ = some (.slice s.a s.l s.c) ∧ intE.Own w B (.slice s.a s.l s.c) p ∧ s.l = p.length := by
  obtain ⟨b, off, e, hc⟩ := h.own.rd.at i s hs
  have e2 := h.el i s p hs hp
  obtain ⟨a', c', e3⟩ := e2.rd.form
  simp only [Value.slice.injEq] at e3
  refine ⟨b, off, e, ?_, e2, e3.2.1⟩
  have := hc 0 (by decide)
  rw [show off + i * slE.k + 0 = off + i by show off + i * 1 + 0 = _; omega] at this
  rw [this]
  rfl
/-- a list that isn't empty has a place -/
theorem sv_some {B : Nat} {w : World} {s : Sv} {p : List Int} (h : intE.Own w B (.slice s.a s.l s.c) p) (hne : p ≠ []) : ∃ b, s.a = some ⟨b, 0, none⟩ := by
  obtain ⟨g, cap, hf, _, _⟩ := h.some hne
  simp only [Value.slice.injEq] at hf
  exact ⟨g, hf.1⟩
theorem set_same {α : Type} {l : List α} {i : Nat} {x : α} (h : l[i]? = some x) : l.set i x = l := by
  apply List.ext_getElem?
  intro j
  rw [List.getElem?_set]
  by_cases e : i = j
  · subst e; rw [if_pos rfl, if_pos (idx_lt h), h]
  · rw [if_neg e]
theorem set_at {α : Type} {l : List α} {i : Nat} {x y : α} (h : l[i]? = some x) : (l.set i y)[i]? = some y := by rw [List.getElem?_set, if_pos rfl, if_pos (idx_lt h)]
theorem set_off {α : Type} {l : List α} {i j : Nat} {y : α} (h : i ≠ j) : (l.set i y)[j]? = l[j]? := by rw [List.getElem?_set, if_neg h]
end Go.Proofs.Ytmmkfcmbmecleaa
