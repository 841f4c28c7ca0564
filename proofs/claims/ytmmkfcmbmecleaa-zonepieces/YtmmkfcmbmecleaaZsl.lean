/- Slices of slices of numbers, of the call's own. -/
import Derived.Test.YtmmkfcmbmecleaaZhb
namespace Go.Proofs.Ytmmkfcmbmecleaa
open Go.RowKit
set_option linter.unusedVariables false

structure Sv where
  a : Option Addr
  l : Nat
  c : Nat
def Sv.v (s : Sv) : Value := .slice s.a s.l s.c
def slE : El Try.prog Sv where
  t := 30
  e := 26
  k := 1
  by' := 24
  z := .slice none 0 0
  enc s := [.slice s.a s.l s.c]
  ht := Try.underlying30
  info := by kernel_rfl
  zc := rfl
  kpos := by omega
  bsm := by omega
  len _ := rfl
  one x v hv := by simp at hv; subst hv; rfl

/-- lists in memory of the call's own, from B on -/
structure Lb (B : Nat) (w : World) (v : Value) (svs : List Sv) (ps : List (List Int)) : Prop where
  own : slE.Own w B v svs
  len : svs.length = ps.length
  el : ∀ (i : Nat) (s : Sv) (p : List Int), svs[i]? = some s → ps[i]? = some p → intE.Own w B (.slice s.a s.l s.c) p
  sep : ∀ (i j : Nat) (s u : Sv), i ≠ j → svs[i]? = some s → svs[j]? = some u → Sep (.slice s.a s.l s.c) (.slice u.a u.l u.c)
/-- lists that lie there -/
def Lds (w : World) (v : Value) (ps : List (List Int)) : Prop := ∃ svs : List Sv, slE.Rd w v svs ∧ svs.length = ps.length ∧ ∀ (i : Nat) (s : Sv) (p : List Int), svs[i]? = some s → ps[i]? = some p → intE.Rd w (.slice s.a s.l s.c) p

theorem Lb.lds {B : Nat} {w : World} {v : Value} {svs : List Sv} {ps : List (List Int)} (h : Lb B w v svs ps) : Lds w v ps := ⟨svs, h.own.rd, h.len, fun i s p hs hp => (h.el i s p hs hp).rd⟩
theorem Lb.keep {B : Nat} {w w' : World} {v : Value} {svs : List Sv} {ps : List (List Int)} (h : Lb B w v svs ps) (hb : Below w.heap.size w w') : Lb B w' v svs ps := ⟨h.own.keep hb, h.len, fun i s p hs hp => (h.el i s p hs hp).keep hb, h.sep⟩
theorem Lb.nil (B : Nat) (w : World) : Lb B w (.slice none 0 0) [] [] := ⟨El.Own.nil _ _ _, rfl, fun i s p hs => by simp at hs, fun i j s u _ hs => by simp at hs⟩
theorem Lb.mono {B B' : Nat} {w : World} {v : Value} {svs : List Sv} {ps : List (List Int)} (h : Lb B w v svs ps) (hB : B' ≤ B) : Lb B' w v svs ps := ⟨h.own.mono hB, h.len, fun i s p hs hp => (h.el i s p hs hp).mono hB, h.sep⟩
theorem Lds.keep {w w' : World} {v : Value} {ps : List (List Int)} (h : Lds w v ps) (hb : Below w.heap.size w w') : Lds w' v ps := by
  obtain ⟨svs, h1, h2, h3⟩ := h
  exact ⟨svs, h1.keep hb, h2, fun i s p hs hp => (h3 i s p hs hp).keep hb⟩
theorem Lds.form {w : World} {v : Value} {ps : List (List Int)} (h : Lds w v ps) : ∃ a c, v = .slice a ps.length c := by
  obtain ⟨svs, h1, h2, _⟩ := h
  obtain ⟨a, c, h⟩ := h1.form
  exact ⟨a, c, by rw [h, h2]⟩
theorem Lds.at {w : World} {a : Option Addr} {n c : Nat} {ps : List (List Int)} (h : Lds w (.slice a n c) ps) (i : Nat) (p : List Int) (hp : ps[i]? = some p) :
    ∃ b off a' c', a = some ⟨b, off, none⟩ ∧ w.cell? ⟨b, off + i, none⟩ = some (.slice a' p.length c') ∧ intE.Rd w (.slice a' p.length c') p := by
  obtain ⟨svs, h1, h2, h3⟩ := h
  obtain ⟨s, hs⟩ : ∃ s, svs[i]? = some s := ⟨_, List.getElem?_eq_getElem (by rw [h2]; exact idx_lt hp)⟩
  obtain ⟨b, off, e, hc⟩ := h1.at i s hs
  have e2 := h3 i s p hs hp
  obtain ⟨a', c', e3⟩ := e2.form
  simp only [Value.slice.injEq] at e3
  obtain ⟨rfl, e4, rfl⟩ := e3
  refine ⟨b, off, s.a, s.c, e, ?_, by rw [← e4]; exact e2⟩
  have := hc 0 (by decide)
  rw [show off + i * slE.k + 0 = off + i by show off + i * 1 + 0 = _; omega] at this
  rw [this, ← e4]
  rfl
theorem sl_sep {w : World} {B B' : Nat} {v u : Value} {svs : List Sv} {l : List Int} (hv : slE.Own w B v svs) (hu : intE.Own w B' u l) : Sep v u := fun g hg hg' => by
  obtain ⟨c1, h1⟩ := own_type hv g hg
  exact zown_ne hu h1 (by decide) hg'
/-- one more -/
theorem Lb.snoc {B : Nat} {w w' : World} {v v' : Value} {svs : List Sv} {ps : List (List Int)} {s : Sv} {p : List Int} (h : Lb B w v svs ps) (ho : slE.Own w' B v' (svs ++ [s])) (hg : w.grownBy w' v.ownBlock) (hs : intE.Own w B (.slice s.a s.l s.c) p)
    (hsep : ∀ (i : Nat) (u : Sv), svs[i]? = some u → Sep (.slice s.a s.l s.c) (.slice u.a u.l u.c)) : Lb B w' v' (svs ++ [s]) (ps ++ [p]) := by
  have one : ∀ {i : Nat} {u : Sv}, svs.length ≤ i → (svs ++ [s])[i]? = some u → i = svs.length ∧ u = s := fun {i u} hi hu => by
    rw [List.getElem?_append_right hi] at hu
    have := idx_lt hu
    simp at this
    have e : i - svs.length = 0 := by omega
    rw [e] at hu
    simp at hu
    exact ⟨by omega, hu.symm⟩
  refine ⟨ho, by simp [h.len], fun i u q hu hq => ?_, fun i j u u' hij hu hu' => ?_⟩
  · rcases Nat.lt_or_ge i svs.length with hi | hi
    · rw [List.getElem?_append_left hi] at hu
      rw [List.getElem?_append_left (by rw [← h.len]; exact hi)] at hq
      have h2 := h.el i u q hu hq
      exact El.Own.kept (sl_sep h.own h2) h2 hg
    · obtain ⟨rfl, rfl⟩ := one hi hu
      rw [List.getElem?_append_right (by rw [h.len]; exact Nat.le_refl _), h.len, Nat.sub_self] at hq
      simp at hq
      subst hq
      exact El.Own.kept (sl_sep h.own hs) hs hg
  · rcases Nat.lt_or_ge i svs.length with hi | hi
    · rw [List.getElem?_append_left hi] at hu
      rcases Nat.lt_or_ge j svs.length with hj | hj
      · rw [List.getElem?_append_left hj] at hu'
        exact h.sep i j u u' hij hu hu'
      · obtain ⟨_, rfl⟩ := one hj hu'
        exact (hsep i u hu).symm
    · obtain ⟨e1, rfl⟩ := one hi hu
      rcases Nat.lt_or_ge j svs.length with hj | hj
      · rw [List.getElem?_append_left hj] at hu'
        exact hsep j u' hu'
      · obtain ⟨e2, _⟩ := one hj hu'
        omega
theorem Lb.cell {B g n cap i : Nat} {w : World} {svs : List Sv} {ps : List (List Int)} {p : List Int} (h : Lb B w (.slice (some ⟨g, 0, none⟩) n cap) svs ps) (hp : ps[i]? = some p) :
    ∃ s : Sv, svs[i]? = some s ∧ s.l = p.length ∧ w.cell? ⟨g, i, none⟩ = some (.slice s.a p.length s.c) ∧ w.frozen? ⟨g, i, none⟩ = false ∧ intE.Own w B (.slice s.a p.length s.c) p := by
  obtain ⟨s, hs⟩ : ∃ s, svs[i]? = some s := ⟨_, List.getElem?_eq_getElem (by rw [h.len]; exact idx_lt hp)⟩
  have e2 := h.el i s p hs hp
  obtain ⟨a', c', e3⟩ := e2.rd.form
  simp only [Value.slice.injEq] at e3
  obtain ⟨c0, c1⟩ := h.own.at1 (fun s => .slice s.a s.l s.c) (fun _ => rfl) rfl i s hs
  refine ⟨s, hs, e3.2.1, ?_, c1, by rw [← e3.2.1]; exact e2⟩
  rw [c0, e3.2.1]
/-- one of them grows, or is written anew elsewhere -/
theorem Lb.put {B g n cap i : Nat} {w w' : World} {svs : List Sv} {ps : List (List Int)} {s : Sv} {p p' : List Int} {pa : Option Addr} {pl pc : Nat} (h : Lb B w (.slice (some ⟨g, 0, none⟩) n cap) svs ps) (hp : ps[i]? = some p) (hs : svs[i]? = some s) (ho : intE.Own w' B (.slice pa pl pc) p')
    (hg : w.grownBy w' (Value.slice s.a s.l s.c).ownBlock) (hv' : (Value.slice pa pl pc).ownBlock = (Value.slice s.a s.l s.c).ownBlock ∨ (Value.slice pa pl pc).ownBlock = some w.heap.size) :
    (w'.cell? ⟨g, i, none⟩ = some (.slice s.a s.l s.c) ∧ w'.frozen? ⟨g, i, none⟩ = false) ∧ Lb B (w'.setCell ⟨g, i, none⟩ (.slice pa pl pc)) (.slice (some ⟨g, 0, none⟩) n cap) (svs.set i ⟨pa, pl, pc⟩) (ps.set i p') := by
  have hov := h.el i s p hs hp
  have hi : i < svs.length := idx_lt hs
  have hown' : slE.Own w' B (.slice (some ⟨g, 0, none⟩) n cap) svs := El.Own.kept (sl_sep h.own hov).symm h.own hg
  have hg' : ∀ {u : Value} {l : List Int}, intE.Own w' B u l → u.ownBlock ≠ some g := fun ho => by
    obtain ⟨c1, h1⟩ := own_type hown' g rfl
    exact zown_ne ho h1 (by decide)
  refine ⟨hown'.at1 (fun s => .slice s.a s.l s.c) (fun _ => rfl) rfl i s hs, ?_, by rw [List.length_set, List.length_set]; exact h.len, ?_, ?_⟩
  · exact hown'.set (fun s => .slice s.a s.l s.c) (fun _ => rfl) rfl i ⟨pa, pl, pc⟩
  · intro j u q hu hq
    rw [List.getElem?_set] at hu hq
    by_cases e : i = j
    · subst e
      rw [if_pos rfl, if_pos hi] at hu
      rw [if_pos rfl, if_pos (idx_lt hp)] at hq
      cases hu
      cases hq
      exact own_set_other ho (hg' ho)
    · rw [if_neg e] at hu hq
      have h2 := El.Own.kept (h.sep i j s u e hs hu) (h.el j u q hu hq) hg
      exact own_set_other h2 (hg' h2)
  · intro j k u u' hjk hu hu'
    rw [List.getElem?_set] at hu hu'
    have oth : ∀ (k : Nat) (u' : Sv), i ≠ k → svs[k]? = some u' → Sep (.slice pa pl pc) (.slice u'.a u'.l u'.c) := fun k u' e hu' => by
      obtain ⟨q, hq⟩ : ∃ q, ps[k]? = some q := ⟨_, List.getElem?_eq_getElem (by rw [← h.len]; exact idx_lt hu')⟩
      exact El.Own.sep (h.sep i k s u' e hs hu') (h.el k u' q hu' hq) hv'
    by_cases e : i = j
    · subst e
      rw [if_pos rfl, if_pos hi] at hu
      rw [if_neg hjk] at hu'
      cases hu
      exact oth k u' hjk hu'
    · rw [if_neg e] at hu
      by_cases e' : i = k
      · subst e'
        rw [if_pos rfl, if_pos hi] at hu'
        cases hu'
        exact (oth j u e hu).symm
      · rw [if_neg e'] at hu'
        exact h.sep j k u u' hjk hu hu'
theorem set_last {α : Type} (Q : List α) (x y : α) : (Q ++ [x]).set Q.length y = Q ++ [y] := by
  rw [List.set_append_right _ _ (Nat.le_refl _), Nat.sub_self]; rfl
theorem last_at {α : Type} (Q : List α) (x : α) : (Q ++ [x])[Q.length]? = some x := by simp
end Go.Proofs.Ytmmkfcmbmecleaa
