/- ClaimWhole: a map of lists of nodes; grants' mathematics. -/
import Derived.Test.YtbibegendejnlaaCsv
import Derived.Maps.Own
import Derived.Maps.OwnOps
import Derived.Maps.OwnSet
import Derived.Maps.Views
namespace Go.Proofs.Ytbibegendejnlaa
open Go.RowKit Go.Maps Go.ChangeMaps
set_option linter.unusedVariables false

/-! ### who is granted holds its nodes behind all grants -/
theorem Gr.stay {T T' : Tb} {l : List Int} (h : Gr T T' l) (hw : Wf T) {t n : Int} (ht : t ≠ 0) (hq : ∀ c ∈ T.q, c.tote ≠ t) (hn : hat T.hold n = t) : hat T'.hold n = t := by
  induction h with
  | done T h => exact hn
  | step T i c T' l hc hm hf hG ih =>
    have hcm := List.mem_of_getElem? hc
    refine ih (hw.grant hc) (fun d hd => hq d (mem_del hd)) ?_
    show hat (setL T.hold c.tote c.nodes) n = t
    rw [hat_setL _ _ _ (hw.nodes c hcm).1]
    split
    · rename_i hnn
      rw [mayB_at hc] at hm
      rcases may_free hm hnn with h | h
      · rw [hn] at h; exact absurd h ht
      · rw [hn] at h; exact absurd h.symm (hq c hcm)
    · exact hn
theorem del_mem {T : Tb} (hw : Wf T) {i : Nat} {c d : Cl} (hc : T.q[i]? = some c) : d ∈ T.q.take i ++ T.q.drop (i + 1) ↔ d ∈ T.q ∧ d.tote ≠ c.tote := by
  have hlt := idx_lt hc
  have e : T.q = T.q.take i ++ c :: T.q.drop (i + 1) := by
    rw [List.getElem?_eq_getElem hlt] at hc
    have hc' := Option.some.inj hc
    rw [← hc', List.getElem_cons_drop, List.take_append_drop]
  have hn := hw.once
  rw [e, List.map_append, List.map_cons] at hn
  have hp : (List.map (·.tote) (T.q.take i) ++ c.tote :: List.map (·.tote) (T.q.drop (i + 1))).Perm (c.tote :: (List.map (·.tote) (T.q.take i) ++ List.map (·.tote) (T.q.drop (i + 1)))) := List.perm_middle
  have hn2 := hp.nodup_iff.1 hn
  rw [List.nodup_cons, ← List.map_append] at hn2
  constructor
  · intro h
    refine ⟨mem_del h, fun e' => hn2.1 ?_⟩
    rw [← e']
    exact List.mem_map.2 ⟨d, h, rfl⟩
  · rintro ⟨h1, h2⟩
    rw [e] at h1
    rcases List.mem_append.1 h1 with h | h
    · exact List.mem_append.2 (.inl h)
    · rcases List.mem_cons.1 h with rfl | h
      · exact absurd rfl h2
      · exact List.mem_append.2 (.inr h)
theorem Gr.held {T T' : Tb} {l : List Int} (h : Gr T T' l) (hw : Wf T) : ∀ c ∈ T.q, c.tote ∈ l → ∀ n ∈ c.nodes, hat T'.hold n = c.tote := by
  induction h with
  | done T h => intro c _ hl; simp at hl
  | step T i c0 T' l hc hm hf hG ih =>
    intro c hcq hl n hn
    have hwg := hw.grant hc
    by_cases e : c.tote = c0.tote
    · have hcc : c = c0 := by
        by_cases hd : c ∈ T.q.take i ++ T.q.drop (i + 1)
        · exact absurd e ((del_mem hw hc).1 hd).2
        · have hlt := idx_lt hc
          have e2 : T.q = T.q.take i ++ c0 :: T.q.drop (i + 1) := by
            rw [List.getElem?_eq_getElem hlt] at hc
            have hc' := Option.some.inj hc
            rw [← hc', List.getElem_cons_drop, List.take_append_drop]
          rw [e2] at hcq
          rcases List.mem_append.1 hcq with h | h
          · exact absurd (List.mem_append.2 (.inl h)) hd
          · rcases List.mem_cons.1 h with h | h
            · exact h
            · exact absurd (List.mem_append.2 (.inr h)) hd
      subst hcc
      refine hG.stay hwg (by have := (hw.tote c hcq).1; omega) (fun d hd => ((del_mem hw hc).1 hd).2) ?_
      show hat (setL T.hold c.tote c.nodes) n = c.tote
      rw [hat_setL _ _ _ (hw.nodes c hcq).1, if_pos hn]
    · have hl' : c.tote ∈ l := by
        rcases List.mem_cons.1 hl with h | h
        · exact absurd h e
        · exact h
      exact ih hwg c ((del_mem hw hc).2 ⟨hcq, e⟩) hl' n hn
theorem Gr.left {T T' : Tb} {l : List Int} (h : Gr T T' l) (hw : Wf T) (c : Cl) : c ∈ T'.q ↔ c ∈ T.q ∧ c.tote ∉ l := by
  induction h with
  | done T h => simp
  | step T i c0 T' l hc hm hf hG ih =>
    rw [ih (hw.grant hc)]
    show c ∈ T.q.take i ++ T.q.drop (i + 1) ∧ _ ↔ _
    rw [del_mem hw hc, List.mem_cons]
    constructor
    · rintro ⟨⟨h1, h2⟩, h3⟩
      exact ⟨h1, fun h => h.elim h2 h3⟩
    · rintro ⟨h1, h2⟩
      exact ⟨⟨h1, fun h => h2 (.inl h)⟩, fun h => h2 (.inr h)⟩
theorem Gr.from {T T' : Tb} {l : List Int} (h : Gr T T' l) (hw : Wf T) : l.Nodup ∧ ∀ g ∈ l, ∃ c ∈ T.q, c.tote = g := by
  have hp := h.perm
  have hn : (l ++ totes T').Nodup := hp.nodup_iff.1 hw.once
  rw [List.nodup_append] at hn
  refine ⟨hn.1, fun g hg => ?_⟩
  have : g ∈ totes T := hp.mem_iff.2 (List.mem_append.2 (.inl hg))
  obtain ⟨c, hc, e⟩ := List.mem_map.1 this
  exact ⟨c, hc, e⟩

/-! ### the map -/
def raw (v : Value) : Option (DataW Value × List MemPlace) := some (.held v, [])
theorem mlaw : Keyed Try.prog 3 := int_keyed Try.underlying3
theorem zero28 (w : World) : (zeroValue 28).run Try.prog w = .ok (.slice none 0 0) w := by kernel_rfl
def key (x : Int) : Lit := .int .i64 x
theorem key_ne {x y : Int} (h : x ≠ y) : key x ≠ key y := fun e => h (by simpa [key] using e)
theorem key_lit (x : Int) : WideAt.IsKeyLit (key x) := by unfold key; trivial
theorem wf64 {x : Int} (h0 : 1 ≤ x) (h1 : x ≤ 30) : (Lit.int .i64 x).wf = true := by
  simp [Lit.wf, IntKind.min, IntKind.max, IntKind.bits, IntKind.signed]; omega

/-- a map from totes to lists: f tells where a tote's list lies -/
def Mp (w : World) (mb n s : Nat) (f : Int → Option Value) : Prop := ∃ D, w.ownsMap Try.prog 3 raw mb n D ∧ Maps.size D = s ∧ ∀ x : Int, 1 ≤ x → x ≤ 30 → match f x with
  | none => has D (key x) = false
  | some v => has D (key x) = true ∧ ∀ z, D.atKey (key x) z = .held v
theorem Mp.keep {w w' : World} {mb n s : Nat} {f : Int → Option Value} (H : Mp w mb n s f) (hb : w'.heap[mb]? = w.heap[mb]?) : Mp w' mb n s f := by
  obtain ⟨D, ⟨es, clock, hx, hr⟩, hM⟩ := H
  exact ⟨D, ⟨es, clock, by rw [hb]; exact hx, hr⟩, hM⟩
theorem Mp.lt {w : World} {mb n s : Nat} {f : Int → Option Value} (H : Mp w mb n s f) : mb < w.heap.size := by
  obtain ⟨D, hm, _⟩ := H
  exact hm.lt
theorem Mp.obj {w : World} {mb n s : Nat} {f : Int → Option Value} (H : Mp w mb n s f) : ∀ cur t, w.heap[mb]? ≠ some (.cells cur t) := fun cur t h => by
  obtain ⟨D, ⟨es, clock, hx, hr⟩, hM⟩ := H
  rw [hx] at h; cases h
theorem Mp.made (w : World) : Mp (w.alloc (.map #[] 0)) w.heap.size 0 0 (fun _ => none) := ⟨.map [], World.ownsMap_made w Try.prog 3 raw, rfl, fun _ _ _ => rfl⟩
theorem Mp.look {w : World} {mb n s : Nat} {f : Int → Option Value} (H : Mp w mb n s f) {x : Int} (h0 : 1 ≤ x) (h1 : x ≤ 30) :
    (Instr.lookup 51 (.map (some mb)) (.int .i64 x) false).run Try.prog w = .ok ((f x).getD (.slice none 0 0)) w := by
  obtain ⟨D, hm, _, hM⟩ := H
  have hx := hM x h0 h1
  obtain ⟨v, ps, hrun, hv⟩ := hm.lookup mlaw Try.underlying51 (zero28 _) (zd := .held (.slice none 0 0)) (zp := []) rfl (keyOf_int_mk Try.underlying3 (wf64 h0 h1))
  rw [hrun]
  simp only [raw, Option.some.injEq, Prod.mk.injEq] at hv
  have ev := hv.1.symm
  cases hf : f x with
  | none =>
    rw [hf] at hx
    rw [show D.atKey (.int .i64 x) (.held (.slice none 0 0)) = .held (.slice none 0 0) from atKey_of_not_has hx _] at ev
    cases ev; rfl
  | some u =>
    rw [hf] at hx
    rw [show D.atKey (.int .i64 x) (.held (.slice none 0 0)) = .held u from hx.2 _] at ev
    cases ev; rfl
theorem Mp.len {w : World} {mb n s : Nat} {f : Int → Option Value} (H : Mp w mb n s f) (ty : TypeId) : (Builtin.len_ #[51] ty #[.map (some mb)]).run Try.prog w = .ok (.int .i64 (s : Int)) w := by
  obtain ⟨D, hm, hs, hM⟩ := H
  rw [← hs]
  exact hm.len Try.underlying51 ty
theorem turn_else {w w' : World} {b : Nat} (ht : w.mapTurned w' b) : w'.os = w.os ∧ w'.tape = w.tape ∧ w'.output = w.output ∧ (∀ k, k ≠ b → w'.heap[k]? = w.heap[k]?) ∧ w'.heap.size = w.heap.size := by
  have hg := ht.grown
  obtain ⟨es, clock, es', clock', hb, rfl⟩ := ht
  exact ⟨hg.os, hg.tape, hg.output, fun k hk => by simp [setBlock, hk.symm], by simp [setBlock]⟩
/-- but for the map's block all stays -/
structure Om (mb : Nat) (w w' : World) : Prop where
  os : w'.os = w.os
  tape : w'.tape = w.tape
  output : w'.output = w.output
  block : ∀ k, k ≠ mb → w'.heap[k]? = w.heap[k]?
  size : w'.heap.size = w.heap.size
theorem Om.of {mb : Nat} {w w' : World} (ht : w.mapTurned w' mb) : Om mb w w' := by
  obtain ⟨h1, h2, h3, h4, h5⟩ := turn_else ht
  exact ⟨h1, h2, h3, h4, h5⟩
theorem Mp.put {w : World} {mb n s : Nat} {f : Int → Option Value} (H : Mp w mb n s f) {x : Int} (h0 : 1 ≤ x) (h1 : x ≤ 30) (v : Value) (hn : n ≤ 1000000) (hf : f x = none) :
    ∃ w', (Instr.mapUpdate 51 (.map (some mb)) (.int .i64 x) v).run Try.prog w = .ok () w' ∧ Mp w' mb (n + 1) (s + 1) (fun y => if y = x then some v else f y) ∧ Om mb w w' := by
  obtain ⟨D, hm, hs, hM⟩ := H
  obtain ⟨w', hr, hm', ht⟩ := hm.store mlaw Try.underlying51 (by unfold maxLen; omega) (keyOf_int_mk Try.underlying3 (wf64 h0 h1)) (val := v) (d := .held v) (ps := []) rfl
  have hx := hM x h0 h1
  rw [hf] at hx
  refine ⟨w', hr, ⟨_, hm', ?_, fun y y0 y1 => ?_⟩, Om.of ht⟩
  · have := size_put (hm.tidy mlaw) (k := key x) (.held v)
    rw [show has D (key x) = false from hx] at this
    rw [← hs]
    simpa [key] using this
  · have := hM y y0 y1
    by_cases e : y = x
    · subst e
      simp only [if_true]
      exact ⟨has_put_same hm.isMap (key_lit y) _, fun z => atKey_put_same hm.isMap (key_lit y) _ z⟩
    · simp only [if_neg e]
      cases hw : f y with
      | none => rw [hw] at this; exact (has_put_other (key_ne e) _).trans this
      | some p =>
        rw [hw] at this
        exact ⟨(has_put_other (key_ne e) _).trans this.1, fun z => (atKey_put_other (key_ne e) _ z).trans (this.2 z)⟩
theorem Mp.del {w : World} {mb n s : Nat} {f : Int → Option Value} (H : Mp w mb n (s + 1) f) {x : Int} (h0 : 1 ≤ x) (h1 : x ≤ 30) (hf : (f x).isSome = true) :
    ∃ w', (∀ ty, (Builtin.delete_ #[51, 3] ty #[.map (some mb), .int .i64 x]).run Try.prog w = .ok (.tuple #[]) w') ∧ Mp w' mb n s (fun y => if y = x then none else f y) ∧ Om mb w w' := by
  obtain ⟨D, hm, hs, hM⟩ := H
  have hx := hM x h0 h1
  cases hfx : f x with
  | none => rw [hfx] at hf; cases hf
  | some u =>
    rw [hfx] at hx
    obtain ⟨w', hr, hm', ht⟩ := hm.drop mlaw Try.underlying51 (keyOf_int_mk Try.underlying3 (wf64 h0 h1)) 0
    refine ⟨w', fun ty => ?_, ⟨_, hm', ?_, fun y y0 y1 => ?_⟩, Om.of ht⟩
    · exact hr
    · have := size_del (hm.tidy mlaw) (k := key x)
      rw [show has D (key x) = true from hx.1] at this
      simp only [if_true] at this
      have e : Maps.size (D.del (key x)) + 1 = s + 1 := by rw [← hs]; omega
      exact Nat.succ.inj e
    · have := hM y y0 y1
      by_cases e : y = x
      · subst e
        simp only [if_true]
        exact has_del_same
      · simp only [if_neg e]
        cases hw : f y with
        | none => rw [hw] at this; exact (has_del_other (key_ne e)).trans this
        | some p =>
          rw [hw] at this
          exact ⟨(has_del_other (key_ne e)).trans this.1, fun z => (atKey_del_other (key_ne e) z).trans (this.2 z)⟩
end Go.Proofs.Ytbibegendejnlaa
