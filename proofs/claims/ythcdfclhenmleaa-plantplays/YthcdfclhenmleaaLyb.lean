/- Places of nodes and edges; names and edges once each. -/
import Derived.Test.YthcdfclhenmleaaLay
import Derived.Test.YthcdfclhenmleaaExm
import Derived.Deep.CutRange
import Derived.Deep.DeepCutAuto
import Derived.Deep.QuietTactic
import Derived.BigQuiet
import Derived.LoopTactic
import Derived.ChangeKeysEq
import Derived.WideShapes4
import Derived.OpenShut
import Derived.Laws.RangeAny
namespace Go.Proofs.Ythcdfclhenmleaa
open Go.RowKit
set_option linter.unusedVariables false

theorem nd_at {w : World} {a : Option Addr} {n c : Nat} {ns : List Nd} (h : ndE.Rd w (.slice a n c) ns) (i : Nat) (p : Nd) (hp : ns[i]? = some p) : ∃ b off, a = some ⟨b, off, none⟩ ∧ w.cell? ⟨b, off + i * 3, none⟩ = some (.string p.name) ∧ w.cell? ⟨b, off + i * 3 + 1, none⟩ = some (.int .i64 p.kind) ∧ w.cell? ⟨b, off + i * 3 + 2, none⟩ = some (.int .i64 p.zone) := by
  obtain ⟨b, off, h1, h2⟩ := h.at i p hp
  exact ⟨b, off, h1, h2 0 (by decide), h2 1 (by decide), h2 2 (by decide)⟩
theorem ed_at {w : World} {a : Option Addr} {n c : Nat} {es : List Ed} (h : edE.Rd w (.slice a n c) es) (i : Nat) (p : Ed) (hp : es[i]? = some p) : ∃ b off, a = some ⟨b, off, none⟩ ∧ w.cell? ⟨b, off + i * 2, none⟩ = some (.int .i64 p.1) ∧ w.cell? ⟨b, off + i * 2 + 1, none⟩ = some (.int .i64 p.2) := by
  obtain ⟨b, off, h1, h2⟩ := h.at i p hp
  exact ⟨b, off, h1, h2 0 (by decide), h2 1 (by decide)⟩

theorem take_mem {ns : List Nd} {k : Nat} {p : Nd} (hp : ns[k]? = some p) (s : ByteArray) : s ∈ (ns.take (k + 1)).map (·.name) ↔ s ∈ (ns.take k).map (·.name) ∨ s = p.name := by
  rw [List.take_add_one, hp, List.map_append]; simp
theorem dup_no {ns : List Nd} {k : Nat} {p : Nd} (hp : ns[k]? = some p) (h : p.name ∈ (ns.take k).map (·.name)) : goodN ns = false := by
  unfold goodN
  refine decide_eq_false fun hg => ?_
  have hn := hg.2.2.2
  have hk : k < ns.length := by
    rcases Nat.lt_or_ge k ns.length with h' | h'
    · exact h'
    · rw [List.getElem?_eq_none h'] at hp; cases hp
  have e : ns = ns.take k ++ p :: ns.drop (k + 1) := by
    rw [List.getElem?_eq_getElem hk] at hp
    cases hp
    rw [List.getElem_cons_drop, List.take_append_drop]
  rw [e, List.map_append, List.map_cons, List.nodup_append] at hn
  exact hn.2.2 _ h _ (List.mem_cons_self ..) rfl
theorem bad_no {ns : List Nd} {k : Nat} {p : Nd} (hp : ns[k]? = some p) (h : ndB p = false) : goodN ns = false := by
  unfold goodN
  refine decide_eq_false fun hg => ?_
  rw [hg.2.2.1 p (List.mem_of_getElem? hp)] at h; cases h
theorem take_nodup {ns : List Nd} {k : Nat} {p : Nd} (hp : ns[k]? = some p) (h : ((ns.take k).map (·.name)).Nodup) (h2 : p.name ∉ (ns.take k).map (·.name)) : ((ns.take (k + 1)).map (·.name)).Nodup := by
  rw [List.take_add_one, hp, List.map_append]
  simp only [Option.toList_some, List.map_cons, List.map_nil]
  rw [List.nodup_append]
  exact ⟨h, by simp, fun a ha b hb => by simp at hb; subst hb; rintro rfl; exact h2 ha⟩

theorem info3 : (Try.prog.info? 3).map (fun i => i.size) = some 1 := by kernel_rfl
theorem ed_equal' (w : World) (a b c e : Int) (d : Nat) : (Op.equalIn (d + 1 + 1) 42 (.agg #[.int .i64 a, .int .i64 b]) (.agg #[.int .i64 c, .int .i64 e])).run Try.prog w = .ok (decide ((a, b) = (c, e))) w := by
  obtain ⟨i, hi, he⟩ := Option.map_eq_some_iff.1 info3
  have c3 : Try.prog.cellsOf 3 = 1 := by kernel_rfl
  have p1 : ∀ (xs : Array Value) (j : Nat) (v : Value), xs[j]? = some v → (part 3 xs j).run Try.prog w = .ok v w := fun xs j v h => by
    have ag : (isAgg 3).run Try.prog w = .ok false w := by kernel_rfl
    simp [part, ag, h]
  rw [run_equalIn_array w (d + 1) #[.int .i64 a, .int .i64 b] #[.int .i64 c, .int .i64 e] Try.underlying42 hi, c3]
  simp only [show List.range 2 = [0, 1] from rfl, Op.eqItems, Sem.run_bind, Nat.zero_mul, Nat.one_mul]
  rw [p1 _ 0 (.int .i64 a) rfl]
  simp only [Result.andThen_ok]
  rw [p1 _ 0 (.int .i64 c) rfl]
  simp only [Result.andThen_ok, run_equalIn_int w d 3 .i64 .i64 a c Try.underlying3]
  by_cases h1 : a = c
  · subst h1
    simp only [beq_self_eq_true, Bool.not_true, Bool.false_eq_true, if_false, Sem.run_bind]
    rw [p1 _ 1 (.int .i64 b) rfl]
    simp only [Result.andThen_ok]
    rw [p1 _ 1 (.int .i64 e) rfl]
    simp only [Result.andThen_ok, run_equalIn_int w d 3 .i64 .i64 b e Try.underlying3]
    by_cases h2 : b = e
    · subst h2; simp
    · simp [h2]
  · simp [h1]
theorem ed_equal (w : World) (a b c e : Int) : (Op.equalIn 10000 42 (.agg #[.int .i64 a, .int .i64 b]) (.agg #[.int .i64 c, .int .i64 e])).run Try.prog w = .ok (decide ((a, b) = (c, e))) w := ed_equal' w a b c e 9998

theorem edge_dup {ns : List Nd} {es : List Ed} {k : Nat} {p : Ed} (hp : es[k]? = some p) (h : p ∈ es.take k) : goodE ns es = false := by
  unfold goodE
  refine decide_eq_false fun hg => ?_
  have hn := hg.2.2
  have hk : k < es.length := by
    rcases Nat.lt_or_ge k es.length with h' | h'
    · exact h'
    · rw [List.getElem?_eq_none h'] at hp; cases hp
  have e : es = es.take k ++ p :: es.drop (k + 1) := by
    rw [List.getElem?_eq_getElem hk] at hp
    cases hp
    rw [List.getElem_cons_drop, List.take_append_drop]
  rw [e, List.nodup_append] at hn
  exact hn.2.2 _ h _ (List.mem_cons_self ..) rfl
theorem edge_bad {ns : List Nd} {es : List Ed} {k : Nat} {p : Ed} (hp : es[k]? = some p) (h : edB ns p = false) : goodE ns es = false := by
  unfold goodE
  refine decide_eq_false fun hg => ?_
  rw [hg.2.1 p (List.mem_of_getElem? hp)] at h; cases h
theorem take_nodupE {es : List Ed} {k : Nat} {p : Ed} (hp : es[k]? = some p) (h : (es.take k).Nodup) (h2 : p ∉ es.take k) : (es.take (k + 1)).Nodup := by
  rw [List.take_add_one, hp]
  simp only [Option.toList_some]
  rw [List.nodup_append]
  exact ⟨h, by simp, fun a ha b hb => by simp at hb; subst hb; rintro rfl; exact h2 ha⟩

theorem eq_bytes (a b : ByteArray) : (a.toList == b.toList) = decide (a = b) := by
  rw [ByteArray.toList_eq, ByteArray.toList_eq]
  by_cases h : a = b
  · subst h; simp
  · rw [decide_eq_false h]
    refine beq_eq_false_iff_ne.2 fun e => h ?_
    cases a; cases b
    simp only [ByteArray.mk.injEq] at e ⊢
    exact Array.toList_inj.1 e

end Go.Proofs.Ythcdfclhenmleaa
