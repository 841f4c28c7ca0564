/- What make makes; a plant that is new. -/
import Derived.Test.YthcdfclhenmleaaPrc
import Derived.Test.YthcdfclhenmleaaChk
import Derived.Laws.MakeOwn
namespace Go.Proofs.Ythcdfclhenmleaa
open Go.RowKit
set_option linter.unusedVariables false

theorem take_one {α : Type} {l : List α} {k : Nat} {x : α} (h : l[k]? = some x) : l.take (k + 1) = l.take k ++ [x] := by
  rw [List.take_add_one, h]; rfl
theorem made_cells {α : Type} (E : El Try.prog α) (d : α) (hz : E.z.cells.toList = E.enc d) (n : Nat) : (madeCells E.z.cells (n * E.k)).toList = E.fl (List.replicate n d) := by
  have hs : E.z.cells.size = E.k := by rw [← Array.length_toList, hz, E.len]
  apply List.ext_getElem?
  intro j
  have hk := E.kpos
  rcases Nat.lt_or_ge j (n * E.k) with h | h
  · have hi : j / E.k < n := (Nat.div_lt_iff_lt_mul hk).2 h
    have hj : j % E.k < E.k := Nat.mod_lt _ hk
    have e : j / E.k * E.k + j % E.k = j := by rw [Nat.mul_comm]; exact Nat.div_add_mod j E.k
    have := E.fl_at (List.replicate n d) (j / E.k) (j % E.k) d (by rw [List.getElem?_replicate, if_pos hi]) hj
    rw [e] at this
    rw [this, ← hz]
    unfold madeCells
    rw [Array.getElem?_toList, Array.getElem?_map, Array.getElem?_range, if_pos h, Array.getElem?_toList]
    simp only [Option.map_some, hs]
    rw [Array.getElem?_eq_getElem (by rw [hs]; exact hj)]
    simp [hs, hj]
  · rw [List.getElem?_eq_none (by rw [Array.length_toList, size_madeCells]; exact h), List.getElem?_eq_none (by rw [E.fl_len, List.length_replicate]; exact h)]
theorem made_any {α : Type} (E : El Try.prog α) (d : α) (hz : E.z.cells.toList = E.enc d) (n : Nat) (hn : n ≤ 1000) (hb : E.by' ≤ 1000) : ∃ C : Array Value, (∀ W, (Instr.makeSlice E.t (.int .i64 (n : Int)) (.int .i64 (n : Int))).run Try.prog W = .ok (.slice (some ⟨W.heap.size, 0, none⟩) n n) (W.alloc (.cells C E.e))) ∧
    ∀ W : World, E.Own (W.alloc (.cells C E.e)) W.heap.size (.slice (some ⟨W.heap.size, 0, none⟩) n n) (List.replicate n d) := by
  obtain ⟨i, hi, he⟩ := Option.map_eq_some_iff.1 E.info
  have e1 : i.zero = some E.z := congrArg Prod.fst he
  have e2 : i.size = E.k := congrArg (fun p => p.2.1) he
  have e3 : i.bytes = E.by' := congrArg (fun p => p.2.2) he
  refine ⟨madeCells E.z.cells (n * E.k), fun W => ?_, fun W => El.Own.new E W W.heap.size (Nat.le_refl _) _ _ (made_cells E d hz n) (by rw [List.length_replicate]; omega) _ _ _ rfl (by rw [List.length_replicate]) (by rw [List.length_replicate])⟩
  have hq : (i.bytes : Int) * (n : Int) ≤ 281474976710656 := by
    rw [e3]
    have h1 : E.by' * n ≤ 1000 * 1000 := Nat.mul_le_mul hb hn
    have h2 : ((E.by' * n : Nat) : Int) ≤ 281474976710656 := by omega
    rwa [Int.natCast_mul] at h2
  have := run_make (P := Try.prog) W E.t E.e i E.z E.ht hi e1 .i64 .i64 n n (by omega) (Int.le_refl _) hq (by omega)
  rw [e2] at this
  simpa using this
theorem made_i (n : Nat) (hn : n ≤ 1000) : ∃ C : Array Value, (∀ W, (Instr.makeSlice 35 (.int .i64 (n : Int)) (.int .i64 (n : Int))).run Try.prog W = .ok (.slice (some ⟨W.heap.size, 0, none⟩) n n) (W.alloc (.cells C 3))) ∧
    ∀ W : World, intE.Own (W.alloc (.cells C 3)) W.heap.size (.slice (some ⟨W.heap.size, 0, none⟩) n n) (List.replicate n 0) := made_any intE 0 rfl n hn (by decide)
def dv0 : Dv := ⟨0, 0, 0, 0, false⟩
theorem made_d (n : Nat) (hn : n ≤ 1000) : ∃ C : Array Value, (∀ W, (Instr.makeSlice 72 (.int .i64 (n : Int)) (.int .i64 (n : Int))).run Try.prog W = .ok (.slice (some ⟨W.heap.size, 0, none⟩) n n) (W.alloc (.cells C 76))) ∧
    ∀ W : World, dvE.Own (W.alloc (.cells C 76)) W.heap.size (.slice (some ⟨W.heap.size, 0, none⟩) n n) (List.replicate n dv0) := made_any dvE dv0 rfl n hn (by decide)

def mkD (e : Int × Int) : Dv := ⟨e.1, e.2, 0, 0, false⟩
def Pl.nw (n : Nat) (es : List (Int × Int)) : Pl := ⟨List.replicate n 0, es.map mkD, 0⟩
/-- the devices, as many as were laid -/
def nwD (es : List (Int × Int)) (k : Nat) : List Dv := (es.take k).map mkD ++ List.replicate (es.length - k) dv0
theorem nwD_zero (es : List (Int × Int)) : nwD es 0 = List.replicate es.length dv0 := by simp [nwD]
theorem nwD_end (es : List (Int × Int)) : nwD es es.length = es.map mkD := by simp [nwD]
theorem nwD_at (es : List (Int × Int)) (k : Nat) (hk : k < es.length) : (nwD es k)[k]? = some dv0 := by
  unfold nwD
  have hl : ((es.take k).map mkD).length = k := by rw [List.length_map, List.length_take]; omega
  rw [List.getElem?_append_right (by omega), hl, Nat.sub_self, List.getElem?_replicate, if_pos (by omega)]
theorem nwD_set (es : List (Int × Int)) (k : Nat) (e : Int × Int) (he : es[k]? = some e) : (nwD es k).set k (mkD e) = nwD es (k + 1) := by
  have hk := idx_lt he
  unfold nwD
  have hl : ((es.take k).map mkD).length = k := by rw [List.length_map, List.length_take]; omega
  rw [take_one he, List.map_append, List.set_append_right _ _ (by omega), hl, Nat.sub_self]
  obtain ⟨r, hr⟩ : ∃ r, es.length - k = r + 1 := ⟨es.length - k - 1, by omega⟩
  rw [hr, List.replicate_succ, List.set_cons_zero, show es.length - (k + 1) = r by omega, List.append_assoc]
  rfl
theorem Pl.nw_ok {n : Nat} {es : List (Int × Int)} (hn : n ≤ 40) (hm : es.length ≤ 120) (he : ∀ e ∈ es, (0 ≤ e.1 ∧ e.1 < n) ∧ (0 ≤ e.2 ∧ e.2 < n) ∧ e.1 ≠ e.2) : (Pl.nw n es).Ok n es := by
  refine ⟨List.length_replicate .., hn, ?_, hm, he, ?_, ?_, fun D hD => ?_, Int.le_refl _⟩
  · show (es.map mkD).map ends = es
    rw [List.map_map]
    have : ends ∘ mkD = id := rfl
    rw [this, List.map_id]
  · intro x hx
    have := List.eq_of_mem_replicate hx
    omega
  · intro i j x hx hi
    have := List.eq_of_mem_replicate (List.mem_of_getElem? hi)
    exact absurd this hx
  · obtain ⟨e, _, rfl⟩ := List.mem_map.1 hD
    exact ⟨⟨Int.le_refl _, by show (0 : Int) ≤ 65535; decide⟩, ⟨Int.le_refl _, by show (0 : Int) ≤ 30; decide⟩, fun _ => rfl⟩
/-- what a layout's edges are -/
theorem good_he {ns : List Nd} {es : List Ed} (h : good ns es = true) : ns.length ≤ 40 ∧ es.length ≤ 120 ∧ ∀ e ∈ es, (0 ≤ e.1 ∧ e.1 < ns.length) ∧ (0 ≤ e.2 ∧ e.2 < ns.length) ∧ e.1 ≠ e.2 := by
  unfold good at h
  rw [Bool.and_eq_true] at h
  have h1 := of_decide_eq_true h.1
  have h2 := of_decide_eq_true h.2
  refine ⟨h1.2.1, h2.1, fun e he => ?_⟩
  have := h2.2.1 e he
  unfold edB at this
  simp only [Bool.and_eq_true, decide_eq_true_eq, placeB] at this
  exact ⟨this.1.1.1, this.1.1.2, this.1.2⟩
/-- a plant that was made is a thing more -/
theorem Its.addm {w0 w w' : World} {l : List It} {g n m : Nat} {H : Nat × Nat} {es : List (Int × Int)} {S : Pl} (h : Its w0 l w) (h' : Its w [.pla w.heap.size g H n m es S] w') : Its w0 (.pla w0.heap.size g H n m es S :: l) w' := by
  have hp := h'.one
  refine h.new (x := .pla w0.heap.size g H n m es S) ⟨?_, ?_⟩ (fun k hk => ?_) h'.bel
  · intro x hx
    simp only [pparts, List.mem_cons, List.not_mem_nil, or_false] at hx
    rcases hx with rfl | rfl | rfl | rfl
    · exact pl_fact hp
    · exact (pl_ds hp).mono h.size
    · exact (pl_ts hp).mono h.size
    · exact pl_box hp
  · have := hp.2
    simp only [pparts, List.pairwise_cons, List.mem_cons, List.not_mem_nil, or_false, forall_eq_or_imp, forall_eq, It.row, It.box, It.fact] at this ⊢
    exact this
  · refine h'.ge _ (List.mem_singleton.2 rfl) k ?_
    obtain ⟨x, hx, q⟩ := hk
    simp only [pparts, List.mem_cons, List.not_mem_nil, or_false] at hx
    rcases hx with rfl | rfl | rfl | rfl
    · exact q.elim
    · exact ⟨.row dvE w.heap.size (.slice (some ⟨H.2, 0, none⟩) m m) S.ds, by simp [pparts], q⟩
    · exact ⟨.ints w.heap.size (.slice (some ⟨H.1, 0, none⟩) n n) S.ts, by simp [pparts], q⟩
    · exact ⟨.box g #[.slice (some ⟨H.1, 0, none⟩) n n, .slice (some ⟨H.2, 0, none⟩) m m, .int .i64 S.mv] 74, by simp [pparts], q⟩
end Go.Proofs.Ythcdfclhenmleaa
