/- slices.Delete and slices.Index of pointers; finish. -/
import Derived.Test.YtfmpipihjnpimaaBkb
import Derived.Deep.RegionLaw
import Derived.Lib.SliceRun
import Derived.LaidEqlPtr
namespace Go.Proofs.Ytfmpipihjnpimaa
open Go.RowKit
set_option linter.unusedVariables false

/-- cells written one behind the other -/
def putL (cur : Array Value) (o : Nat) : List Value → Array Value
  | [] => cur
  | v :: r => putL (cur.setIfInBounds o v) (o + 1) r
theorem putL_size : ∀ (vs : List Value) (cur : Array Value) (o : Nat), (putL cur o vs).size = cur.size
  | [], _, _ => rfl
  | v :: r, cur, o => by
    show (putL (cur.setIfInBounds o v) (o + 1) r).size = _
    rw [putL_size r]; simp
theorem putL_list : ∀ (vs : List Value) (cur : Array Value) (o : Nat), o + vs.length ≤ cur.size → (putL cur o vs).toList = cur.toList.take o ++ vs ++ cur.toList.drop (o + vs.length)
  | [], cur, o, _ => by simp [putL]
  | v :: r, cur, o, h => by
    show (putL (cur.setIfInBounds o v) (o + 1) r).toList = _
    simp only [List.length_cons] at h
    rw [putL_list r _ _ (by simp; omega), Array.toList_setIfInBounds]
    have hl : o < cur.toList.length := by simp; omega
    rw [show o + 1 + r.length = o + (v :: r).length by simp; omega]
    have h1 : (cur.toList.set o v).take (o + 1) = cur.toList.take o ++ [v] := by
      rw [List.take_add_one, List.take_set, List.set_eq_of_length_le (by rw [List.length_take]; omega), List.getElem?_set_self hl]
      rfl
    have h2 : (cur.toList.set o v).drop (o + (v :: r).length) = cur.toList.drop (o + (v :: r).length) := by
      rw [List.drop_set_of_lt (by simp only [List.length_cons]; omega)]
    rw [h1, h2]
    simp
theorem cells_heap (b : Nat) (e : TypeId) : ∀ (vs : List Value) (o : Nat) (w : World) (cur : Array Value), w.heap[b]? = some (.cells cur e) → (w.setCells b o vs).heap[b]? = some (.cells (putL cur o vs) e)
  | [], _, _, _, h => h
  | v :: r, o, w, cur, h => cells_heap b e r (o + 1) _ _ (heap_put h v)
theorem cells_grown (b : Nat) : ∀ (vs : List Value) (o : Nat) (w : World), w.grownBy (w.setCells b o vs) (some b) ∧ (w.setCells b o vs).heap.size = w.heap.size
  | [], _, w => ⟨⟨rfl, rfl, rfl, Nat.le_refl _, fun _ _ _ => rfl⟩, rfl⟩
  | v :: r, o, w => by
    obtain ⟨h1, h2⟩ := cells_grown b r (o + 1) (w.setCell ⟨b, o, none⟩ v)
    have hz : (w.setCell ⟨b, o, none⟩ v).heap.size = w.heap.size := by simp [World.setCell]
    refine ⟨⟨h1.os, h1.tape, h1.output, by rw [← hz]; exact h1.size, fun k hk hne => ?_⟩, h2.trans hz⟩
    show ((w.setCell ⟨b, o, none⟩ v).setCells b (o + 1) r).heap[k]? = _
    rw [h1.block k (by rw [hz]; exact hk) hne]
    exact Below.heap_setCell _ _ _ _ (fun e => hne (by rw [show k = b from e]))

def zeros (n : Nat) : List Value := (Builtin.zeroCells #[.pointer none] n).toList
theorem zeros_len (n : Nat) : (zeros n).length = n * 1 := by simp [zeros, Builtin.zeroCells]
theorem zeros_one (n : Nat) (v : Value) (h : v ∈ zeros n) : v.oneCell' = true := by
  simp only [zeros, Builtin.zeroCells, Array.toList_map, List.mem_map] at h
  obtain ⟨i, _, rfl⟩ := h
  have hi : i % 1 = 0 := Nat.mod_one _
  show Value.oneCell' (#[Value.pointer none][i % 1]!) = true
  rw [hi]
  rfl

/-- clear of some pieces -/
theorem run_clear_pc (w : World) (ty : TypeId) (b o n c : Nat) (hn : 0 < n) (hc : ∀ j, j < n * 1 → (w.cell? ⟨b, o + j, none⟩).isSome = true) (hf : ∀ j, j < n * 1 → w.frozen? ⟨b, o + j, none⟩ = false) :
    (Builtin.clear_ #[60] ty #[.slice (some ⟨b, o, none⟩) n c]).run Try.prog w = .ok (.tuple #[]) (w.setCells b o (zeros n)) := by
  have hst := run_storeCells_cells (P := Try.prog) b o (zeros n) 0 w (by simpa [zeros_len] using hc) (by simpa [zeros_len] using hf) (zeros_one n)
  simp only [Nat.add_zero] at hst
  obtain ⟨m, rfl⟩ : ∃ m, n = m + 1 := ⟨n - 1, by omega⟩
  have hz : (Builtin.zeroCells (Value.pointer none).cells (m + 1)).toList = zeros (m + 1) := rfl
  simp [Builtin.clear_, run_underlying Try.underlying60, hz, hst]

theorem infoI : (Try.prog.info? 63).map (fun i => i.size) = some 1 := by kernel_rfl

theorem fl_take (ps : List Nat) (i : Nat) (h : i ≤ ps.length) : (ptrE.fl ps).take (i * 1) = ptrE.fl (ps.take i) := by
  have e : ptrE.fl ps = ptrE.fl (ps.take i) ++ ptrE.fl (ps.drop i) := by rw [← ptrE.fl_app, List.take_append_drop]
  have hl : (ptrE.fl (ps.take i)).length = i * 1 := by rw [ptrE.fl_len, List.length_take, Nat.min_eq_left h]; rfl
  rw [e, List.take_append_of_le_length (by omega), List.take_of_length_le (by omega)]
theorem fl_drop (ps : List Nat) (i : Nat) (h : i ≤ ps.length) (t : Nat) : (ptrE.fl ps)[i * 1 + t]? = (ptrE.fl (ps.drop i))[t]? := by
  have e : ptrE.fl ps = ptrE.fl (ps.take i) ++ ptrE.fl (ps.drop i) := by rw [← ptrE.fl_app, List.take_append_drop]
  have hl : (ptrE.fl (ps.take i)).length = i * 1 := by rw [ptrE.fl_len, List.length_take, Nat.min_eq_left h]; rfl
  rw [e, List.getElem?_append_right (by omega), hl]
  congr 1; omega

/-- what is left lies so -/
theorem del_own {w w' : World} {B b c : Nat} {ps : List Nat} (h : ptrE.Own w B (.slice (some ⟨b, 0, none⟩) ps.length c) ps) (i j : Nat) (hij : i ≤ j) (hj : j ≤ ps.length) (hw : w'.heap[b]? = (((w.setCells b (0 + i * 1) (ptrE.fl (ps.drop j))).setCells b ((i + (ps.length - j)) * 1) (zeros (ps.length - (i + (ps.length - j)))))).heap[b]?) :
    ptrE.Own w' B (.slice (some ⟨b, 0, none⟩) (i + (ps.length - j)) c) (ps.take i ++ ps.drop j) := by
  have hl : (ps.take i ++ ps.drop j).length = i + (ps.length - j) := by rw [List.length_append, List.length_take, List.length_drop, Nat.min_eq_left (by omega)]
  obtain ⟨h0, h⟩ := h
  rcases h with ⟨h1, _⟩ | ⟨g', cap', cur, h1, hb, hg, hn, hm, hs, ht⟩
  · cases h1
  · simp only [Value.slice.injEq, Option.some.injEq, Addr.mk.injEq] at h1
    obtain ⟨⟨rfl, _⟩, _, rfl⟩ := h1
    have hlen : (ptrE.fl (ps.drop j)).length = (ps.length - j) * 1 := by rw [ptrE.fl_len, List.length_drop]; rfl
    have hs' : cur.size = c * 1 := hs
    have ht' : cur.toList.take (ps.length * 1) = ptrE.fl ps := ht
    have e1 := cells_heap b 63 (ptrE.fl (ps.drop j)) (0 + i * 1) w cur hg
    have e2 := cells_heap b 63 (zeros (ps.length - (i + (ps.length - j)))) ((i + (ps.length - j)) * 1) _ _ e1
    have l1 : (putL cur (0 + i * 1) (ptrE.fl (ps.drop j))).toList = cur.toList.take (i * 1) ++ ptrE.fl (ps.drop j) ++ cur.toList.drop (i * 1 + (ps.length - j) * 1) := by
      rw [putL_list _ _ _ (by rw [hlen]; omega), hlen, Nat.zero_add]
    refine ⟨by rw [ptrE.fl_len], .inr ⟨b, c, _, by rw [hl], hb, hw.trans e2, by omega, hm, ?_, ?_⟩⟩
    · rw [putL_size, putL_size]; exact hs
    · rw [hl]
      show List.take ((i + (ps.length - j)) * 1) _ = _
      rw [putL_list _ _ _ (by rw [zeros_len, putL_size]; omega), l1]
      have k1 : (cur.toList.take (i * 1)).length = i * 1 := by rw [List.length_take]; simp; omega
      have k2 : (cur.toList.take (i * 1) ++ ptrE.fl (ps.drop j)).length = (i + (ps.length - j)) * 1 := by rw [List.length_append, k1, hlen]; omega
      have k3 : cur.toList.take (i * 1) = ptrE.fl (ps.take i) := by
        rw [← fl_take ps i (by omega), ← ht', List.take_take, Nat.min_eq_left (by omega)]
      rw [List.append_assoc, List.take_append_of_le_length (by rw [List.length_take, List.length_append]; omega), List.take_take, Nat.min_self, List.take_append_of_le_length (by omega), List.take_of_length_le (by omega), k3, ptrE.fl_app]

set_option maxRecDepth 100000 in
set_option maxHeartbeats 4000000 in
theorem delete_any {w : World} {B : Nat} {v : Value} {ps : List Nat} (hL : ptrE.Own w B v ps) (i j : Nat) (hij : i ≤ j) (hj : j ≤ ps.length) (hm : ps.length ≤ 1000) :
    Calls Try.prog 38 #[v, .int .i64 i, .int .i64 j] w fun e w' => ∃ v', e = .returned v' ∧ ptrE.Own w' B v' (ps.take i ++ ps.drop j) ∧ w.grownBy w' v.ownBlock ∧ v'.ownBlock = v.ownBlock := by
  obtain ⟨a, c, rfl, hc, hcm⟩ : ∃ a c, v = .slice a ps.length c ∧ ps.length ≤ c ∧ c ≤ maxLen := by
    rcases hL.2 with ⟨h1, h2⟩ | ⟨g, cap, cur, h1, hb, _, hn, hm, _⟩
    · exact ⟨none, 0, by rw [h1, h2], by omega, by unfold maxLen; omega⟩
    · exact ⟨_, cap, h1, hn, hm⟩
  have hcm' : c ≤ 9223372036854775807 := by unfold maxLen at hcm; omega
  have hic : i ≤ c := by omega
  have hjc : j ≤ c := by omega
  by_cases heq : i = j
  · subst heq
    have HL := hide hL
    have i0 : (0 : Int) ≤ (i : Int) := by omega
    have i1 : (i : Int) ≤ (ps.length : Int) := by omega
    have i2 : (i : Int) ≤ (c : Int) := by omega
    have i3 : (ps.length : Int) ≤ (c : Int) := by omega
    have h0 : Calls Try.prog 38 #[.slice a ps.length c, .int .i64 i, .int .i64 i] w fun e w' => e = .returned (.slice a ps.length c) ∧ w' = w := by
      clear hL HL hm
      generalize ps.length = n at *
      go_enter Try.func38, Try.ntmps38
      go_wp2
      all_goals (go_ret; exact ⟨rfl, rfl⟩)
    refine h0.mono ?_
    rintro e w' ⟨rfl, rfl⟩
    exact ⟨_, rfl, by rw [List.take_append_drop]; exact hL, ⟨rfl, rfl, rfl, Nat.le_refl _, fun _ _ _ => rfl⟩, rfl⟩
  · have hlt : i < j := by omega
    obtain ⟨b, c', hv, _⟩ := hL.some (fun e => by rw [e] at hj; simp at hj; omega)
    simp only [Value.slice.injEq] at hv
    obtain ⟨rfl, _, rfl⟩ := hv
    have hrow := hL
    obtain ⟨n, hnn⟩ : ∃ n, ps.length = n := ⟨_, rfl⟩
    obtain ⟨news, hnews⟩ : ∃ news, news = ptrE.fl (ps.drop j) := ⟨_, rfl⟩
    have hlen : news.length = (n - j) * 1 := by rw [hnews, ptrE.fl_len, List.length_drop, hnn]; rfl
    have hcell : ∀ t, t < n * 1 → w.cell? ⟨b, t, none⟩ = (ptrE.fl ps)[t]? ∧ w.frozen? ⟨b, t, none⟩ = false := fun t ht => by
      obtain ⟨k1, k2, _⟩ := hrow.cell t (by rw [hnn]; exact ht)
      exact ⟨k1, k2⟩
    have hsome : ∀ t, t < n * 1 → (w.cell? ⟨b, t, none⟩).isSome = true := fun t ht => by
      rw [(hcell t ht).1, List.getElem?_eq_getElem (by rw [ptrE.fl_len, hnn]; exact ht)]; rfl
    obtain ⟨A, hA, hsrc⟩ : ∃ A : Addr, (if c = j then some (⟨b, 0, none⟩ : Addr) else some ⟨b, j * 1, none⟩) = some A ∧ Hid (∀ t u, news[t]? = some u → w.drew.cell? (A.add t) = some u) := by
      by_cases h : c = j
      · refine ⟨⟨b, 0, none⟩, by simp [h], fun t u hu => ?_⟩
        have h0 : news.length = 0 := by rw [hlen]; omega
        rw [List.length_eq_zero_iff.1 h0] at hu
        simp at hu
      · refine ⟨⟨b, j * 1, none⟩, by simp [h], fun t u hu => ?_⟩
        have ht : t < (n - j) * 1 := by
          have := (List.getElem?_eq_some_iff.1 hu).1
          rwa [hlen] at this
        rw [addr_plain]
        show w.cell? _ = _
        rw [(hcell (j * 1 + t) (by omega)).1, fl_drop ps j hj, ← hnews]
        exact hu
    have s1 : Hid (news.length = (n - j) * 1) := hlen
    have s2 : Hid (∀ u ∈ news, u.oneCell' = true) := by
      intro u hu
      rw [hnews] at hu
      obtain ⟨x, _, hx⟩ := List.mem_flatMap.1 hu
      exact ptrE.one x u hx
    have s3 : Hid (∀ t, t < news.length → (w.drew.cell? ⟨b, 0 + i * 1 + t, none⟩).isSome = true ∧ w.drew.frozen? ⟨b, 0 + i * 1 + t, none⟩ = false) := by
      intro t ht
      rw [hlen] at ht
      rw [Nat.zero_add]
      exact ⟨hsome _ (by omega), (hcell _ (by omega)).2⟩
    obtain ⟨i0, hi0, hz1⟩ := Option.map_eq_some_iff.1 infoI
    have hz1' : i0.size = 1 := hz1
    obtain ⟨W1, hW1⟩ : ∃ W1, W1 = w.drew.setCells b (0 + i * 1) news := ⟨_, rfl⟩
    have hg1 := cells_grown b news (0 + i * 1) w.drew
    have hcl : ∀ ty, (Builtin.clear_ #[60] ty #[.slice (some ⟨b, (i + (n - j)) * 1, none⟩) (n - (i + (n - j))) (c - (i + (n - j)))]).run Try.prog W1 = .ok (.tuple #[]) (W1.setCells b ((i + (n - j)) * 1) (zeros (n - (i + (n - j))))) := by
      intro ty
      have hfr : ∀ t, t < n * 1 → (W1.cell? ⟨b, t, none⟩).isSome = true ∧ W1.frozen? ⟨b, t, none⟩ = false := by
        intro t ht
        obtain ⟨cur, hcur, hcs⟩ : ∃ cur, w.heap[b]? = some (.cells cur 63) ∧ cur.size = c * 1 := by
          rcases hrow.2 with ⟨h1, _⟩ | ⟨g', cap', cur, h1, hb, hg, hn, hm, hs, ht⟩
          · cases h1
          · simp only [Value.slice.injEq, Option.some.injEq, Addr.mk.injEq] at h1
            obtain ⟨⟨rfl, _⟩, _, rfl⟩ := h1
            exact ⟨cur, hg, hs⟩
        have e := cells_heap b 63 news (0 + i * 1) w.drew cur hcur
        rw [← hW1] at e
        constructor
        · unfold World.cell?
          simp only [e]
          show ((putL cur (0 + i * 1) news)[t]?).isSome = true
          rw [Array.getElem?_eq_getElem (by rw [putL_size]; omega)]; rfl
        · unfold World.frozen?
          simp [e]
      exact run_clear_pc W1 ty b _ _ _ (by omega) (fun t ht => (hfr _ (by omega)).1) (fun t ht => (hfr _ (by omega)).2)
    have hg2 := cells_grown b (zeros (n - (i + (n - j)))) ((i + (n - j)) * 1) W1
    have HR : Hid (∃ v', (Value.slice (some ⟨b, 0, none⟩) (i + (n - j)) c) = v' ∧ ptrE.Own (W1.setCells b ((i + (n - j)) * 1) (zeros (n - (i + (n - j))))) B v' (ps.take i ++ ps.drop j) ∧ w.grownBy (W1.setCells b ((i + (n - j)) * 1) (zeros (n - (i + (n - j))))) (some b) ∧ v'.ownBlock = some b) := by
      have g1 : w.grownBy W1 (some b) := by rw [hW1]; exact ⟨hg1.1.os, hg1.1.tape, hg1.1.output, hg1.1.size, hg1.1.block⟩
      have g2 : w.grownBy (W1.setCells b ((i + (n - j)) * 1) (zeros (n - (i + (n - j))))) (some b) := ⟨hg2.1.os.trans g1.os, hg2.1.tape.trans g1.tape, hg2.1.output.trans g1.output, Nat.le_trans g1.size hg2.1.size, fun k hk hne => (hg2.1.block k (Nat.lt_of_lt_of_le hk g1.size) hne).trans (g1.block k hk hne)⟩
      refine hide ⟨_, rfl, ?_, g2, rfl⟩
      · have := del_own (w := w.drew) (w' := W1.setCells b ((i + (n - j)) * 1) (zeros (n - (i + (n - j))))) (B := B) (ps := ps) (c := c) (b := b) (hrow.keep ⟨rfl, rfl, rfl, Nat.le_refl _, fun _ _ => rfl⟩) i j hij hj (by rw [hW1, hnn, hnews])
        rw [hnn] at this
        exact this
    have hW : Hid (W1 = w.drew.setCells b (0 + i * 1) news) := hW1
    rw [hnn]
    clear hW1 hg1 hg2 hcell hsome hrow hL hnews hlen
    have j0 : (0 : Int) ≤ (i : Int) := by omega
    have j1 : (i : Int) < (j : Int) := by omega
    have j2 : (j : Int) ≤ (n : Int) := by omega
    have j3 : (n : Int) ≤ (c : Int) := by omega
    simp only [Nat.mul_one] at hA hcl HR
    go_enter Try.func38, Try.ntmps38
    go_wp2_with fail
    go_region_law (refine step_append_room rfl (.tmp 22) (.tmp 25) 60 rfl 63 i0 1 Try.underlying60 hi0 hz1' b 0 i c (by simp [Act.eval, Act.put]) A (n - j) (c - j) news (by simp [Act.eval, Act.put]) s1.out hsrc.out s2.out (by omega) s3.out ?_; rw [← hW.out])
    go_wp2
    go_ret
    obtain ⟨v', rfl, h1, h2, h3⟩ := HR.out
    exact ⟨_, rfl, h1, h2, h3⟩


theorem nodup_inj {α : Type} : ∀ {l : List α} {i j : Nat} (hn : l.Nodup) (hi : i < l.length) (hj : j < l.length), l[i] = l[j] → i = j := by
  intro l i j hn hi hj h
  rcases Nat.lt_trichotomy i j with q | q | q
  · exact absurd h ((List.pairwise_iff_getElem.1 hn) i j hi hj q)
  · exact q
  · exact absurd h.symm ((List.pairwise_iff_getElem.1 hn) j i hj hi q)
theorem info67 : (Try.prog.info? 67).map (fun i => i.size) = some 4 := by kernel_rfl
theorem rq_equal (w : World) (a b : Rq) : (Op.equalIn 10000 31 (.agg #[.int .i64 a.id, .int .i64 a.st, .int .i64 a.tt]) (.agg #[.int .i64 b.id, .int .i64 b.st, .int .i64 b.tt])).run Try.prog w = .ok (decide (a = b)) w := by
  obtain ⟨s, k, z⟩ := a
  obtain ⟨s', k', z'⟩ := b
  have hu : Try.prog.underlying 31 = some (.struct (Try.prog.fieldsOf 31)) := by kernel_rfl
  have hp : Try.prog.stoodInHeld 31 = false := by kernel_rfl
  rw [show (10000 : Nat) = 9998 + 1 + 1 from rfl, run_equalIn_struct w (9998 + 1) 31 _ _ hu hp]
  have hf : (Try.prog.fieldsOf 31).toList.map (fun f => (f.name == "_", f.type, f.offset)) = [(false, 3, 0), (false, 3, 1), (false, 3, 2)] := by kernel_rfl
  have p3 : ∀ (xs : Array Value) (j : Nat) (v : Value), xs[j]? = some v → (part 3 xs j).run Try.prog w = .ok v w := fun xs j v h => by
    have ag : (isAgg 3).run Try.prog w = .ok false w := by kernel_rfl
    simp [part, ag, h]
  obtain ⟨fs, hfs⟩ : ∃ fs, (Try.prog.fieldsOf 31).toList = fs := ⟨_, rfl⟩
  rw [hfs] at hf ⊢
  have hl3 : fs.length = 3 := by have := congrArg List.length hf; simpa using this
  match fs, hl3 with
  | [f0, f1, f2], _ =>
    simp only [List.map_cons, List.map_nil, List.cons.injEq, Prod.mk.injEq, and_true] at hf
    obtain ⟨⟨n0, t0, o0⟩, ⟨n1, t1, o1⟩, ⟨n2, t2, o2⟩⟩ := hf
    have m0 : f0.name ≠ "_" := by simpa using n0
    have m1 : f1.name ≠ "_" := by simpa using n1
    have m2 : f2.name ≠ "_" := by simpa using n2
    rw [Op.eqFields, if_pos m0, t0, o0]
    simp only [Sem.run_bind]
    rw [p3 _ 0 (.int .i64 s) rfl]
    simp only [Result.andThen_ok]
    rw [p3 _ 0 (.int .i64 s') rfl]
    simp only [Result.andThen_ok, run_equalIn_int w 9998 3 .i64 .i64 s s' Try.underlying3]
    by_cases h1 : s = s'
    · subst h1
      simp only [beq_self_eq_true, Bool.not_true, Bool.false_eq_true, if_false]
      rw [Op.eqFields, if_pos m1, t1, o1]
      simp only [Sem.run_bind]
      rw [p3 _ 1 (.int .i64 k) rfl]
      simp only [Result.andThen_ok]
      rw [p3 _ 1 (.int .i64 k') rfl]
      simp only [Result.andThen_ok, run_equalIn_int w 9998 3 .i64 .i64 k k' Try.underlying3]
      by_cases h2 : k = k'
      · subst h2
        simp only [beq_self_eq_true, Bool.not_true, Bool.false_eq_true, if_false]
        rw [Op.eqFields, if_pos m2, t2, o2]
        simp only [Sem.run_bind]
        rw [p3 _ 2 (.int .i64 z) rfl]
        simp only [Result.andThen_ok]
        rw [p3 _ 2 (.int .i64 z') rfl]
        simp only [Result.andThen_ok, run_equalIn_int w 9998 3 .i64 .i64 z z' Try.underlying3]
        by_cases h3 : z = z'
        · subst h3; simp [Op.eqFields]
        · simp [h3]
      · simp [h2]
    · simp [h1]

set_option maxRecDepth 100000 in
set_option maxHeartbeats 2000000 in
theorem indexP_any (a : Option Addr) (c n : Nat) (ms : List Nat) (d i : Nat) (w : World) (hn : ms.length = n) (hv : ptrE.Rd w (.slice a n c) ms) (hl : n ≤ 100000) (hd : ms[i]? = some d) (hnd : ms.Nodup) (hall : ∀ d ∈ ms, ∃ C, w.heap[d]? = some (.cells C 67)) :
    Calls Try.prog 37 #[.slice a n c, .pointer (some ⟨d, 0, none⟩)] w fun e w' => e = .returned (.int .i64 (i : Int)) ∧ w' = w := by
  have Hn := hide hn
  have Hv := hide hv
  have i0 : (n : Int) ≤ 100000 := by omega
  have hi : i < n := by rw [← hn]; exact idx_lt hd
  have yes : Hid (∀ k : Nat, ms[k]? = some d → k = i) := hide (fun k h => by
    obtain ⟨h1, h2⟩ := List.getElem?_eq_some_iff.1 h
    obtain ⟨h3, h4⟩ := List.getElem?_eq_some_iff.1 hd
    exact nodup_inj hnd h1 h3 (h2.trans h4.symm))
  have Hd := hide hd
  obtain ⟨i67, hi67, hs67⟩ := Option.map_eq_some_iff.1 info67
  have hsz : i67.size ≠ 0 := by rw [hs67]; decide
  have eqs : ∀ d, (binOp .eql 63 (.pointer (some ⟨d, 0, none⟩)) (.pointer (some ⟨d, 0, none⟩))).run Try.prog w = .ok (.bool true) w := fun d => run_eql_ptr_same w _ Try.underlying63 hi67
  have eqo : Hid (∀ k p, ms[k]? = some p → d ≠ p → (binOp .eql 63 (.pointer (some ⟨d, 0, none⟩)) (.pointer (some ⟨p, 0, none⟩))).run Try.prog w = .ok (.bool false) w) := hide (fun k p hp hne => by
    obtain ⟨C, hC⟩ := hall d (List.mem_of_getElem? hd)
    obtain ⟨C', hC'⟩ := hall p (List.mem_of_getElem? hp)
    exact run_eql_ptr_other w Try.underlying63 hi67 hsz (fun e => hne (congrArg (fun a => a.block) e)) hC hC')
  clear hn hv hl hd hnd hall hi67 hs67 hsz
  go_enter Try.func37, Try.ntmps37
  go_wp2_with fail
  go_loopw [8] (fun v8 wr => ∃ k : Nat, wr = w ∧ v8 = .int .i64 k ∧ k ≤ i) (fun v8 _ => n - (intOf v8).toNat)
  case atStart => exact ⟨0, rfl, rfl, Nat.zero_le _⟩
  case round =>
    obtain ⟨k, rfl, rfl, hk⟩ := hrel
    have hlt : k < n := by omega
    obtain ⟨p, hp⟩ : ∃ p, ms[k]? = some p := ⟨_, List.getElem?_eq_getElem (by rw [Hn.out]; exact hlt)⟩
    obtain ⟨b, off, rfl, c0⟩ := ptr_at Hv.out k p hp
    have j0 : (0 : Int) ≤ (k : Int) := by omega
    have j1 : (k : Int) < (n : Int) := by omega
    have Hp := hide hp
    clear hp
    by_cases he : d = p
    · subst he
      have e1 := yes.out k Hp.out
      subst e1
      go_wp2_with fail
      go_ret
      exact ⟨rfl, rfl⟩
    · have hki : k < i := by
        rcases Nat.lt_or_ge k i with g | g
        · exact g
        · obtain rfl : k = i := by omega
          rw [Hd.out] at Hp
          exact absurd (Option.some.inj Hp.out) he
      have hbe := eqo.out k p Hp.out he
      go_wp2_with fail
      go_roundw
      case rel => exact ⟨k + 1, trivial, by go_num, by omega⟩
      case measure => simp [intOf]; omega
end Go.Proofs.Ytfmpipihjnpimaa
