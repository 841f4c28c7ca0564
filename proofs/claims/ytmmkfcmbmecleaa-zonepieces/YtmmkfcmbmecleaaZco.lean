/- slices.Compact of a list of the call's own. -/
import Derived.Test.YtmmkfcmbmecleaaZcl
import Derived.Test.YtmmkfcmbmecleaaZpm
namespace Go.Proofs.Ytmmkfcmbmecleaa
open Go.RowKit Go.Sort Go.Lib Go.Shelf
set_option linter.unusedVariables false

theorem row_put {w : World} {g : Nat} {cur : Array Value} {e : TypeId} {fr : Nat × Nat} (h : w.heap[g]? = some (.cells cur e fr)) (d : Array Int) (q : Nat) :
    (putRow (Value.int .i64) (Sort.ahead w q) g 0 d).heap[g]? = some (.cells (putCells (Value.int .i64) 0 d cur) e fr) := by
  simp [putRow, mapBlock, Array.getElem?_modify, h, onCells]
theorem put_below {w : World} {B g : Nat} (hB : B ≤ g) (hg : g < w.heap.size) (d : Array Int) (q : Nat) : RowKit.Below B w (putRow (Value.int .i64) (Sort.ahead w q) g 0 d) := by
  refine ⟨rfl, rfl, rfl, by simp, fun k hk => ?_⟩
  have hk' : g ≠ k := by omega
  simp [putRow, mapBlock, Array.getElem?_modify, hk']
theorem put_take (d : Array Int) (c : List Int) (cur : Array Value) (hd : d.toList.take c.length = c) (hc : d.size ≤ cur.size) :
    (putCells (Value.int .i64) 0 d cur).toList.take c.length = c.map (Value.int .i64) := by
  have hl : c.length ≤ d.size := by
    have := congrArg List.length hd
    rw [List.length_take] at this
    simp at this; omega
  apply List.ext_getElem?
  intro i
  rcases Nat.lt_or_ge i c.length with h | h
  · rw [List.getElem?_take_of_lt h]
    have e1 : c[i]? = some d[i]! := by
      rw [← hd, List.getElem?_take_of_lt h, getElem!_pos d i (by omega)]; simp
    rw [List.getElem?_map, e1]
    simp only [putCells, Array.toList_mapIdx, List.getElem?_mapIdx, Array.getElem?_toList]
    rw [Array.getElem?_eq_getElem (by omega)]
    simp
    omega
  · rw [List.getElem?_eq_none (by simp; omega), List.getElem?_eq_none (by simpa using h)]
theorem holds_own {w : World} {g : Nat} {cur : Array Value} (hg : w.heap[g]? = some (.cells cur 3 (0, 0))) (l : List Int) (ht : cur.toList.take (l.length * 1) = l.map (Value.int .i64)) :
    Holds (Value.int .i64) w g 0 l.toArray := by
  intro j hj
  have hj' : j < l.length := by simpa using hj
  constructor
  · have e : cur[j]? = some (.int .i64 (l[j]?.getD 0)) := by
      have := congrArg (fun (m : List Value) => m[j]?) ht
      simp only [Nat.mul_one] at this
      rw [List.getElem?_take_of_lt hj'] at this
      rw [← Array.getElem?_toList, this]
      simp [hj']
    unfold World.cell?
    simp only [hg, Nat.zero_add]
    rw [e, getElem!_pos l.toArray j hj]
    simp [hj']
  · unfold World.frozen?
    simp [hg]
theorem size_put (d : Array Int) (cur : Array Value) : (putCells (Value.int .i64) 0 d cur).size = cur.size := by simp [putCells]

set_option maxHeartbeats 1000000 in
theorem compact_none (a : Option Addr) (cap : Nat) (W : World) : Calls Try.prog 32 #[.slice a 0 cap] W fun e w' => e = .returned (.slice a 0 cap) ∧ w' = W := by
  go_enter Try.func32, Try.ntmps32
  go_wp2_with fail
  go_ret
  exact ⟨rfl, rfl⟩

theorem compact_any (d : List Int) (B : Nat) (v : Value) (W : World) (hown : intE.Own W B v d) (hm : d.length ≤ 1000) :
    Calls Try.prog 32 #[v] W fun e w' => ∃ v', e = .returned v' ∧ intE.Own w' B v' (compactUpTo d.toArray d.toArray.size) ∧ RowKit.Below B W w' := by
  by_cases h0 : d = []
  · subst h0
    obtain ⟨a, cap, rfl⟩ : ∃ a cap, v = .slice a 0 cap := by
      obtain ⟨a, cap, h⟩ := hown.rd.form
      exact ⟨a, cap, h⟩
    refine (compact_none a cap W).mono ?_
    rintro e w' ⟨rfl, rfl⟩
    exact ⟨_, rfl, hown, RowKit.Below.refl _ _⟩
  · obtain ⟨hl, h⟩ := hown
    rcases h with ⟨_, h⟩ | ⟨g, cap, cur, rfl, hB, hg, hn, hmx, hs, ht⟩
    · exact absurd (List.eq_nil_of_length_eq_zero h) h0
    · have hH := holds_own hg d (by rw [← fl_map intE (Value.int .i64) (fun _ => rfl)]; exact ht)
      have hS := AnyE.slices_Compact compL (Value.int .i64) (fun _ => rfl) (EqlAt.intD _ _ .i64) (NeqAt.intD _ _ .i64) 0 Try.zeroValue3 g 0 cap d.toArray W hH (by simp; omega) (by simpa using hn)
      rw [show d.toArray.size = d.length by simp] at hS ⊢
      refine Calls.mono hS ?_
      rintro e w' ⟨rfl, q, rfl⟩
      have hle : (compactUpTo d.toArray d.length).length ≤ d.length := by
        unfold compactUpTo
        rw [List.length_map]
        have := List.length_filter_le (keeps d.toArray) (List.range d.length)
        simpa using this
      generalize compactUpTo d.toArray d.length = c at *
      have hr := row_put hg (c ++ List.replicate (d.length - c.length) 0).toArray q
      have hb := put_below hB (heap_lt hg) (c ++ List.replicate (d.length - c.length) 0).toArray q
      refine ⟨_, rfl, ⟨by rw [El.fl_len], .inr ⟨g, cap, _, rfl, hB, hr, by omega, hmx, by rw [size_put]; exact hs, ?_⟩⟩, hb⟩
      rw [fl_map intE (Value.int .i64) (fun _ => rfl)]
      show List.take (c.length * 1) _ = _
      rw [Nat.mul_one]
      refine put_take _ c cur (by simp) ?_
      have hs' : cur.size = cap * 1 := hs
      simp; omega

/-- compacted zones are the pieces' -/
theorem compact_pzs (dz : Int → Int) (path : List Int) : ∀ i, i ≤ path.length → compactUpTo (path.map dz).toArray i = pzs dz path i := by
  intro i
  induction i with
  | zero => intro _; simp [compactUpTo, pzs]
  | succ i ih =>
    intro hi
    have hx : ∀ j, j < path.length → (path.map dz).toArray[j]! = dz (pat path j) := fun j hj => by
      rw [getElem!_pos _ j (by simpa using hj)]
      simp [pat, hj]
    have hk : keeps (path.map dz).toArray i = chg dz path i := by
      unfold keeps chg
      rw [hx i (by omega)]
      by_cases h0 : i = 0
      · simp [h0]
      · rw [hx (i - 1) (by omega)]
    unfold compactUpTo at ih ⊢
    rw [List.range_succ, List.filter_append, List.map_append, ih (by omega)]
    cases hc : chg dz path i with
    | true =>
      have h1 := hx i (by omega)
      rw [pzs_yes hc, List.filter_cons, hk, hc, ← h1]
      rfl
    | false =>
      rw [pzs_no hc, List.filter_cons, hk, hc]
      exact List.append_nil _
end Go.Proofs.Ytmmkfcmbmecleaa
