/- Two slices of the call's own, one of them appended to. -/
import Derived.Test.YtacbhdaiaihmeabROrd
import Derived.Deep.RegionHeld3
namespace Go.Proofs.Ytacbhdaiaihmeab
open Go.ChangeShapes Go.WideShapes Go.ChangeAt Go.RowKit

/-- two slices have no block in common -/
def Sep (v u : Value) : Prop := ∀ g, v.ownBlock = some g → u.ownBlock ≠ some g
theorem Sep.symm {v u : Value} (h : Sep v u) : Sep u v := fun g h1 h2 => h g h2 h1

theorem own_lt {w : World} {B : Nat} {v : Value} {l : List Int} (h : Ow w B v l) (g : Nat) (hg : v.ownBlock = some g) : g < w.heap.size := by
  rcases h.2 with ⟨rfl, _⟩ | ⟨g', cap, cur, rfl, hb, hh, _⟩
  · cases hg
  · simp [Value.ownBlock] at hg
    subst hg
    exact heap_lt hh

theorem run_app2 {w : World} {B : Nat} {v u : Value} {xs ys : List Int} (hown : Ow w B v xs) (hu : Ow w B u ys) (hs : Sep v u) (hB : B ≤ w.heap.size) {x : Value} {l : List Int} (hx : Bs w x l) (hn : xs.length + l.length ≤ 1000000) (ty : TypeId) :
    ∃ v' w', (Builtin.append_ #[25, 25] ty #[v, x]).run Try.prog w = .ok v' w' ∧ Ow w' B v' (xs ++ l) ∧ Ow w' B u ys ∧ Sep v' u ∧ w.grownBy w' v.ownBlock := by
  obtain ⟨i, hi, he⟩ := Option.map_eq_some_iff.1 info22
  have e1 : i.zero = some (.int .u16 0) := congrArg Prod.fst he
  have e2 : i.size = 1 := congrArg (fun p => p.2.1) he
  have e3 : i.bytes = 2 := congrArg (fun p => p.2.2) he
  rcases hx with ⟨rfl, rfl⟩ | ⟨x, cap, rfl, hc⟩
  · refine ⟨v, w, run_append_owned_none (P := Try.prog) (w := w) B 25 ty 22 i 1 Try.underlying25 hi v _ _ hown, ?_, hu, hs, ⟨rfl, rfl, rfl, Nat.le_refl _, fun _ _ _ => rfl⟩⟩
    rw [List.append_nil]; exact hown
  · obtain ⟨v', w', hr, h2, h3, _, h5⟩ := run_append_own_at (P := Try.prog) w B 25 ty 22 i (.int .u16 0) 1 2 Try.underlying25 hi e1 e2 e3 rfl (by omega) v xs.length (xs.map (Value.int .u16)) hown
      x l.length cap (l.map (Value.int .u16)) (by simp) (fun j y hy => by
        have hj : j < l.length := by
          rcases Nat.lt_or_ge j l.length with h | h
          · exact h
          · simp [List.getElem?_eq_none h] at hy
        rw [hc j hj]; simpa [hj] using hy)
      (fun y hy => by obtain ⟨z, _, rfl⟩ := List.mem_map.1 hy; rfl) (by unfold maxLen; omega) (by omega) hB
    refine ⟨v', w', hr, ?_, ?_, ?_, h3⟩
    · unfold Ow
      rw [List.length_append, List.map_append]
      exact h2
    · refine World.ownsRow.kept hu h3 ?_
      cases hb : u.ownBlock with
      | none => exact .inl rfl
      | some g => exact .inr (fun h => hs g h.symm hb)
    · intro g hg hg'
      rcases h5 with h5 | h5
      · exact hs g (by rw [← h5]; exact hg) hg'
      · have := own_lt hu g hg'
        rw [h5] at hg
        simp at hg
        omega

theorem wpList_app2 {w0 w : World} (hb : Below w0.heap.size w0 w) {ops : Array Oper} {rest : List Oper} {o : Oper} {a : Act} {Q : Exit → Act → World → Prop} (hwant : Region.wanted o (yielded ops a.tmps) = true) (s x : Operand)
    (ho : o.op = .call { callee := .builtin .append, args := #[s, x], argTypes := #[25, 25] }) (v u y : Value) (hs : a.eval s = v) (hx : a.eval x = y)
    (xs ys l : List Int) (hown : Ow w w0.heap.size v xs) (hu : Ow w w0.heap.size u ys) (hsep : Sep v u) (hy : Bs w y l) (hn : xs.length + l.length ≤ 1000000)
    (h : ∀ v' w', Ow w' w0.heap.size v' (xs ++ l) → Ow w' w0.heap.size u ys → Sep v' u → Below w0.heap.size w0 w' → wpList Try.prog ops Q rest (a.put o.dst v') w') : wpList Try.prog ops Q (o :: rest) a w := by
  obtain ⟨v', w', hr, h2, h4, h5, h3⟩ := run_app2 hown hu hsep hb.size hy hn o.type
  refine wpList_step fun K hK => ?_
  rw [if_pos hwant]
  unfold Oper.wp execOp
  simp only [ho, resolve, invoke, builtin, Sem.run_bind, Sem.run_pure, Result.andThen_ok, List.map_toArray, List.map_cons, List.map_nil, hs, hx, hr]
  exact hK _ _ (h v' w' h2 h4 h5 (hb.grown h3 hb.size (own_row hown)))

theorem step_app2 {w0 w : World} (hb : Below w0.heap.size w0 w) {ops : Array Oper} {o : Oper} {a : Act} {K : Act → World → Prop} {Q : Exit → Act → World → Prop} {E : Prop} (hgd : o.guard = none) (s x : Operand)
    (ho : o.op = .call { callee := .builtin .append, args := #[s, x], argTypes := #[25, 25] }) (v u y : Value) (hs : a.eval s = v) (hx : a.eval x = y)
    (xs ys l : List Int) (hown : Ow w w0.heap.size v xs) (hu : Ow w w0.heap.size u ys) (hsep : Sep v u) (hy : Bs w y l) (hn : xs.length + l.length ≤ 1000000)
    (h : ∀ v' w', Ow w' w0.heap.size v' (xs ++ l) → Ow w' w0.heap.size u ys → Sep v' u → Below w0.heap.size w0 w' → K (a.put o.dst v') w') :
    if Region.wanted o (yielded ops a.tmps) = true then Oper.wp Try.prog o a w K Q else E := by
  have hw : Region.wanted o (yielded ops a.tmps) = true := by simp [Region.wanted, hgd]
  rw [if_pos hw]
  obtain ⟨v', w', hr, h2, h4, h5, h3⟩ := run_app2 hown hu hsep hb.size hy hn o.type
  unfold Oper.wp execOp
  simp only [ho, resolve, invoke, builtin, Sem.run_bind, Sem.run_pure, Result.andThen_ok, List.map_toArray, List.map_cons, List.map_nil, hs, hx, hr]
  exact h v' w' h2 h4 h5 (hb.grown h3 hb.size (own_row hown))

theorem bs_two (w : World) (z y : Int) (n : Nat) (hn : n = w.heap.size) : Bs (w.alloc (.cells #[.int .u16 z, .int .u16 y] 22)) (.slice (some ⟨n, 0, none⟩) 2 2) [z, y] := by
  subst hn
  refine .inr ⟨_, 2, rfl, fun i hi => ?_⟩
  have : i = 0 ∨ i = 1 := by simp at hi; omega
  rw [add_plain]
  rcases this with rfl | rfl <;> simp

/-- the row of numbers -/
def rw' (lo : Int) (i : Nat) : List Int := (List.range i).map (fun j : Nat => (lo + (j : Int)) % 65536)
theorem rw_len (lo : Int) (i : Nat) : (rw' lo i).length = i := by simp [rw']
theorem rw_succ (lo : Int) (i : Nat) : rw' lo (i + 1) = rw' lo i ++ [(lo + (i : Int)) % 65536] := by simp [rw', List.range_succ]
theorem up_rw (lo : Int) (j : Int) (h : 0 ≤ j ∧ j ≤ 65535) : up lo ((lo + j) % 65536) = j := by unfold up; omega

/-- what was put so far: numbers of the row, and each turned one -/
def TInv (lo : Int) (n k : Nat) (i : Nat) (T : List Int) : Prop :=
  T.length = 2 * i ∧ (∀ x ∈ T, ∃ m : Nat, m < n ∧ x = (lo + (m : Int)) % 65536) ∧ ∀ j, j < i → (lo + (((j + k) % n : Nat) : Int)) % 65536 ∈ T
theorem tinv_start (lo : Int) (n k : Nat) : TInv lo n k 0 [] := ⟨rfl, by simp, fun j h => by omega⟩
theorem tinv_next {lo : Int} {n k i : Nat} {T : List Int} (h : TInv lo n k i T) (hn : 0 < n) (m : Nat) (hm : m < n) :
    TInv lo n k (i + 1) (T ++ [(lo + (m : Int)) % 65536, (lo + (((i + k) % n : Nat) : Int)) % 65536]) := by
  refine ⟨by simp [h.1]; omega, fun x hx => ?_, fun j hj => ?_⟩
  · rcases List.mem_append.1 hx with hx | hx
    · exact h.2.1 x hx
    · simp at hx
      rcases hx with hx | hx
      · exact ⟨m, hm, hx⟩
      · exact ⟨(i + k) % n, Nat.mod_lt _ hn, by simpa using hx⟩
  · by_cases e : j = i
    · subst e; simp
    · exact List.mem_append.2 (.inl (h.2.2 j (by omega)))
theorem tinv_done {lo : Int} {n k : Nat} {T : List Int} (h : TInv lo n k n T) (hn : 0 < n) (hn2 : n ≤ 200) : Ordd lo T (rw' lo n) := by
  refine ⟨?_, fun x => ⟨fun hx => ?_, fun hx => ?_⟩⟩
  · unfold rw'
    rw [List.pairwise_map]
    refine (List.pairwise_lt_range (n := n)).imp_of_mem ?_
    intro a b ha hb hab
    have := List.mem_range.1 hb
    rw [up_rw lo a (by omega), up_rw lo b (by omega)]
    omega
  · obtain ⟨m, hm, rfl⟩ := List.mem_map.1 hx
    have hm := List.mem_range.1 hm
    have hj : (m + (n - k % n)) % n < n := Nat.mod_lt _ hn
    have := h.2.2 _ hj
    have e : ((m + (n - k % n)) % n + k) % n = m := by
      have hk := Nat.mod_lt k hn
      rw [Nat.mod_add_mod, ← Nat.add_mod_mod, show m + (n - k % n) + k % n = m + n by omega, Nat.add_mod_right]
      exact Nat.mod_eq_of_lt hm
    rw [e] at this
    exact this
  · obtain ⟨m, hm, rfl⟩ := h.2.1 x hx
    exact List.mem_map.2 ⟨m, List.mem_range.2 hm, rfl⟩
theorem tinv_in {lo : Int} {n k i : Nat} {T : List Int} (h : TInv lo n k i T) : InW T := by
  intro x hx
  obtain ⟨m, _, rfl⟩ := h.2.1 x hx
  omega
end Go.Proofs.Ytacbhdaiaihmeab
