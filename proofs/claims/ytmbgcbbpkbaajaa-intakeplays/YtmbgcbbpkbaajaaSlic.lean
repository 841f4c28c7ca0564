/- Slices of numbers: what a slice reads as, a slice that the call owns, append onto one. -/
import Derived.Test.YtmbgcbbpkbaajaaRowz
import Derived.Deep.AppendSrc
import Derived.Deep.AppendLies
import Derived.Laws.OwnMore
namespace Go.Proofs.Ytmbgcbbpkbaajaa
open Go.ChangeShapes Go.WideShapes Go.ChangeAt Go.RowKit


/-- the value v is a slice of numbers that reads l in w -/
def Bs (w : World) (v : Value) (l : List Int) : Prop :=
  (v = .slice none 0 0 ∧ l = []) ∨ ∃ x cap, v = .slice (some x) l.length cap ∧ ∀ i, i < l.length → w.cell? (x.add i) = some (.int .u16 (l[i]?.getD 0))
def InW (l : List Int) : Prop := ∀ z ∈ l, 0 ≤ z ∧ z ≤ 65535


/-- the value v is a slice of numbers of the call's own (in blocks from B on) that reads l in w -/
def Ow (w : World) (B : Nat) (v : Value) (l : List Int) : Prop := w.ownsRow B 22 1 v l.length (l.map (Value.int .u16))


theorem Bs.lt {w : World} {x : Addr} {u : Value} (h : w.cell? x = some u) : x.block < w.heap.size := by
  rcases Nat.lt_or_ge x.block w.heap.size with h' | h'
  · exact h'
  · simp [World.cell?, Array.getElem?_eq_none h'] at h

theorem Bs.form {w : World} {v : Value} {l : List Int} (h : Bs w v l) : ∃ a cap, v = .slice a l.length cap := by
  rcases h with ⟨h, rfl⟩ | ⟨x, cap, h, _⟩
  · exact ⟨none, 0, h⟩
  · exact ⟨_, _, h⟩

theorem Bs.keep {w w' : World} {v : Value} {l : List Int} (h : Bs w v l) (hb : Below w.heap.size w w') : Bs w' v l := by
  rcases h with h | ⟨x, cap, rfl, hc⟩
  · exact .inl h
  · refine .inr ⟨x, cap, rfl, fun i hi => ?_⟩
    rw [hb.cell (Bs.lt (hc i hi))]; exact hc i hi

theorem Bs.own {w : World} {B : Nat} {v : Value} {l : List Int} (h : Ow w B v l) : Bs w v l := by
  obtain ⟨_, h⟩ := h
  rcases h with ⟨hv, h0⟩ | ⟨g, cap, cur, hv, hb, hg, hn, hm, hs, ht⟩
  · left
    exact ⟨hv, List.eq_nil_of_length_eq_zero h0⟩
  · right
    refine ⟨⟨g, 0, none⟩, cap, hv, fun i hi => ?_⟩
    have e : cur[i]? = some (.int .u16 (l[i]?.getD 0)) := by
      have := congrArg (fun (m : List Value) => m[i]?) ht
      simp only [Nat.mul_one] at this
      rw [List.getElem?_take_of_lt hi] at this
      rw [← Array.getElem?_toList, this]
      simp [hi]
    rw [add_plain, Nat.zero_add]
    unfold World.cell?
    simp only [hg]
    exact e

theorem bytes22 : Try.prog.bytesOf 22 = 2 := by kernel_rfl
theorem info22 : (Try.prog.info? 22).map (fun i => (i.zero, i.size, i.bytes)) = some (some (.int .u16 0), 1, 2) := by kernel_rfl

theorem run_app {w : World} {B : Nat} {v : Value} {xs : List Int} (hown : Ow w B v xs) (hB : B ≤ w.heap.size) {u : Value} {l : List Int} (hu : Bs w u l) (hn : xs.length + l.length ≤ 1000000) (ty : TypeId) :
    ∃ v' w', (Builtin.append_ #[50, 50] ty #[v, u]).run Try.prog w = .ok v' w' ∧ Ow w' B v' (xs ++ l) ∧ w.grownBy w' v.ownBlock := by
  obtain ⟨i, hi, he⟩ := Option.map_eq_some_iff.1 info22
  have e1 : i.zero = some (.int .u16 0) := congrArg Prod.fst he
  have e2 : i.size = 1 := congrArg (fun p => p.2.1) he
  have e3 : i.bytes = 2 := congrArg (fun p => p.2.2) he
  rcases hu with ⟨rfl, rfl⟩ | ⟨x, cap, rfl, hc⟩
  · refine ⟨v, w, run_append_owned_none (P := Try.prog) (w := w) B 50 ty 22 i 1 Try.underlying50 hi v _ _ hown, ?_, ⟨rfl, rfl, rfl, Nat.le_refl _, fun _ _ _ => rfl⟩⟩
    rw [List.append_nil]; exact hown
  · obtain ⟨v', w', hr, h2, h3, _, _⟩ := run_append_own_at (P := Try.prog) w B 50 ty 22 i (.int .u16 0) 1 2 Try.underlying50 hi e1 e2 e3 rfl (by omega) v xs.length (xs.map (Value.int .u16)) hown
      x l.length cap (l.map (Value.int .u16)) (by simp) (fun j y hy => by
        have hj : j < l.length := by
          rcases Nat.lt_or_ge j l.length with h | h
          · exact h
          · simp [List.getElem?_eq_none h] at hy
        rw [hc j hj]; simpa [hj] using hy)
      (fun y hy => by obtain ⟨z, _, rfl⟩ := List.mem_map.1 hy; rfl) (by unfold maxLen; omega) (by omega) hB
    refine ⟨v', w', hr, ?_, h3⟩
    unfold Ow
    rw [List.length_append, List.map_append]
    exact h2

theorem own_row {w : World} {B : Nat} {v : Value} {l : List Int} (h : Ow w B v l) : ∀ k, v.ownBlock = some k → B ≤ k := by
  intro k hk
  rcases h.2 with ⟨rfl, _⟩ | ⟨g, cap, cur, rfl, hb, _⟩
  · cases hk
  · simp [Value.ownBlock] at hk; omega

theorem wpList_app {w0 w : World} (hb : Below w0.heap.size w0 w) {ops : Array Oper} {rest : List Oper} {o : Oper} {a : Act} {Q : Exit → Act → World → Prop} (hwant : Region.wanted o (yielded ops a.tmps) = true) (s x : Operand)
    (ho : o.op = .call { callee := .builtin .append, args := #[s, x], argTypes := #[50, 50] }) (v u : Value) (hs : a.eval s = v) (hx : a.eval x = u)
    (xs l : List Int) (hown : Ow w w0.heap.size v xs) (hu : Bs w u l) (hn : xs.length + l.length ≤ 1000000)
    (h : ∀ v' w', Ow w' w0.heap.size v' (xs ++ l) → Below w0.heap.size w0 w' → wpList Try.prog ops Q rest (a.put o.dst v') w') : wpList Try.prog ops Q (o :: rest) a w := by
  obtain ⟨v', w', hr, h2, h3⟩ := run_app hown hb.size hu hn o.type
  refine wpList_step fun K hK => ?_
  rw [if_pos hwant]
  unfold Oper.wp execOp
  simp only [ho, resolve, invoke, builtin, Sem.run_bind, Sem.run_pure, Result.andThen_ok, List.map_toArray, List.map_cons, List.map_nil, hs, hx, hr]
  exact hK _ _ (h v' w' h2 (hb.grown h3 hb.size (own_row hown)))



/-- a composite with nothing in it -/
theorem own_empty (w : World) (B : Nat) (hB : B ≤ w.heap.size) (n : Nat) (hn : n = w.heap.size) : Ow (w.alloc (.cells #[] 22)) B (.slice (some ⟨n, 0, none⟩) 0 0) [] := by
  subst hn
  refine ⟨rfl, .inr ⟨w.heap.size, 0, #[], rfl, hB, ?_, Nat.le_refl _, by unfold maxLen; omega, rfl, rfl⟩⟩
  show (w.heap.push (.cells #[] 22))[w.heap.size]? = _
  simp


theorem Ow.mono {w : World} {B B' : Nat} {v : Value} {l : List Int} (h : Ow w B v l) (hB : B' ≤ B) : Ow w B' v l := by
  obtain ⟨h0, h⟩ := h
  refine ⟨h0, ?_⟩
  rcases h with h | ⟨g, cap, cur, hv, hb, r⟩
  · exact .inl h
  · exact .inr ⟨g, cap, cur, hv, Nat.le_trans hB hb, r⟩
theorem Ow.keep {w w' : World} {B : Nat} {v : Value} {l : List Int} (h : Ow w B v l) (hb : Below w.heap.size w w') : Ow w' B v l := by
  obtain ⟨h0, h⟩ := h
  refine ⟨h0, ?_⟩
  rcases h with h | ⟨g, cap, cur, hv, hB, hg, r⟩
  · exact .inl h
  · refine .inr ⟨g, cap, cur, hv, hB, ?_, r⟩
    have : g < w.heap.size := by
      rcases Nat.lt_or_ge g w.heap.size with h' | h'
      · exact h'
      · rw [Array.getElem?_eq_none h'] at hg; cases hg
    rw [hb.block g this]; exact hg

theorem bs_of_row {w : World} {a : Option Addr} {len cap : Nat} {zs : List Int} (h : IsRow .u16 w a len cap zs) :
    ∃ l : List Int, l.length = len ∧ Bs w (.slice a len cap) l ∧ InW l ∧ len ≤ maxLen ∧ len ≤ cap := by
  rcases h with ⟨rfl, rfl, rfl, rfl⟩ | ⟨x, rfl, hl, hm, hz, hc, hw⟩
  · exact ⟨[], rfl, .inl ⟨rfl, rfl⟩, (fun z hz => by cases hz), (by unfold maxLen; omega), Nat.le_refl _⟩
  · have e : (zs.take len).length = len := by rw [List.length_take]; omega
    refine ⟨zs.take len, e, .inr ⟨x, cap, by rw [e], fun i hi => ?_⟩, fun z hz => ?_, by omega, hl⟩
    · rw [e] at hi
      rw [hc i (by omega), List.getElem?_take_of_lt hi]; rfl
    · exact bounds_u16 (hw z (List.mem_of_mem_take hz))
end Go.Proofs.Ytmbgcbbpkbaajaa
