/- Slices of bytes: what a slice reads as, a slice that the call owns, append onto one, conversion to a string. -/
import Derived.Test.YtapbjfllcjfpaaaAwake
import Derived.Deep.AppendSrc
import Derived.Deep.AppendLies
import Derived.Laws.OwnMore
import Derived.Laws.BytesArg
import Derived.ShutString
import Derived.ChangeOld
import Derived.SizedLaws
namespace Go.Proofs.Ytapbjfllcjfpaaa
open Go.ChangeShapes Go.WideShapes Go.ChangeAt Go.RowKit



/-- the value v is a slice of bytes that reads l in w -/
def Bs (w : World) (v : Value) (l : List Int) : Prop :=
  (v = .slice none 0 0 ∧ l = []) ∨ ∃ x cap, v = .slice (some x) l.length cap ∧ ∀ i, i < l.length → w.cell? (x.add i) = some (.int .u8 (l[i]?.getD 0))
def InB (l : List Int) : Prop := ∀ z ∈ l, 0 ≤ z ∧ z ≤ 255


/-- the value v is a slice of bytes of the call's own (in blocks from B on) that reads l in w -/
def Ow (w : World) (B : Nat) (v : Value) (l : List Int) : Prop := w.ownsRow B 5 1 v l.length (l.map (Value.int .u8))

theorem add_plain (b off j : Nat) : (⟨b, off, none⟩ : Addr).add j = ⟨b, off + j, none⟩ := by unfold Addr.add; split <;> simp_all

theorem Bs.lt {w : World} {x : Addr} {u : Value} (h : w.cell? x = some u) : x.block < w.heap.size := by
  rcases Nat.lt_or_ge x.block w.heap.size with h' | h'
  · exact h'
  · simp [World.cell?, Array.getElem?_eq_none h'] at h

theorem Bs.form {w : World} {v : Value} {l : List Int} (h : Bs w v l) : ∃ a cap, v = .slice a l.length cap := by
  rcases h with ⟨h, rfl⟩ | ⟨x, cap, h, _⟩
  · exact ⟨none, 0, h⟩
  · exact ⟨_, _, h⟩

theorem Bs.keep {w w' : World} {v : Value} {l : List Int} (h : Bs w v l) (hb : Below w.heap.size w w') : Bs w' v l := by
  rcases h with h | ⟨x, cap, rfl, hc⟩
  · exact .inl h
  · refine .inr ⟨x, cap, rfl, fun i hi => ?_⟩
    rw [hb.cell (Bs.lt (hc i hi))]; exact hc i hi

theorem Bs.own {w : World} {B : Nat} {v : Value} {l : List Int} (h : Ow w B v l) : Bs w v l := by
  obtain ⟨_, h⟩ := h
  rcases h with ⟨hv, h0⟩ | ⟨g, cap, cur, hv, hb, hg, hn, hm, hs, ht⟩
  · left
    exact ⟨hv, List.eq_nil_of_length_eq_zero h0⟩
  · right
    refine ⟨⟨g, 0, none⟩, cap, hv, fun i hi => ?_⟩
    have e : cur[i]? = some (.int .u8 (l[i]?.getD 0)) := by
      have := congrArg (fun (m : List Value) => m[i]?) ht
      simp only [Nat.mul_one] at this
      rw [List.getElem?_take_of_lt hi] at this
      rw [← Array.getElem?_toList, this]
      simp [hi]
    rw [add_plain, Nat.zero_add]
    unfold World.cell?
    simp only [hg]
    exact e

theorem sum_bs {w : World} {v : Value} {l : List Int} (h : Bs w v l) (hr : InB l) (hm : l.length ≤ 140737488355328) :
    Calls Try.prog 10 #[v] w fun e w' => e = .returned (.int .u16 (uv (sm 0xFFFF#16 l))) ∧ w' = w := by
  rcases h with ⟨rfl, rfl⟩ | ⟨x, cap, rfl, hc⟩
  · exact sum_nil _ _ _
  · cases l with
    | nil => exact sum_nil _ _ _
    | cons z t =>
      obtain ⟨b, off, spot⟩ := x
      have hspot : spot = none := by simpa [Addr.add] using World.cell?_spot (hc 0 (by simp))
      subst hspot
      exact sum_at b off cap _ (z :: t) w rfl (fun i hi => by rw [← add_plain]; exact hc i hi) hr hm

theorem bytes5 : Try.prog.bytesOf 5 = 1 := by kernel_rfl
theorem info5 : (Try.prog.info? 5).map (fun i => (i.zero, i.size, i.bytes)) = some (some (.int .u8 0), 1, 1) := by kernel_rfl

theorem run_app {w : World} {B : Nat} {v : Value} {xs : List Int} (hown : Ow w B v xs) (hB : B ≤ w.heap.size) {u : Value} {l : List Int} (hu : Bs w u l) (hn : xs.length + l.length ≤ 1000000) (ty : TypeId) :
    ∃ v' w', (Builtin.append_ #[25, 25] ty #[v, u]).run Try.prog w = .ok v' w' ∧ Ow w' B v' (xs ++ l) ∧ w.grownBy w' v.ownBlock := by
  obtain ⟨i, hi, he⟩ := Option.map_eq_some_iff.1 info5
  have e1 : i.zero = some (.int .u8 0) := congrArg Prod.fst he
  have e2 : i.size = 1 := congrArg (fun p => p.2.1) he
  have e3 : i.bytes = 1 := congrArg (fun p => p.2.2) he
  rcases hu with ⟨rfl, rfl⟩ | ⟨x, cap, rfl, hc⟩
  · refine ⟨v, w, run_append_owned_none (P := Try.prog) (w := w) B 25 ty 5 i 1 Try.underlying25 hi v _ _ hown, ?_, ⟨rfl, rfl, rfl, Nat.le_refl _, fun _ _ _ => rfl⟩⟩
    rw [List.append_nil]; exact hown
  · obtain ⟨v', w', hr, h2, h3, _, _⟩ := run_append_own_at (P := Try.prog) w B 25 ty 5 i (.int .u8 0) 1 1 Try.underlying25 hi e1 e2 e3 rfl (by omega) v xs.length (xs.map (Value.int .u8)) hown
      x l.length cap (l.map (Value.int .u8)) (by simp) (fun j y hy => by
        have hj : j < l.length := by
          rcases Nat.lt_or_ge j l.length with h | h
          · exact h
          · simp [List.getElem?_eq_none h] at hy
        rw [hc j hj]; simpa [hj] using hy)
      (fun y hy => by obtain ⟨z, _, rfl⟩ := List.mem_map.1 hy; rfl) (by unfold maxLen; omega) (by omega) hB
    refine ⟨v', w', hr, ?_, h3⟩
    unfold Ow
    rw [List.length_append, List.map_append]
    exact h2

theorem own_row {w : World} {B : Nat} {v : Value} {l : List Int} (h : Ow w B v l) : ∀ k, v.ownBlock = some k → B ≤ k := by
  intro k hk
  rcases h.2 with ⟨rfl, _⟩ | ⟨g, cap, cur, rfl, hb, _⟩
  · cases hk
  · simp [Value.ownBlock] at hk; omega

theorem wpList_app {w0 w : World} (hb : Below w0.heap.size w0 w) {ops : Array Oper} {rest : List Oper} {o : Oper} {a : Act} {Q : Exit → Act → World → Prop} (hwant : Region.wanted o (yielded ops a.tmps) = true) (s x : Operand)
    (ho : o.op = .call { callee := .builtin .append, args := #[s, x], argTypes := #[25, 25] }) (v u : Value) (hs : a.eval s = v) (hx : a.eval x = u)
    (xs l : List Int) (hown : Ow w w0.heap.size v xs) (hu : Bs w u l) (hn : xs.length + l.length ≤ 1000000)
    (h : ∀ v' w', Ow w' w0.heap.size v' (xs ++ l) → Below w0.heap.size w0 w' → wpList Try.prog ops Q rest (a.put o.dst v') w') : wpList Try.prog ops Q (o :: rest) a w := by
  obtain ⟨v', w', hr, h2, h3⟩ := run_app hown hb.size hu hn o.type
  refine wpList_step fun K hK => ?_
  rw [if_pos hwant]
  unfold Oper.wp execOp
  simp only [ho, resolve, invoke, builtin, Sem.run_bind, Sem.run_pure, Result.andThen_ok, List.map_toArray, List.map_cons, List.map_nil, hs, hx, hr]
  exact hK _ _ (h v' w' h2 (hb.grown h3 hb.size (own_row hown)))



/-- a composite with nothing in it -/
theorem own_empty (w : World) (B : Nat) (hB : B ≤ w.heap.size) (n : Nat) (hn : n = w.heap.size) : Ow (w.alloc (.cells #[] 5)) B (.slice (some ⟨n, 0, none⟩) 0 0) [] := by
  subst hn
  refine ⟨rfl, .inr ⟨w.heap.size, 0, #[], rfl, hB, ?_, Nat.le_refl _, by unfold maxLen; omega, rfl, rfl⟩⟩
  show (w.heap.push (.cells #[] 5))[w.heap.size]? = _
  simp

def str (l : List Int) : ByteArray := l.foldl (fun r n => r.push (UInt8.ofNat n.toNat)) ByteArray.empty

theorem conv_str {w : World} {v : Value} {l : List Int} (h : Bs w v l) : (convert 25 9 v).run Try.prog w = .ok (.string (str l)) w := by
  rcases h with ⟨rfl, rfl⟩ | ⟨x, cap, rfl, hc⟩
  · exact run_convert_bytes_nil (P := Try.prog) w 25 5 Try.underlying25 Try.underlying5 0 0 9 Try.underlying9
  · have hl : (loadCells x l.length).run Try.prog w = .ok (l.map (Value.int .u8)).toArray w := by
      have := run_loadCells_list (P := Try.prog) w x (l.map (Value.int .u8)) (fun j y hy => by
        have hj : j < l.length := by
          rcases Nat.lt_or_ge j l.length with h | h
          · exact h
          · simp [List.getElem?_eq_none h] at hy
        rw [hc j hj]; simpa [hj] using hy)
      simpa using this
    rw [run_convert_bytes_string (P := Try.prog) w 25 9 5 _ _ _ Try.underlying25 Try.underlying5 Try.underlying9, run_bytesToString w x _ cap l hl]
    rfl



/-- a slice of integers that came in: nil, or a row of 'cap' cells that read 'zs', each fitting its kind -/
def IsRow (k : IntKind) (w : World) (a : Option Addr) (len cap : Nat) (zs : List Int) : Prop :=
  (a = none ∧ len = 0 ∧ cap = 0 ∧ zs = []) ∨
  ∃ x, a = some x ∧ len ≤ cap ∧ cap ≤ maxLen ∧ zs.length = cap ∧ (∀ i, i < zs.length → w.cell? (x.add i) = some (.int k (zs.getD i 0))) ∧ ∀ n ∈ zs, (Lit.int k n).wf = true

theorem bs_of_row {w : World} {a : Option Addr} {len cap : Nat} {zs : List Int} (h : IsRow .u8 w a len cap zs) :
    ∃ l : List Int, l.length = len ∧ Bs w (.slice a len cap) l ∧ InB l ∧ len ≤ maxLen ∧ len ≤ cap := by
  rcases h with ⟨rfl, rfl, rfl, rfl⟩ | ⟨x, rfl, hl, hm, hz, hc, hw⟩
  · exact ⟨[], rfl, .inl ⟨rfl, rfl⟩, (fun z hz => by cases hz), (by unfold maxLen; omega), Nat.le_refl _⟩
  · have e : (zs.take len).length = len := by rw [List.length_take]; omega
    refine ⟨zs.take len, e, .inr ⟨x, cap, by rw [e], fun i hi => ?_⟩, fun z hz => ?_, by omega, hl⟩
    · rw [e] at hi
      rw [hc i (by omega), List.getElem?_take_of_lt hi]; rfl
    · exact bounds_u8 (hw z (List.mem_of_mem_take hz))

end Go.Proofs.Ytapbjfllcjfpaaa
