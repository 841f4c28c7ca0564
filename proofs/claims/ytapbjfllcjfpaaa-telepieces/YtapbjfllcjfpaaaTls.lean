/- Lists of telegrams: what a slice reads as, a slice that the call owns, append onto one; a copy of bytes (bytes.Clone). -/
import Derived.Test.YtapbjfllcjfpaaaTMath
import Derived.Lib.SliceRun
namespace Go.Proofs.Ytapbjfllcjfpaaa
open Go.ChangeShapes Go.WideShapes Go.ChangeAt Go.RowKit

def tcl (t : Tl) : List Value := [.int .u8 t.k, .int .u16 t.d, .int .u16 t.s, .int .u16 t.a, .int .u16 t.b]
def fl (ts : List Tl) : List Value := ts.flatMap tcl
theorem fl_len (ts : List Tl) : (fl ts).length = ts.length * 5 := by
  induction ts with
  | nil => rfl
  | cons t ts ih => simp only [fl, List.flatMap_cons, List.length_append, List.length_cons] at ih ⊢; rw [ih]; simp [tcl]; omega
theorem fl_at (ts : List Tl) (i j : Nat) (t : Tl) (h : ts[i]? = some t) (hj : j < 5) : (fl ts)[i * 5 + j]? = (tcl t)[j]? := by
  induction ts generalizing i with
  | nil => simp at h
  | cons u ts ih =>
    have e : fl (u :: ts) = tcl u ++ fl ts := rfl
    rw [e]
    cases i with
    | zero =>
      simp at h
      subst h
      rw [List.getElem?_append_left (by simp [tcl]; omega)]
      simp
    | succ i =>
      simp at h
      rw [List.getElem?_append_right (by simp [tcl]; omega)]
      have := ih i h
      rw [show (i + 1) * 5 + j - (tcl u).length = i * 5 + j by simp [tcl]; omega]
      exact this


/-- a slice of telegrams of the call's own -/
def Ot (w : World) (B : Nat) (v : Value) (ts : List Tl) : Prop := w.ownsRow B 28 5 v ts.length (fl ts)

/-- a slice that reads as telegrams -/
def Rt (w : World) (v : Value) (ts : List Tl) : Prop :=
  (v = .slice none 0 0 ∧ ts = []) ∨ ∃ b off cap, v = .slice (some ⟨b, off, none⟩) ts.length cap ∧ ∀ n, n < ts.length * 5 → w.cell? ⟨b, off + n, none⟩ = (fl ts)[n]?

theorem Ot.none (w : World) (B : Nat) : Ot w B (.slice none 0 0) [] := ⟨rfl, .inl ⟨rfl, rfl⟩⟩
theorem Ot.mono {w : World} {B B' : Nat} {v : Value} {ts : List Tl} (h : Ot w B v ts) (hB : B' ≤ B) : Ot w B' v ts := by
  obtain ⟨h0, h⟩ := h
  refine ⟨h0, ?_⟩
  rcases h with h | ⟨g, cap, cur, h1, h2, h3⟩
  · exact .inl h
  · exact .inr ⟨g, cap, cur, h1, Nat.le_trans hB h2, h3⟩
theorem Ot.keep {w w' : World} {B : Nat} {v : Value} {ts : List Tl} (h : Ot w B v ts) (hb : Below w.heap.size w w') : Ot w' B v ts := by
  obtain ⟨h0, h⟩ := h
  refine ⟨h0, ?_⟩
  rcases h with h | ⟨g, cap, cur, h1, h2, h3, h4⟩
  · exact .inl h
  · refine .inr ⟨g, cap, cur, h1, h2, ?_, h4⟩
    have : g < w.heap.size := by
      rcases Nat.lt_or_ge g w.heap.size with h | h
      · exact h
      · rw [Array.getElem?_eq_none h] at h3; cases h3
    rw [hb.block _ this]; exact h3
theorem Rt.own {w : World} {B : Nat} {v : Value} {ts : List Tl} (h : Ot w B v ts) : Rt w v ts := by
  obtain ⟨_, h⟩ := h
  rcases h with ⟨h1, h2⟩ | ⟨g, cap, cur, h1, _, hg, hn, hm, hs, ht⟩
  · exact .inl ⟨h1, List.eq_nil_of_length_eq_zero h2⟩
  · refine .inr ⟨g, 0, cap, h1, fun n hn => ?_⟩
    unfold World.cell?
    simp only [hg, Nat.zero_add]
    show cur[n]? = _
    rw [← ht, List.getElem?_take_of_lt hn, Array.getElem?_toList]
theorem Rt.keep {w w' : World} {v : Value} {ts : List Tl} (h : Rt w v ts) (hb : Below w.heap.size w w') : Rt w' v ts := by
  rcases h with h | ⟨b, off, cap, h1, h2⟩
  · exact .inl h
  · refine .inr ⟨b, off, cap, h1, fun n hn => ?_⟩
    have h := h2 n hn
    have hl : n < (fl ts).length := by rw [fl_len]; exact hn
    rw [List.getElem?_eq_getElem hl] at h
    rw [hb.cell (Bs.lt h), h, List.getElem?_eq_getElem hl]
theorem Rt.one (w : World) (t : Tl) (n : Nat) (hn : n = w.heap.size) : Rt (w.alloc (.cells #[.int .u8 t.k, .int .u16 t.d, .int .u16 t.s, .int .u16 t.a, .int .u16 t.b] 28)) (.slice (some ⟨n, 0, none⟩) 1 1) [t] := by
  subst hn
  refine .inr ⟨w.heap.size, 0, 1, rfl, fun n hn => ?_⟩
  rw [cell_new, Nat.zero_add]
  match n, hn with
  | 0, _ => rfl
  | 1, _ => rfl
  | 2, _ => rfl
  | 3, _ => rfl
  | 4, _ => rfl

theorem info24 : (Try.prog.info? 28).map (fun i => (i.zero, i.size, i.bytes)) = some (some (.agg #[.int .u8 0, .int .u16 0, .int .u16 0, .int .u16 0, .int .u16 0]), 5, 10) := by kernel_rfl

theorem run_appt {w : World} {B : Nat} {v : Value} {ts : List Tl} (hown : Ot w B v ts) (hB : B ≤ w.heap.size) {u : Value} {us : List Tl} (hu : Rt w u us) (hn : ts.length + us.length ≤ 1000000) (ty : TypeId) :
    ∃ v' w', (Builtin.append_ #[22, 22] ty #[v, u]).run Try.prog w = .ok v' w' ∧ Ot w' B v' (ts ++ us) ∧ w.grownBy w' v.ownBlock := by
  obtain ⟨i, hi, he⟩ := Option.map_eq_some_iff.1 info24
  have e1 : i.zero = some (.agg #[.int .u8 0, .int .u16 0, .int .u16 0, .int .u16 0, .int .u16 0]) := congrArg Prod.fst he
  have e2 : i.size = 5 := congrArg (fun p => p.2.1) he
  have e3 : i.bytes = 10 := congrArg (fun p => p.2.2) he
  rcases hu with ⟨rfl, rfl⟩ | ⟨b, off, cap, rfl, hc⟩
  · refine ⟨v, w, run_append_owned_none (P := Try.prog) (w := w) B 22 ty 28 i 5 Try.underlying22 hi v _ _ hown, ?_, ⟨rfl, rfl, rfl, Nat.le_refl _, fun _ _ _ => rfl⟩⟩
    rw [List.append_nil]; exact hown
  · obtain ⟨v', w', hr, h2, h3, _, _⟩ := run_append_own_at (P := Try.prog) w B 22 ty 28 i _ 5 10 Try.underlying22 hi e1 e2 e3 rfl (by omega) v ts.length (fl ts) hown
      ⟨b, off, none⟩ us.length cap (fl us) (fl_len us) (fun j y hy => by
        have hj : j < us.length * 5 := by
          rcases Nat.lt_or_ge j (us.length * 5) with h | h
          · exact h
          · rw [List.getElem?_eq_none (by rw [fl_len]; exact h)] at hy; cases hy
        rw [add_plain, hc j hj]; exact hy)
      (fun y hy => by
        obtain ⟨t, _, ht⟩ := List.mem_flatMap.1 hy
        simp [tcl] at ht
        rcases ht with rfl | rfl | rfl | rfl | rfl <;> rfl) (by unfold maxLen; omega) (by omega) hB
    refine ⟨v', w', hr, ?_, h3⟩
    unfold Ot
    rw [List.length_append, show fl (ts ++ us) = fl ts ++ fl us by simp [fl]]
    exact h2

theorem ot_row {w : World} {B : Nat} {v : Value} {ts : List Tl} (h : Ot w B v ts) : ∀ k, v.ownBlock = some k → B ≤ k := by
  intro k hk
  rcases h.2 with ⟨rfl, _⟩ | ⟨g, cap, cur, rfl, hb, _⟩
  · cases hk
  · simp [Value.ownBlock] at hk; omega

theorem wpList_appt {w0 w : World} (hb : Below w0.heap.size w0 w) {ops : Array Oper} {rest : List Oper} {o : Oper} {a : Act} {Q : Exit → Act → World → Prop} (hwant : Region.wanted o (yielded ops a.tmps) = true) (s x : Operand)
    (ho : o.op = .call { callee := .builtin .append, args := #[s, x], argTypes := #[22, 22] }) (v u : Value) (hs : a.eval s = v) (hx : a.eval x = u)
    (ts us : List Tl) (hown : Ot w w0.heap.size v ts) (hu : Rt w u us) (hn : ts.length + us.length ≤ 1000000)
    (h : ∀ v' w', Ot w' w0.heap.size v' (ts ++ us) → Below w0.heap.size w0 w' → wpList Try.prog ops Q rest (a.put o.dst v') w') : wpList Try.prog ops Q (o :: rest) a w := by
  obtain ⟨v', w', hr, h2, h3⟩ := run_appt hown hb.size hu hn o.type
  refine wpList_step fun K hK => ?_
  rw [if_pos hwant]
  unfold Oper.wp execOp
  simp only [ho, resolve, invoke, builtin, Sem.run_bind, Sem.run_pure, Result.andThen_ok, List.map_toArray, List.map_cons, List.map_nil, hs, hx, hr]
  exact hK _ _ (h v' w' h2 (hb.grown h3 hb.size (ot_row hown)))

theorem clone_any {w : World} {v : Value} {l : List Int} (hs : Bs w v l) (hm : l.length ≤ 1000) :
    Calls Try.prog 12 #[v] w fun e w' => ∃ v', e = .returned v' ∧ Ow w' w.heap.size v' l ∧ Below w.heap.size w w' := by
  have hb0 : Below w.heap.size w (w.alloc (.cells #[] 5)) := (Below.refl _ _).alloc (Nat.le_refl _) _
  have hq : ∀ W a n c, (binOp .eql 25 (.slice a n c) (.slice none 0 0)).run Try.prog W = .ok (.bool a.isNone) W := fun W a n c => Lib.run_eql_slice_nil W 25 5 a n c 0 0 Try.underlying25
  rcases hs with ⟨rfl, rfl⟩ | ⟨x, cap, rfl, hc⟩
  · go_enter Try.func12, Try.ntmps12
    go_wp2_with fail
    go_ret
    exact ⟨_, rfl, ⟨rfl, .inl ⟨rfl, rfl⟩⟩, Below.refl _ _⟩
  · have Hs : Hid (Bs w (.slice (some x) l.length cap) l) := hide (.inr ⟨x, cap, rfl, hc⟩)
    have Hm := hide hm
    clear hc hm
    go_enter Try.func12, Try.ntmps12
    go_wp2_with (at_builtin; refine wpList_app hb0 (by rfl) _ _ rfl _ _ rfl rfl [] l (own_empty _ _ (Nat.le_refl _) _ (by simp)) (Hs.out.keep hb0) (by simp; have := Hm.out; omega) ?_; intro v1 w1 hown hb1; refine Hid.out ?_)
    refine hide ?_
    rw [List.nil_append] at hown
    go_wp2_with fail
    go_ret
    exact ⟨_, rfl, hown, hb1⟩

end Go.Proofs.Ytapbjfllcjfpaaa
