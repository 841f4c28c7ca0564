/- Slices of bytes and of telegrams of the call's own, side by side; a list of telegrams that came in; the good ones of a list. -/
import Derived.Test.YtapbjfllcjfpaaaSplM
import Derived.Test.YtapbjfllcjfpaaaSame
import Derived.Test.YtapbjfllcjfpaaaTAwake
import Derived.Test.YtapbjfllcjfpaaaArgs
namespace Go.Proofs.Ytapbjfllcjfpaaa
open Go.ChangeShapes Go.WideShapes Go.ChangeAt Go.RowKit

/-- two slices have no block in common -/
def Sep (v u : Value) : Prop := ∀ g, v.ownBlock = some g → u.ownBlock ≠ some g
theorem Sep.symm {v u : Value} (h : Sep v u) : Sep u v := fun g h1 h2 => h g h2 h1

theorem row_lt {w : World} {B e s n : Nat} {v : Value} {l : List Value} (h : w.ownsRow B e s v n l) (g : Nat) (hg : v.ownBlock = some g) : g < w.heap.size := by
  rcases h.2 with ⟨rfl, _⟩ | ⟨g', cap, cur, rfl, hb, hh, _⟩
  · cases hg
  · simp [Value.ownBlock] at hg
    subst hg
    rcases Nat.lt_or_ge g' w.heap.size with h' | h'
    · exact h'
    · rw [Array.getElem?_eq_none h'] at hh; cases hh

/-- what is appended to stays apart from what is elsewhere -/
theorem sep_next {w : World} {B e s n : Nat} {v v' u : Value} {l : List Value} (hs : Sep v u) (hu : w.ownsRow B e s u n l) (h : v'.ownBlock = v.ownBlock ∨ v'.ownBlock = some w.heap.size) : Sep v' u := by
  intro g hg hg'
  rcases h with h | h
  · exact hs g (by rw [← h]; exact hg) hg'
  · have := row_lt hu g hg'
    rw [h] at hg
    simp at hg
    omega
theorem kept_next {w w' : World} {B e s n : Nat} {v u : Value} {l : List Value} (hs : Sep v u) (hu : w.ownsRow B e s u n l) (h : w.grownBy w' v.ownBlock) : w'.ownsRow B e s u n l := by
  refine World.ownsRow.kept hu h ?_
  cases hb : u.ownBlock with
  | none => exact .inl rfl
  | some g => exact .inr (fun h => hs g h.symm hb)

theorem run_appB {w : World} {B : Nat} {v : Value} {xs : List Int} (hown : Ow w B v xs) (hB : B ≤ w.heap.size) {u : Value} {l : List Int} (hu : Bs w u l) (hn : xs.length + l.length ≤ 1000000) (ty : TypeId) :
    ∃ v' w', (Builtin.append_ #[25, 25] ty #[v, u]).run Try.prog w = .ok v' w' ∧ Ow w' B v' (xs ++ l) ∧ w.grownBy w' v.ownBlock ∧ (v'.ownBlock = v.ownBlock ∨ v'.ownBlock = some w.heap.size) := by
  obtain ⟨i, hi, he⟩ := Option.map_eq_some_iff.1 info5
  have e1 : i.zero = some (.int .u8 0) := congrArg Prod.fst he
  have e2 : i.size = 1 := congrArg (fun p => p.2.1) he
  have e3 : i.bytes = 1 := congrArg (fun p => p.2.2) he
  rcases hu with ⟨rfl, rfl⟩ | ⟨x, cap, rfl, hc⟩
  · refine ⟨v, w, run_append_owned_none (P := Try.prog) (w := w) B 25 ty 5 i 1 Try.underlying25 hi v _ _ hown, ?_, ⟨rfl, rfl, rfl, Nat.le_refl _, fun _ _ _ => rfl⟩, .inl rfl⟩
    rw [List.append_nil]; exact hown
  · obtain ⟨v', w', hr, h2, h3, _, h5⟩ := run_append_own_at (P := Try.prog) w B 25 ty 5 i (.int .u8 0) 1 1 Try.underlying25 hi e1 e2 e3 rfl (by omega) v xs.length (xs.map (Value.int .u8)) hown
      x l.length cap (l.map (Value.int .u8)) (by simp) (fun j y hy => by
        have hj : j < l.length := by
          rcases Nat.lt_or_ge j l.length with h | h
          · exact h
          · simp [List.getElem?_eq_none h] at hy
        rw [hc j hj]; simpa [hj] using hy)
      (fun y hy => by obtain ⟨z, _, rfl⟩ := List.mem_map.1 hy; rfl) (by unfold maxLen; omega) (by omega) hB
    refine ⟨v', w', hr, ?_, h3, h5⟩
    unfold Ow
    rw [List.length_append, List.map_append]
    exact h2

theorem run_apptB {w : World} {B : Nat} {v : Value} {ts : List Tl} (hown : Ot w B v ts) (hB : B ≤ w.heap.size) {u : Value} {us : List Tl} (hu : Rt w u us) (hn : ts.length + us.length ≤ 1000000) (ty : TypeId) :
    ∃ v' w', (Builtin.append_ #[22, 22] ty #[v, u]).run Try.prog w = .ok v' w' ∧ Ot w' B v' (ts ++ us) ∧ w.grownBy w' v.ownBlock ∧ (v'.ownBlock = v.ownBlock ∨ v'.ownBlock = some w.heap.size) := by
  obtain ⟨i, hi, he⟩ := Option.map_eq_some_iff.1 info24
  have e1 : i.zero = some (.agg #[.int .u8 0, .int .u16 0, .int .u16 0, .int .u16 0, .int .u16 0]) := congrArg Prod.fst he
  have e2 : i.size = 5 := congrArg (fun p => p.2.1) he
  have e3 : i.bytes = 10 := congrArg (fun p => p.2.2) he
  rcases hu with ⟨rfl, rfl⟩ | ⟨b, off, cap, rfl, hc⟩
  · refine ⟨v, w, run_append_owned_none (P := Try.prog) (w := w) B 22 ty 28 i 5 Try.underlying22 hi v _ _ hown, ?_, ⟨rfl, rfl, rfl, Nat.le_refl _, fun _ _ _ => rfl⟩, .inl rfl⟩
    rw [List.append_nil]; exact hown
  · obtain ⟨v', w', hr, h2, h3, _, h5⟩ := run_append_own_at (P := Try.prog) w B 22 ty 28 i _ 5 10 Try.underlying22 hi e1 e2 e3 rfl (by omega) v ts.length (fl ts) hown
      ⟨b, off, none⟩ us.length cap (fl us) (fl_len us) (fun j y hy => by
        have hj : j < us.length * 5 := by
          rcases Nat.lt_or_ge j (us.length * 5) with h | h
          · exact h
          · rw [List.getElem?_eq_none (by rw [fl_len]; exact h)] at hy; cases hy
        rw [add_plain, hc j hj]; exact hy)
      (fun y hy => by
        obtain ⟨t, _, ht⟩ := List.mem_flatMap.1 hy
        simp [tcl] at ht
        rcases ht with rfl | rfl | rfl | rfl | rfl <;> rfl) (by unfold maxLen; omega) (by omega) hB
    refine ⟨v', w', hr, ?_, h3, h5⟩
    unfold Ot
    rw [List.length_append, show fl (ts ++ us) = fl ts ++ fl us by simp [fl]]
    exact h2

theorem wpList_appB {w0 w : World} (hb : Below w0.heap.size w0 w) {ops : Array Oper} {rest : List Oper} {o : Oper} {a : Act} {Q : Exit → Act → World → Prop} (hwant : Region.wanted o (yielded ops a.tmps) = true) (s x : Operand)
    (ho : o.op = .call { callee := .builtin .append, args := #[s, x], argTypes := #[25, 25] }) (v u : Value) (hs : a.eval s = v) (hx : a.eval x = u)
    (xs l : List Int) (hown : Ow w w0.heap.size v xs) (hu : Bs w u l) (hn : xs.length + l.length ≤ 1000000)
    (h : ∀ v' w', Ow w' w0.heap.size v' (xs ++ l) → w.grownBy w' v.ownBlock → (v'.ownBlock = v.ownBlock ∨ v'.ownBlock = some w.heap.size) → Below w0.heap.size w0 w' → wpList Try.prog ops Q rest (a.put o.dst v') w') : wpList Try.prog ops Q (o :: rest) a w := by
  obtain ⟨v', w', hr, h2, h3, h4⟩ := run_appB hown hb.size hu hn o.type
  refine wpList_step fun K hK => ?_
  rw [if_pos hwant]
  unfold Oper.wp execOp
  simp only [ho, resolve, invoke, builtin, Sem.run_bind, Sem.run_pure, Result.andThen_ok, List.map_toArray, List.map_cons, List.map_nil, hs, hx, hr]
  exact hK _ _ (h v' w' h2 h3 h4 (hb.grown h3 hb.size (own_row hown)))

theorem wpList_apptB {w0 w : World} (hb : Below w0.heap.size w0 w) {ops : Array Oper} {rest : List Oper} {o : Oper} {a : Act} {Q : Exit → Act → World → Prop} (hwant : Region.wanted o (yielded ops a.tmps) = true) (s x : Operand)
    (ho : o.op = .call { callee := .builtin .append, args := #[s, x], argTypes := #[22, 22] }) (v u : Value) (hs : a.eval s = v) (hx : a.eval x = u)
    (ts us : List Tl) (hown : Ot w w0.heap.size v ts) (hu : Rt w u us) (hn : ts.length + us.length ≤ 1000000)
    (h : ∀ v' w', Ot w' w0.heap.size v' (ts ++ us) → w.grownBy w' v.ownBlock → (v'.ownBlock = v.ownBlock ∨ v'.ownBlock = some w.heap.size) → Below w0.heap.size w0 w' → wpList Try.prog ops Q rest (a.put o.dst v') w') : wpList Try.prog ops Q (o :: rest) a w := by
  obtain ⟨v', w', hr, h2, h3, h4⟩ := run_apptB hown hb.size hu hn o.type
  refine wpList_step fun K hK => ?_
  rw [if_pos hwant]
  unfold Oper.wp execOp
  simp only [ho, resolve, invoke, builtin, Sem.run_bind, Sem.run_pure, Result.andThen_ok, List.map_toArray, List.map_cons, List.map_nil, hs, hx, hr]
  exact hK _ _ (h v' w' h2 h3 h4 (hb.grown h3 hb.size (ot_row hown)))

theorem step_app {w0 w : World} (hb : Below w0.heap.size w0 w) {ops : Array Oper} {o : Oper} {a : Act} {K : Act → World → Prop} {Q : Exit → Act → World → Prop} {E : Prop} (hgd : o.guard = none) (s x : Operand)
    (ho : o.op = .call { callee := .builtin .append, args := #[s, x], argTypes := #[25, 25] }) (v u : Value) (hs : a.eval s = v) (hx : a.eval x = u)
    (xs l : List Int) (hown : Ow w w0.heap.size v xs) (hu : Bs w u l) (hn : xs.length + l.length ≤ 1000000)
    (h : ∀ v' w', Ow w' w0.heap.size v' (xs ++ l) → Below w0.heap.size w0 w' → K (a.put o.dst v') w') :
    if Region.wanted o (yielded ops a.tmps) = true then Oper.wp Try.prog o a w K Q else E := by
  have hw : Region.wanted o (yielded ops a.tmps) = true := by simp [Region.wanted, hgd]
  rw [if_pos hw]
  obtain ⟨v', w', hr, h2, h3, _⟩ := run_appB hown hb.size hu hn o.type
  unfold Oper.wp execOp
  simp only [ho, resolve, invoke, builtin, Sem.run_bind, Sem.run_pure, Result.andThen_ok, List.map_toArray, List.map_cons, List.map_nil, hs, hx, hr]
  exact h v' w' h2 (hb.grown h3 hb.size (own_row hown))

theorem step_apptB {w0 w : World} (hb : Below w0.heap.size w0 w) {ops : Array Oper} {o : Oper} {a : Act} {K : Act → World → Prop} {Q : Exit → Act → World → Prop} {E : Prop} (hgd : o.guard = none) (s x : Operand)
    (ho : o.op = .call { callee := .builtin .append, args := #[s, x], argTypes := #[22, 22] }) (v u : Value) (hs : a.eval s = v) (hx : a.eval x = u)
    (ts us : List Tl) (hown : Ot w w0.heap.size v ts) (hu : Rt w u us) (hn : ts.length + us.length ≤ 1000000)
    (h : ∀ v' w', Ot w' w0.heap.size v' (ts ++ us) → w.grownBy w' v.ownBlock → Below w0.heap.size w0 w' → K (a.put o.dst v') w') :
    if Region.wanted o (yielded ops a.tmps) = true then Oper.wp Try.prog o a w K Q else E := by
  have hw : Region.wanted o (yielded ops a.tmps) = true := by simp [Region.wanted, hgd]
  rw [if_pos hw]
  obtain ⟨v', w', hr, h2, h3, _⟩ := run_apptB hown hb.size hu hn o.type
  unfold Oper.wp execOp
  simp only [ho, resolve, invoke, builtin, Sem.run_bind, Sem.run_pure, Result.andThen_ok, List.map_toArray, List.map_cons, List.map_nil, hs, hx, hr]
  exact h v' w' h2 h3 (hb.grown h3 hb.size (ot_row hown))

/-- the good ones -/
def gd (ts : List Tl) : List Tl := ts.filter (fun t => decide (chk t = 0))
theorem gd_succ (ts : List Tl) (k : Nat) (t : Tl) (h : ts[k]? = some t) : gd (ts.take (k + 1)) = gd (ts.take k) ++ (if chk t = 0 then [t] else []) := by
  unfold gd
  rw [List.take_add_one, h, List.filter_append]
  congr 1
  by_cases hc : chk t = 0 <;> simp [hc]
theorem gd_ok (ts : List Tl) : ∀ t ∈ gd ts, chk t = 0 := by
  intro t ht
  have := (List.mem_filter.1 ht).2
  simpa using this
theorem gd_len (ts : List Tl) : (gd ts).length ≤ ts.length := List.length_filter_le _ _
theorem encs_len (ts : List Tl) : (ts.flatMap enc).length = 12 * ts.length := by
  induction ts with
  | nil => rfl
  | cons t ts ih => rw [List.flatMap_cons, List.length_append, ih, enc_len]; simp; omega

/-- a slice of telegrams that came in -/
def IsTs (w : World) (a : Option Addr) (len : Nat) (ts : List Tl) : Prop :=
  ts.length = len ∧ (∀ t ∈ ts, t.In) ∧ ∀ (i : Nat) (t : Tl), ts[i]? = some t → ∃ b off, a = some ⟨b, off, none⟩ ∧ ∀ j, j < 5 → w.cell? ⟨b, off + i * 5 + j, none⟩ = (tcl t)[j]?

section
variable {H : Type} {enc : TypeId × Value → H} {w : World} {base : Nat} {spare : Nat → Bool} {held : Bool} {fuel : Nat} {cs : List Value} {x : DataW H × List MemPlace}
theorem teles_of_trod {a : Option Addr} {len cap : Nat} (h : DataW.trod enc Try.prog w base spare held fuel 22 cs = some x) (hcs : cs = [.slice a len cap]) : ∃ ts, IsTs w a len ts := by
  have e28 : Try.prog.cellsOf 28 = 5 := by kernel_rfl
  rcases DataW.trod_slice Try.underlying22 h with ⟨h1, _⟩ | ⟨x0, len', cap', elems, rest, n, _, h1, _, _, hl, _, he, hr, _⟩
  · rw [hcs] at h1
    simp at h1
    obtain ⟨rfl, rfl, rfl⟩ := h1
    exact ⟨[], rfl, by simp, by simp⟩
  · rw [hcs] at h1
    simp at h1
    obtain ⟨rfl, rfl, rfl⟩ := h1
    rw [e28] at hr
    have one : ∀ i, i < len → ∃ t : Tl, t.In ∧ ∀ j, j < 5 → w.cell? ((x0.add (i * 5)).add j) = (tcl t)[j]? := by
      intro i hi
      have hi' : i < elems.length := by omega
      have h2 := hr i hi
      rw [List.getElem?_eq_getElem hi'] at h2
      obtain ⟨cs', h3, h4⟩ := Option.bind_eq_some_iff.1 h2
      obtain ⟨t, ht, he'⟩ := tele_of_trod h4
      obtain ⟨_, _, h5⟩ := World.cells?_some h3
      exact ⟨t, ht, fun j hj => by rw [h5 j hj, he']; rfl⟩
    obtain ⟨b, off, spot⟩ := x0
    have all : ∀ m, m ≤ len → ∃ ts : List Tl, ts.length = m ∧ (∀ t ∈ ts, t.In) ∧ ∀ (i : Nat) (t : Tl), ts[i]? = some t → ∀ j, j < 5 → w.cell? (((⟨b, off, spot⟩ : Addr).add (i * 5)).add j) = (tcl t)[j]? := by
      intro m
      induction m with
      | zero => intro _; exact ⟨[], rfl, by simp, by simp⟩
      | succ m ih =>
        intro hm
        obtain ⟨ts, h1, h2, h3⟩ := ih (by omega)
        obtain ⟨t, h4, h5⟩ := one m (by omega)
        refine ⟨ts ++ [t], by simp [h1], fun u hu => ?_, fun i u hu => ?_⟩
        · rcases List.mem_append.1 hu with hu | hu
          · exact h2 u hu
          · simp at hu; subst hu; exact h4
        · rcases Nat.lt_or_ge i m with hi | hi
          · rw [List.getElem?_append_left (by omega)] at hu
            exact h3 i u hu
          · have : i = m := by
              rcases Nat.lt_or_ge i (m + 1) with h | h
              · omega
              · rw [List.getElem?_eq_none (by simp; omega)] at hu; cases hu
            subst this
            rw [List.getElem?_append_right (by omega)] at hu
            simp [h1] at hu
            subst hu
            exact h5
    obtain ⟨ts, h1, h2, h3⟩ := all len (Nat.le_refl _)
    refine ⟨ts, h1, h2, fun i t ht => ?_⟩
    have h4 := h3 i t ht
    have hspot : spot = none := by
      have hpos : 0 < ts.length := by
        rcases Nat.eq_zero_or_pos ts.length with h | h
        · rw [List.getElem?_eq_none (by omega)] at ht; cases ht
        · exact h
      have h5 := h3 0 ts[0] (List.getElem?_eq_getElem hpos) 0 (by omega)
      have h6 : w.cell? (((⟨b, off, spot⟩ : Addr).add (0 * 5)).add 0) = some (.int .u8 ts[0].k) := h5
      simpa [Addr.add] using World.cell?_spot h6
    subst hspot
    refine ⟨b, off, rfl, fun j hj => ?_⟩
    have := h4 j hj
    rw [add_plain, add_plain] at this
    exact this
end

theorem IsTs.keep {w w' : World} {a : Option Addr} {len : Nat} {ts : List Tl} (h : IsTs w a len ts) (hb : Below w.heap.size w w') : IsTs w' a len ts := by
  refine ⟨h.1, h.2.1, fun i t ht => ?_⟩
  obtain ⟨b, off, h1, h2⟩ := h.2.2 i t ht
  refine ⟨b, off, h1, fun j hj => ?_⟩
  have h3 := h2 j hj
  have hj' : j < (tcl t).length := hj
  rw [List.getElem?_eq_getElem hj'] at h3
  rw [hb.cell (Bs.lt h3), List.getElem?_eq_getElem hj']
  exact h3
theorem IsTs.at {w : World} {a : Option Addr} {len : Nat} {ts : List Tl} (h : IsTs w a len ts) (i : Nat) (t : Tl) (ht : ts[i]? = some t) :
    ∃ b off, a = some ⟨b, off, none⟩ ∧ w.cell? ⟨b, off + i * 5, none⟩ = some (.int .u8 t.k) ∧ w.cell? ⟨b, off + i * 5 + 1, none⟩ = some (.int .u16 t.d) ∧ w.cell? ⟨b, off + i * 5 + 2, none⟩ = some (.int .u16 t.s) ∧ w.cell? ⟨b, off + i * 5 + 3, none⟩ = some (.int .u16 t.a) ∧ w.cell? ⟨b, off + i * 5 + 4, none⟩ = some (.int .u16 t.b) := by
  obtain ⟨b, off, h1, h2⟩ := h.2.2 i t ht
  exact ⟨b, off, h1, h2 0 (by omega), h2 1 (by omega), h2 2 (by omega), h2 3 (by omega), h2 4 (by omega)⟩
end Go.Proofs.Ytapbjfllcjfpaaa
