/- Calls that came in: a kind, a number, data of any length that a machine holds. -/
import Derived.Test.YteihajppgooadaaArgs
import Derived.SizedLaws
namespace Go.Proofs.Yteihajppgooadaa
open Go.ChangeShapes Go.WideShapes Go.ChangeAt Go.RowKit
set_option linter.unusedVariables false

theorem run_big {w : World} {B : Nat} {v : Value} {xs : List Int} (hown : bytesE.Own w B v xs) (hB : B ≤ w.heap.size) {u : Value} {ys : List Int} (hu : bytesE.Rd w u ys) (hn : xs.length + ys.length ≤ 140737488355328) (ty : TypeId) :
    ∃ v' w', (Builtin.append_ #[36, 36] ty #[v, u]).run Try.prog w = .ok v' w' ∧ bytesE.Own w' B v' (xs ++ ys) ∧ w.grownBy w' v.ownBlock := by
  obtain ⟨i, hi, he⟩ := Option.map_eq_some_iff.1 bytesE.info
  have e1 : i.zero = some bytesE.z := congrArg Prod.fst he
  have e2 : i.size = bytesE.k := congrArg (fun p => p.2.1) he
  have e3 : i.bytes = bytesE.by' := congrArg (fun p => p.2.2) he
  rcases hu with ⟨rfl, rfl⟩ | ⟨x, cap, rfl, hc⟩
  · refine ⟨v, w, run_append_owned_none (P := Try.prog) (w := w) B bytesE.t ty bytesE.e i bytesE.k bytesE.ht hi v _ _ hown, ?_, ⟨rfl, rfl, rfl, Nat.le_refl _, fun _ _ _ => rfl⟩⟩
    rw [List.append_nil]; exact hown
  · obtain ⟨v', w', hr, h2, h3, _, h5⟩ := run_append_own_at (P := Try.prog) w B bytesE.t ty bytesE.e i bytesE.z bytesE.k bytesE.by' bytesE.ht hi e1 e2 e3 bytesE.zc bytesE.kpos v xs.length (bytesE.fl xs) hown
      x ys.length cap (bytesE.fl ys) (bytesE.fl_len ys) (fun j y hy => by
        have hj : j < ys.length * bytesE.k := by
          rcases Nat.lt_or_ge j (ys.length * bytesE.k) with h | h
          · exact h
          · rw [List.getElem?_eq_none (by rw [bytesE.fl_len]; exact h)] at hy; cases hy
        rw [hc j hj]; exact hy)
      (fun y hy => by
        obtain ⟨t, _, ht⟩ := List.mem_flatMap.1 hy
        exact bytesE.one t y ht) (by unfold maxLen; omega) (by rw [show bytesE.by' = 1 from rfl]; omega) hB
    refine ⟨v', w', hr, ?_, h3⟩
    unfold El.Own
    rw [List.length_append, bytesE.fl_app]
    exact h2

theorem step_big {w0 w : World} (hb : Below w0.heap.size w0 w) {ops : Array Oper} {o : Oper} {a : Act} {K : Act → World → Prop} {Q : Exit → Act → World → Prop} {F : Prop} (hgd : o.guard = none) (s x : Operand)
    (ho : o.op = .call { callee := .builtin .append, args := #[s, x], argTypes := #[36, 36] }) (v u : Value) (hs : a.eval s = v) (hx : a.eval x = u)
    (xs ys : List Int) (hown : bytesE.Own w w0.heap.size v xs) (hu : bytesE.Rd w u ys) (hn : xs.length + ys.length ≤ 140737488355328)
    (h : ∀ v' w', bytesE.Own w' w0.heap.size v' (xs ++ ys) → Below w0.heap.size w0 w' → K (a.put o.dst v') w') :
    if Region.wanted o (yielded ops a.tmps) = true then Oper.wp Try.prog o a w K Q else F := by
  have hw : Region.wanted o (yielded ops a.tmps) = true := by simp [Region.wanted, hgd]
  rw [if_pos hw]
  obtain ⟨v', w', hr, h2, h3⟩ := run_big hown hb.size hu hn o.type
  unfold Oper.wp execOp
  simp only [ho, resolve, invoke, builtin, Sem.run_bind, Sem.run_pure, Result.andThen_ok, List.map_toArray, List.map_cons, List.map_nil, hs, hx, hr]
  exact h v' w' h2 (hb.grown h3 hb.size (fun g hg => hown.ge g hg))

section
variable {H : Type} {enc : TypeId × Value → H} {w : World} {base : Nat} {spare : Nat → Bool} {held : Bool} {fuel : Nat} {cs : List Value} {x : DataW H × List MemPlace}

def IsOps (w : World) (a : Option Addr) (len : Nat) (os : List (Int × Int × List Int)) : Prop :=
  os.length = len ∧ ∀ (i : Nat) (o : Int × Int × List Int), os[i]? = some o → (0 ≤ o.2.1 ∧ o.2.1 ≤ 65535) ∧ ∃ b off v, a = some ⟨b, off, none⟩ ∧ b < w.heap.size ∧ w.cell? ⟨b, off + i * 3, none⟩ = some (.int .i64 o.1) ∧ w.cell? ⟨b, off + i * 3 + 1, none⟩ = some (.int .u16 o.2.1) ∧ w.cell? ⟨b, off + i * 3 + 2, none⟩ = some v ∧ Isb w v o.2.2

set_option maxRecDepth 100000 in
theorem op_of_trod (h : DataW.trod enc Try.prog w base spare held fuel 38 cs = some x) : ∃ g s v l, cs = [.int .i64 g, .int .u16 s, v] ∧ (0 ≤ s ∧ s ≤ 65535) ∧ Isb w v l := by
  obtain ⟨xs, n, _, _, hl, hn, hf⟩ := DataW.trod_struct Try.underlying38 h
  rw [show Try.prog.cellsOf 38 = 3 by kernel_rfl] at hl
  have e3 : Try.prog.cellsOf 3 = 1 := by kernel_rfl
  have e22 : Try.prog.cellsOf 22 = 1 := by kernel_rfl
  have e36 : Try.prog.cellsOf 36 = 1 := by kernel_rfl
  have f0 : DataW.trod enc Try.prog w base spare held n 3 ((cs.drop 0).take (Try.prog.cellsOf 3)) = xs[0]? := hf 0 _ rfl
  have f1 : DataW.trod enc Try.prog w base spare held n 22 ((cs.drop 1).take (Try.prog.cellsOf 22)) = xs[1]? := hf 1 _ rfl
  have f2 : DataW.trod enc Try.prog w base spare held n 36 ((cs.drop 2).take (Try.prog.cellsOf 36)) = xs[2]? := hf 2 _ rfl
  rw [e3] at f0
  rw [e22] at f1
  rw [e36] at f2
  match xs, hn, cs, hl with
  | [y0, y1, y2], _, [c0, c1, c2], _ =>
    obtain ⟨g, e0, _, _⟩ := DataW.trod_int Try.underlying3 f0
    obtain ⟨s, e1, _, g1⟩ := DataW.trod_int Try.underlying22 f1
    obtain ⟨v, l, e2, hb⟩ := bytes_of_trod f2
    simp at e0 e1 e2
    refine ⟨g, s, v, l, ?_, bounds_u16 g1, hb⟩
    simp [e0, e1, e2]



theorem weights_all {P : Program} {e : TypeId} : ∀ {ds : List (DataW H)} {i : Nat} {d : DataW H}, ds[i]? = some d → ∀ n ∈ d.weights P e, n ∈ DataW.weightsAll P e ds
  | d0 :: ds, 0, d, hd, n, hn => by
    simp only [List.getElem?_cons_zero, Option.some.injEq] at hd
    subst hd
    simp only [DataW.weightsAll, List.mem_append]
    exact Or.inl hn
  | d0 :: ds, i + 1, d, hd, n, hn => by
    simp only [List.getElem?_cons_succ] at hd
    simp only [DataW.weightsAll, List.mem_append]
    exact Or.inr (weights_all hd n hn)
  | [], _, _, hd, _, _ => by simp at hd

set_option maxRecDepth 100000 in
theorem bytes_w (h : DataW.trod enc Try.prog w base spare held fuel 36 cs = some x) {a : Option Addr} {n cap : Nat} (hcs : cs = [.slice a n cap]) (hx : ∀ m ∈ x.1.weights Try.prog 36, m ≤ reachBytes) : n ≤ reachBytes := by
  rcases DataW.trod_slice Try.underlying36 h with ⟨h1, _⟩ | ⟨x0, len, cap', elems, rest, m, _, h1, rfl, _, hl, hc, he, _⟩
  · rw [hcs] at h1
    simp at h1
    omega
  · rw [hcs] at h1
    simp at h1
    have := hx (((elems.map (·.1)).length + (rest.map (·.1)).length) * Try.prog.bytesOf 5) (by simp [DataW.weights, Try.underlying36])
    rw [show Try.prog.bytesOf 5 = 1 by kernel_rfl] at this
    simp at this
    omega

set_option maxRecDepth 100000 in
theorem op_w (h : DataW.trod enc Try.prog w base spare held fuel 38 cs = some x) {g : Int} {s : Int} {a : Option Addr} {n cap : Nat} (hcs : cs = [.int .i64 g, .int .u16 s, .slice a n cap]) (hx : ∀ m ∈ x.1.weights Try.prog 38, m ≤ reachBytes) : n ≤ reachBytes := by
  obtain ⟨xs, m, _, rfl, hl, hn, hf⟩ := DataW.trod_struct Try.underlying38 h
  have e36 : Try.prog.cellsOf 36 = 1 := by kernel_rfl
  have f2 : DataW.trod enc Try.prog w base spare held m 36 ((cs.drop 2).take (Try.prog.cellsOf 36)) = xs[2]? := hf 2 _ rfl
  rw [e36, hcs] at f2
  have hn3 : xs.length = 3 := hn
  rw [List.getElem?_eq_getElem (by omega)] at f2
  refine bytes_w f2 (a := a) (n := n) (cap := cap) rfl (fun k hk => hx k ?_)
  have : (xs.map (·.1))[2]? = some (xs[2].1) := by rw [List.getElem?_map, List.getElem?_eq_getElem (by omega)]; rfl
  simp only [DataW.weights, Try.underlying38]
  exact DataW.weights_mem_each (j := 2) (t := 36) rfl this k hk

def IsOps2 (w : World) (a : Option Addr) (len : Nat) (os : List (Int × Int × List Int)) : Prop := IsOps w a len os ∧ ∀ (i : Nat) (o : Int × Int × List Int), os[i]? = some o → o.2.2.length ≤ 140737488355328

set_option maxRecDepth 100000 in
theorem ops_of_trod2 {a : Option Addr} {len cap : Nat} (h : DataW.trod enc Try.prog w base spare held fuel 25 cs = some x) (hcs : cs = [.slice a len cap]) (hx : ∀ m ∈ x.1.weights Try.prog 25, m ≤ reachBytes) : (∃ os, IsOps2 w a len os) ∧ len ≤ maxLen := by
  have e38 : Try.prog.cellsOf 38 = 3 := by kernel_rfl
  have hrb : reachBytes ≤ 140737488355328 := by decide
  rcases DataW.trod_slice Try.underlying25 h with ⟨h1, _⟩ | ⟨x0, len', cap', elems, rest, n, _, h1, rfl, _, hl, hcm, he, hr, _⟩
  · rw [hcs] at h1
    simp at h1
    obtain ⟨rfl, rfl, rfl⟩ := h1
    exact ⟨⟨[], ⟨rfl, by simp⟩, by simp⟩, Nat.zero_le _⟩
  · rw [hcs] at h1
    simp at h1
    obtain ⟨rfl, rfl, rfl⟩ := h1
    rw [e38] at hr
    have one : ∀ i, i < len → ∃ g s v l, (0 ≤ s ∧ s ≤ 65535) ∧ Isb w v l ∧ l.length ≤ 140737488355328 ∧ w.cell? ((x0.add (i * 3)).add 0) = some (.int .i64 g) ∧ w.cell? ((x0.add (i * 3)).add 1) = some (.int .u16 s) ∧ w.cell? ((x0.add (i * 3)).add 2) = some v := by
      intro i hi
      have hi' : i < elems.length := by omega
      have h2 := hr i hi
      rw [List.getElem?_eq_getElem hi'] at h2
      obtain ⟨cs', h3, h4⟩ := Option.bind_eq_some_iff.1 h2
      obtain ⟨g, s, v, l, hv, hs, hb⟩ := op_of_trod h4
      obtain ⟨_, _, h5⟩ := World.cells?_some h3
      obtain ⟨av, cv, rfl, hbr⟩ := hb
      have hw : l.length ≤ reachBytes := op_w h4 hv (fun m hm => hx m (by
        simp only [DataW.weights, Try.underlying25, List.mem_cons, List.mem_append]
        refine .inr (.inl (weights_all (i := i) ?_ m hm))
        rw [List.getElem?_map, List.getElem?_eq_getElem hi']; rfl))
      subst hv
      exact ⟨g, s, _, l, hs, ⟨av, cv, rfl, hbr⟩, by omega, h5 0 (by omega), h5 1 (by omega), h5 2 (by omega)⟩
    refine ⟨?_, by omega⟩
    obtain ⟨b, off, spot⟩ := x0
    have hall : ∀ i, i < len → ∃ o : Int × Int × List Int, (0 ≤ o.2.1 ∧ o.2.1 ≤ 65535) ∧ (∃ b' off' v, some (⟨b, off, spot⟩ : Addr) = some ⟨b', off', none⟩ ∧ b' < w.heap.size ∧ w.cell? ⟨b', off' + i * 3, none⟩ = some (.int .i64 o.1) ∧ w.cell? ⟨b', off' + i * 3 + 1, none⟩ = some (.int .u16 o.2.1) ∧ w.cell? ⟨b', off' + i * 3 + 2, none⟩ = some v ∧ Isb w v o.2.2) ∧ o.2.2.length ≤ 140737488355328 := by
      intro i hi
      obtain ⟨_, _, _, _, _, _, _, z0, _, _⟩ := one 0 (by omega)
      have hspot : spot = none := by simpa [Addr.add] using World.cell?_spot z0
      subst hspot
      obtain ⟨g, s, v, l, hs, hb, hlb, k0, k1, k2⟩ := one i hi
      rw [add_plain, add_plain] at k0 k1 k2
      exact ⟨(g, s, l), hs, ⟨b, off, v, rfl, cell_lt k1, k0, k1, k2, hb⟩, hlb⟩
    obtain ⟨os, h1, h2⟩ := list_of _ len hall
    exact ⟨os, ⟨h1, fun i o ho => ⟨(h2 i o ho).1, (h2 i o ho).2.1⟩⟩, fun i o ho => (h2 i o ho).2.2⟩
end
end Go.Proofs.Yteihajppgooadaa
