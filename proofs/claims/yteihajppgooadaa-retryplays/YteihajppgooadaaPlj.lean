/- The law's world: both senders, the box of the document's. -/
import Derived.Test.YteihajppgooadaaPlb
import Derived.Deep.CutBlock
namespace Go.Proofs.Yteihajppgooadaa
open Go.RowKit
set_option linter.unusedVariables false

set_option maxRecDepth 100000 in
set_option maxHeartbeats 2000000 in
theorem rnew_no2 (win pause times first : Int) (w : World) (h : badSet win pause times) : Calls Try.prog 11 #[.int .i64 win, .int .i64 pause, .int .i64 times, .int .u16 first] w fun e w' => e = .returned (.tuple #[.agg #[.int .i64 0, .int .i64 0, .int .i64 0, .int .u16 0, .int .i64 0, .slice none 0 0, .bool false], .int .i64 1]) ∧ Below w.heap.size w w' := by
  have hB : Hid (∀ o, Below w.heap.size w (w.alloc o)) := hide (fun o => (Below.refl _ _).alloc (Nat.le_refl _) o)
  have fin : ∀ o, Hid (Below w.heap.size w (w.alloc o)) := fun o => hide (hB.out o)
  unfold badSet at h
  by_cases h1 : win < 1
  · clear h
    go_enter Try.func11, Try.ntmps11
    go_wp2_with fail
    exact bodyPost_ret (v := .tuple #[.agg #[.int .i64 0, .int .i64 0, .int .i64 0, .int .u16 0, .int .i64 0, .slice none 0 0, .bool false], .int .i64 1]) (by simp [results, Try.results11, go_sem]) rfl ⟨rfl, hB.out _⟩
  · by_cases h2 : 64 < win
    · clear h
      go_enter Try.func11, Try.ntmps11
      go_wp2_with fail
      exact bodyPost_ret (v := .tuple #[.agg #[.int .i64 0, .int .i64 0, .int .i64 0, .int .u16 0, .int .i64 0, .slice none 0 0, .bool false], .int .i64 1]) (by simp [results, Try.results11, go_sem]) rfl ⟨rfl, hB.out _⟩
    · by_cases h3 : pause < 1
      · clear h
        go_enter Try.func11, Try.ntmps11
        go_wp2_with fail
        exact bodyPost_ret (v := .tuple #[.agg #[.int .i64 0, .int .i64 0, .int .i64 0, .int .u16 0, .int .i64 0, .slice none 0 0, .bool false], .int .i64 1]) (by simp [results, Try.results11, go_sem]) rfl ⟨rfl, hB.out _⟩
      · by_cases h4 : 1000 < pause
        · clear h
          go_enter Try.func11, Try.ntmps11
          go_wp2_with fail
          exact bodyPost_ret (v := .tuple #[.agg #[.int .i64 0, .int .i64 0, .int .i64 0, .int .u16 0, .int .i64 0, .slice none 0 0, .bool false], .int .i64 1]) (by simp [results, Try.results11, go_sem]) rfl ⟨rfl, hB.out _⟩
        · by_cases h5 : times < 1
          · clear h
            go_enter Try.func11, Try.ntmps11
            go_wp2_with fail
            exact bodyPost_ret (v := .tuple #[.agg #[.int .i64 0, .int .i64 0, .int .i64 0, .int .u16 0, .int .i64 0, .slice none 0 0, .bool false], .int .i64 1]) (by simp [results, Try.results11, go_sem]) rfl ⟨rfl, hB.out _⟩
          · have h6 : 20 < times := by omega
            clear h
            go_enter Try.func11, Try.ntmps11
            go_wp2_with fail
            exact bodyPost_ret (v := .tuple #[.agg #[.int .i64 0, .int .i64 0, .int .i64 0, .int .u16 0, .int .i64 0, .slice none 0 0, .bool false], .int .i64 1]) (by simp [results, Try.results11, go_sem]) rfl ⟨rfl, hB.out _⟩


theorem wp_big {w0 w : World} (hb : Below w0.heap.size w0 w) {ops : Array Oper} {rest : List Oper} {o : Oper} {a : Act} {Q : Exit → Act → World → Prop} (hwant : Region.wanted o (yielded ops a.tmps) = true) (s x : Operand)
    (ho : o.op = .call { callee := .builtin .append, args := #[s, x], argTypes := #[36, 36] }) (v u : Value) (hs : a.eval s = v) (hx : a.eval x = u)
    (xs ys : List Int) (hown : bytesE.Own w w0.heap.size v xs) (hu : bytesE.Rd w u ys) (hn : xs.length + ys.length ≤ 140737488355328)
    (h : ∀ v' w', bytesE.Own w' w0.heap.size v' (xs ++ ys) → Below w0.heap.size w0 w' → wpList Try.prog ops Q rest (a.put o.dst v') w') : wpList Try.prog ops Q (o :: rest) a w := by
  obtain ⟨v', w', hr, h2, h3⟩ := run_big hown hb.size hu hn o.type
  refine wpList_step fun K hK => ?_
  rw [if_pos hwant]
  unfold Oper.wp execOp
  simp only [ho, resolve, invoke, builtin, Sem.run_bind, Sem.run_pure, Result.andThen_ok, List.map_toArray, List.map_cons, List.map_nil, hs, hx, hr]
  exact hK _ _ (h v' w' h2 (hb.grown h3 hb.size (fun g hg => hown.ge g hg)))

/-- both senders, the box, and the call's own box -/
structure Jn (B g gm q : Nat) (wB W : World) (S : Sd) (D Db : Dc) (O : Array Value) : Prop where
  snd : Snd W g B S
  ag : Ag B W S D
  box : W.heap[gm]? = some (.cells Db.cells 33)
  ob : W.heap[q]? = some (.cells O 38)
  gmb : B ≤ gm
  bel : Below B wB W
  eqB : wB.heap.size = B
theorem Jn.bw {B g gm q : Nat} {wB W : World} {S : Sd} {D Db : Dc} {O : Array Value} (h : Jn B g gm q wB W S D Db O) : B ≤ W.heap.size := by rw [← h.eqB]; exact h.bel.size
theorem Jn.keep {B g gm q : Nat} {wB W W' : World} {S : Sd} {D Db : Dc} {O : Array Value} (h : Jn B g gm q wB W S D Db O) (hb : Below W.heap.size W W') : Jn B g gm q wB W' S D Db O :=
  ⟨h.snd.keep hb, h.ag.keep hb, by rw [hb.block _ (heap_lt h.box)]; exact h.box, by rw [hb.block _ (heap_lt h.ob)]; exact h.ob, h.gmb, h.bel.trans (hb.mono h.bw), h.eqB⟩
/-- the program's sender went on -/
theorem Jn.chg {B g gm q : Nat} {wB W W' : World} {S S' : Sd} {D Db : Dc} {O : Array Value} (h : Jn B g gm q wB W S D Db O) (hs : Snd W' g B S') (hc : Chg g S.v W W') : Ag B W' S D ∧ W'.heap[gm]? = some (.cells Db.cells 33) ∧ W'.heap[q]? = some (.cells O 38) ∧ Below B wB W' := by
  have st : ∀ (k : Nat) (cur : Array Value) (t : TypeId), t ≠ 79 → t ≠ 83 → W.heap[k]? = some (Obj.cells cur t) → W'.heap[k]? = W.heap[k]? := fun k cur t h1 h2 hk => hc.block k (heap_lt hk)
    (fun e => by subst e; rw [h.snd.box] at hk; simp only [Option.some.injEq, Obj.cells.injEq] at hk; exact h1 hk.2.1.symm)
    (fun e => by
      obtain ⟨cur', hc', _⟩ := own_cells h.snd.lies.row k e
      rw [hc'] at hk; simp only [Option.some.injEq, Obj.cells.injEq] at hk; exact h2 hk.2.1.symm)
  exact ⟨h.ag.stay fun k cur hk => st k cur 85 (by decide) (by decide) hk, by rw [st gm _ 33 (by decide) (by decide) h.box]; exact h.box, by rw [st q _ 38 (by decide) (by decide) h.ob]; exact h.ob, h.snd.below h.bel hc⟩
/-- the document's went on too -/
theorem Jn.doc {B g gm q : Nat} {wB W W' : World} {S S' : Sd} {D D' Db : Dc} {O : Array Value} (hs : Snd W g B S') (hbx : W.heap[gm]? = some (.cells Db.cells 33)) (hob : W.heap[q]? = some (.cells O 38)) (hg : B ≤ gm) (hb0 : Below B wB W) (he : wB.heap.size = B) (ha : Ag B W' S' D') (hb : Below W.heap.size W W') : Jn B g gm q wB W' S' D' Db O :=
  ⟨hs.keep hb, ha, by rw [hb.block _ (heap_lt hbx)]; exact hbx, by rw [hb.block _ (heap_lt hob)]; exact hob, hg, hb0.trans (hb.mono (by rw [← he]; exact hb0.size)), he⟩
/-- its box is written -/
theorem Jn.one {B g gm q : Nat} {wB W : World} {S : Sd} {D : Dc} {O C : Array Value} (hs : Snd W g B S) (ha : Ag B W S D) (hbx : W.heap[gm]? = some (.cells C 33)) (hob : W.heap[q]? = some (.cells O 38)) (hg : B ≤ gm) (hb : Below B wB W) (i : Nat) (u : Value) :
    Snd (W.setCell ⟨gm, i, none⟩ u) g B S ∧ Ag B (W.setCell ⟨gm, i, none⟩ u) S D ∧ (W.setCell ⟨gm, i, none⟩ u).heap[gm]? = some (.cells (C.setIfInBounds i u) 33) ∧ (W.setCell ⟨gm, i, none⟩ u).heap[q]? = some (.cells O 38) ∧ Below B wB (W.setCell ⟨gm, i, none⟩ u) := by
  have ne : ∀ (k : Nat) (cur : Array Value) (t : TypeId), t ≠ 33 → W.heap[k]? = some (Obj.cells cur t) → (W.setCell ⟨gm, i, none⟩ u).heap[k]? = W.heap[k]? := fun k cur t ht hk => Below.heap_setCell _ _ _ _ fun e => by
    have e' : k = gm := e
    rw [e', hbx] at hk; simp only [Option.some.injEq, Obj.cells.injEq] at hk; exact ht hk.2.1.symm
  refine ⟨hs.stay fun k hk h => ?_, ha.stay fun k cur hk => ne k cur 85 (by decide) hk, heap_put hbx u, by rw [ne q _ 38 (by decide) hob]; exact hob, hb.setCell (p := ⟨gm, i, none⟩) hg u⟩
  rcases h with rfl | h | ⟨p, hp, h⟩
  · exact ne _ _ 79 (by decide) hs.box
  · obtain ⟨cur, hc, _⟩ := own_cells hs.lies.row k h
    exact ne k cur 83 (by decide) hc
  · obtain ⟨cur, hc, _⟩ := own_cells (hs.lies.dat p hp) k h
    exact ne k cur 5 (by decide) hc
theorem Jn.store {B g gm q : Nat} {wB W : World} {S : Sd} {D Db : Dc} {O : Array Value} (h : Jn B g gm q wB W S D Db O) : Jn B g gm q wB (((((((W.setCell ⟨gm, 0, none⟩ (.int .i64 D.win)).setCell ⟨gm, 1, none⟩ (.int .i64 D.pause)).setCell ⟨gm, 2, none⟩ (.int .i64 D.times)).setCell ⟨gm, 3, none⟩ (.int .u16 D.first)).setCell ⟨gm, 4, none⟩ (.int .i64 D.count)).setCell ⟨gm, 5, none⟩ (.slice D.a D.n D.c)).setCell ⟨gm, 6, none⟩ (.bool D.dead)) S D D O ∧ ∀ (k : Nat) (cur : Array Value) (t : TypeId), t ≠ 33 → W.heap[k]? = some (Obj.cells cur t) → (((((((W.setCell ⟨gm, 0, none⟩ (.int .i64 D.win)).setCell ⟨gm, 1, none⟩ (.int .i64 D.pause)).setCell ⟨gm, 2, none⟩ (.int .i64 D.times)).setCell ⟨gm, 3, none⟩ (.int .u16 D.first)).setCell ⟨gm, 4, none⟩ (.int .i64 D.count)).setCell ⟨gm, 5, none⟩ (.slice D.a D.n D.c)).setCell ⟨gm, 6, none⟩ (.bool D.dead)).heap[k]? = W.heap[k]? := by
  obtain ⟨s0, a0, b0, o0, l0⟩ := Jn.one h.snd h.ag h.box h.ob h.gmb h.bel 0 (.int .i64 D.win)
  have b0 : _ = some (Obj.cells #[.int .i64 D.win, .int .i64 Db.pause, .int .i64 Db.times, .int .u16 Db.first, .int .i64 Db.count, .slice Db.a Db.n Db.c, .bool Db.dead] 33) := b0
  obtain ⟨s1, a1, b1, o1, l1⟩ := Jn.one s0 a0 b0 o0 h.gmb l0 1 (.int .i64 D.pause)
  have b1 : _ = some (Obj.cells #[.int .i64 D.win, .int .i64 D.pause, .int .i64 Db.times, .int .u16 Db.first, .int .i64 Db.count, .slice Db.a Db.n Db.c, .bool Db.dead] 33) := b1
  obtain ⟨s2, a2, b2, o2, l2⟩ := Jn.one s1 a1 b1 o1 h.gmb l1 2 (.int .i64 D.times)
  have b2 : _ = some (Obj.cells #[.int .i64 D.win, .int .i64 D.pause, .int .i64 D.times, .int .u16 Db.first, .int .i64 Db.count, .slice Db.a Db.n Db.c, .bool Db.dead] 33) := b2
  obtain ⟨s3, a3, b3, o3, l3⟩ := Jn.one s2 a2 b2 o2 h.gmb l2 3 (.int .u16 D.first)
  have b3 : _ = some (Obj.cells #[.int .i64 D.win, .int .i64 D.pause, .int .i64 D.times, .int .u16 D.first, .int .i64 Db.count, .slice Db.a Db.n Db.c, .bool Db.dead] 33) := b3
  obtain ⟨s4, a4, b4, o4, l4⟩ := Jn.one s3 a3 b3 o3 h.gmb l3 4 (.int .i64 D.count)
  have b4 : _ = some (Obj.cells #[.int .i64 D.win, .int .i64 D.pause, .int .i64 D.times, .int .u16 D.first, .int .i64 D.count, .slice Db.a Db.n Db.c, .bool Db.dead] 33) := b4
  obtain ⟨s5, a5, b5, o5, l5⟩ := Jn.one s4 a4 b4 o4 h.gmb l4 5 (.slice D.a D.n D.c)
  have b5 : _ = some (Obj.cells #[.int .i64 D.win, .int .i64 D.pause, .int .i64 D.times, .int .u16 D.first, .int .i64 D.count, .slice D.a D.n D.c, .bool Db.dead] 33) := b5
  obtain ⟨s6, a6, b6, o6, l6⟩ := Jn.one s5 a5 b5 o5 h.gmb l5 6 (.bool D.dead)
  have b6 : _ = some (Obj.cells #[.int .i64 D.win, .int .i64 D.pause, .int .i64 D.times, .int .u16 D.first, .int .i64 D.count, .slice D.a D.n D.c, .bool D.dead] 33) := b6
  refine ⟨⟨s6, a6, b6, o6, h.gmb, l6, h.eqB⟩, fun k cur t ht hk => ?_⟩
  have hne : k ≠ gm := fun e => by
    rw [e, h.box] at hk; simp only [Option.some.injEq, Obj.cells.injEq] at hk; exact ht hk.2.1.symm
  rw [Below.heap_setCell _ _ _ _ hne, Below.heap_setCell _ _ _ _ hne, Below.heap_setCell _ _ _ _ hne, Below.heap_setCell _ _ _ _ hne, Below.heap_setCell _ _ _ _ hne, Below.heap_setCell _ _ _ _ hne, Below.heap_setCell _ _ _ _ hne]
end Go.Proofs.Yteihajppgooadaa
