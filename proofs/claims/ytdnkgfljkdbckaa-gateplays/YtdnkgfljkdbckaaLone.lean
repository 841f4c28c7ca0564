/- Functions that send and receive in one goroutine: pieces without communication by the walk, a select by one step. -/
import Derived.Test.YtdnkgfljkdbckaaBas
import Derived.WalkKit
import Derived.Below
import Derived.Conc.LoneCalls
import Derived.Conc.LoneSelect
import Derived.Conc.LoneSelectN
namespace Go.Proofs.Ytdnkgfljkdbckaa
open Go.Conc Go.RowKit

/-- where a piece of code may lead to -/
def After (P : Program) (R : Goroutine → World → Prop) (b : Frame) (k : List Item) (cs : List Frame) : Exit → Act → World → Prop
  | .normal, a, w => LoneTo P R (G (b.at a k) cs) w
  | .exit id, a, w => ∃ k', exitTo id k = some k' ∧ LoneTo P R (G (b.at a k') cs) w
  | .ret, a, w => ∀ todo, LoneTo P R (G { b.at a todo with mode := .returning } cs) w
  | _, _, _ => False

theorem loneTo_steps {P : Program} {R : Goroutine → World → Prop} {g g' : Goroutine} {w w' : World} (h : Steps P (solo g w) (solo g' w')) (h' : LoneTo P R g' w') : LoneTo P R g w :=
  let ⟨g₂, w₂, hs, hq⟩ := h'
  ⟨g₂, w₂, h.trans hs, hq⟩

theorem loneTo_arrives {P : Program} {R : Goroutine → World → Prop} {b : Frame} {k : List Item} {cs : List Frame} {g : Goroutine} {w : World}
    (h : ∃ e a' w', After P R b k cs e a' w' ∧ Arrives P (solo g w) b k cs e a' w') : LoneTo P R g w := by
  obtain ⟨e, a', w', hq, harr⟩ := h
  cases e with
  | normal => exact loneTo_steps harr hq
  | exit id => obtain ⟨k', hk, hl⟩ := hq; exact loneTo_steps (harr k' hk) hl
  | ret => obtain ⟨todo, hs⟩ := harr; exact loneTo_steps hs (hq todo)
  | goto l => exact hq.elim
  | panic ch => exact hq.elim
  | outgrown => exact hq.elim

/-- a piece without communication -/
theorem loneTo_wp {P : Program} {R : Goroutine → World → Prop} {b : Frame} {k : List Item} {cs : List Frame} {c : Code} {a : Act} {w : World}
    (h : c.wp P (After P R b k cs) a w) : LoneTo P R (G (b.at a (.code c :: k)) cs) w :=
  loneTo_arrives (h b k cs)

/-- the rest of a region -/
theorem loneTo_ops {P : Program} {R : Goroutine → World → Prop} {b : Frame} {k : List Item} {cs : List Frame} {ops : Array Oper} {l : List Nat} {a : Act} {w : World}
    (h : wpOps P ops (After P R b k cs) l a w) : LoneTo P R (G (b.at a (.inRegion ops l :: k)) cs) w :=
  loneTo_arrives (wp_ops l a w h b k cs)

/-- one communication at a region's head, then its rest -/
theorem loneTo_comm {P : Program} {R : Goroutine → World → Prop} {b : Frame} {k : List Item} {cs : List Frame} {id : Nat} {a : Act} {w w₁ w₂ : World} {o : Oper} {l : List Oper} {cases : Array CommCase} {blocking : Bool} {shape : CommShape} {v : Value}
    (hw : Region.wanted o (yielded (o :: l).toArray a.tmps) = true) (hk : b.kind ≠ .early) (hr : (execOp a.eval o).run P w = .ok (.comm cases blocking shape) w₁)
    (hs : ∀ fr es, stepG P true (G fr cs) w = .comm (G fr cs) cases blocking shape w₁ es → step P (solo (G fr cs) w) = .next (solo (G (fr.finish v) cs) w₂))
    (h : wpList P (o :: l).toArray (After P R b k cs) l (a.put o.dst v) w₂) : LoneTo P R (G (b.at a (.code (.region id (o :: l).toArray false) :: k)) cs) w := by
  refine LoneTo.step (w' := w) (g' := G (b.at a (.inRegion (o :: l).toArray (List.range (o :: l).toArray.size) :: k)) cs) step_region ?_
  have hl : List.range (o :: l).toArray.size = 0 :: List.range' 1 l.length := by
    rw [List.range_eq_range']; simp [List.range'_succ]
  rw [hl]
  refine LoneTo.step (hs _ _ (stepG_comm (o := o) (by simp) hw hk hr)) ?_
  rw [Frame.finish_at]
  refine loneTo_ops ?_
  have hd : ((o :: l).toArray[0]?).bind (·.dst) = o.dst := by simp
  rw [hd, wpOps_eq_wpList l 1 (by intro i; rw [Nat.add_comm]; simp)]
  exact h

/-- a region is begun -/
theorem loneTo_begin {P : Program} {R : Goroutine → World → Prop} {b : Frame} {k : List Item} {cs : List Frame} {id : Nat} {ops : Array Oper} {a : Act} {w : World} (l : List Nat) (hl : List.range ops.size = l)
    (h : LoneTo P R (G (b.at a (.inRegion ops l :: k)) cs) w) : LoneTo P R (G (b.at a (.code (.region id ops false) :: k)) cs) w := by
  subst hl
  exact LoneTo.step step_region h
/-- an operation that yields a value -/
theorem loneTo_val {P : Program} {R : Goroutine → World → Prop} {b : Frame} {k : List Item} {cs : List Frame} {ops : Array Oper} {i : Nat} {rest : List Nat} {o : Oper} {a : Act} {w w' : World} {v : Value} (ho : ops[i]? = some o) (hw : Region.wanted o (yielded ops a.tmps) = true)
    (hr : (execOp a.eval o).run P w = .ok (.value v) w') (h : LoneTo P R (G (b.at (a.put o.dst v) (.inRegion ops rest :: k)) cs) w') : LoneTo P R (G (b.at a (.inRegion ops (i :: rest) :: k)) cs) w := by
  refine LoneTo.step (step_lone_go ?_) h
  have hfin : (b.at a (.inRegion ops (i :: rest) :: k)).finish v = b.at (a.put o.dst v) (.inRegion ops rest :: k) := by rw [Frame.finish_at, ho]; rfl
  rw [stepG_op ho hw, ← hfin]; simp [stepG.apply, hr]
/-- a communication anywhere in a region -/
theorem loneTo_talk {P : Program} {R : Goroutine → World → Prop} {b : Frame} {k : List Item} {cs : List Frame} {ops : Array Oper} {i : Nat} {rest : List Nat} {a : Act} {w w₁ w₂ : World} {o : Oper} {cases : Array CommCase} {blocking : Bool} {shape : CommShape} {v : Value}
    (ho : ops[i]? = some o) (hw : Region.wanted o (yielded ops a.tmps) = true) (hk : b.kind ≠ .early) (hr : (execOp a.eval o).run P w = .ok (.comm cases blocking shape) w₁)
    (hs : ∀ fr es, stepG P true (G fr cs) w = .comm (G fr cs) cases blocking shape w₁ es → step P (solo (G fr cs) w) = .next (solo (G (fr.finish v) cs) w₂))
    (h : LoneTo P R (G (b.at (a.put o.dst v) (.inRegion ops rest :: k)) cs) w₂) : LoneTo P R (G (b.at a (.inRegion ops (i :: rest) :: k)) cs) w := by
  refine LoneTo.step (hs _ _ (stepG_comm ho hw hk hr)) ?_
  rw [Frame.finish_at, ho]
  exact h
/-- the rest of a region, as a list -/
theorem loneTo_rest {P : Program} {R : Goroutine → World → Prop} {b : Frame} {k : List Item} {cs : List Frame} {ops : Array Oper} {l : List Oper} {m : Nat} {ns : List Nat} {a : Act} {w : World} (hl : ns = List.range' m l.length) (hm : ∀ j : Nat, l[j]? = ops[m + j]?)
    (h : wpList P ops (After P R b k cs) l a w) : LoneTo P R (G (b.at a (.inRegion ops ns :: k)) cs) w := by
  subst hl
  refine loneTo_ops ?_
  rw [wpOps_eq_wpList l m hm]
  exact h

/-- a loop -/
theorem loneTo_loop {P : Program} {R : Goroutine → World → Prop} {b : Frame} {k : List Item} {cs : List Frame} {c : Code} {a : Act} {w : World} (I : Act → World → Prop) (μ : Act → World → Nat) (h₀ : I a w)
    (round : ∀ a w, I a w → (∀ a' w', I a' w' → μ a' w' < μ a w → LoneTo P R (G (b.at a' (.inLoop c :: k)) cs) w') → LoneTo P R (G (b.at a (.code c :: .inLoop c :: k)) cs) w) :
    LoneTo P R (G (b.at a (.code (.loop c) :: k)) cs) w := by
  have key : ∀ n a w, μ a w = n → I a w → LoneTo P R (G (b.at a (.code c :: .inLoop c :: k)) cs) w := by
    intro n
    induction n using Nat.strongRecOn with
    | _ n ih =>
      intro a w hn hI
      exact round a w hI (fun a' w' hI' hlt => LoneTo.step step_inLoop (ih _ (hn ▸ hlt) a' w' rfl hI'))
  exact LoneTo.step step_loop (key _ a w rfl h₀)

theorem calls_lone {P : Program} {f : FuncId} {fn : Func} {c : Code} {args : Array Value} {w : World} {R : Ending → World → Prop} (hf : P.funcs[f]? = some fn) (hb : fn.body = some c)
    (h : ∀ cs, LoneTo P (fun g' w' => ∃ e fr, g' = G fr cs ∧ R e w' ∧ fr.fn = f ∧ fr.leaving P w' e) (G (({ (default : Frame) with fn := f, kind := .normal } : Frame).at { tmps := args ++ Array.replicate (fn.ntmps - args.size) undef, defers := [] } [.code c]) cs) w)
    (hno : ∀ w', ¬ R .outgrown w') : Calls P f args w R := by
  refine calls_of_loneTo (fun cs => ?_) hno
  have e : Frame.enter P f args .normal = ({ (default : Frame) with fn := f, kind := .normal } : Frame).at { tmps := args ++ Array.replicate (fn.ntmps - args.size) undef, defers := [] } [.code c] := by
    simp [Frame.enter, Frame.at, hf, hb]
  rw [e]
  exact h cs

/-- a return -/
theorem ret_lone {P : Program} {f : FuncId} {fn : Func} {R : Ending → World → Prop} {b : Frame} {cs : List Frame} {a : Act} {w : World} (hf : P.funcs[f]? = some fn) (hb : b.fn = f) (hk : b.kind = .normal)
    (h : bodyPost P fn R .ret a w) (todo : List Item) : LoneTo P (fun g' w' => ∃ e fr, g' = G fr cs ∧ R e w' ∧ fr.fn = f ∧ fr.leaving P w' e) (G { b.at a todo with mode := .returning } cs) w := by
  obtain ⟨hd, v, hr, hR⟩ := h
  subst hb
  exact LoneTo.done ⟨.returned v, _, rfl, hR, rfl, rfl, hd, hk, fn, hf, hr⟩
end Go.Proofs.Ytdnkgfljkdbckaa
