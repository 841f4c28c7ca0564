/- make of a slice of bytes. -/
import Derived.Test.YtionibfijnabnabBytes
import Derived.OwnWalk
namespace Go.Proofs.Ytionibfijnabnab
open Go.ChangeShapes Go.WideShapes Go.ChangeAt Go.RowKit

theorem made_zeros (n : Nat) : (madeCells #[Value.int .u8 0] (n * 1)).toList = (List.replicate n (0 : Int)).map (Value.int .u8) := by
  rw [toList_madeCells_one, Nat.mul_one, List.map_replicate]

theorem wpList_mk {w0 w : World} (hb : Below w0.heap.size w0 w) {ops : Array Oper} {rest : List Oper} {o : Oper} {a : Act} {Q : Exit → Act → World → Prop} (hgd : o.guard = none) (lo co : Operand)
    (hop : o.op = Op.makeSlice 23 lo co) (L C : Int) (n : Nat) (hl : a.eval lo = .int .i64 L) (hc : a.eval co = .int .i64 C) (hL : L = (n : Int)) (hC : C = (n : Int)) (hn : n ≤ 1000000)
    (h : ∀ w', Ow w' w0.heap.size (.slice (some ⟨w.heap.size, 0, none⟩) n n) (List.replicate n 0) → Below w0.heap.size w0 w' → wpList Try.prog ops Q rest (a.put o.dst (.slice (some ⟨w.heap.size, 0, none⟩) n n)) w') :
    wpList Try.prog ops Q (o :: rest) a w := by
  obtain ⟨i, hi, he⟩ := Option.map_eq_some_iff.1 info5
  have e1 : i.zero = some (.int .u8 0) := congrArg Prod.fst he
  have e2 : i.size = 1 := congrArg (fun p => p.2.1) he
  have e3 : i.bytes = 1 := congrArg (fun p => p.2.2) he
  refine wpList_make_full w hgd lo co 23 hop w0.heap.size 5 i (.int .u8 0) 1 Try.underlying23 hi e1 e2 .i64 .i64 L C n hl hc hL hC (by rw [e3]; omega) (by unfold maxLen; omega) hb.size ?_
  intro w' h1 h2
  refine h w' ?_ (hb.grown h2 hb.size (fun k hk => by cases hk))
  unfold Ow
  rw [List.length_replicate, ← made_zeros]
  exact h1

end Go.Proofs.Ytionibfijnabnab
