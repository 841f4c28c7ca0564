/-
  No cell of these rows narrows 'for every input' (looked for: loops, veiled, ifaces, maps, wideKeys, modest, calm, conditions, laid).
  DERIVED. THE GIVEN ROWS OF THIS SEAT. 6 by the template 'for every input the law returns true; each argument reads behind the call as it read before'; 0 by the template 'total and deterministic' (their statements: YtddcjkbdgneklaaTotals.lean).
  GIVEN WITH THE SEED: the statements are not yours to turn. If you find one false, say at which input.
  Laid BY PROGRAM, IN A SANDBOX (cutbox-rows.mjs): the forced cells as the released guide's own fill.sh prints them over the translation db41c22c76fa8bc9… (all of the seat's roots in one cut). By AI agents, Wed Nov 11 2026. No macro, syntax, notation, axiom, sorry.
-/
import Derived.Test.YtddcjkbdgneklaaChecked
import GoSem.Claim
import GoSem.ClaimJoined
import GoSem.ClaimMapViews
import Derived.JoinedTies
import Derived.KernelRfl
namespace Go.Proofs.Ytddcjkbdgneklaa
/- THE CELL 'sum', in the pinned program and in every row, IS THE sha256 OF THE DUMP (.gsa) THAT YtddcjkbdgneklaaProg.lean LOADS. Nothing in Lean hashes anything: it is a label: what it is worth is what the hold of that sum in a sandbox is worth. -/
noncomputable def Try.pinned : Pinned := { name := "ytddcjkbdgneklaa", sum := "db41c22c76fa8bc9df71fdabaa0dd8b3e8dfd7a6f24721d260f3d543e67dbbce", checked := Try.checked }
namespace Rows
def none {H : Type} : Left H := { results := [], args := [] }

/-- 'stillagelaw12.GridPlays': WHATEVER THE INPUT: true; the input reads as it did. -/
def gridPlaysSpec : ChangeSpec := { name := "gridPlays", fn := fun _ => fun
  | [d1, d2] => { results := [.lit (.bool true)], args := [d1, d2] }
  | _ => none }
def gridPlaysRow : OpenClaim := { program := "ytddcjkbdgneklaa", sum := "db41c22c76fa8bc9df71fdabaa0dd8b3e8dfd7a6f24721d260f3d543e67dbbce", func := "stillage/stillagelaw12.GridPlays", spec := "gridPlays", apart := false }
def GridPlaysSaid : Prop := gridPlaysRow.holds Try.pinned (OpenSpec.ofChange gridPlaysSpec)

/-- ITS FALSE NEIGHBOUR: 'it returns false'. Refute it at one input. -/
def gridPlaysWrong : ChangeSpec := { name := "gridPlays", fn := fun _ => fun
  | [d1, d2] => { results := [.lit (.bool false)], args := [d1, d2] }
  | _ => none }
def GridPlaysWrongFalsely : Prop := gridPlaysRow.holds Try.pinned (OpenSpec.ofChange gridPlaysWrong)

/-- 'stillagelaw12.GridPlans': WHATEVER THE INPUT: true; the input reads as it did. -/
def gridPlansSpec : ChangeSpec := { name := "gridPlans", fn := fun _ => fun
  | [d1, d2, d3] => { results := [.lit (.bool true)], args := [d1, d2, d3] }
  | _ => none }
def gridPlansRow : OpenClaim := { program := "ytddcjkbdgneklaa", sum := "db41c22c76fa8bc9df71fdabaa0dd8b3e8dfd7a6f24721d260f3d543e67dbbce", func := "stillage/stillagelaw12.GridPlans", spec := "gridPlans", apart := false }
def GridPlansSaid : Prop := gridPlansRow.holds Try.pinned (OpenSpec.ofChange gridPlansSpec)

/-- ITS FALSE NEIGHBOUR: 'it returns false'. Refute it at one input. -/
def gridPlansWrong : ChangeSpec := { name := "gridPlans", fn := fun _ => fun
  | [d1, d2, d3] => { results := [.lit (.bool false)], args := [d1, d2, d3] }
  | _ => none }
def GridPlansWrongFalsely : Prop := gridPlansRow.holds Try.pinned (OpenSpec.ofChange gridPlansWrong)

/-- 'stillagelaw12.GridEven': WHATEVER THE INPUT: true; the input reads as it did. -/
def gridEvenSpec : ChangeSpec := { name := "gridEven", fn := fun _ => fun
  | [d1, d2, d3] => { results := [.lit (.bool true)], args := [d1, d2, d3] }
  | _ => none }
def gridEvenRow : OpenClaim := { program := "ytddcjkbdgneklaa", sum := "db41c22c76fa8bc9df71fdabaa0dd8b3e8dfd7a6f24721d260f3d543e67dbbce", func := "stillage/stillagelaw12.GridEven", spec := "gridEven", apart := false }
def GridEvenSaid : Prop := gridEvenRow.holds Try.pinned (OpenSpec.ofChange gridEvenSpec)

/-- ITS FALSE NEIGHBOUR: 'it returns false'. Refute it at one input. -/
def gridEvenWrong : ChangeSpec := { name := "gridEven", fn := fun _ => fun
  | [d1, d2, d3] => { results := [.lit (.bool false)], args := [d1, d2, d3] }
  | _ => none }
def GridEvenWrongFalsely : Prop := gridEvenRow.holds Try.pinned (OpenSpec.ofChange gridEvenWrong)

/-- 'stillagelaw12.GridFull': WHATEVER THE INPUT: true; the input reads as it did. -/
def gridFullSpec : ChangeSpec := { name := "gridFull", fn := fun _ => fun
  | [d] => { results := [.lit (.bool true)], args := [d] }
  | _ => none }
def gridFullRow : OpenClaim := { program := "ytddcjkbdgneklaa", sum := "db41c22c76fa8bc9df71fdabaa0dd8b3e8dfd7a6f24721d260f3d543e67dbbce", func := "stillage/stillagelaw12.GridFull", spec := "gridFull", apart := false }
def GridFullSaid : Prop := gridFullRow.holds Try.pinned (OpenSpec.ofChange gridFullSpec)

/-- ITS FALSE NEIGHBOUR: 'it returns false'. Refute it at one input. -/
def gridFullWrong : ChangeSpec := { name := "gridFull", fn := fun _ => fun
  | [d] => { results := [.lit (.bool false)], args := [d] }
  | _ => none }
def GridFullWrongFalsely : Prop := gridFullRow.holds Try.pinned (OpenSpec.ofChange gridFullWrong)

/-- 'stillagelaw12.GridOut': WHATEVER THE INPUT: true; the input reads as it did. -/
def gridOutSpec : ChangeSpec := { name := "gridOut", fn := fun _ => fun
  | [d1, d2, d3] => { results := [.lit (.bool true)], args := [d1, d2, d3] }
  | _ => none }
def gridOutRow : OpenClaim := { program := "ytddcjkbdgneklaa", sum := "db41c22c76fa8bc9df71fdabaa0dd8b3e8dfd7a6f24721d260f3d543e67dbbce", func := "stillage/stillagelaw12.GridOut", spec := "gridOut", apart := false }
def GridOutSaid : Prop := gridOutRow.holds Try.pinned (OpenSpec.ofChange gridOutSpec)

/-- ITS FALSE NEIGHBOUR: 'it returns false'. Refute it at one input. -/
def gridOutWrong : ChangeSpec := { name := "gridOut", fn := fun _ => fun
  | [d1, d2, d3] => { results := [.lit (.bool false)], args := [d1, d2, d3] }
  | _ => none }
def GridOutWrongFalsely : Prop := gridOutRow.holds Try.pinned (OpenSpec.ofChange gridOutWrong)

/-- 'stillagelaw12.GridMoves': WHATEVER THE INPUT: true; the input reads as it did. -/
def gridMovesSpec : ChangeSpec := { name := "gridMoves", fn := fun _ => fun
  | [d1, d2, d3] => { results := [.lit (.bool true)], args := [d1, d2, d3] }
  | _ => none }
def gridMovesRow : OpenClaim := { program := "ytddcjkbdgneklaa", sum := "db41c22c76fa8bc9df71fdabaa0dd8b3e8dfd7a6f24721d260f3d543e67dbbce", func := "stillage/stillagelaw12.GridMoves", spec := "gridMoves", apart := false }
def GridMovesSaid : Prop := gridMovesRow.holds Try.pinned (OpenSpec.ofChange gridMovesSpec)

/-- ITS FALSE NEIGHBOUR: 'it returns false'. Refute it at one input. -/
def gridMovesWrong : ChangeSpec := { name := "gridMoves", fn := fun _ => fun
  | [d1, d2, d3] => { results := [.lit (.bool false)], args := [d1, d2, d3] }
  | _ => none }
def GridMovesWrongFalsely : Prop := gridMovesRow.holds Try.pinned (OpenSpec.ofChange gridMovesWrong)

/- THE SECOND FORM. 'bulk': how many values and letters a reading holds, each counted each time it is reached (what is shared counts as often as it is met; a slice's spare places count too). A statement '..UptoSaid' is the law's where the arguments, and the package variables that the reading takes, are together of bulk at most 1048576: NARROWER than '..Said'. Prove '..Said' where nothing that the law and all that it calls make is longer than what came in: it says more and counts as full. Else prove '..UptoSaid'. A law counts once. -/
mutual
def uptoBulk {H : Type} : DataW H → Nat
  | .lit (.string bytes) => bytes.length + 1
  | .lit _ => 1
  | .nil => 1
  | .ptr d => uptoBulk d + 1
  | .slice elems spare => uptoBulkAll elems + uptoBulkAll spare + 1
  | .agg parts => uptoBulkAll parts + 1
  | .iface _ d => uptoBulk d + 1
  | .map entries => uptoBulkEntries entries + 1
  | .held _ => 1
def uptoBulkAll {H : Type} : List (DataW H) → Nat
  | [] => 0
  | d :: r => uptoBulk d + uptoBulkAll r
def uptoBulkEntries {H : Type} : List (Lit × DataW H) → Nat
  | [] => 0
  | x :: r => uptoBulkEntry x + uptoBulkEntries r
def uptoBulkEntry {H : Type} : Lit × DataW H → Nat
  | (.string bytes, d) => bytes.length + uptoBulk d + 1
  | (_, d) => uptoBulk d + 1
 end
def uptoSmall : (H : Type) → List (DataW H) → Bool := fun _ ds => decide (uptoBulkAll ds ≤ 1048576)
def OpenSpec.upto (s : _root_.Go.ChangeSpec) : _root_.Go.OpenSpec := { _root_.Go.OpenSpec.ofChange s with cond := some uptoSmall }

/-- 'stillagelaw12.GridPlays', WHERE WHAT IT READS IS OF BULK AT MOST 1048576: true; the input reads as it did. -/
def gridPlaysUptoRow : OpenClaim := { program := "ytddcjkbdgneklaa", sum := "db41c22c76fa8bc9df71fdabaa0dd8b3e8dfd7a6f24721d260f3d543e67dbbce", func := "stillage/stillagelaw12.GridPlays", spec := "gridPlays", apart := false, narrowed := true }
def GridPlaysUptoSaid : Prop := gridPlaysUptoRow.holds Try.pinned (OpenSpec.upto gridPlaysSpec)

/-- 'stillagelaw12.GridPlans', WHERE WHAT IT READS IS OF BULK AT MOST 1048576: true; the input reads as it did. -/
def gridPlansUptoRow : OpenClaim := { program := "ytddcjkbdgneklaa", sum := "db41c22c76fa8bc9df71fdabaa0dd8b3e8dfd7a6f24721d260f3d543e67dbbce", func := "stillage/stillagelaw12.GridPlans", spec := "gridPlans", apart := false, narrowed := true }
def GridPlansUptoSaid : Prop := gridPlansUptoRow.holds Try.pinned (OpenSpec.upto gridPlansSpec)

/-- 'stillagelaw12.GridEven', WHERE WHAT IT READS IS OF BULK AT MOST 1048576: true; the input reads as it did. -/
def gridEvenUptoRow : OpenClaim := { program := "ytddcjkbdgneklaa", sum := "db41c22c76fa8bc9df71fdabaa0dd8b3e8dfd7a6f24721d260f3d543e67dbbce", func := "stillage/stillagelaw12.GridEven", spec := "gridEven", apart := false, narrowed := true }
def GridEvenUptoSaid : Prop := gridEvenUptoRow.holds Try.pinned (OpenSpec.upto gridEvenSpec)

/-- 'stillagelaw12.GridFull', WHERE WHAT IT READS IS OF BULK AT MOST 1048576: true; the input reads as it did. -/
def gridFullUptoRow : OpenClaim := { program := "ytddcjkbdgneklaa", sum := "db41c22c76fa8bc9df71fdabaa0dd8b3e8dfd7a6f24721d260f3d543e67dbbce", func := "stillage/stillagelaw12.GridFull", spec := "gridFull", apart := false, narrowed := true }
def GridFullUptoSaid : Prop := gridFullUptoRow.holds Try.pinned (OpenSpec.upto gridFullSpec)

/-- 'stillagelaw12.GridOut', WHERE WHAT IT READS IS OF BULK AT MOST 1048576: true; the input reads as it did. -/
def gridOutUptoRow : OpenClaim := { program := "ytddcjkbdgneklaa", sum := "db41c22c76fa8bc9df71fdabaa0dd8b3e8dfd7a6f24721d260f3d543e67dbbce", func := "stillage/stillagelaw12.GridOut", spec := "gridOut", apart := false, narrowed := true }
def GridOutUptoSaid : Prop := gridOutUptoRow.holds Try.pinned (OpenSpec.upto gridOutSpec)

/-- 'stillagelaw12.GridMoves', WHERE WHAT IT READS IS OF BULK AT MOST 1048576: true; the input reads as it did. -/
def gridMovesUptoRow : OpenClaim := { program := "ytddcjkbdgneklaa", sum := "db41c22c76fa8bc9df71fdabaa0dd8b3e8dfd7a6f24721d260f3d543e67dbbce", func := "stillage/stillagelaw12.GridMoves", spec := "gridMoves", apart := false, narrowed := true }
def GridMovesUptoSaid : Prop := gridMovesUptoRow.holds Try.pinned (OpenSpec.upto gridMovesSpec)

end Rows
end Go.Proofs.Ytddcjkbdgneklaa
