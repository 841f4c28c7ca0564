/- What the lines of a text make: by the last place of a name (the program), by the first (the document). -/
import Derived.Test.YtpjolnaomdmnnaaDoorCut
import Derived.Test.YtpjolnaomdmnnaaDoorFit
namespace Go.Proofs.YtpjolnaomdmnnaaDoor
open Go.RowKit
set_option linter.unusedVariables false

def kindS (s : ByteArray) : Option Int :=
  if s = str [116, 114, 97, 99, 107] then some 1 else if s = str [115, 108, 111, 116] then some 2 else if s = str [115, 116, 97, 116, 105, 111, 110] then some 3 else if s = str [103, 97, 116, 101] then some 4 else none
def zoneS (s : ByteArray) : Option Int := if s.size = 1 ∧ 48 ≤ byteAt s 0 ∧ byteAt s 0 ≤ 55 then some ((byteAt s 0 : Int) - 48) else none
def nodeS (ws : List ByteArray) : Option Nd := match ws with
  | [a, b, c] => if nameB a = true then match kindS b, zoneS c with
    | some k, some z => some ⟨a, k, z⟩
    | _, _ => none
    else none
  | _ => none
def edgeS (f : ByteArray → Option Int) (ws : List ByteArray) : Option Ed := match ws with
  | [a, b] => match f a, f b with
    | some x, some y => some (x, y)
    | _, _ => none
  | _ => none
def nodeWd : ByteArray := str [110, 111, 100, 101]
def edgeWd : ByteArray := str [101, 100, 103, 101]
abbrev St := List Nd × List Ed
def skipS (l : ByteArray) : Bool := decide (l.size = 0) || decide (byteAt l 0 = 35)
def lineS (lk : List Nd → ByteArray → Option Int) (st : St) (l : ByteArray) : Option St :=
  if skipS l = true then some st else match pieces 32 l with
  | w :: ws => if w = nodeWd then (nodeS ws).map (fun n => (st.1 ++ [n], st.2)) else if w = edgeWd then (edgeS (lk st.1) ws).map (fun e => (st.1, st.2 ++ [e])) else none
  | [] => none

def lastFrom : Nat → Option Int → List Nd → ByteArray → Option Int
  | _, acc, [], _ => acc
  | i, acc, n :: l, s => lastFrom (i + 1) (if n.name = s then some (i : Int) else acc) l s
def lastAt (ns : List Nd) (s : ByteArray) : Option Int := lastFrom 0 none ns s
theorem lastFrom_app (n : Nd) (s : ByteArray) : ∀ (l : List Nd) (i : Nat) (acc : Option Int), lastFrom i acc (l ++ [n]) s = if n.name = s then some ((i + l.length : Nat) : Int) else lastFrom i acc l s
  | [], i, acc => by simp [lastFrom]
  | m :: l, i, acc => by
    show lastFrom (i + 1) _ (l ++ [n]) s = _
    rw [lastFrom_app n s l (i + 1) _]
    simp only [lastFrom, List.length_cons]
    rw [show i + 1 + l.length = i + (l.length + 1) by omega]
theorem lastAt_app (ns : List Nd) (n : Nd) : lastAt (ns ++ [n]) = fun y => if y = n.name then some (ns.length : Int) else lastAt ns y := by
  funext y
  unfold lastAt
  rw [lastFrom_app]
  by_cases e : n.name = y
  · rw [if_pos e, if_pos e.symm]; simp
  · rw [if_neg e, if_neg (fun h => e h.symm)]

/-- all the lines, from the number i on: what they make, or the number of the first one that is none -/
def linesS (lk : List Nd → ByteArray → Option Int) : Nat → St → List ByteArray → St ⊕ Nat
  | _, st, [] => .inl st
  | i, st, l :: ls => match lineS lk st l with
    | some st' => linesS lk (i + 1) st' ls
    | none => .inr (i + 1)
/-- the answer: nodes and edges, a line, the error -/
def parseS (lk : List Nd → ByteArray → Option Int) (text : ByteArray) : St × Nat × Int :=
  if 4096 < text.size then (([], []), 0, 3) else match linesS lk 0 ([], []) (pieces 10 text) with
  | .inr n => (([], []), n, 60)
  | .inl st => if good st.1 st.2 = true then (st, 0, 0) else (([], []), 0, 61)
end Go.Proofs.YtpjolnaomdmnnaaDoor
