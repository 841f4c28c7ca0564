/- A layout as plain data: nodes, edges; which are good. -/
import Derived.Test.YthcdfclhenmleaaCba
namespace Go.Proofs.Ythcdfclhenmleaa
open Go.RowKit

structure Nd where
  name : ByteArray
  kind : Int
  zone : Int
deriving DecidableEq
abbrev Ed := Int × Int

def ndE : El Try.prog Nd where
  t := 22
  e := 67
  k := 3
  by' := 32
  z := .agg #[.string ByteArray.empty, .int .i64 0, .int .i64 0]
  enc n := [.string n.name, .int .i64 n.kind, .int .i64 n.zone]
  ht := Try.underlying22
  info := by kernel_rfl
  zc := rfl
  kpos := by omega
  bsm := by omega
  len _ := rfl
  one x v hv := by simp at hv; rcases hv with rfl | rfl | rfl <;> rfl
def edE : El Try.prog Ed where
  t := 23
  e := 42
  k := 2
  by' := 16
  z := .agg #[.int .i64 0, .int .i64 0]
  enc e := [.int .i64 e.1, .int .i64 e.2]
  ht := Try.underlying23
  info := by kernel_rfl
  zc := rfl
  kpos := by omega
  bsm := by omega
  len _ := rfl
  one x v hv := by simp at hv; rcases hv with rfl | rfl <;> rfl

/-- a sign that may stand at a place of a name -/
def chOk (i x : Nat) : Bool := decide (97 ≤ x ∧ x ≤ 122) || (decide (48 ≤ x ∧ x ≤ 57) && decide (i ≠ 0))
def byteAt (s : ByteArray) (i : Nat) : Nat := (s.data.toList[i]?.getD 0).toNat
def nameB (s : ByteArray) : Bool := decide (1 ≤ s.size ∧ s.size ≤ 8 ∧ ∀ i, i < s.size → chOk i (byteAt s i) = true)
def zoneB (z : Int) : Bool := decide (0 ≤ z ∧ z < 8)
def ndB (n : Nd) : Bool := nameB n.name && decide (1 ≤ n.kind ∧ n.kind ≤ 4) && zoneB n.zone
def goodN (ns : List Nd) : Bool := decide (1 ≤ ns.length ∧ ns.length ≤ 40 ∧ (∀ n ∈ ns, ndB n = true) ∧ (ns.map (·.name)).Nodup)
def placeB (ns : List Nd) (i : Int) : Bool := decide (0 ≤ i ∧ i < ns.length)
def kindAt (ns : List Nd) (i : Int) : Int := (ns[i.toNat]?.map (·.kind)).getD 0
def edB (ns : List Nd) (e : Ed) : Bool := placeB ns e.1 && placeB ns e.2 && decide (e.1 ≠ e.2) && (decide (kindAt ns e.1 = 1) || decide (kindAt ns e.2 = 1))
def goodE (ns : List Nd) (es : List Ed) : Bool := decide (es.length ≤ 120 ∧ (∀ e ∈ es, edB ns e = true) ∧ es.Nodup)
def good (ns : List Nd) (es : List Ed) : Bool := goodN ns && goodE ns es

theorem byteAt_eq (s : ByteArray) (i : Nat) (h : i < s.size) : byteAt s i = (s[i]'h).toNat := by
  unfold byteAt
  have hl : i < s.data.toList.length := by simpa using h
  rw [List.getElem?_eq_getElem hl]
  rfl
end Go.Proofs.Ythcdfclhenmleaa
