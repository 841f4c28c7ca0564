/- writeLine. -/
import Derived.Test.YtpjolnaomdmnnaaDoorBld
import Derived.Test.YtpjolnaomdmnnaaDoorRdr
namespace Go.Proofs.YtpjolnaomdmnnaaDoor
open Go.RowKit
set_option linter.unusedVariables false

theorem bld_keep {w w' : World} {B b : Nat} {bs : List Value} (h : Lib.IsBuilderF 55 5 B b bs w) (hb : Below w.heap.size w w') : Lib.IsBuilderF 55 5 B b bs w' := by
  have one : ∀ p, Lib.BuilderAtF 55 5 B b p bs w → Lib.BuilderAtF 55 5 B b p bs w' := by
    rintro p ⟨h1, v, h2, h3, h4⟩
    exact ⟨h1, v, by rw [hb.block _ (heap_lt h2)]; exact h2, h3.kept (row := none) ⟨hb.os, hb.tape, hb.output, hb.size, fun k hk _ => hb.block k hk⟩ (by cases v.ownBlock <;> simp), h4⟩
  rcases h with h | h
  · exact .inl (one _ h)
  · exact .inr (one _ h)
theorem kept_below {b : Option Nat} {w w' : World} (hb : Below w.heap.size w w') : Lib.OthersKept 5 b w w' := by
  intro k o hk h1 h2
  rw [hb.block _ (heap_lt hk)]; exact hk
/-- a line's bytes -/
def lineB (xs : List ByteArray) : List UInt8 := Lib.join (xs.map (·.data.toList)) [32] ++ [10]

set_option maxRecDepth 100000 in
set_option maxHeartbeats 1000000 in
theorem writeLine_any (B b bk n c : Nat) (acc : List UInt8) (xs : List ByteArray) (w : World) (h : Lib.IsBuilderF 55 5 B b (Lib.byteCells acc) w) (hn : xs.length = n) (hcap : n ≤ c) (hc : ∀ (j : Nat) x, xs[j]? = some x → w.cell? ⟨bk, 0 + j, none⟩ = some (.string x)) (hbk : bk < w.heap.size) (hs : n ≤ 1000) (hl : acc.length ≤ 1000000) (hj : (Lib.join (xs.map (·.data.toList)) [32]).length ≤ 1000000) (hBw : B ≤ w.heap.size) :
    Calls Tryd.prog 23 #[.pointer (some ⟨b, 0, none⟩), .slice (some ⟨bk, 0, none⟩) n c] w fun e w' => e = .returned (.tuple #[]) ∧ Lib.IsBuilderF 55 5 B b (Lib.byteCells (acc ++ lineB xs)) w' ∧ Below B w w' ∧ Lib.OthersKept 5 (some b) w w' := by
  have K35 := hide (Tryd.strings_Join bk 0 c xs ⟨#[32]⟩ w hc hbk (by omega) (by omega) (by show (Lib.join (xs.map (·.data.toList)) [32]).length ≤ _; omega))
  rw [hn] at K35
  have hjl : (⟨(Lib.join (xs.map (·.data.toList)) [32]).toArray⟩ : ByteArray) = str (Lib.join (xs.map (·.data.toList)) [32]) := rfl
  obtain ⟨jn, hjn⟩ : ∃ jn, Lib.join (xs.map (·.data.toList)) [32] = jn := ⟨_, rfl⟩
  have K35' : Hid (Calls Tryd.prog 35 #[.slice (some ⟨bk, 0, none⟩) n c, .string ⟨#[32]⟩] w fun e w' => e = .returned (.string (str jn)) ∧ Below w.heap.size w w') := hide (by rw [← hjn]; exact K35.out)
  have el : Hid (lineB xs = jn ++ [10]) := hide (by unfold lineB; rw [hjn])
  rw [hjn] at hj
  have H0 := hide h
  have hsl : (Lib.strCells (str jn)).length = jn.length := by simp [Lib.strCells, str]
  have K34 : Hid (∀ W, Below w.heap.size w W → _) := hide (fun W (hb : Below w.heap.size w W) => wstr B b (Lib.byteCells acc) (str jn) W (bld_keep h hb) (by rw [Lib.byteCells_length, str_size]; omega) (Nat.le_trans hBw hb.size))
  have K36 : Hid (∀ W, B ≤ W.heap.size → Lib.BuilderAtF 55 5 B b (.pointer (some ⟨b, 0, none⟩)) (Lib.byteCells acc ++ Lib.strCells (str jn)) W → _) := hide (fun W hB (hb : Lib.BuilderAtF 55 5 B b (.pointer (some ⟨b, 0, none⟩)) (Lib.byteCells acc ++ Lib.strCells (str jn)) W) => wbyte B b (Lib.byteCells acc ++ Lib.strCells (str jn)) 10 W (.inr hb) (by rw [List.length_append, Lib.byteCells_length, hsl]; omega) hB)
  have ec : Hid (Lib.byteCells (acc ++ (jn ++ [10])) = Lib.byteCells acc ++ Lib.strCells (str jn) ++ [.int .u8 10]) := hide (by simp [Lib.byteCells, Lib.strCells, str])
  have HBw := hide hBw
  clear K35 hsl hjl hjn h hn hcap hc hbk hs hl hj hBw
  go_enter Tryd.func23, Tryd.ntmps23
  go_wp2_with (first
    | (go_at_call 35; refine (K35'.out).mono ?_; rintro e W1 ⟨rfl, hb1⟩; have Hb1 := hide hb1; clear hb1)
    | (go_at_call 34; refine (K34.out _ Hb1.out).mono ?_; rintro e W2 ⟨rfl, hb2, hl2, hk2⟩; have Hb2 := hide hb2; have HL2 := hide ((Hb1.out.mono HBw.out).trans hl2); have HK2 := hide ((kept_below (b := some b) Hb1.out).trans hk2); clear hb2 hl2 hk2)
    | (go_at_call 36; refine (K36.out _ (Nat.le_trans HBw.out HL2.out.size) Hb2.out).mono ?_; rintro e W3 ⟨rfl, hb3, hl3, hk3⟩; have Hb3 := hide hb3; have HL3 := hide (HL2.out.trans hl3); have HK3 := hide (HK2.out.trans hk3); clear hb3 hl3 hk3))
  refine bodyPost_end (results_none rfl _ _ _) rfl ?_
  exact ⟨rfl, .inr (by rw [el.out, ec.out]; exact Hb3.out), HL3.out, HK3.out⟩
end Go.Proofs.YtpjolnaomdmnnaaDoor
