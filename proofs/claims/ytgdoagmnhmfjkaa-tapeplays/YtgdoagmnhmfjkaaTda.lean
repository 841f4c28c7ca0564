/- The document's New, Crash, Arm, some, code. -/
import Derived.Test.YtgdoagmnhmfjkaaTds
namespace Go.Proofs.Ytgdoagmnhmfjkaa
open Go.ChangeShapes Go.WideShapes Go.ChangeAt Go.RowKit
set_option linter.unusedVariables false

theorem Its.out4 {w0 w : World} {b : Nat} {p0 p1 p2 p3 : Value} {t : TypeId} {l : List It} (h : Its w0 (.box b #[p0, p1, p2, p3] t :: l) w) (x0 x1 x2 x3 : Value) :
    Its w0 (.box b #[x0, x1, x2, x3] t :: l) ((((w.setCell ⟨b, 0, none⟩ x0).setCell ⟨b, 1, none⟩ x1).setCell ⟨b, 2, none⟩ x2).setCell ⟨b, 3, none⟩ x3) := (((h.put 0 x0).put 1 x1).put 2 x2).put 3 x3
theorem Its.cells4 {w0 w : World} {b : Nat} {p0 p1 p2 p3 : Value} {t : TypeId} {l : List It} (h : Its w0 (.box b #[p0, p1, p2, p3] t :: l) w) : w.cell? ⟨b, 0, none⟩ = some p0 ∧ w.cell? ⟨b, 1, none⟩ = some p1 ∧ w.cell? ⟨b, 2, none⟩ = some p2 ∧ w.cell? ⟨b, 3, none⟩ = some p3 ∧ (∀ i, w.frozen? ⟨b, i, none⟩ = false) :=
  ⟨(cells_at h.one 0).1, (cells_at h.one 1).1, (cells_at h.one 2).1, (cells_at h.one 3).1, fun i => (cells_at h.one i).2⟩
/-- both boxes of a call: the tape that is handed in, the one that is handed back -/
theorem two4 (w : World) (N O : ByteArray) (B : Int) (D : Bool) : Its w [.box (w.heap.size + 1) #[.string ⟨#[]⟩, .string ⟨#[]⟩, .int .i64 0, .bool false] 26, .box w.heap.size #[.string N, .string O, .int .i64 B, .bool D] 26] ((w.alloc (.cells #[.string N, .string O, .int .i64 B, .bool D] 26)).alloc (.cells #[.string ⟨#[]⟩, .string ⟨#[]⟩, .int .i64 0, .bool false] 26)) := by
  have := (((Its.nil w).box1 #[.string N, .string O, .int .i64 B, .bool D] 26).box1 #[.string ⟨#[]⟩, .string ⟨#[]⟩, .int .i64 0, .bool false] 26)
  simp only [size_alloc] at this
  exact this
/-- what the document's tape is told as -/
def bud (T : Tp) : Int := if T.ar = true then (T.bd : Int) else -1
def dv (T : Tp) : Value := .agg #[.string (str T.now), .string (str T.oth), .int .i64 (bud T), .bool T.dd]

set_option maxRecDepth 100000 in
theorem rnew_any (w : World) : Calls Try.prog 10 #[] w fun e w' => e = .returned (dv Tp.nw) ∧ Below w.heap.size w w' := by
  have e0 : dv Tp.nw = .agg #[.string ⟨#[]⟩, .string ⟨#[]⟩, .int .i64 (-1), .bool false] := rfl
  rw [e0]
  go_enter Try.func10, Try.ntmps10
  go_wp2_with fail
  exact bodyPost_ret (v := .agg #[.string ⟨#[]⟩, .string ⟨#[]⟩, .int .i64 (-1), .bool false]) (by simp [results, Try.results10, go_sem]) rfl ⟨rfl, below_new _ _⟩

section
variable (N O : ByteArray) (B : Int) (D : Bool) (w : World)
set_option maxRecDepth 100000 in
theorem rcrash_any : Calls Try.prog 21 #[.agg #[.string N, .string O, .int .i64 B, .bool D]] w fun e w' => e = .returned (.agg #[.string N, .string O, .int .i64 (-1), .bool false]) ∧ Below w.heap.size w w' := by
  have I1 := hide (two4 w N O B D)
  go_enter Try.func21, Try.ntmps21
  go_upto_region 1 with fail
  generalize ((w.alloc (.cells #[.string N, .string O, .int .i64 B, .bool D] 26)).alloc (.cells #[.string ⟨#[]⟩, .string ⟨#[]⟩, .int .i64 0, .bool false] 26)) = W1 at *
  obtain ⟨e0, e1, e2, e3, ef⟩ := Its.cells4 I1.out
  obtain ⟨c0, c1, c2, c3, cf⟩ := Its.cells4 I1.out.tail
  have HIe := hide (Its.out4 I1.out (.string N) (.string O) (.int .i64 (-1)) (.bool false))
  go_wp2_with fail
  obtain ⟨y0, y1, y2, y3, _⟩ := Its.cells4 HIe.out
  exact bodyPost_ret (v := .agg #[.string N, .string O, .int .i64 (-1), .bool false]) (by simp [results, Try.results21, go_sem, y0, y1, y2, y3]) rfl ⟨rfl, HIe.out.bel⟩
set_option maxRecDepth 100000 in
theorem rcode_any : Calls Try.prog 32 #[.agg #[.string N, .string O, .int .i64 B, .bool D]] w fun e w' => e = .returned (.int .i64 (if D = true then 190 else 0)) ∧ Below w.heap.size w w' := by
  have I1 := (Its.nil w).box1 #[.string N, .string O, .int .i64 B, .bool D] 26
  obtain ⟨c0, c1, c2, c3, cf⟩ := Its.cells4 I1
  have HB := hide I1.bel
  cases D with
  | true =>
    rw [if_pos rfl]
    go_enter Try.func32, Try.ntmps32
    go_wp2_with fail
    go_ret
    exact ⟨rfl, HB.out⟩
  | false =>
    rw [if_neg (by decide)]
    go_enter Try.func32, Try.ntmps32
    go_wp2_with fail
    go_ret
    exact ⟨rfl, HB.out⟩
/-- what some leaves -/
def smB (B n : Int) : Int := if B < 0 then B else if n ≤ B then B - n else 0
def smD (B n : Int) (D : Bool) : Bool := if B < 0 then D else if n ≤ B then D else true
def smN (B n : Int) : Int := if B < 0 then n else if n ≤ B then n else B
set_option maxRecDepth 100000 in
theorem rsome_any (n : Int) (hB : -1 ≤ B ∧ B ≤ 1099511627776) (hn : 0 ≤ n ∧ n ≤ 1099511627776) : Calls Try.prog 31 #[.agg #[.string N, .string O, .int .i64 B, .bool D], .int .i64 n] w fun e w' => e = .returned (.tuple #[.agg #[.string N, .string O, .int .i64 (smB B n), .bool (smD B n D)], .int .i64 (smN B n)]) ∧ Below w.heap.size w w' := by
  have I1 := hide (two4 w N O B D)
  by_cases h1 : B < 0
  · rw [show smB B n = B from if_pos h1, show smD B n D = D from if_pos h1, show smN B n = n from if_pos h1]
    have h2 : ¬ (0 ≤ B) := by omega
    clear hB hn
    go_enter Try.func31, Try.ntmps31
    go_upto_region 1 with fail
    generalize ((w.alloc (.cells #[.string N, .string O, .int .i64 B, .bool D] 26)).alloc (.cells #[.string ⟨#[]⟩, .string ⟨#[]⟩, .int .i64 0, .bool false] 26)) = W1 at *
    obtain ⟨e0, e1, e2, e3, ef⟩ := Its.cells4 I1.out
    obtain ⟨c0, c1, c2, c3, cf⟩ := Its.cells4 I1.out.tail
    have HIe := hide (Its.out4 I1.out (.string N) (.string O) (.int .i64 B) (.bool D))
    go_wp2_with fail
    obtain ⟨y0, y1, y2, y3, _⟩ := Its.cells4 HIe.out
    exact bodyPost_ret (v := .tuple #[.agg #[.string N, .string O, .int .i64 B, .bool D], .int .i64 n]) (by simp [results, Try.results31, go_sem, y0, y1, y2, y3]) rfl ⟨rfl, HIe.out.bel⟩
  · have h2 : 0 ≤ B := by omega
    by_cases h3 : n ≤ B
    · obtain ⟨b', hb'⟩ : ∃ b', B - n = b' := ⟨_, rfl⟩
      rw [show smB B n = b' by unfold smB; rw [if_neg h1, if_pos h3]; exact hb', show smD B n D = D by unfold smD; rw [if_neg h1, if_pos h3], show smN B n = n by unfold smN; rw [if_neg h1, if_pos h3]]
      have h4 : wrap64 (B - n) = b' := by unfold wrap64; omega
      have I2 : Hid (∀ W, Its w [.box (w.heap.size + 1) #[.string ⟨#[]⟩, .string ⟨#[]⟩, .int .i64 0, .bool false] 26, .box w.heap.size #[.string N, .string O, .int .i64 B, .bool D] 26] W → Its w [.box (w.heap.size + 1) #[.string ⟨#[]⟩, .string ⟨#[]⟩, .int .i64 0, .bool false] 26, .box w.heap.size #[.string N, .string O, .int .i64 b', .bool D] 26] (W.setCell ⟨w.heap.size, 2, none⟩ (.int .i64 b'))) := hide (fun W hW => (hW.swap.put 2 (.int .i64 b')).swap)
      clear hB hn hb'
      go_enter Try.func31, Try.ntmps31
      go_upto_region 1 with fail
      generalize ((w.alloc (.cells #[.string N, .string O, .int .i64 B, .bool D] 26)).alloc (.cells #[.string ⟨#[]⟩, .string ⟨#[]⟩, .int .i64 0, .bool false] 26)) = W1 at *
      obtain ⟨e0, e1, e2, e3, ef⟩ := Its.cells4 I1.out
      obtain ⟨c0, c1, c2, c3, cf⟩ := Its.cells4 I1.out.tail
      go_upto_region 4 with fail
      have I3 := hide (I2.out _ I1.out)
      generalize W1.setCell ⟨w.heap.size, 2, none⟩ (.int .i64 b') = W2 at *
      clear e0 e1 e2 e3 ef c0 c1 c2 c3 cf
      obtain ⟨e0, e1, e2, e3, ef⟩ := Its.cells4 I3.out
      obtain ⟨c0, c1, c2, c3, cf⟩ := Its.cells4 I3.out.tail
      have HIe := hide (Its.out4 I3.out (.string N) (.string O) (.int .i64 b') (.bool D))
      go_wp2_with fail
      obtain ⟨y0, y1, y2, y3, _⟩ := Its.cells4 HIe.out
      exact bodyPost_ret (v := .tuple #[.agg #[.string N, .string O, .int .i64 b', .bool D], .int .i64 n]) (by simp [results, Try.results31, go_sem, y0, y1, y2, y3]) rfl ⟨rfl, HIe.out.bel⟩
    · rw [show smB B n = 0 by unfold smB; rw [if_neg h1, if_neg h3], show smD B n D = true by unfold smD; rw [if_neg h1, if_neg h3], show smN B n = B by unfold smN; rw [if_neg h1, if_neg h3]]
      have I2 : Hid (∀ W, Its w [.box (w.heap.size + 1) #[.string ⟨#[]⟩, .string ⟨#[]⟩, .int .i64 0, .bool false] 26, .box w.heap.size #[.string N, .string O, .int .i64 B, .bool D] 26] W → Its w [.box (w.heap.size + 1) #[.string ⟨#[]⟩, .string ⟨#[]⟩, .int .i64 0, .bool false] 26, .box w.heap.size #[.string N, .string O, .int .i64 0, .bool true] 26] ((W.setCell ⟨w.heap.size, 2, none⟩ (.int .i64 0)).setCell ⟨w.heap.size, 3, none⟩ (.bool true))) := hide (fun W hW => ((hW.swap.put 2 (.int .i64 0)).put 3 (.bool true)).swap)
      clear hB hn
      go_enter Try.func31, Try.ntmps31
      go_upto_region 1 with fail
      generalize ((w.alloc (.cells #[.string N, .string O, .int .i64 B, .bool D] 26)).alloc (.cells #[.string ⟨#[]⟩, .string ⟨#[]⟩, .int .i64 0, .bool false] 26)) = W1 at *
      obtain ⟨e0, e1, e2, e3, ef⟩ := Its.cells4 I1.out
      obtain ⟨c0, c1, c2, c3, cf⟩ := Its.cells4 I1.out.tail
      go_upto_region 8 with fail
      have I3 := hide (I2.out _ I1.out)
      generalize (W1.setCell ⟨w.heap.size, 2, none⟩ (.int .i64 0)).setCell ⟨w.heap.size, 3, none⟩ (.bool true) = W2 at *
      clear e0 e1 e2 e3 ef c0 c1 c2 c3 cf
      obtain ⟨e0, e1, e2, e3, ef⟩ := Its.cells4 I3.out
      obtain ⟨c0, c1, c2, c3, cf⟩ := Its.cells4 I3.out.tail
      have HIe := hide (Its.out4 I3.out (.string N) (.string O) (.int .i64 0) (.bool true))
      go_wp2_with fail
      obtain ⟨y0, y1, y2, y3, _⟩ := Its.cells4 HIe.out
      exact bodyPost_ret (v := .tuple #[.agg #[.string N, .string O, .int .i64 0, .bool true], .int .i64 B]) (by simp [results, Try.results31, go_sem, y0, y1, y2, y3]) rfl ⟨rfl, HIe.out.bel⟩

set_option maxRecDepth 100000 in
theorem rarm_any (n : Int) : Calls Try.prog 13 #[.agg #[.string N, .string O, .int .i64 B, .bool D], .int .i64 n] w fun e w' => e = .returned (.tuple #[.agg #[.string N, .string O, .int .i64 (if D = true ∨ n < 0 ∨ 1099511627776 < n then B else n), .bool D], .int .i64 (if D = true then 190 else if n < 0 ∨ 1099511627776 < n then 1 else 0)]) ∧ Below w.heap.size w w' := by
  have I1 := hide (two4 w N O B D)
  cases D with
  | true =>
    rw [if_pos (.inl rfl), if_pos rfl]
    go_enter Try.func13, Try.ntmps13
    go_upto_region 1 with fail
    generalize ((w.alloc (.cells #[.string N, .string O, .int .i64 B, .bool true] 26)).alloc (.cells #[.string ⟨#[]⟩, .string ⟨#[]⟩, .int .i64 0, .bool false] 26)) = W1 at *
    obtain ⟨e0, e1, e2, e3, ef⟩ := Its.cells4 I1.out
    obtain ⟨c0, c1, c2, c3, cf⟩ := Its.cells4 I1.out.tail
    have HIe := hide (Its.out4 I1.out (.string N) (.string O) (.int .i64 B) (.bool true))
    go_wp2_with fail
    obtain ⟨y0, y1, y2, y3, _⟩ := Its.cells4 HIe.out
    exact bodyPost_ret (v := .tuple #[.agg #[.string N, .string O, .int .i64 B, .bool true], .int .i64 190]) (by simp [results, Try.results13, go_sem, y0, y1, y2, y3]) rfl ⟨rfl, HIe.out.bel⟩
  | false =>
    by_cases h1 : n < 0
    · rw [if_pos (.inr (.inl h1)), if_neg (by decide), if_pos (.inl h1)]
      go_enter Try.func13, Try.ntmps13
      go_upto_region 1 with fail
      generalize ((w.alloc (.cells #[.string N, .string O, .int .i64 B, .bool false] 26)).alloc (.cells #[.string ⟨#[]⟩, .string ⟨#[]⟩, .int .i64 0, .bool false] 26)) = W1 at *
      obtain ⟨e0, e1, e2, e3, ef⟩ := Its.cells4 I1.out
      obtain ⟨c0, c1, c2, c3, cf⟩ := Its.cells4 I1.out.tail
      have HIe := hide (Its.out4 I1.out (.string N) (.string O) (.int .i64 B) (.bool false))
      go_wp2_with fail
      obtain ⟨y0, y1, y2, y3, _⟩ := Its.cells4 HIe.out
      exact bodyPost_ret (v := .tuple #[.agg #[.string N, .string O, .int .i64 B, .bool false], .int .i64 1]) (by simp [results, Try.results13, go_sem, y0, y1, y2, y3]) rfl ⟨rfl, HIe.out.bel⟩
    · by_cases h2 : 1099511627776 < n
      · rw [if_pos (.inr (.inr h2)), if_neg (by decide), if_pos (.inr h2)]
        go_enter Try.func13, Try.ntmps13
        go_upto_region 1 with fail
        generalize ((w.alloc (.cells #[.string N, .string O, .int .i64 B, .bool false] 26)).alloc (.cells #[.string ⟨#[]⟩, .string ⟨#[]⟩, .int .i64 0, .bool false] 26)) = W1 at *
        obtain ⟨e0, e1, e2, e3, ef⟩ := Its.cells4 I1.out
        obtain ⟨c0, c1, c2, c3, cf⟩ := Its.cells4 I1.out.tail
        have HIe := hide (Its.out4 I1.out (.string N) (.string O) (.int .i64 B) (.bool false))
        go_wp2_with fail
        obtain ⟨y0, y1, y2, y3, _⟩ := Its.cells4 HIe.out
        exact bodyPost_ret (v := .tuple #[.agg #[.string N, .string O, .int .i64 B, .bool false], .int .i64 1]) (by simp [results, Try.results13, go_sem, y0, y1, y2, y3]) rfl ⟨rfl, HIe.out.bel⟩
      · rw [if_neg (by rintro (h | h | h); exact absurd h (by decide); exact h1 h; exact h2 h), if_neg (by decide), if_neg (by rintro (h | h); exact h1 h; exact h2 h)]
        have I2 : Hid (∀ W, Its w [.box (w.heap.size + 1) #[.string ⟨#[]⟩, .string ⟨#[]⟩, .int .i64 0, .bool false] 26, .box w.heap.size #[.string N, .string O, .int .i64 B, .bool false] 26] W → Its w [.box (w.heap.size + 1) #[.string ⟨#[]⟩, .string ⟨#[]⟩, .int .i64 0, .bool false] 26, .box w.heap.size #[.string N, .string O, .int .i64 n, .bool false] 26] (W.setCell ⟨w.heap.size, 2, none⟩ (.int .i64 n))) := hide (fun W hW => (hW.swap.put 2 (.int .i64 n)).swap)
        go_enter Try.func13, Try.ntmps13
        go_upto_region 1 with fail
        generalize ((w.alloc (.cells #[.string N, .string O, .int .i64 B, .bool false] 26)).alloc (.cells #[.string ⟨#[]⟩, .string ⟨#[]⟩, .int .i64 0, .bool false] 26)) = W1 at *
        obtain ⟨e0, e1, e2, e3, ef⟩ := Its.cells4 I1.out
        obtain ⟨c0, c1, c2, c3, cf⟩ := Its.cells4 I1.out.tail
        go_upto_region 6 with fail
        have I3 := hide (I2.out _ I1.out)
        generalize W1.setCell ⟨w.heap.size, 2, none⟩ (.int .i64 n) = W2 at *
        clear e0 e1 e2 e3 ef c0 c1 c2 c3 cf
        obtain ⟨e0, e1, e2, e3, ef⟩ := Its.cells4 I3.out
        obtain ⟨c0, c1, c2, c3, cf⟩ := Its.cells4 I3.out.tail
        have HIe := hide (Its.out4 I3.out (.string N) (.string O) (.int .i64 n) (.bool false))
        go_wp2_with fail
        obtain ⟨y0, y1, y2, y3, _⟩ := Its.cells4 HIe.out
        exact bodyPost_ret (v := .tuple #[.agg #[.string N, .string O, .int .i64 n, .bool false], .int .i64 0]) (by simp [results, Try.results13, go_sem, y0, y1, y2, y3]) rfl ⟨rfl, HIe.out.bel⟩
end
end Go.Proofs.Ytgdoagmnhmfjkaa
