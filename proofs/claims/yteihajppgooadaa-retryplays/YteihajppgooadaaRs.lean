/- The document's sender: its value, Seq, New, and Put where it refuses. -/
import Derived.Test.YteihajppgooadaaAckM
namespace Go.Proofs.Yteihajppgooadaa
open Go.RowKit
set_option linter.unusedVariables false

/-- a piece of the document's -/
structure Rp where
  n : Int
  d : ByteArray
  sent : Int
  ago : Int
def rE : El Try.prog Rp where
  t := 31
  e := 85
  k := 4
  by' := 40
  z := .agg #[.int .i64 0, .string ByteArray.empty, .int .i64 0, .int .i64 0]
  enc p := [.int .i64 p.n, .string p.d, .int .i64 p.sent, .int .i64 p.ago]
  ht := Try.underlying31
  info := by kernel_rfl
  zc := rfl
  kpos := by omega
  bsm := by omega
  len _ := rfl
  one x v hv := by simp at hv; rcases hv with rfl | rfl | rfl | rfl <;> rfl
/-- the document's sender -/
structure Rs where
  win : Int
  pause : Int
  times : Int
  first : Int
  count : Int
  ps : List Rp
  dead : Bool
def Rs.cells (R : Rs) (v : Value) : Array Value := #[.int .i64 R.win, .int .i64 R.pause, .int .i64 R.times, .int .u16 R.first, .int .i64 R.count, v, .bool R.dead]

set_option maxRecDepth 100000 in
set_option maxHeartbeats 1000000 in
theorem seq_any (win pause times first count n : Int) (v : Value) (dead : Bool) (w : World) (hf : 0 ≤ first ∧ first ≤ 65535) (hn : 0 ≤ n ∧ n ≤ 1000000) :
    Calls Try.prog 32 #[.agg #[.int .i64 win, .int .i64 pause, .int .i64 times, .int .u16 first, .int .i64 count, v, .bool dead], .int .i64 n] w fun e w' => e = .returned (.int .u16 (sq first n)) ∧ w' = w.alloc (.cells #[.int .i64 win, .int .i64 pause, .int .i64 times, .int .u16 first, .int .i64 count, v, .bool dead] 33) := by
  obtain ⟨f0, f1⟩ := hf
  obtain ⟨n0, n1⟩ := hn
  have e1 : Int.tmod (first + n) 65536 = sq first n := by rw [Int.tmod_eq_emod_of_nonneg (by omega)]; rfl
  have e2 : IntKind.u16.wrap (sq first n) = sq first n := by rw [w16]; unfold sq; omega
  have e3 := sq_in first n
  have e4 : wrap64 first = first := by unfold wrap64; omega
  obtain ⟨s0, s1⟩ := e3
  generalize sq first n = x at *
  go_enter Try.func32, Try.ntmps32
  go_wp2_with fail
  go_ret
  exact ⟨rfl, rfl⟩

set_option maxRecDepth 100000 in
set_option maxHeartbeats 2000000 in
theorem rnew_no (win pause times first : Int) (w : World) (h : badSet win pause times) : Calls Try.prog 11 #[.int .i64 win, .int .i64 pause, .int .i64 times, .int .u16 first] w fun e w' => (∃ C, e = .returned (.tuple #[.agg C, .int .i64 1])) ∧ Below w.heap.size w w' := by
  have hB : Hid (∀ o, Below w.heap.size w (w.alloc o)) := hide (fun o => (Below.refl _ _).alloc (Nat.le_refl _) o)
  have fin : ∀ o, Hid (Below w.heap.size w (w.alloc o)) := fun o => hide (hB.out o)
  unfold badSet at h
  by_cases h1 : win < 1
  · clear h
    go_enter Try.func11, Try.ntmps11
    go_wp2_with fail
    exact bodyPost_ret (v := .tuple #[.agg #[.int .i64 0, .int .i64 0, .int .i64 0, .int .u16 0, .int .i64 0, .slice none 0 0, .bool false], .int .i64 1]) (by simp [results, Try.results11, go_sem]) rfl ⟨⟨_, rfl⟩, hB.out _⟩
  · by_cases h2 : 64 < win
    · clear h
      go_enter Try.func11, Try.ntmps11
      go_wp2_with fail
      exact bodyPost_ret (v := .tuple #[.agg #[.int .i64 0, .int .i64 0, .int .i64 0, .int .u16 0, .int .i64 0, .slice none 0 0, .bool false], .int .i64 1]) (by simp [results, Try.results11, go_sem]) rfl ⟨⟨_, rfl⟩, hB.out _⟩
    · by_cases h3 : pause < 1
      · clear h
        go_enter Try.func11, Try.ntmps11
        go_wp2_with fail
        exact bodyPost_ret (v := .tuple #[.agg #[.int .i64 0, .int .i64 0, .int .i64 0, .int .u16 0, .int .i64 0, .slice none 0 0, .bool false], .int .i64 1]) (by simp [results, Try.results11, go_sem]) rfl ⟨⟨_, rfl⟩, hB.out _⟩
      · by_cases h4 : 1000 < pause
        · clear h
          go_enter Try.func11, Try.ntmps11
          go_wp2_with fail
          exact bodyPost_ret (v := .tuple #[.agg #[.int .i64 0, .int .i64 0, .int .i64 0, .int .u16 0, .int .i64 0, .slice none 0 0, .bool false], .int .i64 1]) (by simp [results, Try.results11, go_sem]) rfl ⟨⟨_, rfl⟩, hB.out _⟩
        · by_cases h5 : times < 1
          · clear h
            go_enter Try.func11, Try.ntmps11
            go_wp2_with fail
            exact bodyPost_ret (v := .tuple #[.agg #[.int .i64 0, .int .i64 0, .int .i64 0, .int .u16 0, .int .i64 0, .slice none 0 0, .bool false], .int .i64 1]) (by simp [results, Try.results11, go_sem]) rfl ⟨⟨_, rfl⟩, hB.out _⟩
          · have h6 : 20 < times := by omega
            clear h
            go_enter Try.func11, Try.ntmps11
            go_wp2_with fail
            exact bodyPost_ret (v := .tuple #[.agg #[.int .i64 0, .int .i64 0, .int .i64 0, .int .u16 0, .int .i64 0, .slice none 0 0, .bool false], .int .i64 1]) (by simp [results, Try.results11, go_sem]) rfl ⟨⟨_, rfl⟩, hB.out _⟩

def Rs.new (win pause times first : Int) : Rs := ⟨win, pause, times, first, 0, [], false⟩
set_option maxRecDepth 100000 in
set_option maxHeartbeats 2000000 in
theorem rnew_ok (win pause times first : Int) (w : World) (h : ¬ badSet win pause times) : Calls Try.prog 11 #[.int .i64 win, .int .i64 pause, .int .i64 times, .int .u16 first] w fun e w' => e = .returned (.tuple #[.agg ((Rs.new win pause times first).cells (.slice none 0 0)), .int .i64 0]) ∧ Below w.heap.size w w' := by
  have hB : Hid (∀ o, Below w.heap.size w (w.alloc o)) := hide (fun o => (Below.refl _ _).alloc (Nat.le_refl _) o)
  unfold badSet at h
  have h1 : ¬ win < 1 := by omega
  have h2 : ¬ 64 < win := by omega
  have h3 : ¬ pause < 1 := by omega
  have h4 : ¬ 1000 < pause := by omega
  have h5 : ¬ times < 1 := by omega
  have h6 : ¬ 20 < times := by omega
  clear h
  go_enter Try.func11, Try.ntmps11
  go_wp2_with fail
  exact bodyPost_ret (v := .tuple #[.agg #[.int .i64 win, .int .i64 pause, .int .i64 times, .int .u16 first, .int .i64 0, .slice none 0 0, .bool false], .int .i64 0]) (by simp [results, Try.results11, go_sem]) rfl ⟨rfl, hB.out _⟩
end Go.Proofs.Yteihajppgooadaa
