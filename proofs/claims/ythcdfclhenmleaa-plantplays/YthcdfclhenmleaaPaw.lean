/- awake, few. -/
import Derived.Test.YthcdfclhenmleaaPrh
import Derived.Test.YthcdfclhenmleaaPre
namespace Go.Proofs.Ythcdfclhenmleaa
open Go.RowKit
set_option linter.unusedVariables false

def E3 : List (Int × Int) := [(0, 1), (1, 2), (2, 0)]
def N3 : List Nd := [⟨⟨#[97]⟩, 1, 0⟩, ⟨⟨#[98]⟩, 1, 0⟩, ⟨⟨#[99]⟩, 1, 0⟩]
def A0 : Pl := Pl.nw 3 E3
def A1 : Pl := (A0.put 5 0).2
def A2 : Pl := (A1.hear ⟨1, 1, 9, 5, 0⟩).2
set_option maxRecDepth 100000 in
theorem good3 : good N3 E3 = true := by decide +kernel
set_option maxRecDepth 100000 in
theorem aw0 : (A0.put 5 0).1 = 0 := by decide +kernel
set_option maxRecDepth 100000 in
theorem aw1 : (A1.hear ⟨1, 1, 9, 5, 0⟩).1 = (⟨2, 1, 9, 5, 0⟩, true) := by decide +kernel
set_option maxRecDepth 100000 in
theorem aw2 : (A2.hear ⟨1, 1, 8, 5, 0⟩).1 = (⟨0, 0, 0, 0, 0⟩, false) := by decide +kernel
theorem aw2' : (A2.hear ⟨1, 1, 8, 5, 0⟩).2 = A2 := by rfl
set_option maxRecDepth 100000 in
theorem aw3 : (A2.hear ⟨1, 1, 10, 5, 0⟩).1 = (⟨3, 1, 10, 5, 1⟩, true) := by decide +kernel
theorem aw3' : (A2.hear ⟨1, 1, 10, 5, 0⟩).2 = A2 := by rfl
set_option maxRecDepth 100000 in
theorem aw4 : A2.whr 5 = 1 := by decide +kernel
set_option maxRecDepth 100000 in
theorem aw5 : A2.mv = 1 := by decide +kernel
set_option maxRecDepth 100000 in
theorem aw6 : A1.mv ≤ 1000000 ∧ A2.mv ≤ 1000000 := by decide +kernel

section
variable {w0 : World} {l : List It} {B g : Nat} {H : Nat × Nat}
theorem awk0 (W : World) (h : Its w0 (.pla B g H 3 3 E3 A0 :: l) W) : Calls Try.prog 15 #[.pointer (some ⟨g, 0, none⟩), .int .i64 5, .int .i64 0] W fun e w' => e = .returned (.int .i64 0) ∧ Its w0 (.pla B g H 3 3 E3 A1 :: l) w' := by
  have k := putS h 5 0
  rw [aw0] at k
  exact k
theorem awk1 (W : World) (h : Its w0 (.pla B g H 3 3 E3 A1 :: l) W) : Calls Try.prog 17 #[.pointer (some ⟨g, 0, none⟩), .agg #[.int .u8 1, .int .u16 1, .int .u16 9, .int .u16 5, .int .u16 0]] W fun e w' => e = .returned (.tuple #[.agg #[.int .u8 2, .int .u16 1, .int .u16 9, .int .u16 5, .int .u16 0], .bool true]) ∧ Its w0 (.pla B g H 3 3 E3 A2 :: l) w' := by
  have k := hearS h ⟨1, 1, 9, 5, 0⟩ (by unfold Tl.In; simp) aw6.1
  unfold HP at k
  rw [aw1] at k
  exact k
theorem awk2 (W : World) (h : Its w0 (.pla B g H 3 3 E3 A2 :: l) W) : Calls Try.prog 17 #[.pointer (some ⟨g, 0, none⟩), .agg #[.int .u8 1, .int .u16 1, .int .u16 8, .int .u16 5, .int .u16 0]] W fun e w' => e = .returned (.tuple #[.agg #[.int .u8 0, .int .u16 0, .int .u16 0, .int .u16 0, .int .u16 0], .bool false]) ∧ Its w0 (.pla B g H 3 3 E3 A2 :: l) w' := by
  have k := hearS h ⟨1, 1, 8, 5, 0⟩ (by unfold Tl.In; simp) aw6.2
  unfold HP at k
  rw [aw2, aw2'] at k
  exact k
theorem awk3 (W : World) (h : Its w0 (.pla B g H 3 3 E3 A2 :: l) W) : Calls Try.prog 17 #[.pointer (some ⟨g, 0, none⟩), .agg #[.int .u8 1, .int .u16 1, .int .u16 10, .int .u16 5, .int .u16 0]] W fun e w' => e = .returned (.tuple #[.agg #[.int .u8 3, .int .u16 1, .int .u16 10, .int .u16 5, .int .u16 1], .bool true]) ∧ Its w0 (.pla B g H 3 3 E3 A2 :: l) w' := by
  have k := hearS h ⟨1, 1, 10, 5, 0⟩ (by unfold Tl.In; simp) aw6.2
  unfold HP at k
  rw [aw3, aw3'] at k
  exact k
theorem awk4 (W : World) (h : (It.pla B g H 3 3 E3 A2).P W) : Calls Try.prog 24 #[.pointer (some ⟨g, 0, none⟩), .int .i64 5] W fun e w' => e = .returned (.int .i64 1) ∧ w' = W := by
  have k := where_m h 5
  rw [aw4] at k
  exact k
theorem awk5 (W : World) (h : (It.pla B g H 3 3 E3 A2).P W) : Calls Try.prog 23 #[.pointer (some ⟨g, 0, none⟩)] W fun e w' => e = .returned (.int .i64 1) ∧ w' = W := by
  have k := moves_m h
  rw [aw5] at k
  exact k
end

set_option maxRecDepth 100000 in
set_option maxHeartbeats 2000000 in
theorem awake_any (w : World) : Calls Try.prog 9 #[] w fun e w' => e = .returned (.bool true) ∧ Below w.heap.size w w' := by
  have h0 : Its w [] ((w.alloc (.cells #[.string ⟨#[97]⟩, .int .i64 1, .int .i64 0, .string ⟨#[98]⟩, .int .i64 1, .int .i64 0, .string ⟨#[99]⟩, .int .i64 1, .int .i64 0] 67)).alloc (.cells #[.int .i64 0, .int .i64 1, .int .i64 1, .int .i64 2, .int .i64 2, .int .i64 0] 42)) := ((Its.nil w).alloc _).alloc _
  have hN : ndE.Rd ((w.alloc (.cells #[.string ⟨#[97]⟩, .int .i64 1, .int .i64 0, .string ⟨#[98]⟩, .int .i64 1, .int .i64 0, .string ⟨#[99]⟩, .int .i64 1, .int .i64 0] 67)).alloc (.cells #[.int .i64 0, .int .i64 1, .int .i64 1, .int .i64 2, .int .i64 2, .int .i64 0] 42)) (.slice (some ⟨w.heap.size, 0, none⟩) 3 3) N3 := (El.Own.new ndE w w.heap.size (Nat.le_refl _) #[.string ⟨#[97]⟩, .int .i64 1, .int .i64 0, .string ⟨#[98]⟩, .int .i64 1, .int .i64 0, .string ⟨#[99]⟩, .int .i64 1, .int .i64 0] N3 rfl (by decide) _ _ _ rfl rfl rfl).rd.keep (below_new _ _)
  have hE : edE.Rd ((w.alloc (.cells #[.string ⟨#[97]⟩, .int .i64 1, .int .i64 0, .string ⟨#[98]⟩, .int .i64 1, .int .i64 0, .string ⟨#[99]⟩, .int .i64 1, .int .i64 0] 67)).alloc (.cells #[.int .i64 0, .int .i64 1, .int .i64 1, .int .i64 2, .int .i64 2, .int .i64 0] 42)) (.slice (some ⟨w.heap.size + 1, 0, none⟩) 3 3) E3 := (El.Own.new edE (w.alloc (.cells #[.string ⟨#[97]⟩, .int .i64 1, .int .i64 0, .string ⟨#[98]⟩, .int .i64 1, .int .i64 0, .string ⟨#[99]⟩, .int .i64 1, .int .i64 0] 67)) w.heap.size (below_new _ _).size #[.int .i64 0, .int .i64 1, .int .i64 1, .int .i64 2, .int .i64 2, .int .i64 0] E3 rfl (by decide) _ _ _ (by show _ = (w.heap.push _).size; simp) rfl rfl).rd
  have K := hide (new_ok (w := ((w.alloc (.cells #[.string ⟨#[97]⟩, .int .i64 1, .int .i64 0, .string ⟨#[98]⟩, .int .i64 1, .int .i64 0, .string ⟨#[99]⟩, .int .i64 1, .int .i64 0] 67)).alloc (.cells #[.int .i64 0, .int .i64 1, .int .i64 1, .int .i64 2, .int .i64 2, .int .i64 0] 42))) ⟨rfl, rfl, hN, hE, Nat.le_refl _, fun p hp => by
    simp only [N3, List.mem_cons, List.not_mem_nil, or_false] at hp
    rcases hp with rfl | rfl | rfl <;> decide⟩ good3)
  have H0 := hide h0
  clear h0 hN hE
  go_enter Try.func9, Try.ntmps9
  go_wp2_with (first
    | (go_at_call 23; refine (awk5 _ I7.out.two).mono ?_; rintro e w9 ⟨rfl, rfl⟩)
    | (go_at_call 24; refine (awk4 _ I7.out.two).mono ?_; rintro e w8 ⟨rfl, rfl⟩)
    | (go_at_call 17; refine (awk3 _ I5.out.swap).mono ?_; rintro e w7 ⟨rfl, q⟩; have I7 := hide (q.box1 #[.int .u8 3, .int .u16 1, .int .u16 10, .int .u16 5, .int .u16 1] 45); clear q; obtain ⟨y0, y1, y2, y3, y4, yf⟩ := Its.cells5 I7.out; obtain ⟨z0, z1, z2, z3, z4, zf⟩ := Its.cells5 I7.out.tail.tail.tail)
    | (go_at_call 17; refine (awk2 _ I3.out.swap).mono ?_; rintro e w5 ⟨rfl, q⟩; have I5 := hide (q.box1 #[.int .u8 0, .int .u16 0, .int .u16 0, .int .u16 0, .int .u16 0] 45); clear q)
    | (go_at_call 17; refine (awk1 _ I1.out).mono ?_; rintro e w3 ⟨rfl, q⟩; have I3 := hide (q.box1 #[.int .u8 2, .int .u16 1, .int .u16 9, .int .u16 5, .int .u16 0] 45); clear q)
    | (go_at_call 15; refine (awk0 _ I0.out).mono ?_; rintro e w2 ⟨rfl, q⟩; have I1 := hide q; clear q)
    | (go_at_call 12; refine K.out.mono ?_; rintro e w1 ⟨g, H, rfl, q⟩; have I0 : Hid (Its w [.pla w.heap.size g H 3 3 E3 A0] w1) := hide (H0.out.addm q); clear q))
  go_ret
  exact ⟨rfl, I7.out.bel⟩

section
variable {w : World} {a a' : Option Addr} {c c' n m : Nat}
set_option maxRecDepth 100000 in
theorem few_any : Calls Try.prog 10 #[.agg #[.slice a n c, .slice a' m c']] w fun e w' => e = .returned (.bool (decide (n ≤ 60 ∧ m ≤ 200))) ∧ Below w.heap.size w w' := by
  have hB : Hid (∀ o, Below w.heap.size w (w.alloc o)) := hide (fun o => below_new _ _)
  by_cases h1 : n ≤ 60
  · have h1' : (n : Int) ≤ 60 := by omega
    by_cases h2 : m ≤ 200
    · have h2' : (m : Int) ≤ 200 := by omega
      rw [decide_eq_true ⟨h1, h2⟩]
      go_enter Try.func10, Try.ntmps10
      go_wp2_with fail
      go_ret
      exact ⟨rfl, hB.out _⟩
    · have h2' : ¬ (m : Int) ≤ 200 := by omega
      rw [decide_eq_false (fun h => h2 h.2)]
      go_enter Try.func10, Try.ntmps10
      go_wp2_with fail
      go_ret
      exact ⟨rfl, hB.out _⟩
  · have h1' : ¬ (n : Int) ≤ 60 := by omega
    rw [decide_eq_false (fun h => h1 h.1)]
    go_enter Try.func10, Try.ntmps10
    go_wp2_with fail
    go_ret
    exact ⟨rfl, hB.out _⟩
end
end Go.Proofs.Ythcdfclhenmleaa
