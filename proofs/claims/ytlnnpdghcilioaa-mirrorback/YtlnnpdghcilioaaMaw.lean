/- awake, few. -/
import Derived.Test.YtlnnpdghcilioaaMrh
namespace Go.Proofs.Ytlnnpdghcilioaa
open Go.RowKit
set_option linter.unusedVariables false

def E3 : List (Int × Int) := [(0, 1), (1, 2), (2, 0)]
def N3 : List Nd := [⟨⟨#[97]⟩, 1, 0⟩, ⟨⟨#[98]⟩, 1, 0⟩, ⟨⟨#[99]⟩, 1, 0⟩]
def A0 : Mr := Mr.nw 3 E3
def A1 : Mr := (A0.put 5 0).2
def A2 : Mr := (A1.snd 1 5 9).2
def A3 : Mr := (A2.mov 1 5).2
set_option maxRecDepth 100000 in
theorem good3 : good N3 E3 = true := by decide +kernel
set_option maxRecDepth 100000 in
theorem aw0 : (A0.put 5 0).1 = 0 := by decide +kernel
set_option maxRecDepth 100000 in
theorem aw1 : (A1.snd 1 5 9).1 = 0 := by decide +kernel
set_option maxRecDepth 100000 in
theorem aw2 : A2.tak 1 = true := by decide +kernel
set_option maxRecDepth 100000 in
theorem aw3 : A2.whr 5 = 0 := by decide +kernel
set_option maxRecDepth 100000 in
theorem aw4 : (A2.mov 1 5).1 = 0 := by decide +kernel
set_option maxRecDepth 100000 in
theorem aw5 : A3.whr 5 = 1 := by decide +kernel
set_option maxRecDepth 100000 in
theorem aw6 : (A3.snd 1 5 10).1 = 160 := by decide +kernel
set_option maxRecDepth 100000 in
theorem aw9 : (A3.snd 1 5 10).2 = A3 := by rfl

section
variable {w : World} {B g : Nat} {H : Nat × Nat}
theorem awk0 (W : World) (h : Its w [.mir B g H 3 3 E3 A0] W) : Calls Try.prog 23 #[.pointer (some ⟨g, 0, none⟩), .int .i64 5, .int .i64 0] W fun e w' => e = .returned (.int .i64 0) ∧ Its w [.mir B g H 3 3 E3 A1] w' := by
  have k := putS h 5 0
  rw [aw0] at k
  exact k
theorem awk1 (W : World) (h : Its w [.mir B g H 3 3 E3 A1] W) : Calls Try.prog 24 #[.pointer (some ⟨g, 0, none⟩), .int .i64 1, .int .i64 5, .int .i64 9] W fun e w' => e = .returned (.int .i64 0) ∧ Its w [.mir B g H 3 3 E3 A2] w' := by
  have k := sendS h 1 5 9
  rw [aw1] at k
  exact k
theorem awk2 (W : World) (h : Its w [.mir B g H 3 3 E3 A2] W) : Calls Try.prog 22 #[.pointer (some ⟨g, 0, none⟩), .int .i64 1] W fun e w' => e = .returned (.bool true) ∧ Its w [.mir B g H 3 3 E3 A2] w' := by
  have k := taken_m h.one 1
  rw [aw2] at k
  refine k.mono ?_
  rintro e w' ⟨he, hb⟩
  exact ⟨he, h.keep hb⟩
theorem awk3 (W : World) (h : Its w [.mir B g H 3 3 E3 A2] W) : Calls Try.prog 19 #[.pointer (some ⟨g, 0, none⟩), .int .i64 5] W fun e w' => e = .returned (.int .i64 0) ∧ Its w [.mir B g H 3 3 E3 A2] w' := by
  have k := where_m h.one 5
  rw [aw3] at k
  refine k.mono ?_
  rintro e w' ⟨he, rfl⟩
  exact ⟨he, h⟩
theorem awk4 (W : World) (h : Its w [.mir B g H 3 3 E3 A2] W) : Calls Try.prog 25 #[.pointer (some ⟨g, 0, none⟩), .int .i64 1, .int .i64 5] W fun e w' => e = .returned (.int .i64 0) ∧ Its w [.mir B g H 3 3 E3 A3] w' := by
  have k := movedS h 1 5
  rw [aw4] at k
  exact k
theorem awk5 (W : World) (h : Its w [.mir B g H 3 3 E3 A3] W) : Calls Try.prog 19 #[.pointer (some ⟨g, 0, none⟩), .int .i64 5] W fun e w' => e = .returned (.int .i64 1) ∧ Its w [.mir B g H 3 3 E3 A3] w' := by
  have k := where_m h.one 5
  rw [aw5] at k
  refine k.mono ?_
  rintro e w' ⟨he, rfl⟩
  exact ⟨he, h⟩
theorem awk6 (W : World) (h : Its w [.mir B g H 3 3 E3 A3] W) : Calls Try.prog 24 #[.pointer (some ⟨g, 0, none⟩), .int .i64 1, .int .i64 5, .int .i64 10] W fun e w' => e = .returned (.int .i64 160) ∧ Its w [.mir B g H 3 3 E3 A3] w' := by
  have k := sendS h 1 5 10
  rw [aw6, aw9] at k
  exact k
end

set_option maxRecDepth 100000 in
set_option maxHeartbeats 2000000 in
theorem awake_any (w : World) : Calls Try.prog 9 #[] w fun e w' => e = .returned (.bool true) ∧ Below w.heap.size w w' := by
  have h0 : Its w [] ((w.alloc (.cells #[.string ⟨#[97]⟩, .int .i64 1, .int .i64 0, .string ⟨#[98]⟩, .int .i64 1, .int .i64 0, .string ⟨#[99]⟩, .int .i64 1, .int .i64 0] 67)).alloc (.cells #[.int .i64 0, .int .i64 1, .int .i64 1, .int .i64 2, .int .i64 2, .int .i64 0] 42)) := ((Its.nil w).alloc _).alloc _
  have hN : ndE.Rd ((w.alloc (.cells #[.string ⟨#[97]⟩, .int .i64 1, .int .i64 0, .string ⟨#[98]⟩, .int .i64 1, .int .i64 0, .string ⟨#[99]⟩, .int .i64 1, .int .i64 0] 67)).alloc (.cells #[.int .i64 0, .int .i64 1, .int .i64 1, .int .i64 2, .int .i64 2, .int .i64 0] 42)) (.slice (some ⟨w.heap.size, 0, none⟩) 3 3) N3 := (El.Own.new ndE w w.heap.size (Nat.le_refl _) #[.string ⟨#[97]⟩, .int .i64 1, .int .i64 0, .string ⟨#[98]⟩, .int .i64 1, .int .i64 0, .string ⟨#[99]⟩, .int .i64 1, .int .i64 0] N3 rfl (by decide) _ _ _ rfl rfl rfl).rd.keep (below_new _ _)
  have hE : edE.Rd ((w.alloc (.cells #[.string ⟨#[97]⟩, .int .i64 1, .int .i64 0, .string ⟨#[98]⟩, .int .i64 1, .int .i64 0, .string ⟨#[99]⟩, .int .i64 1, .int .i64 0] 67)).alloc (.cells #[.int .i64 0, .int .i64 1, .int .i64 1, .int .i64 2, .int .i64 2, .int .i64 0] 42)) (.slice (some ⟨w.heap.size + 1, 0, none⟩) 3 3) E3 := (El.Own.new edE (w.alloc (.cells #[.string ⟨#[97]⟩, .int .i64 1, .int .i64 0, .string ⟨#[98]⟩, .int .i64 1, .int .i64 0, .string ⟨#[99]⟩, .int .i64 1, .int .i64 0] 67)) w.heap.size (below_new _ _).size #[.int .i64 0, .int .i64 1, .int .i64 1, .int .i64 2, .int .i64 2, .int .i64 0] E3 rfl (by decide) _ _ _ (by show _ = (w.heap.push _).size; simp) rfl rfl).rd
  have K := hide (new_ok (w := ((w.alloc (.cells #[.string ⟨#[97]⟩, .int .i64 1, .int .i64 0, .string ⟨#[98]⟩, .int .i64 1, .int .i64 0, .string ⟨#[99]⟩, .int .i64 1, .int .i64 0] 67)).alloc (.cells #[.int .i64 0, .int .i64 1, .int .i64 1, .int .i64 2, .int .i64 2, .int .i64 0] 42))) ⟨rfl, rfl, hN, hE, Nat.le_refl _, fun p hp => by
    simp only [N3, List.mem_cons, List.not_mem_nil, or_false] at hp
    rcases hp with rfl | rfl | rfl <;> decide⟩ good3)
  have H0 := hide h0
  clear h0 hN hE
  go_enter Try.func9, Try.ntmps9
  go_wp2_with (first
    | (go_at_call 24; refine (awk6 _ I6.out).mono ?_; rintro e w8 ⟨rfl, q⟩; have I7 := hide q; clear q)
    | (go_at_call 19; refine (awk5 _ I5.out).mono ?_; rintro e w7 ⟨rfl, q⟩; have I6 := hide q; clear q)
    | (go_at_call 25; refine (awk4 _ I4.out).mono ?_; rintro e w6 ⟨rfl, q⟩; have I5 := hide q; clear q)
    | (go_at_call 19; refine (awk3 _ I3.out).mono ?_; rintro e w5 ⟨rfl, q⟩; have I4 := hide q; clear q)
    | (go_at_call 22; refine (awk2 _ I2.out).mono ?_; rintro e w4 ⟨rfl, q⟩; have I3 := hide q; clear q)
    | (go_at_call 24; refine (awk1 _ I1.out).mono ?_; rintro e w3 ⟨rfl, q⟩; have I2 := hide q; clear q)
    | (go_at_call 23; refine (awk0 _ I0.out).mono ?_; rintro e w2 ⟨rfl, q⟩; have I1 := hide q; clear q)
    | (go_at_call 12; refine K.out.mono ?_; rintro e w1 ⟨g, H, rfl, q⟩; have I0 : Hid (Its w [.mir w.heap.size g H 3 3 E3 A0] w1) := hide (H0.out.addm q); clear q))
  go_ret
  exact ⟨rfl, I7.out.bel⟩

section
variable {w : World} {a a' : Option Addr} {c c' n m : Nat}
set_option maxRecDepth 100000 in
theorem few_any : Calls Try.prog 10 #[.agg #[.slice a n c, .slice a' m c']] w fun e w' => e = .returned (.bool (decide (n ≤ 60 ∧ m ≤ 200))) ∧ Below w.heap.size w w' := by
  have hB : Hid (∀ o, Below w.heap.size w (w.alloc o)) := hide (fun o => below_new _ _)
  by_cases h1 : n ≤ 60
  · have h1' : (n : Int) ≤ 60 := by omega
    by_cases h2 : m ≤ 200
    · have h2' : (m : Int) ≤ 200 := by omega
      rw [decide_eq_true ⟨h1, h2⟩]
      go_enter Try.func10, Try.ntmps10
      go_wp2_with fail
      go_ret
      exact ⟨rfl, hB.out _⟩
    · have h2' : ¬ (m : Int) ≤ 200 := by omega
      rw [decide_eq_false (fun h => h2 h.2)]
      go_enter Try.func10, Try.ntmps10
      go_wp2_with fail
      go_ret
      exact ⟨rfl, hB.out _⟩
  · have h1' : ¬ (n : Int) ≤ 60 := by omega
    rw [decide_eq_false (fun h => h1 h.1)]
    go_enter Try.func10, Try.ntmps10
    go_wp2_with fail
    go_ret
    exact ⟨rfl, hB.out _⟩
end
end Go.Proofs.Ytlnnpdghcilioaa
