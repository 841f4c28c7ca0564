/- The layouts of LayoutLimits: which are good. -/
import Derived.Test.YtpjolnaomdmnnaaDoorRgd
import Derived.Test.YtpjolnaomdmnnaaDoorDig
namespace Go.Proofs.YtpjolnaomdmnnaaDoor
open Go.RowKit
set_option linter.unusedVariables false
theorem mod_in (a : Int) (m : Nat) (hm : 1 ≤ m) (hm' : m ≤ 1000) : ∃ N : Nat, wrap64 ((IntKind.u64.wrap a).tmod (m : Int)) = (N : Int) ∧ N < m := by
  have h0 : 0 ≤ IntKind.u64.wrap a := by simp [IntKind.wrap, IntKind.bits, IntKind.signed]; omega
  have e : (IntKind.u64.wrap a).tmod (m : Int) = IntKind.u64.wrap a % (m : Int) := Int.tmod_eq_emod_of_nonneg h0
  rw [e]
  generalize IntKind.u64.wrap a = b at h0
  have h1 : 0 ≤ b % (m : Int) := Int.emod_nonneg _ (by omega)
  have h2 : b % (m : Int) < (m : Int) := Int.emod_lt_of_pos _ (by omega)
  refine ⟨(b % (m : Int)).toNat, ?_, by omega⟩
  unfold wrap64
  omega

def nmL (i : Nat) : ByteArray := str [110] ++ dig i
def ndL (i : Nat) : Nd := ⟨nmL i, 1, ((i % 8 : Nat) : Int)⟩
def edL (n i : Nat) : Ed := (((i % n : Nat) : Int), (((i + 1 + i / n) % n : Nat) : Int))
def nsL (n : Nat) : List Nd := (List.range n).map ndL
def esL (n m : Nat) : List Ed := if 4 < n then (List.range m).map (edL n) else []
theorem nsL_len (n : Nat) : (nsL n).length = n := by simp [nsL]
theorem nsL_next (n : Nat) : nsL (n + 1) = nsL n ++ [ndL n] := by simp [nsL, List.range_succ]
theorem nsL_take (n k : Nat) (h : n ≤ k) : nsL n = (nsL k).take n := by
  unfold nsL
  rw [← List.map_take, List.take_range, Nat.min_eq_left h]
theorem good40 : goodN (nsL 40) = true := by decide +kernel
theorem goodEs : ∀ n : Fin 20, goodE (nsL (21 + n.val)) (esL (21 + n.val) 120) = true := by decide +kernel
theorem goodN_take {ns : List Nd} (h : goodN ns = true) (n : Nat) (h1 : 1 ≤ n) (h2 : n ≤ ns.length) : goodN (ns.take n) = true := by
  unfold goodN at h ⊢
  have hh := of_decide_eq_true h
  refine decide_eq_true ⟨by rw [List.length_take]; omega, by rw [List.length_take]; omega, fun m hm => hh.2.2.1 m (List.mem_of_mem_take hm), ?_⟩
  rw [List.map_take]
  exact hh.2.2.2.sublist (List.take_sublist _ _)
theorem goodE_take {ns : List Nd} {es : List Ed} (h : goodE ns es = true) (m : Nat) : goodE ns (es.take m) = true := by
  unfold goodE at h ⊢
  have hh := of_decide_eq_true h
  exact decide_eq_true ⟨by rw [List.length_take]; omega, fun e he => hh.2.1 e (List.mem_of_mem_take he), hh.2.2.sublist (List.take_sublist _ _)⟩
theorem lim_good (n m : Nat) (h : 20 < n) : good (nsL n) (esL n m) = decide (n ≤ 40 ∧ m ≤ 120) := by
  have le : (esL n m).length = m := by unfold esL; rw [if_pos (by omega)]; simp
  by_cases hh : n ≤ 40 ∧ m ≤ 120
  · rw [decide_eq_true hh]
    unfold good
    have h1 : goodN (nsL n) = true := by rw [nsL_take n 40 hh.1]; exact goodN_take good40 n (by omega) (by rw [nsL_len]; omega)
    have h2 : goodE (nsL n) (esL n m) = true := by
      have e : esL n m = (esL n 120).take m := by
        unfold esL
        rw [if_pos (by omega), if_pos (by omega), ← List.map_take, List.take_range, Nat.min_eq_left hh.2]
      rw [e]
      have := goodEs ⟨n - 21, by omega⟩
      simp only [show 21 + (n - 21) = n by omega] at this
      exact goodE_take this m
    rw [h1, h2]; rfl
  · rw [decide_eq_false hh]
    unfold good goodN goodE
    by_cases h1 : n ≤ 40
    · rw [Bool.and_eq_false_iff]; exact .inr (decide_eq_false (by rw [le]; omega))
    · rw [decide_eq_false (by rw [nsL_len]; omega)]; rfl
end Go.Proofs.YtpjolnaomdmnnaaDoor
