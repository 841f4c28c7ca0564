/- GateLimits: rows of numbers that wait and go in. -/
import Derived.Test.YtdnkgfljkdbckaaGtf
import Derived.Test.YtdnkgfljkdbckaaLag
import Derived.Deep.CutBlock
namespace Go.Proofs.Ytdnkgfljkdbckaa
open Go.RowKit
set_option linter.unusedVariables false

/-- so many numbers from one on -/
def rg (a n : Nat) : List Int := (List.range' a n).map (fun k : Nat => (k : Int))
theorem mem_rg {a n : Nat} {x : Int} : x ∈ rg a n ↔ ∃ k : Nat, a ≤ k ∧ k < a + n ∧ x = (k : Int) := by
  unfold rg
  rw [List.mem_map]
  constructor
  · rintro ⟨k, hk, rfl⟩
    rw [List.mem_range'_1] at hk
    exact ⟨k, hk.1, hk.2, rfl⟩
  · rintro ⟨k, h1, h2, rfl⟩
    exact ⟨k, List.mem_range'_1.2 ⟨h1, h2⟩, rfl⟩
theorem rg_len (a n : Nat) : (rg a n).length = n := by simp [rg]
theorem rg_nodup (a n : Nat) : (rg a n).Nodup := by
  unfold rg List.Nodup
  rw [List.pairwise_map]
  exact (List.nodup_range').imp (fun h e => h (by omega))
theorem rg_last (a n : Nat) : rg a (n + 1) = rg a n ++ [((a + n : Nat) : Int)] := by
  unfold rg
  rw [List.range'_concat, List.map_append]; simp
theorem rg_head (a n : Nat) : rg a (n + 1) = (a : Int) :: rg (a + 1) n := by
  unfold rg
  rw [List.range'_succ]; simp
theorem rg_in {a n k : Nat} (h1 : a ≤ k) (h2 : k < a + n) : (k : Int) ∈ rg a n := mem_rg.2 ⟨k, h1, h2, rfl⟩
theorem rg_out {a n k : Nat} (h : k < a ∨ a + n ≤ k) : (k : Int) ∉ rg a n := fun h' => by
  obtain ⟨j, h1, h2, h3⟩ := mem_rg.1 h'
  omega

def s1 (N i : Nat) : Gt := ⟨N, rg 0 i, []⟩
def s2 (N j : Nat) : Gt := ⟨N, rg j (64 - j), rg 0 j⟩
def s3 (N a : Nat) : Gt := ⟨N, (rg N (64 - N)).erase (a : Int), rg 0 N⟩
def s4 (N a : Nat) : Gt := ⟨N, (rg N (64 - N)).erase (a : Int) ++ [64], rg 0 N⟩

theorem l1 {N i : Nat} (h : i < 64) : (s1 N i).acC (i : Int) = 0 := Gt.acC_yes (rg_out (.inr (by omega))) (by simp [s1]) (by simp [s1, rg_len]; exact h)
theorem l1s {N i : Nat} (h : i < 64) : (s1 N i).ac (i : Int) = s1 N (i + 1) := by
  rw [Gt.ac_yes (l1 h)]
  unfold s1
  rw [rg_last, Nat.zero_add]
theorem l0 (N : Nat) : s1 N 64 = s2 N 0 := rfl
theorem l2 {N j : Nat} (h : j ≤ 64) : (s2 N j).acC 64 = 5 := by
  unfold Gt.acC
  rw [if_neg, if_pos]
  · simp only [s2, rg_len]; omega
  · rintro (q | q)
    · exact rg_out (k := 64) (.inr (by omega)) q
    · exact rg_out (k := 64) (.inr (by omega)) q
theorem l3 {N j : Nat} (h : j < 64) : (s2 N j).acC (j : Int) = 2 := if_pos (.inl (rg_in (Nat.le_refl _) (by omega)))
theorem l4h {N j : Nat} (h : j < 64) : (s2 N j).wt = (j : Int) :: rg (j + 1) (64 - (j + 1)) := by
  show rg j (64 - j) = _
  rw [show 64 - j = 64 - (j + 1) + 1 by omega, rg_head]
theorem l4 {N j : Nat} (h : j < N) (hN : N ≤ 16) : (s2 N j).arC (j : Int) = 0 := Gt.arC_yes (l4h (by omega)) (by simp only [s2, rg_len]; exact h)
theorem l4s {N j : Nat} (h : j < N) (hN : N ≤ 16) : (s2 N j).ar (j : Int) = s2 N (j + 1) := by
  rw [Gt.ar_yes (l4 h hN), l4h (by omega)]
  unfold s2
  rw [rg_last, Nat.zero_add]; rfl
theorem l5n {N j : Nat} : (j : Int) ∉ (s2 N (j + 1)).wt := rg_out (.inl (by omega))
theorem l5 {N j : Nat} : (s2 N (j + 1)).fc (j : Int) = 140 := by
  unfold Gt.fc
  rw [if_neg l5n]
  exact if_pos (rg_in (Nat.zero_le _) (by omega))
theorem l5s {N j : Nat} : (s2 N (j + 1)).ca (j : Int) = s2 N (j + 1) := Gt.ca_no l5n
theorem l6 {N : Nat} (hN : N ≤ 16) : (s2 N N).arC (N : Int) = 5 := Gt.arC_full (l4h (by omega)) (by simp only [s2, rg_len]; exact Nat.le_refl _)
theorem l6s {N : Nat} (hN : N ≤ 16) : (s2 N N).ar (N : Int) = s2 N N := Gt.ar_no (by rw [l6 hN]; decide)
theorem l6c {N : Nat} : ((s2 N N).cr : Int) - ((s2 N N).ins.length : Int) = 0 := by simp only [s2, rg_len]; omega
theorem l7 {N a : Nat} (h1 : N ≤ a) (h2 : a < 64) : (s2 N N).fc (a : Int) = 0 := if_pos (rg_in h1 (by omega))
theorem l7s {N a : Nat} : (s2 N N).ca (a : Int) = s3 N a := rfl
theorem l8n {N a : Nat} : (a : Int) ∉ (s3 N a).wt := fun h => by
  have := (List.Nodup.mem_erase_iff (rg_nodup N (64 - N))).1 h
  exact this.1 rfl
theorem l8 {N a : Nat} (h1 : N ≤ a) : (s3 N a).fc (a : Int) = 4 := by
  unfold Gt.fc
  rw [if_neg l8n]
  exact if_neg (rg_out (.inr (by omega)))
theorem l8s {N a : Nat} : (s3 N a).ca (a : Int) = s3 N a := Gt.ca_no l8n
theorem l9n {N a : Nat} (h1 : N ≤ a) (h2 : a < 64) : (s3 N a).wt.length = 63 - N := by
  show ((rg N (64 - N)).erase (a : Int)).length = _
  rw [List.length_erase_of_mem (rg_in h1 (by omega)), rg_len]; omega
theorem l9 {N a : Nat} (h1 : N ≤ a) (h2 : a < 64) : (s3 N a).acC 64 = 0 := by
  refine Gt.acC_yes (fun q => rg_out (a := N) (n := 64 - N) (k := 64) (.inr (by omega)) (List.mem_of_mem_erase q)) (rg_out (k := 64) (.inr (by omega))) ?_
  rw [l9n h1 h2]
  simp only [s3, rg_len]; omega
theorem l9s {N a : Nat} (h1 : N ≤ a) (h2 : a < 64) : (s3 N a).ac 64 = s4 N a := by rw [Gt.ac_yes (l9 h1 h2)]; rfl
theorem l10 {N a : Nat} (h1 : N ≤ a) (h2 : a < 64) : (s4 N a).acC (a : Int) = 5 := by
  unfold Gt.acC
  rw [if_neg, if_pos]
  · have := l9n h1 h2
    have e : (s4 N a).wt.length = (s3 N a).wt.length + 1 := by show ((s3 N a).wt ++ [64]).length = _; simp
    have e2 : (s4 N a).ins.length = N := rg_len 0 N
    omega
  · rintro (q | q)
    · rcases List.mem_append.1 q with q | q
      · exact l8n q
      · simp at q; omega
    · exact rg_out (.inr (by omega)) q
theorem l10s {N a : Nat} (h1 : N ≤ a) (h2 : a < 64) : (s4 N a).ac (a : Int) = s4 N a := Gt.ac_no (by rw [l10 h1 h2]; decide)
end Go.Proofs.Ytdnkgfljkdbckaa
