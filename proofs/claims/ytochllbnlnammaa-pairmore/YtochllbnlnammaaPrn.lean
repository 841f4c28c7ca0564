/- No pairing drives less than the best one. -/
import Derived.Test.YtochllbnlnammaaPrh
namespace Go.Proofs.Ytochllbnlnammaa
open Go.RowKit
set_option linter.unusedVariables false

theorem mof_inc (k : Nat) (l : List Int) : ((mof k l).map Prod.fst).Nodup := by
  induction l generalizing k with
  | nil => simp [mof]
  | cons x l ih =>
    rw [mof]
    split
    · rw [List.map_cons, List.nodup_cons]
      refine ⟨fun h => ?_, ih (k + 1)⟩
      obtain ⟨p, hp, e⟩ := List.mem_map.1 h
      have := (mof_fst (k + 1) l p hp).1
      simp at e; omega
    · exact ih (k + 1)
theorem nod_snd {pre l : List Int} (k : Nat) (h : NoD pre l) : ((mof k l).map Prod.snd).Nodup ∧ ∀ g ∈ (mof k l).map Prod.snd, (g : Int) ∉ pre := by
  induction l generalizing pre k with
  | nil => simp [mof]
  | cons x l ih =>
    rw [NoD] at h
    obtain ⟨i1, i2⟩ := ih (k + 1) h.2
    rw [mof]
    split
    · rename_i hx
      refine ⟨?_, fun g hg => ?_⟩
      · rw [List.map_cons, List.nodup_cons]
        refine ⟨fun hm => i2 _ hm ?_, i1⟩
        rw [show ((x.toNat : Nat) : Int) = x by omega]; simp
      · rcases List.mem_cons.1 hg with rfl | hg
        · show ((x.toNat : Nat) : Int) ∉ pre
          rw [show ((x.toNat : Nat) : Int) = x by omega]
          rcases h.1 with h | h
          · omega
          · exact h
        · intro hm; exact i2 g hg (List.mem_append_left _ hm)
    · exact ⟨i1, fun g hg hm => i2 g hg (List.mem_append_left _ hm)⟩
theorem snd_nod {pre l : List Int} (k : Nat) (hl : ∀ x ∈ l, -1 ≤ x) (h : ((mof k l).map Prod.snd).Nodup) (hp : ∀ g ∈ (mof k l).map Prod.snd, (g : Int) ∉ pre) : NoD pre l := by
  induction l generalizing pre k with
  | nil => trivial
  | cons x l ih =>
    rw [NoD]
    rw [mof] at h hp
    have hx := hl x (List.mem_cons_self ..)
    by_cases h0 : 0 ≤ x
    · rw [if_pos h0] at h hp
      rw [List.map_cons, List.nodup_cons] at h
      refine ⟨.inr ?_, ih (k + 1) (fun y hy => hl y (List.mem_cons_of_mem _ hy)) h.2 (fun g hg hm => ?_)⟩
      · have := hp x.toNat (by simp)
        rwa [show ((x.toNat : Nat) : Int) = x by omega] at this
      · rcases List.mem_append.1 hm with hm | hm
        · exact hp g (List.mem_cons_of_mem _ hg) hm
        · simp at hm
          refine h.1 ?_
          show x.toNat ∈ _
          rw [← hm]; simpa using hg
    · rw [if_neg h0] at h hp
      refine ⟨.inl (by omega), ih (k + 1) (fun y hy => hl y (List.mem_cons_of_mem _ hy)) h (fun g hg hm => ?_)⟩
      rcases List.mem_append.1 hm with hm | hm
      · exact hp g hg hm
      · simp at hm; omega
theorem full_bit (m g : Nat) (h : g < m) : (2 ^ m - 1).testBit g = true := by rw [Nat.testBit_two_pow_sub_one]; exact decide_eq_true h
/-- a pairing is a matching -/
theorem mt_of {n m : Nat} {ps : List Int} (h : Pl n m ps) (hd : NoD [] ps) : Mt 0 n m (2 ^ m - 1) (mof 0 ps) := by
  refine ⟨mof_inc 0 ps, (nod_snd 0 hd).1, fun p hp => ?_⟩
  obtain ⟨h1, h2, h3⟩ := mof_fst 0 ps p hp
  have h4 := (h.2 _ (List.mem_of_getElem? h3)).2
  have : p.2 < m := by omega
  exact ⟨Nat.zero_le _, by rw [← h.1]; omega, this, full_bit m p.2 this⟩
/-- the greatest saving -/
def mxs (L M : List (Int × Int)) : Int := tp (sg L M) M.length L.length L.length (2 ^ M.length - 1)
theorem mxs_ub (L M : List (Int × Int)) (m : List (Nat × Nat)) (h : Mt 0 L.length M.length (2 ^ M.length - 1) m) : sv (sg L M) m ≤ mxs L M :=
  tp_ub (sg L M) M.length L.length L.length _ (Nat.le_refl _) m (by rw [Nat.sub_self]; exact h)
theorem bst_ok (L M : List (Int × Int)) : Mt 0 L.length M.length (2 ^ M.length - 1) (mof 0 (bst L M)) ∧ sv (sg L M) (mof 0 (bst L M)) = mxs L M := by
  have := lst_ok (sg L M) M.length L.length L.length (2 ^ M.length - 1) (Nat.le_refl _)
  rw [Nat.sub_self] at this
  exact ⟨this.1, this.2.1⟩
theorem cst_bst (L M : List (Int × Int)) : cst L M (bst L M) = tot L + tot M - mxs L M := by unfold cst; rw [(bst_ok L M).2]
theorem bst_nod (L M : List (Int × Int)) : NoD [] (bst L M) := snd_nod 0 (fun x hx => ((bst_pl L M).2 x hx).1) (bst_ok L M).1.b (fun g _ h => by cases h)
theorem cst_least {L M : List (Int × Int)} {ps : List Int} (h : Pl L.length M.length ps) (hd : NoD [] ps) : cst L M (bst L M) ≤ cst L M ps := by
  rw [cst_bst]
  have := mxs_ub L M _ (mt_of h hd)
  unfold cst
  omega
theorem bst_cost {L M : List (Int × Int)} (h1 : Alw L) (h2 : Alw M) : cstC L M (bst L M) = 0 ∧ cstN L M (bst L M) = cst L M (bst L M) :=
  cstC_ok ⟨h1, h2, (bst_pl L M).1⟩ (bst_pl L M).2 (bst_nod L M)
theorem cost_ge {L M : List (Int × Int)} {ps : List Int} (h : cstC L M ps = 0) : cst L M (bst L M) ≤ cstN L M ps := by
  by_cases h1 : Alw L ∧ Alw M ∧ ps.length = L.length
  · by_cases h2 : Rg M.length ps
    · by_cases h3 : NoD [] ps
      · rw [(cstC_ok h1 h2 h3).2]; exact cst_least ⟨h1.2.2, h2⟩ h3
      · rw [(cstC_two h1 h2 h3).1] at h; cases h
    · rw [(cstC_rg h1 h2).1] at h; cases h
  · rw [(cstC_bad h1).1] at h; cases h
theorem nod_none (pre : List Int) (n : Nat) : NoD pre (List.replicate n (-1)) := by
  induction n generalizing pre with
  | zero => trivial
  | succ n ih => exact ⟨.inl rfl, ih _⟩
theorem none_cost {L M : List (Int × Int)} (h1 : Alw L) (h2 : Alw M) : cstC L M (List.replicate L.length (-1)) = 0 :=
  (cstC_ok ⟨h1, h2, List.length_replicate⟩ (fun x hx => by rw [(List.mem_replicate.1 hx).2]; omega) (nod_none [] _)).1
end Go.Proofs.Ytochllbnlnammaa
