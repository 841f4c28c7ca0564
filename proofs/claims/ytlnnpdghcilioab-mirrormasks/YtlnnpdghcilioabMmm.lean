/- A device that is masked, and mended. Knows no program. -/
import Derived.Test.YtlnnpdghcilioabRmr
namespace Go.Proofs.Ytlnnpdghcilioab
set_option linter.unusedVariables false

section
variable {S : Mr} {n : Nat} {es : List (Int × Int)} (H : S.Ok n es) {d : Int} (hd : S.isD d = true)
include H hd
omit H in
theorem mk1 (b : Bool) : (S.msk d b).1 = 0 ∧ (S.msk d b).2 = S.setD d { S.dev d with dn := b } := by
  rcases msk_cases S d b with ⟨h1, h2⟩ | ⟨h1, h2, _⟩
  · unfold Mr.msk at h1
    rw [if_neg (by rw [hd]; simp)] at h1
    exact absurd rfl h1
  · exact ⟨h1, h2⟩
omit H in
theorem mk2 (h : (S.dev d).dn = true) : S.snd d 1 0 = (140, S) := by
  unfold Mr.snd
  rw [if_neg (by rw [hd]; decide), if_pos (by rw [h]; rfl)]
omit H in
theorem mk3 (b : Bool) : (S.setD d { S.dev d with dn := b }).told d = S.told d := by
  unfold Mr.told
  rw [isD_setD, dev_setD hd hd, if_pos rfl]
theorem mk4 (h : (S.dev d).tt ≠ 0) : (S.mov d (S.dev d).tt).1 = 0 ∧ (S.mov d (S.dev d).tt).2.whr (S.dev d).tt = (S.dev d).en ∧ (S.mov d (S.dev d).tt).2.down = S.down ∧ (S.mov d (S.dev d).tt).2.isD d = true := by
  have hm := (Mr.dev_at hd).2
  have ⟨i1, i2, i3⟩ := H.ins hm
  have ⟨t1, t2, t3⟩ := H.td _ hm h
  have hin : (S.dev d).tt ∈ S.ts := (mem_att h).2 ⟨_, i1, t1⟩
  have hr := H.rg _ hin
  have ht : isT (S.dev d).tt = true := isT_iff.2 (by omega)
  have hok := H.mov d (S.dev d).tt
  rcases mov_cases S d (S.dev d).tt with ⟨h1, h2⟩ | ⟨h1, h2, _⟩
  · unfold Mr.mov at h1
    rw [if_neg (by rw [hd, ht]; simp), if_neg h, if_neg (by simp)] at h1
    exact absurd rfl h1
  · rw [h2] at hok
    refine ⟨h1, ?_, ?_, ?_⟩
    · rw [h2]
      refine whr_of hok ht ?_ ?_
      · have := Mr.isN_iff.1 i2
        rw [Mr.isN_iff]; simpa using this
      · rw [mov_att H hd, if_pos rfl]
    · rw [h2]
      exact down_same hd { S.dev d with tt := 0 } rfl
    · rw [h2]
      have : (S.setD d { S.dev d with tt := 0 }).isD d = S.isD d := isD_setD
      exact this.trans hd
omit H in
theorem mk5 : d ∈ (S.setD d { S.dev d with dn := true }).down := by
  rw [down_setD hd, List.mem_filter]
  have := Mr.isD_iff.1 hd
  exact ⟨List.mem_map.2 ⟨(d - 1).toNat, List.mem_range.2 (by omega), by omega⟩, by simp⟩
end
theorem mk6 {S T : Mr} {d : Int} (hd : S.isD d = true) (hT : T.isD d = true) (h : T.down = (S.setD d { S.dev d with dn := true }).down) (hl : T.ds.length = S.ds.length) : (T.setD d { T.dev d with dn := false }).down = S.down.filter (fun x => decide (x ≠ d)) := by
  have key : ∀ x ∈ (List.range S.ds.length).map (fun i : Nat => (i : Int) + 1), x ≠ d → (T.dev x).dn = (S.dev x).dn := fun x hx hne => by
    have h1 := down_filter T
    rw [hl] at h1
    rw [down_setD hd, h1] at h
    have : x ∈ ((List.range S.ds.length).map (fun i : Nat => (i : Int) + 1)).filter (fun x => (T.dev x).dn) ↔ x ∈ ((List.range S.ds.length).map (fun i : Nat => (i : Int) + 1)).filter (fun x => if x = d then true else (S.dev x).dn) := by rw [h]
    rw [List.mem_filter, List.mem_filter, if_neg hne] at this
    rw [Bool.eq_iff_iff]
    exact ⟨fun q => (this.1 ⟨hx, q⟩).2, fun q => (this.2 ⟨hx, q⟩).2⟩
  rw [down_setD hT, hl, down_filter S, List.filter_filter]
  refine List.filter_congr fun x hx => ?_
  by_cases e : x = d
  · simp [e]
  · rw [if_neg e, key x hx e]; simp [e]
end Go.Proofs.Ytlnnpdghcilioab
