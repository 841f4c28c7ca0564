/- One tote alone in a mirror, moved device by device. Knows no program. -/
import Derived.Test.YtlnnpdghcilioaaMmt
namespace Go.Proofs.Ytlnnpdghcilioaa
set_option linter.unusedVariables false

structure Alone (S : Mr) (n : Nat) (es : List (Int × Int)) (t at' : Int) : Prop where
  ok : S.Ok n es
  tt : isT t = true
  nn : S.isN at' = true
  at' : ∀ x, S.att x = if x = at' then t else 0
  dv : ∀ D ∈ S.ds, D.tt = 0 ∧ D.dn = false
theorem whr_of {S : Mr} {n : Nat} {es : List (Int × Int)} (H : S.Ok n es) {t x : Int} (ht : isT t = true) (hn : S.isN x = true) (ha : S.att x = t) : S.whr t = x := by
  have hx := Mr.isN_iff.1 hn
  have hT := isT_iff.1 ht
  have h1 := Mr.att_at hn
  rw [ha] at h1
  unfold Mr.whr
  rw [if_pos ht, loc_yes h1 (fun i hi q => by have := H.one i _ t (by omega) q h1; omega)]
  omega
theorem whr_at {S : Mr} {t : Int} (ht : isT t = true) (h : S.whr t ≠ -1) : S.isN (S.whr t) = true ∧ S.att (S.whr t) = t := by
  unfold Mr.whr at h ⊢
  rw [if_pos ht] at h ⊢
  obtain ⟨k, h1, h2⟩ := loc_at h
  rw [h1]
  exact ⟨Mr.isN_iff.2 (by have := idx_lt h2; omega), Mr.att_nat h2⟩
theorem tak_free {S : Mr} {x : Int} (h0 : S.att x = 0) (hz : ∀ D ∈ S.ds, D.tt = 0) : S.tak x = false := by
  unfold Mr.tak
  rw [decide_eq_false (by rw [h0]; simp), Bool.false_or, List.any_eq_false]
  intro D hD
  simp [comes, hz D hD]
section
variable {S : Mr} {n : Nat} {es : List (Int × Int)} {t at' : Int} (H : Alone S n es t at')
include H
theorem Alone.whr : S.whr t = at' := whr_of H.ok H.tt H.nn (by rw [H.at', if_pos rfl])
theorem Alone.snd_no {d q : Int} (hno : ¬ (S.isD d = true ∧ (S.dev d).fr = at')) : (S.snd d t q).1 ≠ 0 ∧ (S.snd d t q).2 = S := by
  unfold Mr.snd
  by_cases h1 : (S.isD d && isT t && isQ q) = false
  · rw [if_pos h1]; exact ⟨by simp, rfl⟩
  rw [if_neg h1]
  by_cases h2 : ((S.dev d).dn || decide ((S.dev d).tt ≠ 0)) = true
  · rw [if_pos h2]; exact ⟨by simp, rfl⟩
  rw [if_neg h2]
  have h3 : (decide (S.att (S.dev d).fr ≠ t) || S.way t) = true := by
    simp only [Bool.not_eq_false, Bool.and_eq_true] at h1
    have hT := isT_iff.1 H.tt
    rw [H.at', if_neg (fun q => hno ⟨h1.1.1, q⟩), decide_eq_true (by omega)]; rfl
  rw [if_pos h3]
  exact ⟨by simp, rfl⟩
theorem Alone.snd_yes {d q : Int} (hd : S.isD d = true) (hf : (S.dev d).fr = at') (hq : isQ q = true) : (S.snd d t q).1 = 0 ∧ (S.snd d t q).2 = S.setD d { S.dev d with tt := t, sq := q, ev := true } := by
  have hm := (Mr.dev_at hd).2
  have ⟨z1, z2⟩ := H.dv _ hm
  have hT := isT_iff.1 H.tt
  unfold Mr.snd
  rw [if_neg (by rw [hd, H.tt, hq]; simp), if_neg (by rw [z1, z2]; simp)]
  have hw : S.way t = false := by
    unfold Mr.way
    rw [List.any_eq_false]
    intro D hD
    have := (H.dv D hD).1
    simp [takes, this]; omega
  rw [if_neg (by rw [hw, H.at', if_pos hf]; simp)]
  have hk : S.tak (S.dev d).en = false := by
    unfold Mr.tak
    have := (H.ok.ins hm).2.2
    rw [H.at', if_neg (fun q => this (by rw [hf, q]))]
    simp only [ne_eq, not_true_eq_false, decide_false, Bool.false_or]
    rw [List.any_eq_false]
    intro D hD
    simp [comes, (H.dv D hD).1]
  rw [if_neg (by rw [hk]; simp)]
  exact ⟨rfl, rfl⟩
theorem Alone.mov {d q : Int} (hd : S.isD d = true) (hf : (S.dev d).fr = at') (hq : isQ q = true) : (((S.snd d t q).2).mov d t).1 = 0 ∧ Alone (((S.snd d t q).2).mov d t).2 n es t (S.dev d).en ∧ (((S.snd d t q).2).mov d t).2.tak at' = false ∧ (((S.snd d t q).2).mov d t).2.att at' = 0 := by
  have hok := (H.ok.snd d t q).mov d t
  have ⟨_, e1⟩ := H.snd_yes hd hf hq
  have ⟨hat, hm⟩ := Mr.dev_at hd
  have ⟨i1, i2, i3⟩ := H.ok.ins hm
  have hT := isT_iff.1 H.tt
  rw [e1] at hok ⊢
  have hd' : (S.setD d { S.dev d with tt := t, sq := q, ev := true }).isD d = true := by
    rw [Mr.isD_iff] at hd ⊢
    simpa [Mr.setD] using hd
  have hdev : (S.setD d { S.dev d with tt := t, sq := q, ev := true }).dev d = { S.dev d with tt := t, sq := q, ev := true } := by
    unfold Mr.dev Mr.setD
    simp only
    rw [set_at hat]; rfl
  have hN : ∀ x, Mr.isN (S.setD d { S.dev d with tt := t, sq := q, ev := true }) x = S.isN x := fun x => rfl
  unfold Mr.mov at hok ⊢
  rw [if_neg (by rw [hd', H.tt]; simp), hdev, if_neg (by simp only; omega), if_neg (by simp)] at hok ⊢
  have hN2 := Mr.isN_iff.1 i2
  have f2' : Mr.isN ⟨S.ts.set (S.dev d).fr.toNat 0, S.ds⟩ (S.dev d).en = true := by rw [Mr.isN_iff]; simpa using hN2
  have hatt : ∀ (ds : List Dv) m, Mr.att ⟨(S.ts.set (S.dev d).fr.toNat 0).set (S.dev d).en.toNat t, ds⟩ m = if m = (S.dev d).en then t else 0 := fun ds m => by
    have := att_set (ds := ds) f2' t m
    rw [this]
    by_cases e : m = (S.dev d).en
    · rw [if_pos e, if_pos e]
    · rw [if_neg e, if_neg e, att_set i1 0 m]
      by_cases e2 : m = (S.dev d).fr
      · rw [if_pos e2]
      · rw [if_neg e2, H.at', if_neg (fun q => e2 (by rw [hf]; exact q))]
  have hz : ∀ D ∈ (S.setD d { S.dev d with tt := t, sq := q, ev := true }).ds.set (d - 1).toNat { S.dev d with tt := 0, sq := q, ev := true }, D.tt = 0 ∧ D.dn = false := fun D hD => by
    have hs : (S.setD d { S.dev d with tt := t, sq := q, ev := true }).ds.set (d - 1).toNat { S.dev d with tt := 0, sq := q, ev := true } = S.ds.set (d - 1).toNat { S.dev d with tt := 0, sq := q, ev := true } := by
      unfold Mr.setD; simp only [List.set_set]
    rw [hs] at hD
    rcases List.mem_or_eq_of_mem_set hD with q | q
    · exact H.dv D q
    · subst q; exact ⟨rfl, (H.dv _ hm).2⟩
  have hne : at' ≠ (S.dev d).en := fun q => i3 (by rw [hf, q])
  refine ⟨rfl, ⟨hok, H.tt, ?_, fun x => hatt _ x, hz⟩, ?_, ?_⟩
  · rw [Mr.isN_iff]; simpa [Mr.setD] using hN2
  · exact tak_free (by have h0 := hatt ((S.setD d { S.dev d with tt := t, sq := q, ev := true }).ds.set (d - 1).toNat { S.dev d with tt := 0, sq := q, ev := true }) at'; rw [if_neg hne] at h0; exact h0) (fun D hD => (hz D hD).1)
  · have h0 := hatt ((S.setD d { S.dev d with tt := t, sq := q, ev := true }).ds.set (d - 1).toNat { S.dev d with tt := 0, sq := q, ev := true }) at'
    rw [if_neg hne] at h0
    exact h0
end
theorem alone_put {n : Nat} {es : List (Int × Int)} {S : Mr} (H : S.Ok n es) (h0 : ∀ x, S.att x = 0) (hz : ∀ D ∈ S.ds, D.tt = 0 ∧ D.dn = false) {t x : Int} (hp : (S.put t x).1 = 0) : Alone (S.put t x).2 n es t x := by
  have hok := H.put t x
  unfold Mr.put at hp hok ⊢
  by_cases h1 : (isT t && S.isN x) = false
  · rw [if_pos h1] at hp; simp at hp
  rw [if_neg h1] at hp hok ⊢
  by_cases h2 : S.whr t ≠ -1
  · rw [if_pos h2] at hp; simp at hp
  rw [if_neg h2] at hp hok ⊢
  by_cases h3 : S.tak x = true
  · rw [if_pos h3] at hp; simp at hp
  rw [if_neg h3] at hok ⊢
  simp only [Bool.not_eq_false, Bool.and_eq_true] at h1
  refine ⟨hok, h1.1, ?_, fun y => ?_, hz⟩
  · have := Mr.isN_iff.1 h1.2
    rw [Mr.isN_iff]; simpa using this
  · rw [att_set h1.2, h0]
end Go.Proofs.Ytlnnpdghcilioaa
