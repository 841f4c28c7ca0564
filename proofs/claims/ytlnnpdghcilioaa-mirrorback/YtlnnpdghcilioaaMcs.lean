/- What each call of a mirror does, told backwards: it was refused and changed nothing, or it was done. Knows no program. -/
import Derived.Test.YtlnnpdghcilioaaMwm
namespace Go.Proofs.Ytlnnpdghcilioaa
set_option linter.unusedVariables false

theorem put_cases (S : Mr) (t x : Int) : ((S.put t x).1 ≠ 0 ∧ (S.put t x).2 = S) ∨ ((S.put t x).1 = 0 ∧ (S.put t x).2 = { S with ts := S.ts.set x.toNat t } ∧ isT t = true ∧ S.isN x = true ∧ S.whr t = -1 ∧ S.tak x = false) := by
  unfold Mr.put
  by_cases h1 : (isT t && S.isN x) = false
  · rw [if_pos h1]; exact .inl ⟨by simp, rfl⟩
  rw [if_neg h1]
  by_cases h2 : S.whr t ≠ -1
  · rw [if_pos h2]; exact .inl ⟨by simp, rfl⟩
  rw [if_neg h2]
  by_cases h3 : S.tak x = true
  · rw [if_pos h3]; exact .inl ⟨by simp, rfl⟩
  rw [if_neg h3]
  simp only [Bool.not_eq_false, Bool.and_eq_true] at h1
  exact .inr ⟨rfl, rfl, h1.1, h1.2, by simpa using h2, by simpa using h3⟩
theorem snd_cases (S : Mr) (d t q : Int) : ((S.snd d t q).1 ≠ 0 ∧ (S.snd d t q).2 = S) ∨ ((S.snd d t q).1 = 0 ∧ (S.snd d t q).2 = S.setD d { S.dev d with tt := t, sq := q, ev := true } ∧ S.isD d = true ∧ isT t = true ∧ isQ q = true ∧ (S.dev d).dn = false ∧ (S.dev d).tt = 0 ∧ S.att (S.dev d).fr = t ∧ S.way t = false ∧ S.tak (S.dev d).en = false) := by
  unfold Mr.snd
  by_cases h1 : (S.isD d && isT t && isQ q) = false
  · rw [if_pos h1]; exact .inl ⟨by simp, rfl⟩
  rw [if_neg h1]
  by_cases h2 : ((S.dev d).dn || decide ((S.dev d).tt ≠ 0)) = true
  · rw [if_pos h2]; exact .inl ⟨by simp, rfl⟩
  rw [if_neg h2]
  by_cases h3 : (decide (S.att (S.dev d).fr ≠ t) || S.way t) = true
  · rw [if_pos h3]; exact .inl ⟨by simp, rfl⟩
  rw [if_neg h3]
  by_cases h4 : S.tak (S.dev d).en = true
  · rw [if_pos h4]; exact .inl ⟨by simp, rfl⟩
  rw [if_neg h4]
  simp only [Bool.not_eq_false, Bool.and_eq_true] at h1
  simp only [Bool.or_eq_true, decide_eq_true_eq, not_or, Decidable.not_not, Bool.not_eq_true] at h2 h3
  exact .inr ⟨rfl, rfl, h1.1.1, h1.1.2, h1.2, h2.1, h2.2, h3.1, h3.2, by simpa using h4⟩
theorem mov_cases (S : Mr) (d t : Int) : ((S.mov d t).1 ≠ 0 ∧ (S.mov d t).2 = S) ∨ ((S.mov d t).1 = 0 ∧ (S.mov d t).2 = ⟨(S.ts.set (S.dev d).fr.toNat 0).set (S.dev d).en.toNat t, S.ds.set (d - 1).toNat { S.dev d with tt := 0 }⟩ ∧ S.isD d = true ∧ isT t = true ∧ (S.dev d).tt = t) := by
  unfold Mr.mov
  by_cases h1 : (S.isD d && isT t) = false
  · rw [if_pos h1]; exact .inl ⟨by simp, rfl⟩
  rw [if_neg h1]
  by_cases h2 : (S.dev d).tt = 0
  · rw [if_pos h2]; exact .inl ⟨by simp, rfl⟩
  rw [if_neg h2]
  by_cases h3 : (S.dev d).tt ≠ t
  · rw [if_pos h3]; exact .inl ⟨by simp, rfl⟩
  rw [if_neg h3]
  simp only [Bool.not_eq_false, Bool.and_eq_true] at h1
  exact .inr ⟨rfl, rfl, h1.1, h1.2, by simpa using h3⟩
theorem drp_cases (S : Mr) (d : Int) : ((S.drp d).1 ≠ 0 ∧ (S.drp d).2 = S) ∨ ((S.drp d).1 = 0 ∧ (S.drp d).2 = S.setD d { S.dev d with tt := 0 } ∧ S.isD d = true ∧ (S.dev d).tt ≠ 0) := by
  unfold Mr.drp
  by_cases h1 : S.isD d = false
  · rw [if_pos h1]; exact .inl ⟨by simp, rfl⟩
  rw [if_neg h1]
  by_cases h2 : (S.dev d).tt = 0
  · rw [if_pos h2]; exact .inl ⟨by simp, rfl⟩
  rw [if_neg h2]
  exact .inr ⟨rfl, rfl, by simpa using h1, h2⟩
theorem msk_cases (S : Mr) (d : Int) (b : Bool) : ((S.msk d b).1 ≠ 0 ∧ (S.msk d b).2 = S) ∨ ((S.msk d b).1 = 0 ∧ (S.msk d b).2 = S.setD d { S.dev d with dn := b } ∧ S.isD d = true) := by
  unfold Mr.msk
  by_cases h1 : S.isD d = false
  · rw [if_pos h1]; exact .inl ⟨by simp, rfl⟩
  rw [if_neg h1]
  exact .inr ⟨rfl, rfl, by simpa using h1⟩
/-- where the totes are behind a Moved -/
theorem mov_att {S : Mr} {n : Nat} {es : List (Int × Int)} (H : S.Ok n es) {d : Int} (hd : S.isD d = true) (t : Int) (ds : List Dv) (m : Int) : Mr.att ⟨(S.ts.set (S.dev d).fr.toNat 0).set (S.dev d).en.toNat t, ds⟩ m = if m = (S.dev d).en then t else if m = (S.dev d).fr then 0 else S.att m := by
  have ⟨f1, f2, f3⟩ := H.ins (Mr.dev_at hd).2
  have N2 := Mr.isN_iff.1 f2
  have f2' : Mr.isN ⟨S.ts.set (S.dev d).fr.toNat 0, S.ds⟩ (S.dev d).en = true := by rw [Mr.isN_iff]; simpa using N2
  have := att_set (ds := ds) f2' t m
  rw [this]
  by_cases e : m = (S.dev d).en
  · rw [if_pos e, if_pos e]
  · rw [if_neg e, if_neg e]; exact att_set f1 0 m
/-- a tote is somewhere -/
theorem mem_att {S : Mr} {t : Int} (ht : t ≠ 0) : t ∈ S.ts ↔ ∃ x, S.isN x = true ∧ S.att x = t := by
  constructor
  · intro h
    obtain ⟨k, hk⟩ := List.getElem?_of_mem h
    exact ⟨k, Mr.isN_iff.2 (by have := idx_lt hk; omega), Mr.att_nat hk⟩
  · rintro ⟨x, h1, h2⟩
    have := Mr.att_at h1
    rw [h2] at this
    exact List.mem_of_getElem? this
theorem whr_mem {S : Mr} {t : Int} (ht : isT t = true) : decide (0 ≤ S.whr t) = decide (t ∈ S.ts) := by
  unfold Mr.whr
  rw [if_pos ht]
  by_cases h : t ∈ S.ts
  · rw [(loc_in h).1, decide_eq_true h, decide_eq_true (by omega)]
  · rw [loc_no h, decide_eq_false h]; rfl
theorem tak_no {S : Mr} {x : Int} (h : S.tak x = false) : S.att x = 0 ∧ ∀ D ∈ S.ds, D.tt ≠ 0 → D.en ≠ x := by
  unfold Mr.tak at h
  rw [Bool.or_eq_false_iff] at h
  refine ⟨by simpa using h.1, fun D hD h0 q => ?_⟩
  have := List.any_eq_false.1 h.2 D hD
  simp [comes, h0, q] at this
/-- which totes are in it behind a note -/
theorem app_mem {S : Mr} {n : Nat} {es : List (Int × Int)} (H : S.Ok n es) (x : Nt) {t : Int} (ht : isT t = true) :
    (t ∈ (S.app x).2.ts ↔ t ∈ S.ts ∨ (t = x.a ∧ (S.app x).1 = 0 ∧ x.kind = 1)) := by
  have hT := isT_iff.1 ht
  have same : ∀ P : Int × Mr, P.2.ts = S.ts → x.kind ≠ 1 → (t ∈ P.2.ts ↔ t ∈ S.ts ∨ (t = x.a ∧ P.1 = 0 ∧ x.kind = 1)) := fun P h h1 => by
    rw [h]
    exact ⟨.inl, fun q => q.elim id (fun q => absurd q.2.2 h1)⟩
  unfold Mr.app
  by_cases k1 : x.kind = 1
  · rw [if_pos k1]
    rcases put_cases S x.a x.b with ⟨h1, h2⟩ | ⟨h1, h2, h3, h4, h5, h6⟩
    · rw [h2]
      exact ⟨.inl, fun q => q.elim id (fun q => absurd q.2.1 h1)⟩
    · rw [h2]
      have hN := Mr.isN_iff.1 h4
      have h0 := (tak_no h6).1
      rw [mem_att (by omega), mem_att (S := S) (by omega)]
      have hN' : ∀ y, Mr.isN { S with ts := S.ts.set x.b.toNat x.a } y = S.isN y := fun y => by unfold Mr.isN; simp only [List.length_set]
      constructor
      · rintro ⟨y, y1, y2⟩
        rw [att_set h4] at y2
        rw [hN'] at y1
        by_cases e : y = x.b
        · rw [if_pos e] at y2; exact .inr ⟨y2.symm, h1, k1⟩
        · rw [if_neg e] at y2; exact .inl ⟨y, y1, y2⟩
      · rintro (⟨y, y1, y2⟩ | ⟨rfl, _⟩)
        · exact ⟨y, by rw [hN']; exact y1, by rw [att_set h4, if_neg (fun q => by rw [q, h0] at y2; omega)]; exact y2⟩
        · exact ⟨x.b, by rw [hN']; exact h4, by rw [att_set h4, if_pos rfl]⟩
  rw [if_neg k1]
  by_cases k4 : x.kind = 4
  · rw [if_pos k4]
    refine same _ ?_ k1
    rcases snd_cases S x.a x.b x.c with ⟨h1, h2⟩ | ⟨h1, h2, _⟩ <;> rw [h2] <;> rfl
  rw [if_neg k4]
  by_cases k5 : x.kind = 5
  · rw [if_pos k5]
    rcases mov_cases S x.a x.b with ⟨h1, h2⟩ | ⟨h1, h2, h3, h4, h5⟩
    · exact same _ (by rw [h2]) k1
    · have hm := (Mr.dev_at h3).2
      have ⟨i1, i2, i3⟩ := H.ins hm
      have hT' := isT_iff.1 h4
      have ⟨t1, t2, t3⟩ := H.td _ hm (by rw [h5]; omega)
      have hN' : ∀ y, Mr.isN ⟨(S.ts.set (S.dev x.a).fr.toNat 0).set (S.dev x.a).en.toNat x.b, S.ds.set (x.a - 1).toNat { S.dev x.a with tt := 0 }⟩ y = S.isN y := fun y => by unfold Mr.isN; simp only [List.length_set]
      rw [h2, mem_att (by omega), mem_att (S := S) (by omega)]
      constructor
      · rintro ⟨y, y1, y2⟩
        rw [mov_att H h3] at y2
        rw [hN'] at y1
        refine .inl ?_
        by_cases e : y = (S.dev x.a).en
        · rw [if_pos e] at y2
          exact ⟨(S.dev x.a).fr, i1, by rw [t1, h5]; exact y2⟩
        · rw [if_neg e] at y2
          by_cases e2 : y = (S.dev x.a).fr
          · rw [if_pos e2] at y2; omega
          · rw [if_neg e2] at y2; exact ⟨y, y1, y2⟩
      · rintro (⟨y, y1, y2⟩ | ⟨_, _, q⟩)
        · by_cases e2 : y = (S.dev x.a).fr
          · refine ⟨(S.dev x.a).en, by rw [hN']; exact i2, ?_⟩
            rw [mov_att H h3, if_pos rfl, ← y2, e2, t1, h5]
          · refine ⟨y, by rw [hN']; exact y1, ?_⟩
            rw [mov_att H h3, if_neg (fun q => by rw [q, t2] at y2; omega), if_neg e2]
            exact y2
        · exact absurd q k1
  rw [if_neg k5]
  by_cases k7 : x.kind = 7
  · rw [if_pos k7]
    refine same _ ?_ k1
    rcases drp_cases S x.a with ⟨h1, h2⟩ | ⟨h1, h2, _⟩ <;> rw [h2] <;> rfl
  rw [if_neg k7]
  by_cases k8 : x.kind = 8
  · rw [if_pos k8]
    refine same _ ?_ k1
    rcases msk_cases S x.a (decide (x.b = 1)) with ⟨h1, h2⟩ | ⟨h1, h2, _⟩ <;> rw [h2] <;> rfl
  rw [if_neg k8]
  exact same _ rfl k1
theorem app_a {S : Mr} {x : Nt} (h : (S.app x).1 = 0) (hk : x.kind = 1) : isT x.a = true := by
  unfold Mr.app at h
  rw [if_pos hk] at h
  rcases put_cases S x.a x.b with ⟨h1, h2⟩ | ⟨h1, h2, h3, h4, h5, h6⟩
  · exact absurd h h1
  · exact h3
end Go.Proofs.Ytlnnpdghcilioaa
