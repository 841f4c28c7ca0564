/- The program's mirror and the document's go on saying the same. Knows no program. -/
import Derived.Test.YtlnnpdghcilioaaRmt
namespace Go.Proofs.Ytlnnpdghcilioaa
set_option linter.unusedVariables false

theorem isD_setD {S : Mr} {d d' : Int} {D : Dv} : (S.setD d D).isD d' = S.isD d' := by unfold Mr.isD Mr.setD; simp only [List.length_set]
theorem dev_setD {S : Mr} {d d' : Int} {D : Dv} (hd : S.isD d = true) (hd' : S.isD d' = true) : (S.setD d D).dev d' = if d' = d then D else S.dev d' := by
  have h1 := Mr.isD_iff.1 hd
  have h2 := Mr.isD_iff.1 hd'
  by_cases e : d' = d
  · subst e
    rw [if_pos rfl]
    unfold Mr.dev Mr.setD
    simp only
    rw [set_at (Mr.dev_at hd).1]; rfl
  · rw [if_neg e]
    unfold Mr.dev Mr.setD
    simp only
    rw [set_off (by omega)]
theorem downF_filter (l : List Dv) (i : Nat) : downF i l = ((List.range l.length).map (fun k : Nat => ((i + k : Nat) : Int) + 1)).filter (fun x => ((l[(x - 1 - i).toNat]?).getD default).dn) := by
  induction l generalizing i with
  | nil => rfl
  | cons D l ih =>
    rw [List.length_cons, List.range_succ_eq_map, List.map_cons, List.filter_cons, List.map_map]
    unfold downF
    have e0 : ((((i + 0 : Nat) : Int) + 1) - 1 - (i : Int)).toNat = 0 := by omega
    rw [e0]
    simp only [List.getElem?_cons_zero, Option.getD_some]
    have e1 : ((List.range l.length).map ((fun k : Nat => ((i + k : Nat) : Int) + 1) ∘ Nat.succ)).filter (fun x => (((D :: l)[(x - 1 - i).toNat]?).getD default).dn) = downF (i + 1) l := by
      rw [ih (i + 1)]
      have e2 : (List.range l.length).map ((fun k : Nat => ((i + k : Nat) : Int) + 1) ∘ Nat.succ) = (List.range l.length).map (fun k : Nat => ((i + 1 + k : Nat) : Int) + 1) := List.map_congr_left (fun k _ => by simp only [Function.comp]; omega)
      rw [e2]
      refine List.filter_congr fun x hx => ?_
      obtain ⟨k, hk, rfl⟩ := List.mem_map.1 hx
      rw [show (((i + 1 + k : Nat) : Int) + 1 - 1 - (i : Int)).toNat = k + 1 by omega, show (((i + 1 + k : Nat) : Int) + 1 - 1 - ((i + 1 : Nat) : Int)).toNat = k by omega]
      rfl
    rw [e1]
    by_cases h : D.dn = true
    · rw [if_pos h, if_pos h]; simp
    · rw [if_neg h, if_neg h]
theorem down_filter (S : Mr) : S.down = ((List.range S.ds.length).map (fun i : Nat => (i : Int) + 1)).filter (fun x => (S.dev x).dn) := by
  unfold Mr.down
  rw [downF_filter]
  have e : (List.range S.ds.length).map (fun k : Nat => ((0 + k : Nat) : Int) + 1) = (List.range S.ds.length).map (fun i : Nat => (i : Int) + 1) := List.map_congr_left (fun k _ => by omega)
  rw [e]
  refine List.filter_congr fun x hx => ?_
  unfold Mr.dev
  rw [show x - 1 - ((0 : Nat) : Int) = x - 1 by omega]
theorem isD_range {S : Mr} {x : Int} (h : x ∈ (List.range S.ds.length).map (fun i : Nat => (i : Int) + 1)) : S.isD x = true := by
  obtain ⟨k, hk, rfl⟩ := List.mem_map.1 h
  exact Mr.isD_iff.2 (by have := List.mem_range.1 hk; omega)
theorem down_setD {S : Mr} {d : Int} (hd : S.isD d = true) (D : Dv) : (S.setD d D).down = ((List.range S.ds.length).map (fun i : Nat => (i : Int) + 1)).filter (fun x => if x = d then D.dn else (S.dev x).dn) := by
  rw [down_filter]
  have : (S.setD d D).ds.length = S.ds.length := by unfold Mr.setD; simp
  rw [this]
  refine List.filter_congr fun x hx => ?_
  rw [dev_setD hd (isD_range hx)]
  split <;> rfl
theorem down_same {S : Mr} {d : Int} (hd : S.isD d = true) (D : Dv) (h : D.dn = (S.dev d).dn) : (S.setD d D).down = S.down := by
  rw [down_setD hd, down_filter S]
  refine List.filter_congr fun x hx => ?_
  split
  · rename_i e; rw [e, h]
  · rfl
theorem last_setD {S : Mr} {d : Int} (hd : S.isD d = true) (D : Dv) (d' : Int) : (S.setD d D).last d' = if d' = d then (D.sq, D.ev) else S.last d' := by
  unfold Mr.last
  rw [isD_setD]
  by_cases h : S.isD d' = true
  · rw [if_pos h, if_pos h, dev_setD hd h]
    split <;> rfl
  · rw [if_neg h, if_neg h, if_neg (fun e => h (by rw [e]; exact hd))]
theorem last_same {S : Mr} {d : Int} (hd : S.isD d = true) (D : Dv) (h : D.sq = (S.dev d).sq ∧ D.ev = (S.dev d).ev) (d' : Int) : (S.setD d D).last d' = S.last d' := by
  rw [last_setD hd]
  split
  · rename_i e
    subst e
    unfold Mr.last
    rw [if_pos hd, h.1, h.2]
  · rfl
theorem erase_mem {l : List Td} (hn : (l.map (·.dev)).Nodup) {i : Nat} {x : Td} (hx : l[i]? = some x) (y : Td) : y ∈ l.eraseIdx i ↔ y ∈ l ∧ y.dev ≠ x.dev := by
  have uniq : ∀ (j : Nat) (z : Td), l[j]? = some z → z.dev = x.dev → j = i := fun j z hz e => by
    have hj := idx_lt hz
    have hi := idx_lt hx
    have h1 : (l.map (·.dev))[j]? = some z.dev := by rw [List.getElem?_map, hz]; rfl
    have h2 : (l.map (·.dev))[i]? = some z.dev := by rw [List.getElem?_map, hx, e]; rfl
    exact (List.getElem?_inj (by simpa using hj) hn).1 (h1.trans h2.symm)
  rw [List.mem_eraseIdx_iff_getElem?]
  constructor
  · rintro ⟨j, hne, hj⟩
    exact ⟨List.mem_of_getElem? hj, fun e => hne (uniq j y hj e)⟩
  · rintro ⟨h1, h2⟩
    obtain ⟨j, hj⟩ := List.getElem?_of_mem h1
    exact ⟨j, fun e => h2 (by rw [e, hx] at hj; rw [Option.some.inj hj]), hj⟩
theorem erase_nodup {l : List Td} (hn : (l.map (·.dev)).Nodup) (i : Nat) : ((l.eraseIdx i).map (·.dev)).Nodup := by
  exact hn.sublist ((List.eraseIdx_sublist l i).map _)
theorem out_no {S : Mr} {n : Nat} {es : List (Int × Int)} (hl : S.ds.length = es.length) (n1 : 1 ≤ n) (t d : Int) : Rm.out n es.length t 0 d = !(S.isD d && isT t) := by
  unfold Rm.out Mr.isD isT
  rw [hl, Bool.eq_iff_iff]
  simp only [Bool.or_eq_true, decide_eq_true_eq, Bool.not_eq_true', Bool.and_eq_false_iff, decide_eq_false_iff_not]
  omega
theorem whr_ge (S : Mr) (t : Int) : S.whr t = -1 ∨ 0 ≤ S.whr t := by
  unfold Mr.whr
  by_cases h : isT t = true
  · rw [if_pos h]
    by_cases h2 : loc S.ts t = -1
    · exact .inl h2
    · obtain ⟨k, hk, _⟩ := loc_at h2
      exact .inr (by rw [hk]; omega)
  · rw [if_neg h]; exact .inl rfl
section
variable {S : Mr} {R : Rm} {n : Nat} {es : List (Int × Int)} (H : Rel S R n es)
include H
theorem Rel.put (t x : Int) : (R.put n es t x).1 = (S.put t x).1 ∧ Rel (S.put t x).2 (R.put n es t x).2 n es := by
  have hok := H.ok.put t x
  have hw := whr_ge S t
  unfold Rm.put
  unfold Mr.put at hok ⊢
  rw [H.whr, H.tak]
  have c1 : ((decide (t < 1) || decide (30 < t) || decide (x < 0) || decide ((n : Int) ≤ x)) = true) ↔ (isT t && S.isN x) = false := by
    unfold isT Mr.isN
    rw [H.ok.ln]
    simp only [Bool.or_eq_true, decide_eq_true_eq, Bool.and_eq_false_iff, decide_eq_false_iff_not]
    omega
  by_cases h1 : (isT t && S.isN x) = false
  · rw [if_pos h1, if_pos (c1.2 h1)]; exact ⟨rfl, H⟩
  rw [if_neg h1, if_neg (fun q => h1 (c1.1 q))]
  rw [if_neg h1] at hok
  by_cases h2 : S.whr t = -1
  · rw [if_neg (show ¬ (S.whr t ≠ -1) by simpa using h2), if_neg (show ¬ (0 ≤ S.whr t) by omega)]
    rw [if_neg (show ¬ (S.whr t ≠ -1) by simpa using h2)] at hok
    by_cases h3 : S.tak x = true
    · simp only [if_pos h3]; exact ⟨trivial, H⟩
    rw [if_neg h3] at hok
    simp only [if_neg h3]
    simp only [Bool.not_eq_false, Bool.and_eq_true] at h1
    have h0 := (tak_no (by simpa using h3)).1
    have hT := isT_iff.1 h1.1
    refine ⟨trivial, hok, H.n1, fun t' x' => ?_, H.td, H.nd, H.dw, H.la⟩
    rw [List.mem_append, List.mem_singleton, att_set h1.2, H.sp]
    by_cases e : x' = x
    · subst e
      rw [if_pos rfl, h0, Prod.mk.injEq]
      constructor
      · rintro (⟨a1, a2⟩ | ⟨rfl, _⟩)
        · exact absurd a2.symm a1
        · exact ⟨by omega, rfl⟩
      · rintro ⟨a1, a2⟩; exact .inr ⟨a2.symm, rfl⟩
    · rw [if_neg e, Prod.mk.injEq]
      constructor
      · rintro (h | ⟨_, q⟩)
        · exact h
        · exact absurd q e
      · exact .inl
  · rw [if_pos (show S.whr t ≠ -1 from h2), if_pos (show 0 ≤ S.whr t by omega)]; exact ⟨rfl, H⟩
theorem Rel.msk (d : Int) (b : Bool) : (R.msk n es d b).1 = (S.msk d b).1 ∧ Rel (S.msk d b).2 (R.msk n es d b).2 n es := by
  have hok := H.ok.msk d b
  unfold Rm.msk
  unfold Mr.msk at hok ⊢
  rw [out_no H.len.1 H.n1, show isT 1 = true from rfl, Bool.and_true]
  cases hd : S.isD d with
  | false => rw [if_pos (show (!false) = true from rfl), if_pos (show false = false from rfl)]; exact ⟨rfl, H⟩
  | true =>
    rw [hd] at hok
    rw [if_neg (show ¬ (!true) = true by simp), if_neg (show ¬ true = false by simp)]
    rw [if_neg (show ¬ true = false by simp)] at hok
    have hm := (Mr.dev_at hd).2
    refine ⟨rfl, hok, H.n1, H.sp, fun y => ?_, H.nd, ?_, fun d' => (H.la d').trans (last_same hd { S.dev d with dn := b } ⟨rfl, rfl⟩ d').symm⟩
    · rw [H.td, isD_setD]
      refine and_congr_right fun hy => ?_
      rw [dev_setD hd hy]
      split
      · rename_i e; rw [e]
      · rfl
    · show R.dwF es.length d b = _
      rw [down_setD hd]
      unfold Rm.dwF
      rw [← H.len.1]
      refine List.filter_congr fun x hx => ?_
      have hD := isD_range hx
      rw [H.dn hD]
      by_cases e : x = d
      · simp [e]
      · simp [e]
theorem Rel.erase {d : Int} {i : Nat} {x : Td} (hx : R.td[i]? = some x) (e : x.dev = d) (hd : S.isD d = true) (D : Dv) (h0 : D.tt = 0) (y : Td) : y ∈ R.td.eraseIdx i ↔ ((S.setD d D).isD y.dev = true ∧ y.tote ≠ 0 ∧ ((S.setD d D).dev y.dev).tt = y.tote ∧ ((S.setD d D).dev y.dev).sq = y.seq) := by
  rw [erase_mem H.nd hx, H.td, isD_setD]
  constructor
  · rintro ⟨⟨a1, a2, a3, a4⟩, a5⟩
    rw [dev_setD hd a1, if_neg (by rw [← e]; exact a5)]
    exact ⟨a1, a2, a3, a4⟩
  · rintro ⟨a1, a2, a3, a4⟩
    rw [dev_setD hd a1] at a3 a4
    by_cases q : y.dev = d
    · rw [if_pos q, h0] at a3
      exact absurd a3.symm a2
    · rw [if_neg q] at a3 a4
      exact ⟨⟨a1, a2, a3, a4⟩, by rw [e]; exact q⟩
theorem Rel.drp (d : Int) : (R.drp n es d).1 = (S.drp d).1 ∧ Rel (S.drp d).2 (R.drp n es d).2 n es := by
  have hok := H.ok.drp d
  unfold Rm.drp
  unfold Mr.drp at hok ⊢
  rw [out_no H.len.1 H.n1, show isT 1 = true from rfl, Bool.and_true]
  cases hd : S.isD d with
  | false => rw [if_pos (show (!false) = true from rfl), if_pos (show false = false from rfl)]; exact ⟨rfl, H⟩
  | true =>
    rw [hd] at hok
    rw [if_neg (show ¬ (!true) = true by simp), if_neg (show ¬ true = false by simp)]
    rw [if_neg (show ¬ true = false by simp)] at hok
    rcases H.fnd d with ⟨i, x, f1, f2, f3, f4, f5, f6, f7⟩ | ⟨f1, f2⟩
    · rw [if_neg (show ¬ (S.dev d).tt = 0 by rw [f5]; exact f6), if_neg (show ¬ R.fnd d < 0 by omega)]
      rw [if_neg (show ¬ (S.dev d).tt = 0 by rw [f5]; exact f6)] at hok
      rw [f3, show ((i : Int)).toNat = i by omega]
      exact ⟨rfl, hok, H.n1, H.sp, fun y => H.erase f1 f2 hd { S.dev d with tt := 0 } rfl y, erase_nodup H.nd i, H.dw.trans (down_same hd { S.dev d with tt := 0 } rfl).symm, fun d' => (H.la d').trans (last_same hd { S.dev d with tt := 0 } ⟨rfl, rfl⟩ d').symm⟩
    · rw [if_pos (f2 hd), if_pos (show R.fnd d < 0 by omega)]
      exact ⟨rfl, H⟩
theorem Rel.mov (d t : Int) : (R.mov n es d t).1 = (S.mov d t).1 ∧ Rel (S.mov d t).2 (R.mov n es d t).2 n es := by
  have hok := H.ok.mov d t
  unfold Rm.mov
  unfold Mr.mov at hok ⊢
  rw [out_no H.len.1 H.n1]
  by_cases h1 : (S.isD d && isT t) = false
  · rw [if_pos h1, if_pos (show (!(S.isD d && isT t)) = true by rw [h1]; rfl)]; exact ⟨rfl, H⟩
  rw [if_neg h1, if_neg (show ¬ (!(S.isD d && isT t)) = true by simpa using h1)]
  rw [if_neg h1] at hok
  simp only [Bool.not_eq_false, Bool.and_eq_true] at h1
  have hd := h1.1
  have hT := isT_iff.1 h1.2
  rcases H.fnd d with ⟨i, x, f1, f2, f3, f4, f5, f6, f7⟩ | ⟨f1, f2⟩
  · rw [if_neg (show ¬ (S.dev d).tt = 0 by rw [f5]; exact f6), if_neg (show ¬ R.fnd d < 0 by omega)]
    rw [if_neg (show ¬ (S.dev d).tt = 0 by rw [f5]; exact f6)] at hok
    rw [f3, show ((i : Int)).toNat = i by omega]
    have e1 : (R.td.getD i default).tote = x.tote := by rw [List.getD_eq_getElem?_getD, f1]; rfl
    rw [e1, f5]
    rw [f5] at hok
    by_cases h2 : x.tote = t
    · simp only [if_neg (show ¬ (x.tote ≠ t) by simpa using h2)]
      rw [if_neg (show ¬ (x.tote ≠ t) by simpa using h2)] at hok
      have hm := (Mr.dev_at hd).2
      have ⟨i1, i2, i3⟩ := H.ok.ins hm
      have ⟨t1, t2, t3⟩ := H.ok.td _ hm (by rw [f5]; exact f6)
      rw [f5, h2] at t1
      refine ⟨trivial, hok, H.n1, fun t' x' => ?_, fun y => H.erase f1 f2 hd { S.dev d with tt := 0 } rfl y, erase_nodup H.nd i, H.dw.trans (down_same hd { S.dev d with tt := 0 } rfl).symm, fun d' => (H.la d').trans (last_same hd { S.dev d with tt := 0 } ⟨rfl, rfl⟩ d').symm⟩
      rw [mov_att H.ok hd, List.mem_map]
      constructor
      · rintro ⟨⟨a, b⟩, h3, h4⟩
        obtain ⟨b1, b2⟩ := (H.sp a b).1 h3
        unfold Rm.mvS at h4
        by_cases q : a = t
        · rw [if_pos q, (H.edge hd).1, Prod.mk.injEq] at h4
          obtain ⟨rfl, rfl⟩ := h4
          rw [if_pos rfl]
          exact ⟨b1, q.symm⟩
        · rw [if_neg q, Prod.mk.injEq] at h4
          obtain ⟨rfl, rfl⟩ := h4
          rw [if_neg (fun z => by rw [z, t2] at b2; exact b1 b2.symm), if_neg (fun z => by rw [z, t1] at b2; exact q b2.symm)]
          exact ⟨b1, b2⟩
      · rintro ⟨b1, b2⟩
        by_cases e2 : x' = (S.dev d).en
        · rw [if_pos e2] at b2
          refine ⟨(t', (S.dev d).fr), (H.sp _ _).2 ⟨b1, by rw [t1]; exact b2⟩, ?_⟩
          unfold Rm.mvS
          rw [if_pos b2.symm, (H.edge hd).1, e2]
        · rw [if_neg e2] at b2
          by_cases e3 : x' = (S.dev d).fr
          · rw [if_pos e3] at b2; exact absurd b2.symm b1
          · rw [if_neg e3] at b2
            refine ⟨(t', x'), (H.sp _ _).2 ⟨b1, b2⟩, ?_⟩
            unfold Rm.mvS
            rw [if_neg]
            intro q
            simp only at q
            have hx := isN_of b1 b2
            have r1 := Mr.att_at hx
            have r2 := Mr.att_at i1
            rw [b2, q] at r1
            rw [t1] at r2
            have := H.ok.one _ _ t (by omega) r1 r2
            have g1 := Mr.isN_iff.1 hx
            have g2 := Mr.isN_iff.1 i1
            exact e3 (by omega)
    · simp only [if_pos (show x.tote ≠ t from h2)]; exact ⟨trivial, H⟩
  · rw [if_pos (f2 hd), if_pos (show R.fnd d < 0 by omega)]
    exact ⟨rfl, H⟩
theorem Rel.snd (d t q : Int) : (R.snd n es d t q).1 = (S.snd d t q).1 ∧ Rel (S.snd d t q).2 (R.snd n es d t q).2 n es := by
  have hok := H.ok.snd d t q
  unfold Rm.snd
  unfold Mr.snd at hok ⊢
  rw [out_no H.len.1 H.n1]
  have c1 : ((!(S.isD d && isT t) || decide (q < 0) || decide (65535 < q)) = true) ↔ (S.isD d && isT t && isQ q) = false := by
    unfold isQ
    cases (S.isD d && isT t)
    · simp
    · simp only [Bool.not_true, Bool.false_or, Bool.true_and, Bool.or_eq_true, decide_eq_true_eq, decide_eq_false_iff_not]; omega
  by_cases h1 : (S.isD d && isT t && isQ q) = false
  · rw [if_pos h1, if_pos (c1.2 h1)]; exact ⟨rfl, H⟩
  rw [if_neg h1, if_neg (fun z => h1 (c1.1 z))]
  rw [if_neg h1] at hok
  simp only [Bool.not_eq_false, Bool.and_eq_true] at h1
  have hd := h1.1.1
  have hT := isT_iff.1 h1.1.2
  have c2 : (R.isDn d || decide (0 ≤ R.fnd d)) = ((S.dev d).dn || decide ((S.dev d).tt ≠ 0)) := by
    rw [H.dn hd]
    congr 1
    simp only [decide_eq_decide]
    rcases H.fnd d with ⟨i, x, f1, f2, f3, f4, f5, f6, f7⟩ | ⟨f1, f2⟩
    · rw [f3, f5]; exact ⟨fun _ => f6, fun _ => by omega⟩
    · rw [f1, f2 hd]; exact ⟨fun z => by omega, fun z => absurd rfl z⟩
  rw [c2]
  by_cases h2 : ((S.dev d).dn || decide ((S.dev d).tt ≠ 0)) = true
  · simp only [if_pos h2]; exact ⟨trivial, H⟩
  rw [if_neg h2] at hok
  simp only [if_neg h2]
  have hm := (Mr.dev_at hd).2
  have ⟨i1, i2, i3⟩ := H.ok.ins hm
  have c3 : R.whr t ≠ edF es d ↔ S.att (S.dev d).fr ≠ t := by
    rw [H.whr, (H.edge hd).2]
    refine not_congr ⟨fun z => ?_, fun z => whr_of H.ok h1.1.2 i1 z⟩
    have g := Mr.isN_iff.1 i1
    have := (whr_at h1.1.2 (by rw [z]; omega)).2
    rwa [z] at this
  rw [H.way (by omega), H.tak, (H.edge hd).1]
  by_cases h3 : S.att (S.dev d).fr = t
  case neg => rw [if_pos (c3.2 h3), if_pos (show (decide (S.att (S.dev d).fr ≠ t) || S.way t) = true by simp [h3])]; exact ⟨rfl, H⟩
  rw [if_neg (fun z => c3.1 z h3)]
  cases hw : S.way t with
  | true => rw [if_pos (show true = true from rfl), if_pos (show (decide (S.att (S.dev d).fr ≠ t) || true) = true by simp)]; exact ⟨rfl, H⟩
  | false =>
    rw [if_neg (show ¬ false = true by simp), if_neg (show ¬ (decide (S.att (S.dev d).fr ≠ t) || false) = true by simp [h3])]
    rw [hw, if_neg (show ¬ (decide (S.att (S.dev d).fr ≠ t) || false) = true by simp [h3])] at hok
    by_cases h4 : S.tak (S.dev d).en = true
    · simp only [if_pos h4]; exact ⟨trivial, H⟩
    rw [if_neg h4] at hok
    simp only [if_neg h4]
    simp only [Bool.or_eq_true, decide_eq_true_eq, not_or, Decidable.not_not, Bool.not_eq_true] at h2
    have hno : ∀ y ∈ R.td, y.dev ≠ d := fun y hy e => by
      have := (H.td y).1 hy
      rw [e, h2.2] at this
      exact this.2.1 this.2.2.1.symm
    refine ⟨trivial, hok, H.n1, H.sp, fun y => ?_, ?_, H.dw.trans (down_same hd { S.dev d with tt := t, sq := q, ev := true } rfl).symm, fun d' => ?_⟩
    · rw [List.mem_append, List.mem_singleton, H.td, isD_setD]
      constructor
      · rintro (⟨a1, a2, a3, a4⟩ | rfl)
        · have hy : y.dev ≠ d := hno y ((H.td y).2 ⟨a1, a2, a3, a4⟩)
          rw [dev_setD hd a1, if_neg hy]
          exact ⟨a1, a2, a3, a4⟩
        · rw [dev_setD hd hd, if_pos rfl]
          exact ⟨hd, by simp only; omega, rfl, rfl⟩
      · rintro ⟨a1, a2, a3, a4⟩
        rw [dev_setD hd a1] at a3 a4
        by_cases e : y.dev = d
        · rw [if_pos e] at a3 a4
          refine .inr ?_
          cases y
          simp only at e a3 a4
          rw [e, ← a3, ← a4]
        · rw [if_neg e] at a3 a4
          exact .inl ⟨a1, a2, a3, a4⟩
    · rw [List.map_append, List.nodup_append]
      refine ⟨H.nd, by simp, fun z hz z' hz' => ?_⟩
      obtain ⟨y, hy, rfl⟩ := List.mem_map.1 hz
      simp only [List.map_cons, List.map_nil, List.mem_singleton] at hz'
      rw [hz']
      exact hno y hy
    · rw [last_setD hd]
      unfold Rm.last
      simp only [List.find?_cons]
      by_cases e : d' = d
      · subst e
        rw [if_pos rfl, show isDv d' ⟨d', t, q⟩ = true from decide_eq_true rfl]
      · rw [if_neg e, show isDv d' ⟨d, t, q⟩ = false from decide_eq_false (fun z => e z.symm)]
        have hf : (R.la.filter (fun x => decide (x.dev ≠ d))).find? (isDv d') = R.la.find? (isDv d') := by
          rw [List.find?_filter]
          congr 1
          funext x
          unfold isDv
          by_cases z : x.dev = d'
          · simp [z, e]
          · simp [z]
        simp only [hf]
        exact H.la d'
theorem Rel.app (x : Nt) : (R.app n es x).1 = (S.app x).1 ∧ Rel (S.app x).2 (R.app n es x).2 n es := by
  unfold Rm.app Mr.app
  by_cases k1 : x.kind = 1
  · rw [if_pos k1, if_pos k1]; exact H.put _ _
  rw [if_neg k1, if_neg k1]
  by_cases k4 : x.kind = 4
  · rw [if_pos k4, if_pos k4]; exact H.snd _ _ _
  rw [if_neg k4, if_neg k4]
  by_cases k5 : x.kind = 5
  · rw [if_pos k5, if_pos k5]; exact H.mov _ _
  rw [if_neg k5, if_neg k5]
  by_cases k7 : x.kind = 7
  · rw [if_pos k7, if_pos k7]; exact H.drp _
  rw [if_neg k7, if_neg k7]
  by_cases k8 : x.kind = 8
  · rw [if_pos k8, if_pos k8]; exact H.msk _ _
  rw [if_neg k8, if_neg k8]
  exact ⟨rfl, H⟩
end
end Go.Proofs.Ytlnnpdghcilioaa
