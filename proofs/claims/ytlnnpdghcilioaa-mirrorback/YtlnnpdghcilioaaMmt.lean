/- A mirror as plain data: totes by node, devices; what each call answers and leaves; what holds of every mirror. Knows no program. -/
import Derived.Test.YtlnnpdghcilioaaCba
namespace Go.Proofs.Ytlnnpdghcilioaa
set_option linter.unusedVariables false

/-- where a number stands first; -1: nowhere -/
def loc (xs : List Int) (t : Int) : Int := if t ∈ xs then (xs.idxOf t : Int) else -1
theorem loc_yes {xs : List Int} {t : Int} {k : Nat} (h : xs[k]? = some t) (hn : ∀ i : Nat, i < k → xs[i]? ≠ some t) : loc xs t = (k : Int) := by
  have hm := List.mem_of_getElem? h
  unfold loc
  rw [if_pos hm]
  have hl := List.idxOf_lt_length_iff.2 hm
  have hg : xs[xs.idxOf t]? = some t := by rw [List.getElem?_eq_getElem hl, List.getElem_idxOf hl]
  have h1 : ¬ xs.idxOf t < k := fun h' => hn _ h' hg
  have h2 : ¬ k < xs.idxOf t := fun h' => by
    have hk := idx_lt h
    have := List.not_of_lt_findIdx (p := (· == t)) h'
    rw [List.getElem?_eq_getElem hk] at h
    have h' := Option.some.inj h
    simp [h'] at this
  omega
theorem loc_no {xs : List Int} {t : Int} (h : t ∉ xs) : loc xs t = -1 := if_neg h
theorem loc_no' {xs : List Int} {t : Int} (h : ∀ k : Nat, k < xs.length → xs[k]? ≠ some t) : loc xs t = -1 := loc_no fun hm => by
  obtain ⟨k, hk⟩ := List.getElem?_of_mem hm
  exact h k (idx_lt hk) hk
theorem loc_in {xs : List Int} {t : Int} (h : t ∈ xs) : loc xs t = (xs.idxOf t : Int) ∧ xs.idxOf t < xs.length := ⟨if_pos h, List.idxOf_lt_length_iff.2 h⟩
theorem loc_at {xs : List Int} {t : Int} (h : loc xs t ≠ -1) : ∃ k : Nat, loc xs t = (k : Int) ∧ xs[k]? = some t := by
  by_cases hm : t ∈ xs
  · exact ⟨_, (loc_in hm).1, by rw [List.getElem?_eq_getElem (loc_in hm).2, List.getElem_idxOf (loc_in hm).2]⟩
  · exact absurd (loc_no hm) h

structure Dv where
  fr : Int
  en : Int
  tt : Int
  sq : Int
  ev : Bool
  dn : Bool
deriving DecidableEq, Inhabited
structure Mr where
  ts : List Int
  ds : List Dv
/-- a note -/
structure Nt where
  kind : Int
  a : Int
  b : Int
  c : Int

def isT (t : Int) : Bool := decide (1 ≤ t ∧ t ≤ 30)
def isQ (q : Int) : Bool := decide (0 ≤ q ∧ q ≤ 65535)
def comes (n : Int) (D : Dv) : Bool := decide (D.tt ≠ 0) && decide (D.en = n)
def takes (t : Int) (D : Dv) : Bool := decide (D.tt = t)
def downF : Nat → List Dv → List Int
  | _, [] => []
  | i, D :: l => if D.dn then ((i : Int) + 1) :: downF (i + 1) l else downF (i + 1) l
namespace Mr
variable (S : Mr)
def isN (n : Int) : Bool := decide (0 ≤ n ∧ n < S.ts.length)
def isD (d : Int) : Bool := decide (1 ≤ d ∧ d ≤ S.ds.length)
def whr (t : Int) : Int := if isT t = true then loc S.ts t else -1
def att (n : Int) : Int := if S.isN n = true then (S.ts[n.toNat]?).getD 0 else 0
def dev (d : Int) : Dv := (S.ds[(d - 1).toNat]?).getD default
def tak (n : Int) : Bool := decide (S.att n ≠ 0) || S.ds.any (comes n)
def way (t : Int) : Bool := S.ds.any (takes t)
def told (d : Int) : Int × Int × Bool := if S.isD d = true ∧ (S.dev d).tt ≠ 0 then ((S.dev d).tt, (S.dev d).sq, true) else (0, 0, false)
def last (d : Int) : Int × Bool := if S.isD d = true then ((S.dev d).sq, (S.dev d).ev) else (0, false)
def down : List Int := downF 0 S.ds
def setD (d : Int) (D : Dv) : Mr := { S with ds := S.ds.set (d - 1).toNat D }
def put (t n : Int) : Int × Mr := if (isT t && S.isN n) = false then (1, S) else if S.whr t ≠ -1 then (2, S) else if S.tak n = true then (100, S) else (0, { S with ts := S.ts.set n.toNat t })
def snd (d t q : Int) : Int × Mr := if (S.isD d && isT t && isQ q) = false then (1, S) else if ((S.dev d).dn || decide ((S.dev d).tt ≠ 0)) = true then (140, S) else if (decide (S.att (S.dev d).fr ≠ t) || S.way t) = true then (160, S) else if S.tak (S.dev d).en = true then (100, S) else (0, S.setD d { S.dev d with tt := t, sq := q, ev := true })
def mov (d t : Int) : Int × Mr := if (S.isD d && isT t) = false then (1, S) else if (S.dev d).tt = 0 then (4, S) else if (S.dev d).tt ≠ t then (160, S) else (0, ⟨(S.ts.set (S.dev d).fr.toNat 0).set (S.dev d).en.toNat t, S.ds.set (d - 1).toNat { S.dev d with tt := 0 }⟩)
def drp (d : Int) : Int × Mr := if S.isD d = false then (1, S) else if (S.dev d).tt = 0 then (4, S) else (0, S.setD d { S.dev d with tt := 0 })
def msk (d : Int) (b : Bool) : Int × Mr := if S.isD d = false then (1, S) else (0, S.setD d { S.dev d with dn := b })
def app (x : Nt) : Int × Mr := if x.kind = 1 then S.put x.a x.b else if x.kind = 4 then S.snd x.a x.b x.c else if x.kind = 5 then S.mov x.a x.b else if x.kind = 7 then S.drp x.a else if x.kind = 8 then S.msk x.a (decide (x.b = 1)) else (23, S)
end Mr

def ends (D : Dv) : Int × Int := (D.fr, D.en)
/-- what holds of every mirror of a layout with so many nodes and these edges -/
structure Mr.Ok (S : Mr) (n : Nat) (es : List (Int × Int)) : Prop where
  ln : S.ts.length = n
  n40 : n ≤ 40
  le : S.ds.map ends = es
  m120 : es.length ≤ 120
  he : ∀ e ∈ es, (0 ≤ e.1 ∧ e.1 < n) ∧ (0 ≤ e.2 ∧ e.2 < n) ∧ e.1 ≠ e.2
  rg : ∀ x ∈ S.ts, 0 ≤ x ∧ x ≤ 30
  one : ∀ (i j : Nat) (x : Int), x ≠ 0 → S.ts[i]? = some x → S.ts[j]? = some x → i = j
  td : ∀ D ∈ S.ds, D.tt ≠ 0 → S.att D.fr = D.tt ∧ S.att D.en = 0 ∧ D.ev = true
  tw : ∀ (i j : Nat) (D E : Dv), S.ds[i]? = some D → S.ds[j]? = some E → i ≠ j → D.tt ≠ 0 → E.tt ≠ 0 → D.tt ≠ E.tt ∧ D.en ≠ E.en
  lz : ∀ D ∈ S.ds, D.ev = false → D.sq = 0

theorem Mr.isD_iff {S : Mr} {d : Int} : S.isD d = true ↔ 1 ≤ d ∧ d ≤ S.ds.length := by unfold Mr.isD; exact decide_eq_true_iff
theorem Mr.isN_iff {S : Mr} {d : Int} : S.isN d = true ↔ 0 ≤ d ∧ d < S.ts.length := by unfold Mr.isN; exact decide_eq_true_iff
theorem isT_iff {t : Int} : isT t = true ↔ 1 ≤ t ∧ t ≤ 30 := by unfold isT; exact decide_eq_true_iff
theorem isQ_iff {t : Int} : isQ t = true ↔ 0 ≤ t ∧ t ≤ 65535 := by unfold isQ; exact decide_eq_true_iff
theorem Mr.dev_at {S : Mr} {d : Int} (h : S.isD d = true) : S.ds[(d - 1).toNat]? = some (S.dev d) ∧ S.dev d ∈ S.ds := by
  have h' := Mr.isD_iff.1 h
  have hl : (d - 1).toNat < S.ds.length := by omega
  have e : S.ds[(d - 1).toNat]? = some (S.dev d) := by unfold Mr.dev; rw [List.getElem?_eq_getElem hl]; rfl
  exact ⟨e, List.mem_of_getElem? e⟩
theorem Mr.dev_nat {S : Mr} {k : Nat} {D : Dv} (h : S.ds[k]? = some D) : S.dev ((k : Int) + 1) = D ∧ S.isD ((k : Int) + 1) = true := by
  have hl := idx_lt h
  refine ⟨?_, Mr.isD_iff.2 (by omega)⟩
  unfold Mr.dev
  rw [show ((k : Int) + 1 - 1).toNat = k by omega, h]; rfl
theorem Mr.att_at {S : Mr} {n : Int} (h : S.isN n = true) : S.ts[n.toNat]? = some (S.att n) := by
  have h' := Mr.isN_iff.1 h
  have hl : n.toNat < S.ts.length := by omega
  unfold Mr.att
  rw [if_pos h, List.getElem?_eq_getElem hl]; rfl
theorem Mr.att_nat {S : Mr} {k : Nat} {x : Int} (h : S.ts[k]? = some x) : S.att (k : Int) = x := by
  have hl := idx_lt h
  unfold Mr.att
  rw [if_pos (Mr.isN_iff.2 (by omega)), show ((k : Int)).toNat = k by omega, h]; rfl
theorem Mr.att_out {S : Mr} {n : Int} (h : S.isN n = false) : S.att n = 0 := by
  unfold Mr.att; rw [if_neg (by rw [h]; simp)]
/-- a node that is written -/
theorem att_set {S : Mr} {ds : List Dv} {n : Int} (hn : S.isN n = true) (x m : Int) : Mr.att ⟨S.ts.set n.toNat x, ds⟩ m = if m = n then x else S.att m := by
  have h' := Mr.isN_iff.1 hn
  have hN : ∀ m, Mr.isN ⟨S.ts.set n.toNat x, ds⟩ m = S.isN m := fun m => by unfold Mr.isN; simp only [List.length_set]
  by_cases e : m = n
  · subst e
    rw [if_pos rfl]
    unfold Mr.att
    rw [hN, if_pos hn, List.getElem?_set, if_pos rfl, if_pos (by omega)]; rfl
  · rw [if_neg e]
    unfold Mr.att
    rw [hN]
    by_cases hm : S.isN m = true
    · rw [if_pos hm, if_pos hm]
      have := Mr.isN_iff.1 hm
      rw [List.getElem?_set, if_neg (by omega)]
    · rw [if_neg hm, if_neg hm]
theorem att_ds {S : Mr} {ds : List Dv} (m : Int) : Mr.att ⟨S.ts, ds⟩ m = S.att m := rfl
section
variable {S : Mr} {n : Nat} {es : List (Int × Int)} (H : S.Ok n es)
include H
theorem Mr.Ok.len : S.ds.length = es.length := by rw [← H.le, List.length_map]
theorem Mr.Ok.ins {D : Dv} (h : D ∈ S.ds) : S.isN D.fr = true ∧ S.isN D.en = true ∧ D.fr ≠ D.en := by
  have := H.he (ends D) (by rw [← H.le]; exact List.mem_map_of_mem h)
  have hl := H.ln
  exact ⟨Mr.isN_iff.2 (by have := this.1; simp only [ends] at this; omega), Mr.isN_iff.2 (by have := this.2.1; simp only [ends] at this; omega), this.2.2⟩
theorem Mr.Ok.edge {d : Int} (h : S.isD d = true) : es[(d - 1).toNat]? = some ((S.dev d).fr, (S.dev d).en) := by
  rw [← H.le, List.getElem?_map, (Mr.dev_at h).1]; rfl
/-- a device's change that leaves its ends: what is asked then -/
theorem Mr.Ok.setD {d : Int} (hd : S.isD d = true) (D : Dv) (h0 : ends D = ends (S.dev d)) (h1 : D.tt ≠ 0 → S.att D.fr = D.tt ∧ S.att D.en = 0 ∧ D.ev = true) (h2 : D.ev = false → D.sq = 0)
    (h3 : D.tt ≠ 0 → ∀ (j : Nat) (E : Dv), S.ds[j]? = some E → j ≠ (d - 1).toNat → E.tt ≠ 0 → D.tt ≠ E.tt ∧ D.en ≠ E.en) : (S.setD d D).Ok n es := by
  have hd' := (Mr.dev_at hd).1
  have hm : ∀ E ∈ (S.setD d D).ds, E = D ∨ E ∈ S.ds := fun E hE => by
    rcases List.mem_or_eq_of_mem_set hE with q | q
    · exact .inr q
    · exact .inl q
  have hg : ∀ (i : Nat) (E : Dv), (S.setD d D).ds[i]? = some E → (i = (d - 1).toNat ∧ E = D) ∨ (i ≠ (d - 1).toNat ∧ S.ds[i]? = some E) := fun i E hE => by
    by_cases e : (d - 1).toNat = i
    · subst e
      refine .inl ⟨rfl, ?_⟩
      have := set_at (y := D) hd'
      have hE' : (S.ds.set (d - 1).toNat D)[(d - 1).toNat]? = some E := hE
      rw [this] at hE'
      exact (Option.some.inj hE').symm
    · exact .inr ⟨fun q => e q.symm, by rw [← hE]; exact (set_off e).symm⟩
  refine ⟨H.ln, H.n40, ?_, H.m120, H.he, H.rg, H.one, ?_, ?_, ?_⟩
  · show (S.ds.set _ D).map ends = es
    rw [List.map_set, h0, set_same (by rw [List.getElem?_map, hd']; rfl), H.le]
  · intro E hE hne
    rcases hm E hE with rfl | q
    · exact h1 hne
    · exact H.td E q hne
  · intro i j A B hA hB hij ha hb
    rcases hg i A hA with ⟨e1, rfl⟩ | ⟨e1, q1⟩ <;> rcases hg j B hB with ⟨e2, rfl⟩ | ⟨e2, q2⟩
    · omega
    · exact h3 ha j B q2 e2 hb
    · have := h3 hb i A q1 e1 ha
      exact ⟨this.1.symm, this.2.symm⟩
    · exact H.tw i j A B q1 q2 hij ha hb
  · intro E hE hne
    rcases hm E hE with rfl | q
    · exact h2 hne
    · exact H.lz E q hne
theorem Mr.Ok.msk (d : Int) (b : Bool) : (S.msk d b).2.Ok n es := by
  unfold Mr.msk
  by_cases hd : S.isD d = true
  · rw [if_neg (by rw [hd]; simp)]
    have hm := (Mr.dev_at hd).2
    have k1 := H.td _ hm
    have k2 := H.lz _ hm
    exact H.setD hd _ rfl (fun h => k1 h) (fun h => k2 h) (fun hne j E hE hj he => by
      have := H.tw _ j _ E (Mr.dev_at hd).1 hE (fun q => hj q.symm) hne he
      exact this)
  · rw [if_pos (by simpa using hd)]; exact H
theorem Mr.Ok.drp (d : Int) : (S.drp d).2.Ok n es := by
  unfold Mr.drp
  by_cases hd : S.isD d = true
  · rw [if_neg (by rw [hd]; simp)]
    by_cases h0 : (S.dev d).tt = 0
    · rw [if_pos h0]; exact H
    · rw [if_neg h0]
      have k2 := H.lz _ (Mr.dev_at hd).2
      exact H.setD hd _ rfl (fun h => absurd rfl h) (fun h => k2 h) (fun h => absurd rfl h)
  · rw [if_pos (by simpa using hd)]; exact H
theorem Mr.Ok.snd (d t q : Int) : (S.snd d t q).2.Ok n es := by
  unfold Mr.snd
  by_cases h1 : (S.isD d && isT t && isQ q) = false
  · rw [if_pos h1]; exact H
  rw [if_neg h1]
  by_cases h2 : ((S.dev d).dn || decide ((S.dev d).tt ≠ 0)) = true
  · rw [if_pos h2]; exact H
  rw [if_neg h2]
  by_cases h3 : (decide (S.att (S.dev d).fr ≠ t) || S.way t) = true
  · rw [if_pos h3]; exact H
  rw [if_neg h3]
  by_cases h4 : S.tak (S.dev d).en = true
  · rw [if_pos h4]; exact H
  rw [if_neg h4]
  simp only [Bool.not_eq_false, Bool.and_eq_true] at h1
  simp only [Bool.or_eq_true, decide_eq_true_eq, not_or, Decidable.not_not] at h3
  simp only [Mr.tak, Bool.or_eq_true, decide_eq_true_eq, not_or, Decidable.not_not] at h4
  have hw : ∀ E ∈ S.ds, E.tt ≠ t := fun E hE q => h3.2 (List.any_eq_true.2 ⟨E, hE, by unfold takes; exact decide_eq_true q⟩)
  have hc : ∀ E ∈ S.ds, E.tt ≠ 0 → E.en ≠ (S.dev d).en := fun E hE h q => h4.2 (List.any_eq_true.2 ⟨E, hE, by simp [comes, h, q]⟩)
  refine H.setD h1.1.1 _ rfl (fun _ => ⟨h3.1, h4.1, rfl⟩) (fun h => by cases h) (fun _ j E hE _ he => ?_)
  have hm := List.mem_of_getElem? hE
  exact ⟨(hw E hm).symm, (hc E hm he).symm⟩
theorem Mr.Ok.put (t m : Int) : (S.put t m).2.Ok n es := by
  unfold Mr.put
  by_cases h1 : (isT t && S.isN m) = false
  · rw [if_pos h1]; exact H
  rw [if_neg h1]
  by_cases h2 : S.whr t ≠ -1
  · rw [if_pos h2]; exact H
  rw [if_neg h2]
  by_cases h3 : S.tak m = true
  · rw [if_pos h3]; exact H
  rw [if_neg h3]
  simp only [Bool.not_eq_false, Bool.and_eq_true] at h1
  have hT := isT_iff.1 h1.1
  have hN := Mr.isN_iff.1 h1.2
  simp only [Mr.tak, Bool.or_eq_true, decide_eq_true_eq, not_or, Decidable.not_not] at h3
  have hno : t ∉ S.ts := fun q => h2 (by unfold Mr.whr; rw [if_pos h1.1, (loc_in q).1]; omega)
  have hc : ∀ E ∈ S.ds, E.tt ≠ 0 → E.en ≠ m := fun E hE h q => h3.2 (List.any_eq_true.2 ⟨E, hE, by simp [comes, h, q]⟩)
  have hg : ∀ (i : Nat) (x : Int), (S.ts.set m.toNat t)[i]? = some x → (i = m.toNat ∧ x = t) ∨ S.ts[i]? = some x := fun i x hx => by
    by_cases e : m.toNat = i
    · subst e
      rw [List.getElem?_set, if_pos rfl, if_pos (by omega)] at hx
      exact .inl ⟨rfl, (Option.some.inj hx).symm⟩
    · rw [set_off e] at hx; exact .inr hx
  refine ⟨by show (S.ts.set _ _).length = n; rw [List.length_set]; exact H.ln, H.n40, H.le, H.m120, H.he, ?_, ?_, ?_, H.tw, H.lz⟩
  · intro x hx
    rcases List.mem_or_eq_of_mem_set hx with q | q
    · exact H.rg x q
    · omega
  · intro i j x hx hi hj
    rcases hg i x hi with ⟨e1, e2⟩ | q1 <;> rcases hg j x hj with ⟨e3, e4⟩ | q2
    · omega
    · subst e2; exact absurd (List.mem_of_getElem? q2) hno
    · subst e4; exact absurd (List.mem_of_getElem? q1) hno
    · exact H.one i j x hx q1 q2
  · intro D hD hne
    have := H.td D hD hne
    rw [att_set h1.2, att_set h1.2, if_neg (fun q => by rw [q, h3.1] at this; exact hne this.1.symm), if_neg (hc D hD hne)]
    exact this
theorem Mr.Ok.mov (d t : Int) : (S.mov d t).2.Ok n es := by
  unfold Mr.mov
  by_cases h1 : (S.isD d && isT t) = false
  · rw [if_pos h1]; exact H
  rw [if_neg h1]
  by_cases h2 : (S.dev d).tt = 0
  · rw [if_pos h2]; exact H
  rw [if_neg h2]
  by_cases h3 : (S.dev d).tt ≠ t
  · rw [if_pos h3]; exact H
  rw [if_neg h3]
  simp only [Bool.not_eq_false, Bool.and_eq_true] at h1
  have h3' : (S.dev d).tt = t := by simpa using h3
  have hT := isT_iff.1 h1.2
  have ⟨hd', hm⟩ := Mr.dev_at h1.1
  have ⟨f1, f2, f3⟩ := H.ins hm
  have ⟨t1, t2, t3⟩ := H.td _ hm h2
  -- the devices alone
  have k2 := H.lz _ hm
  have H1 : (S.setD d { S.dev d with tt := 0 }).Ok n es := H.setD h1.1 _ rfl (fun h => absurd rfl h) (fun h => k2 h) (fun h => absurd rfl h)
  have N1 := Mr.isN_iff.1 f1
  have N2 := Mr.isN_iff.1 f2
  have f2' : Mr.isN ⟨S.ts.set (S.dev d).fr.toNat 0, S.ds⟩ (S.dev d).en = true := by rw [Mr.isN_iff]; simpa using N2
  have hat : ∀ (ds : List Dv) m, Mr.att ⟨(S.ts.set (S.dev d).fr.toNat 0).set (S.dev d).en.toNat t, ds⟩ m = if m = (S.dev d).en then t else if m = (S.dev d).fr then 0 else S.att m := fun ds m => by
    have := att_set (ds := ds) f2' t m
    rw [this]
    by_cases e : m = (S.dev d).en
    · rw [if_pos e, if_pos e]
    · rw [if_neg e, if_neg e]; exact att_set f1 0 m
  have hg : ∀ (i : Nat) (x : Int), x ≠ 0 → ((S.ts.set (S.dev d).fr.toNat 0).set (S.dev d).en.toNat t)[i]? = some x → (i = (S.dev d).en.toNat ∧ x = t) ∨ (i ≠ (S.dev d).fr.toNat ∧ S.ts[i]? = some x) := fun i x h0 hx => by
    by_cases e : (S.dev d).en.toNat = i
    · subst e
      rw [List.getElem?_set, if_pos rfl, if_pos (by rw [List.length_set]; omega)] at hx
      exact .inl ⟨rfl, (Option.some.inj hx).symm⟩
    · rw [set_off e] at hx
      by_cases e2 : (S.dev d).fr.toNat = i
      · subst e2
        rw [List.getElem?_set, if_pos rfl, if_pos (by omega)] at hx
        exact absurd (Option.some.inj hx).symm h0
      · rw [set_off e2] at hx; exact .inr ⟨fun q => e2 q.symm, hx⟩
  have hfr : S.ts[(S.dev d).fr.toNat]? = some t := by rw [Mr.att_at f1, t1, h3']
  refine ⟨by show ((S.ts.set _ _).set _ _).length = n; rw [List.length_set, List.length_set]; exact H.ln, H.n40, H1.le, H.m120, H.he, ?_, ?_, ?_, H1.tw, H1.lz⟩
  · intro x hx
    rcases List.mem_or_eq_of_mem_set hx with q | q
    · rcases List.mem_or_eq_of_mem_set q with q | q
      · exact H.rg x q
      · omega
    · omega
  · intro i j x hx hi hj
    rcases hg i x hx hi with ⟨e1, e2⟩ | ⟨n1, q1⟩ <;> rcases hg j x hx hj with ⟨e3, e4⟩ | ⟨n2, q2⟩
    · omega
    · subst e2; exact absurd (H.one j _ x hx q2 hfr) n2
    · subst e4; exact absurd (H.one i _ x hx q1 hfr) n1
    · exact H.one i j x hx q1 q2
  · intro D hD hne
    obtain ⟨j, hj⟩ := List.getElem?_of_mem hD
    by_cases e : (d - 1).toNat = j
    · subst e
      have : (S.ds.set (d - 1).toNat { S.dev d with tt := 0 })[(d - 1).toNat]? = some D := hj
      rw [set_at hd'] at this
      have := Option.some.inj this
      subst this
      exact absurd rfl hne
    · have hj' : S.ds[j]? = some D := by rw [← hj]; exact (set_off e).symm
      have ⟨u1, u2, u3⟩ := H.td D (List.mem_of_getElem? hj') hne
      have ⟨w1, w2⟩ := H.tw _ j _ D hd' hj' e h2 hne
      rw [hat, hat, if_neg (fun q => by rw [q, t2] at u1; exact hne u1.symm), if_neg (fun q => by rw [q, t1] at u1; exact w1 u1), if_neg (fun q => w2 q.symm), if_neg (fun q => by rw [q, t1] at u2; exact h2 u2)]
      exact ⟨u1, u2, u3⟩
theorem Mr.Ok.app (x : Nt) : (S.app x).2.Ok n es := by
  unfold Mr.app
  split
  · exact H.put _ _
  split
  · exact H.snd _ _ _
  split
  · exact H.mov _ _
  split
  · exact H.drp _
  split
  · exact H.msk _ _
  exact H
end
end Go.Proofs.Ytlnnpdghcilioaa
