/- The document's plant as plain data, and how it goes with the program's. Knows no program. -/
import Derived.Test.YthcdfclhenmleaaPmu
import Derived.Test.YthcdfclhenmleaaPtm
namespace Go.Proofs.Ythcdfclhenmleaa
set_option linter.unusedVariables false

/-- the last move of a device -/
structure Ls where
  dev : Int
  seq : Int
  tote : Int
deriving DecidableEq, Inhabited
structure Rp where
  sp : List (Int × Int)
  bk : List Int
  la : List Ls
  mv : Int
def isTo (t : Int) (s : Int × Int) : Bool := decide (s.1 = t)
def isNo (n : Int) (s : Int × Int) : Bool := decide (s.2 = n)
def isDv (d : Int) (x : Ls) : Bool := decide (x.dev = d)
def eqI (d : Int) (x : Int) : Bool := decide (x = d)
def edE2 (es : List (Int × Int)) (d : Int) : Int × Int := (es[(d - 1).toNat]?).getD (0, 0)
def mvS (t x : Int) (s : Int × Int) : Int × Int := if s.1 = t then (s.1, x) else s
def lz : Ls := ⟨0, 0, 0⟩
namespace Rp
variable (R : Rp)
def whr (t : Int) : Int := match R.sp.find? (isTo t) with
  | some s => s.2
  | none => -1
def att (n : Int) : Int := match R.sp.find? (isNo n) with
  | some s => s.1
  | none => 0
def wrk (m : Nat) (d : Int) : Bool := !decide (d ∈ R.bk) && decide (1 ≤ d ∧ d ≤ m)
def lst (d : Int) : Ls × Bool := match R.la.find? (isDv d) with
  | some x => (x, true)
  | none => (lz, false)
def put (n : Nat) (t x : Int) : Int × Rp := if (decide (t < 1) || decide (30 < t) || decide (x < 0) || decide ((n : Int) ≤ x)) = true then (1, R) else if 0 ≤ R.whr t then (2, R) else if 0 < R.att x then (100, R) else (0, { R with sp := R.sp ++ [(t, x)] })
def jst (x : Ls × Bool) (t : Tl) : Bool := x.2 && (decide (x.1.seq = t.s) && decide (x.1.tote = t.a))
def lte (x : Ls × Bool) (t : Tl) : Bool := x.2 && decide (dst x.1.seq t.s ≤ 0)
def go (es : List (Int × Int)) (t : Tl) : Rp := ⟨R.sp.map (mvS t.a (edE2 es t.d).2), R.bk, ⟨t.d, t.s, t.a⟩ :: R.la.filter (fun x => decide (x.dev ≠ t.d)), R.mv + 1⟩
def hear (es : List (Int × Int)) (t : Tl) : (Tl × Bool) × Rp := if R.wrk es.length t.d = false then ((tz, false), R) else if t.k = 6 then ((⟨7, t.d, t.s, (R.lst t.d).1.seq, (R.lst t.d).1.tote⟩, true), R) else if t.k ≠ 1 then ((tz, false), R) else if jst (R.lst t.d) t = true then ((dn t, true), R) else if lte (R.lst t.d) t = true then ((tz, false), R) else if (decide (t.a = 0) || decide (R.att (edE2 es t.d).1 ≠ t.a)) = true then ((rf t 1, true), R) else if 0 < R.att (edE2 es t.d).2 then ((rf t 2, true), R) else ((dn t, true), R.go es t)
def set (m : Nat) (d : Int) (b : Bool) : (Tl × Int) × Rp := if (decide (d < 1) || decide ((m : Int) < d)) = true then ((tz, 1), R) else ((⟨if b = true then 5 else 4, d, 0, 0, 0⟩, 0), { R with bk := R.bk.filter (fun x => decide (x ≠ d)) ++ (if b = true then [] else [d]) })
end Rp

/-- the program's plant and the document's say the same -/
structure Rel (S : Pl) (R : Rp) (n : Nat) (es : List (Int × Int)) : Prop where
  ok : S.Ok n es
  sp : ∀ t x, (t, x) ∈ R.sp ↔ (t ≠ 0 ∧ S.att x = t)
  bk : ∀ d, S.isD d = true → (d ∈ R.bk ↔ (S.dev d).bk = true)
  la : ∀ d, S.isD d = true → R.lst d = if (S.dev d).tt = 0 then (lz, false) else (⟨d, (S.dev d).sq, (S.dev d).tt⟩, true)
  mv : R.mv = S.mv
theorem isN_of {S : Pl} {x t : Int} (ht : t ≠ 0) (h : S.att x = t) : S.isN x = true := by
  cases q : S.isN x with
  | true => rfl
  | false => rw [Pl.att_out q] at h; exact absurd h.symm ht
theorem Rel.nw {n : Nat} {es : List (Int × Int)} (h : (Pl.nw n es).Ok n es) : Rel (Pl.nw n es) ⟨[], [], [], 0⟩ n es := by
  have key : ∀ d, (Pl.nw n es).isD d = true → ((Pl.nw n es).dev d).bk = false ∧ ((Pl.nw n es).dev d).tt = 0 := fun d hd => by
    obtain ⟨e, _, he⟩ := List.mem_map.1 (Pl.dev_at hd).2
    rw [← he]; exact ⟨rfl, rfl⟩
  refine ⟨h, fun t x => ?_, fun d hd => ?_, fun d hd => ?_, rfl⟩
  · simp only [List.not_mem_nil, false_iff, not_and]
    intro ht hx
    have hN := isN_of ht hx
    have := List.eq_of_mem_replicate (List.mem_of_getElem? (Pl.att_at hN))
    omega
  · rw [(key d hd).1]; simp
  · rw [if_pos (key d hd).2]; rfl
section
variable {S : Pl} {R : Rp} {n : Nat} {es : List (Int × Int)} (H : Rel S R n es)
include H
theorem Rel.len : S.ds.length = es.length ∧ S.ts.length = n := ⟨H.ok.len, H.ok.ln⟩
theorem Rel.att (x : Int) : R.att x = S.att x := by
  unfold Rp.att
  cases q : R.sp.find? (isNo x) with
  | some s =>
    have h1 := List.find?_some q
    have h2 := List.mem_of_find?_eq_some q
    have h3 := of_decide_eq_true h1
    obtain ⟨t, y⟩ := s
    simp only at h3
    subst h3
    exact ((H.sp t y).1 h2).2.symm
  | none =>
    by_cases h0 : S.att x = 0
    · exact h0.symm
    · have := List.find?_eq_none.1 q _ ((H.sp _ x).2 ⟨h0, rfl⟩)
      simp [isNo] at this
theorem Rel.whr (t : Int) : R.whr t = S.whr t := by
  unfold Rp.whr
  cases q : R.sp.find? (isTo t) with
  | some s =>
    have h1 := List.find?_some q
    have h2 := List.mem_of_find?_eq_some q
    have h3 := of_decide_eq_true h1
    obtain ⟨t', y⟩ := s
    simp only at h3
    subst h3
    obtain ⟨a1, a2⟩ := (H.sp t' y).1 h2
    have hN := isN_of a1 a2
    have hr := H.ok.rg _ (List.mem_of_getElem? (Pl.att_at hN))
    rw [a2] at hr
    exact (whr_of H.ok (isT_iff.2 (by omega)) hN a2).symm
  | none =>
    by_cases hT : isT t = true
    · by_cases hw : S.whr t = -1
      · exact hw.symm
      · obtain ⟨a1, a2⟩ := whr_at hT hw
        have hT' := isT_iff.1 hT
        have := List.find?_eq_none.1 q _ ((H.sp t _).2 ⟨by omega, a2⟩)
        simp [isTo] at this
    · unfold Pl.whr; rw [if_neg hT]
theorem Rel.wrk (d : Int) : R.wrk es.length d = S.wrk d := by
  unfold Rp.wrk Pl.wrk
  have e : decide (1 ≤ d ∧ d ≤ (es.length : Int)) = S.isD d := by unfold Pl.isD; rw [H.len.1]
  rw [e]
  cases q : S.isD d with
  | false => simp
  | true =>
    have := H.bk d q
    cases r : (S.dev d).bk with
    | true => simp [this.2 r]
    | false =>
      have : ¬ d ∈ R.bk := fun z => by have := this.1 z; rw [r] at this; cases this
      simp [this]
theorem Rel.att_ge (x : Int) : 0 ≤ S.att x ∧ S.att x ≤ 30 := by
  cases q : S.isN x with
  | true => exact H.ok.rg _ (List.mem_of_getElem? (Pl.att_at q))
  | false => rw [Pl.att_out q]; omega
theorem Rel.put (t x : Int) : (R.put n t x).1 = (S.put t x).1 ∧ Rel (S.put t x).2 (R.put n t x).2 n es := by
  have hok := H.ok.put t x
  have hw := whr_ge S t
  have ha := H.att_ge x
  unfold Rp.put
  unfold Pl.put at hok ⊢
  rw [H.whr, H.att]
  have c1 : ((decide (t < 1) || decide (30 < t) || decide (x < 0) || decide ((n : Int) ≤ x)) = true) ↔ (isT t && S.isN x) = false := by
    unfold isT Pl.isN
    rw [H.ok.ln]
    simp only [Bool.or_eq_true, decide_eq_true_eq, Bool.and_eq_false_iff, decide_eq_false_iff_not]
    omega
  by_cases h1 : (isT t && S.isN x) = false
  · rw [if_pos h1, if_pos (c1.2 h1)]; exact ⟨rfl, H⟩
  rw [if_neg h1, if_neg (fun q => h1 (c1.1 q))]
  rw [if_neg h1] at hok
  by_cases h2 : S.whr t = -1
  · rw [if_neg (show ¬ (S.whr t ≠ -1) by simpa using h2), if_neg (show ¬ (0 ≤ S.whr t) by omega)]
    rw [if_neg (show ¬ (S.whr t ≠ -1) by simpa using h2)] at hok
    by_cases h3 : S.att x = 0
    · rw [if_neg (show ¬ (S.att x ≠ 0) by simpa using h3)] at hok
      rw [if_neg (show ¬ (S.att x ≠ 0) by simpa using h3), if_neg (show ¬ (0 < S.att x) by omega)]
      simp only [Bool.not_eq_false, Bool.and_eq_true] at h1
      have hT := isT_iff.1 h1.1
      refine ⟨rfl, hok, fun t' x' => ?_, H.bk, H.la, H.mv⟩
      rw [List.mem_append, List.mem_singleton, att_set h1.2, H.sp]
      by_cases e : x' = x
      · subst e
        rw [if_pos rfl, h3, Prod.mk.injEq]
        constructor
        · rintro (⟨a1, a2⟩ | ⟨rfl, _⟩)
          · exact absurd a2.symm a1
          · exact ⟨by omega, rfl⟩
        · rintro ⟨a1, a2⟩; exact .inr ⟨a2.symm, rfl⟩
      · rw [if_neg e, Prod.mk.injEq]
        constructor
        · rintro (h | ⟨_, q⟩)
          · exact h
          · exact absurd q e
        · exact .inl
    · rw [if_pos (show S.att x ≠ 0 from h3), if_pos (show 0 < S.att x by omega)]; exact ⟨rfl, H⟩
  · rw [if_pos (show S.whr t ≠ -1 from h2), if_pos (show 0 ≤ S.whr t by omega)]; exact ⟨rfl, H⟩
theorem Rel.set (d : Int) (b : Bool) : (R.set es.length d b).1 = (S.brk d (if b = true then 5 else 4) (!b)).1 ∧ Rel (S.brk d (if b = true then 5 else 4) (!b)).2 (R.set es.length d b).2 n es := by
  have hok := H.ok.brk d (if b = true then 5 else 4) (!b)
  unfold Rp.set
  unfold Pl.brk at hok ⊢
  have c1 : ((decide (d < 1) || decide ((es.length : Int) < d)) = true) ↔ S.isD d = false := by
    unfold Pl.isD
    rw [H.len.1]
    simp only [Bool.or_eq_true, decide_eq_true_eq, decide_eq_false_iff_not]
    omega
  cases hd : S.isD d with
  | false => rw [if_pos (c1.2 hd), if_pos rfl]; exact ⟨rfl, H⟩
  | true =>
    rw [hd, if_neg (show ¬ (true = false) by simp)] at hok
    rw [if_neg (fun q => by have := c1.1 q; rw [hd] at this; cases this), if_neg (show ¬ (true = false) by simp)]
    refine ⟨rfl, hok, H.sp, fun d' hd' => ?_, fun d' hd' => ?_, H.mv⟩
    · rw [setD_isD] at hd'
      rw [setD_dev hd hd', List.mem_append, List.mem_filter, H.bk d' hd']
      by_cases e : d' = d
      · subst e
        rw [if_pos rfl]
        cases b <;> simp
      · rw [if_neg e]
        cases b <;> simp [e]
    · rw [setD_isD] at hd'
      show R.lst d' = _
      rw [H.la d' hd', setD_dev hd hd']
      by_cases e : d' = d
      · subst e; rw [if_pos rfl]
      · rw [if_neg e]
theorem Rel.edge {d : Int} (hd : S.isD d = true) : edE2 es d = ((S.dev d).fr, (S.dev d).en) := by
  unfold edE2
  rw [H.ok.edge hd]
  rfl
theorem Rel.jst {t : Tl} (hd : S.isD t.d = true) : Rp.jst (R.lst t.d) t = Pl.jst (S.dev t.d) t ∧ Rp.lte (R.lst t.d) t = Pl.lte (S.dev t.d) t := by
  rw [H.la _ hd]
  unfold Rp.jst Pl.jst Rp.lte Pl.lte
  by_cases h : (S.dev t.d).tt = 0
  · rw [if_pos h]; simp [h]
  · rw [if_neg h]
    refine ⟨by simp [h], ?_⟩
    simp only [h, ne_eq, not_false_eq_true, decide_true, Bool.true_and]
    rw [Bool.eq_iff_iff]
    simp
theorem Rel.hear {t : Tl} (ht : t.In) : (R.hear es t).1 = (S.hear t).1 ∧ Rel (S.hear t).2 (R.hear es t).2 n es := by
  have hok := H.ok.hear ht
  unfold Rp.hear
  unfold Pl.hear Pl.mov at hok ⊢
  rw [H.wrk]
  cases hw : S.wrk t.d with
  | false => rw [if_pos rfl, if_pos rfl]; exact ⟨rfl, H⟩
  | true =>
    have hd := Pl.wrk_isD hw
    rw [hw, if_neg (show ¬ (true = false) by simp)] at hok
    rw [if_neg (show ¬ (true = false) by simp), if_neg (show ¬ (true = false) by simp)]
    by_cases h6 : t.k = 6
    · rw [if_pos h6, if_neg (show ¬ t.k = 1 by omega), if_pos h6]
      refine ⟨?_, H⟩
      have hz := (H.ok.dr _ (Pl.dev_at hd).2).2.2
      unfold Pl.ask
      rw [H.la _ hd]
      by_cases h : (S.dev t.d).tt = 0
      · rw [if_pos h, hz h, h]; rfl
      · rw [if_neg h]
    rw [if_neg h6]
    by_cases h1 : t.k = 1
    case neg => rw [if_pos (show t.k ≠ 1 from h1), if_neg h1, if_neg h6]; exact ⟨rfl, H⟩
    rw [if_neg (show ¬ t.k ≠ 1 by simpa using h1), if_pos h1]
    rw [if_pos h1] at hok
    obtain ⟨e1, e2⟩ := H.jst hd
    rw [e1, e2]
    by_cases h2 : Pl.jst (S.dev t.d) t = true
    · rw [if_pos h2, if_pos h2]; exact ⟨rfl, H⟩
    rw [if_neg h2, if_neg h2]
    rw [if_neg h2] at hok
    by_cases h3 : Pl.lte (S.dev t.d) t = true
    · rw [if_pos h3, if_pos h3]; exact ⟨rfl, H⟩
    rw [if_neg h3, if_neg h3]
    rw [if_neg h3] at hok
    rw [H.edge hd, H.att, H.att]
    have hm := (Pl.dev_at hd).2
    have ⟨i1, i2, i3⟩ := H.ok.ins hm
    have N1 := Pl.isN_iff.1 i1
    have ha := H.att_ge (S.dev t.d).fr
    have c3 : (decide (t.a = 0) || decide (S.att (S.dev t.d).fr ≠ t.a)) = true ↔ S.whr t.a ≠ (S.dev t.d).fr := by
      simp only [Bool.or_eq_true, decide_eq_true_eq]
      constructor
      · rintro (q | q) z
        · have := isT_iff.1 (whr_in H.ok hd z); omega
        · exact q ((whr_iff H.ok (whr_in H.ok hd z) i1).1 z)
      · intro z
        by_cases q : t.a = 0
        · exact .inl q
        · right
          intro y
          have := ht.2.2.2.1
          exact z ((whr_iff H.ok (isT_iff.2 (by omega)) i1).2 y)
    by_cases h4 : S.whr t.a = (S.dev t.d).fr
    case neg => rw [if_pos (c3.2 h4), if_pos (show S.whr t.a ≠ (S.dev t.d).fr from h4)]; exact ⟨rfl, H⟩
    rw [if_neg (show ¬ (decide (t.a = 0) || decide (S.att (S.dev t.d).fr ≠ t.a)) = true from fun z => (c3.1 z) h4), if_neg (show ¬ S.whr t.a ≠ (S.dev t.d).fr by simpa using h4)]
    rw [if_neg (show ¬ S.whr t.a ≠ (S.dev t.d).fr by simpa using h4)] at hok
    have hb := H.att_ge (S.dev t.d).en
    by_cases h5 : S.att (S.dev t.d).en = 0
    case neg => rw [if_pos (show 0 < S.att (S.dev t.d).en by omega), if_pos (show S.att (S.dev t.d).en ≠ 0 from h5)]; exact ⟨rfl, H⟩
    rw [if_neg (show ¬ 0 < S.att (S.dev t.d).en by omega), if_neg (show ¬ S.att (S.dev t.d).en ≠ 0 by simpa using h5)]
    rw [if_neg (show ¬ S.att (S.dev t.d).en ≠ 0 by simpa using h5)] at hok
    have hT := whr_in H.ok hd h4
    have hT' := isT_iff.1 hT
    have hfr := (whr_iff H.ok hT i1).1 h4
    refine ⟨rfl, hok, fun t' x' => ?_, fun d' hd' => ?_, fun d' hd' => ?_, by show R.mv + 1 = S.mv + 1; rw [H.mv]⟩
    · unfold Rp.go
      rw [go_att H.ok hd, List.mem_map, H.edge hd]
      constructor
      · rintro ⟨⟨a, b⟩, h8, h9⟩
        obtain ⟨b1, b2⟩ := (H.sp a b).1 h8
        unfold mvS at h9
        by_cases q : a = t.a
        · rw [if_pos q, Prod.mk.injEq] at h9
          obtain ⟨rfl, rfl⟩ := h9
          rw [if_pos rfl]
          exact ⟨b1, q.symm⟩
        · rw [if_neg q, Prod.mk.injEq] at h9
          obtain ⟨rfl, rfl⟩ := h9
          rw [if_neg (fun z => by rw [z, h5] at b2; exact b1 b2.symm), if_neg (fun z => by rw [z, hfr] at b2; exact q b2.symm)]
          exact ⟨b1, b2⟩
      · rintro ⟨b1, b2⟩
        by_cases e : x' = (S.dev t.d).en
        · rw [if_pos e] at b2
          refine ⟨(t', (S.dev t.d).fr), (H.sp _ _).2 ⟨b1, by rw [hfr]; exact b2⟩, ?_⟩
          unfold mvS
          rw [if_pos b2.symm, e]
        · rw [if_neg e] at b2
          by_cases e3 : x' = (S.dev t.d).fr
          · rw [if_pos e3] at b2; exact absurd b2.symm b1
          · rw [if_neg e3] at b2
            refine ⟨(t', x'), (H.sp _ _).2 ⟨b1, b2⟩, ?_⟩
            unfold mvS
            rw [if_neg]
            intro q
            simp only at q
            have hx := isN_of b1 b2
            rw [q] at b2
            have y1 := (whr_iff H.ok hT hx).2 b2
            rw [h4] at y1
            exact e3 y1.symm
    · rw [go_isD] at hd'
      show d' ∈ R.bk ↔ _
      rw [H.bk d' hd', go_dev hd hd']
      by_cases e : d' = t.d
      · subst e; rw [if_pos rfl]
      · rw [if_neg e]
    · rw [go_isD] at hd'
      rw [go_dev hd hd']
      unfold Rp.lst Rp.go
      simp only [List.find?_cons]
      by_cases e : d' = t.d
      · rw [if_pos e, e, show isDv t.d ⟨t.d, t.s, t.a⟩ = true from decide_eq_true rfl]
        simp only
        rw [if_neg (by omega)]
      · rw [if_neg e, show isDv d' ⟨t.d, t.s, t.a⟩ = false from decide_eq_false (fun z => e z.symm)]
        have hf : (R.la.filter (fun x => decide (x.dev ≠ t.d))).find? (isDv d') = R.la.find? (isDv d') := by
          rw [List.find?_filter]
          congr 1
          funext x
          unfold isDv
          by_cases z : x.dev = d'
          · simp [z, e]
          · simp [z]
        simp only [hf]
        exact H.la d' hd'
end
end Go.Proofs.Ythcdfclhenmleaa
