/- A plant as plain data: totes by node, devices, how many moves were done; what each call answers and leaves; what holds of every plant. Knows no program. -/
import Derived.Test.YthcdfclhenmleaaCba
namespace Go.Proofs.Ythcdfclhenmleaa
set_option linter.unusedVariables false

/-- where a number stands first; -1: nowhere -/
def loc (xs : List Int) (t : Int) : Int := if t ∈ xs then (xs.idxOf t : Int) else -1
theorem loc_yes {xs : List Int} {t : Int} {k : Nat} (h : xs[k]? = some t) (hn : ∀ i : Nat, i < k → xs[i]? ≠ some t) : loc xs t = (k : Int) := by
  have hm := List.mem_of_getElem? h
  unfold loc
  rw [if_pos hm]
  have hl := List.idxOf_lt_length_iff.2 hm
  have hg : xs[xs.idxOf t]? = some t := by rw [List.getElem?_eq_getElem hl, List.getElem_idxOf hl]
  have h1 : ¬ xs.idxOf t < k := fun h' => hn _ h' hg
  have h2 : ¬ k < xs.idxOf t := fun h' => by
    have hk := idx_lt h
    have := List.not_of_lt_findIdx (p := (· == t)) h'
    rw [List.getElem?_eq_getElem hk] at h
    have h' := Option.some.inj h
    simp [h'] at this
  omega
theorem loc_no {xs : List Int} {t : Int} (h : t ∉ xs) : loc xs t = -1 := if_neg h
theorem loc_no' {xs : List Int} {t : Int} (h : ∀ k : Nat, k < xs.length → xs[k]? ≠ some t) : loc xs t = -1 := loc_no fun hm => by
  obtain ⟨k, hk⟩ := List.getElem?_of_mem hm
  exact h k (idx_lt hk) hk
theorem loc_in {xs : List Int} {t : Int} (h : t ∈ xs) : loc xs t = (xs.idxOf t : Int) ∧ xs.idxOf t < xs.length := ⟨if_pos h, List.idxOf_lt_length_iff.2 h⟩
theorem loc_at {xs : List Int} {t : Int} (h : loc xs t ≠ -1) : ∃ k : Nat, loc xs t = (k : Int) ∧ xs[k]? = some t := by
  by_cases hm : t ∈ xs
  · exact ⟨_, (loc_in hm).1, by rw [List.getElem?_eq_getElem (loc_in hm).2, List.getElem_idxOf (loc_in hm).2]⟩
  · exact absurd (loc_no hm) h


structure Dv where
  fr : Int
  en : Int
  sq : Int
  tt : Int
  bk : Bool
deriving DecidableEq, Inhabited
structure Pl where
  ts : List Int
  ds : List Dv
  mv : Int
/-- a telegram -/
structure Tl where
  k : Int
  d : Int
  s : Int
  a : Int
  b : Int
deriving DecidableEq
def Tl.In (t : Tl) : Prop := (0 ≤ t.k ∧ t.k ≤ 255) ∧ (0 ≤ t.d ∧ t.d ≤ 65535) ∧ (0 ≤ t.s ∧ t.s ≤ 65535) ∧ (0 ≤ t.a ∧ t.a ≤ 65535) ∧ (0 ≤ t.b ∧ t.b ≤ 65535)
def tz : Tl := ⟨0, 0, 0, 0, 0⟩
def tv (t : Tl) : Value := .agg #[.int .u8 t.k, .int .u16 t.d, .int .u16 t.s, .int .u16 t.a, .int .u16 t.b]
/-- the steps up from lo to s -/
def up (lo s : Int) : Int := (s - lo) % 65536
/-- the distance from a to b -/
def dst (a b : Int) : Int := if up a b < 32768 then up a b else up a b - 65536
theorem up_in (lo s : Int) : 0 ≤ up lo s ∧ up lo s ≤ 65535 := by unfold up; omega
theorem dst_in (a b : Int) : -32768 ≤ dst a b ∧ dst a b ≤ 32767 := by
  have := up_in a b
  unfold dst; split <;> omega
theorem wrap_up (lo s : Int) : IntKind.u16.wrap (s - lo) = up lo s := by
  unfold IntKind.wrap up; simp [IntKind.bits, IntKind.signed]
theorem wrap_dst (a b : Int) : IntKind.i16.wrap (up a b) = dst a b := by
  have := up_in a b
  unfold IntKind.wrap dst; simp [IntKind.bits, IntKind.signed]
  generalize up a b = u at *
  split <;> split <;> omega

def isT (t : Int) : Bool := decide (1 ≤ t ∧ t ≤ 30)
def dn (t : Tl) : Tl := ⟨2, t.d, t.s, t.a, 0⟩
def rf (t : Tl) (x : Int) : Tl := ⟨3, t.d, t.s, t.a, x⟩
namespace Pl
variable (S : Pl)
def isN (n : Int) : Bool := decide (0 ≤ n ∧ n < S.ts.length)
def isD (d : Int) : Bool := decide (1 ≤ d ∧ d ≤ S.ds.length)
def whr (t : Int) : Int := if isT t = true then loc S.ts t else -1
def att (n : Int) : Int := if S.isN n = true then (S.ts[n.toNat]?).getD 0 else 0
def dev (d : Int) : Dv := (S.ds[(d - 1).toNat]?).getD default
def wrk (d : Int) : Bool := S.isD d && !(S.dev d).bk
def setD (d : Int) (D : Dv) : Pl := { S with ds := S.ds.set (d - 1).toNat D }
def put (t n : Int) : Int × Pl := if (isT t && S.isN n) = false then (1, S) else if S.whr t ≠ -1 then (2, S) else if S.att n ≠ 0 then (100, S) else (0, { S with ts := S.ts.set n.toNat t })
def jst (D : Dv) (t : Tl) : Bool := decide (D.tt ≠ 0) && (decide (D.sq = t.s) && decide (D.tt = t.a))
def lte (D : Dv) (t : Tl) : Bool := decide (D.tt ≠ 0) && !decide (0 < dst D.sq t.s)
def go (t : Tl) : Pl := ⟨(S.ts.set (S.dev t.d).fr.toNat 0).set (S.dev t.d).en.toNat t.a, S.ds.set (t.d - 1).toNat { S.dev t.d with sq := t.s, tt := t.a }, S.mv + 1⟩
def mov (t : Tl) : (Tl × Bool) × Pl := if jst (S.dev t.d) t = true then ((dn t, true), S) else if lte (S.dev t.d) t = true then ((tz, false), S) else if S.whr t.a ≠ (S.dev t.d).fr then ((rf t 1, true), S) else if S.att (S.dev t.d).en ≠ 0 then ((rf t 2, true), S) else ((dn t, true), S.go t)
def ask (t : Tl) : Tl := ⟨7, t.d, t.s, (S.dev t.d).sq, (S.dev t.d).tt⟩
def hear (t : Tl) : (Tl × Bool) × Pl := if S.wrk t.d = false then ((tz, false), S) else if t.k = 1 then S.mov t else if t.k = 6 then ((S.ask t, true), S) else ((tz, false), S)
def brk (d k : Int) (b : Bool) : (Tl × Int) × Pl := if S.isD d = false then ((tz, 1), S) else ((⟨k, d, 0, 0, 0⟩, 0), S.setD d { S.dev d with bk := b })
end Pl

def ends (D : Dv) : Int × Int := (D.fr, D.en)
/-- what holds of every plant of a layout with so many nodes and these edges -/
structure Pl.Ok (S : Pl) (n : Nat) (es : List (Int × Int)) : Prop where
  ln : S.ts.length = n
  n40 : n ≤ 40
  le : S.ds.map ends = es
  m120 : es.length ≤ 120
  he : ∀ e ∈ es, (0 ≤ e.1 ∧ e.1 < n) ∧ (0 ≤ e.2 ∧ e.2 < n) ∧ e.1 ≠ e.2
  rg : ∀ x ∈ S.ts, 0 ≤ x ∧ x ≤ 30
  one : ∀ (i j : Nat) (x : Int), x ≠ 0 → S.ts[i]? = some x → S.ts[j]? = some x → i = j
  dr : ∀ D ∈ S.ds, (0 ≤ D.sq ∧ D.sq ≤ 65535) ∧ (0 ≤ D.tt ∧ D.tt ≤ 30) ∧ (D.tt = 0 → D.sq = 0)
  m0 : 0 ≤ S.mv

theorem Pl.isD_iff {S : Pl} {d : Int} : S.isD d = true ↔ 1 ≤ d ∧ d ≤ S.ds.length := by unfold Pl.isD; exact decide_eq_true_iff
theorem Pl.isN_iff {S : Pl} {n : Int} : S.isN n = true ↔ 0 ≤ n ∧ n < S.ts.length := by unfold Pl.isN; exact decide_eq_true_iff
theorem isT_iff {t : Int} : isT t = true ↔ 1 ≤ t ∧ t ≤ 30 := by unfold isT; exact decide_eq_true_iff
theorem Pl.dev_at {S : Pl} {d : Int} (h : S.isD d = true) : S.ds[(d - 1).toNat]? = some (S.dev d) ∧ S.dev d ∈ S.ds := by
  have h' := Pl.isD_iff.1 h
  have hl : (d - 1).toNat < S.ds.length := by omega
  have e : S.ds[(d - 1).toNat]? = some (S.dev d) := by unfold Pl.dev; rw [List.getElem?_eq_getElem hl]; rfl
  exact ⟨e, List.mem_of_getElem? e⟩
theorem Pl.dev_nat {S : Pl} {k : Nat} {D : Dv} (h : S.ds[k]? = some D) : S.dev ((k : Int) + 1) = D ∧ S.isD ((k : Int) + 1) = true := by
  have hl := idx_lt h
  refine ⟨?_, Pl.isD_iff.2 (by omega)⟩
  unfold Pl.dev
  rw [show ((k : Int) + 1 - 1).toNat = k by omega, h]; rfl
theorem Pl.att_at {S : Pl} {n : Int} (h : S.isN n = true) : S.ts[n.toNat]? = some (S.att n) := by
  have h' := Pl.isN_iff.1 h
  have hl : n.toNat < S.ts.length := by omega
  unfold Pl.att
  rw [if_pos h, List.getElem?_eq_getElem hl]; rfl
theorem Pl.att_nat {S : Pl} {k : Nat} {x : Int} (h : S.ts[k]? = some x) : S.att (k : Int) = x := by
  have hl := idx_lt h
  unfold Pl.att
  rw [if_pos (Pl.isN_iff.2 (by omega)), show ((k : Int)).toNat = k by omega, h]; rfl
theorem Pl.att_out {S : Pl} {n : Int} (h : S.isN n = false) : S.att n = 0 := by
  unfold Pl.att; rw [if_neg (by rw [h]; simp)]
/-- a node that is written -/
theorem att_set {S : Pl} {ds : List Dv} {v : Int} {n : Int} (hn : S.isN n = true) (x m : Int) : Pl.att ⟨S.ts.set n.toNat x, ds, v⟩ m = if m = n then x else S.att m := by
  have h' := Pl.isN_iff.1 hn
  have hN : ∀ m, Pl.isN ⟨S.ts.set n.toNat x, ds, v⟩ m = S.isN m := fun m => by unfold Pl.isN; simp only [List.length_set]
  by_cases e : m = n
  · subst e
    rw [if_pos rfl]
    unfold Pl.att
    rw [hN, if_pos hn, List.getElem?_set, if_pos rfl, if_pos (by omega)]; rfl
  · rw [if_neg e]
    unfold Pl.att
    rw [hN]
    by_cases hm : S.isN m = true
    · rw [if_pos hm, if_pos hm]
      have := Pl.isN_iff.1 hm
      rw [List.getElem?_set, if_neg (by omega)]
    · rw [if_neg hm, if_neg hm]
/-- a tote stands somewhere -/
theorem whr_at {S : Pl} {t : Int} (ht : isT t = true) (h : S.whr t ≠ -1) : S.isN (S.whr t) = true ∧ S.att (S.whr t) = t := by
  have e : S.whr t = loc S.ts t := by unfold Pl.whr; rw [if_pos ht]
  rw [e] at h ⊢
  obtain ⟨k, hk, hx⟩ := loc_at h
  rw [hk]
  have hl := idx_lt hx
  exact ⟨Pl.isN_iff.2 (by omega), Pl.att_nat hx⟩
theorem whr_ge (S : Pl) (t : Int) : S.whr t = -1 ∨ 0 ≤ S.whr t := by
  unfold Pl.whr
  by_cases h : isT t = true
  · rw [if_pos h]
    by_cases h2 : loc S.ts t = -1
    · exact .inl h2
    · obtain ⟨k, hk, _⟩ := loc_at h2
      exact .inr (by rw [hk]; omega)
  · rw [if_neg h]; exact .inl rfl
section
variable {S : Pl} {n : Nat} {es : List (Int × Int)} (H : S.Ok n es)
include H
theorem Pl.Ok.len : S.ds.length = es.length := by rw [← H.le, List.length_map]
theorem Pl.Ok.ins {D : Dv} (h : D ∈ S.ds) : S.isN D.fr = true ∧ S.isN D.en = true ∧ D.fr ≠ D.en := by
  have := H.he (ends D) (by rw [← H.le]; exact List.mem_map_of_mem h)
  have hl := H.ln
  exact ⟨Pl.isN_iff.2 (by have := this.1; simp only [ends] at this; omega), Pl.isN_iff.2 (by have := this.2.1; simp only [ends] at this; omega), this.2.2⟩
theorem Pl.Ok.edge {d : Int} (h : S.isD d = true) : es[(d - 1).toNat]? = some ((S.dev d).fr, (S.dev d).en) := by
  rw [← H.le, List.getElem?_map, (Pl.dev_at h).1]; rfl
/-- where a tote stands that is at a node -/
theorem whr_of {t x : Int} (ht : isT t = true) (hx : S.isN x = true) (h : S.att x = t) : S.whr t = x := by
  have hT := isT_iff.1 ht
  have hN := Pl.isN_iff.1 hx
  have e := Pl.att_at hx
  rw [h] at e
  unfold Pl.whr
  rw [if_pos ht, loc_yes e (fun i hi q => by have := H.one _ _ t (by omega) q e; omega)]
  omega
theorem Pl.Ok.setD {d : Int} (hd : S.isD d = true) (D : Dv) (h0 : ends D = ends (S.dev d)) (h1 : (0 ≤ D.sq ∧ D.sq ≤ 65535) ∧ (0 ≤ D.tt ∧ D.tt ≤ 30) ∧ (D.tt = 0 → D.sq = 0)) : (S.setD d D).Ok n es := by
  have hd' := (Pl.dev_at hd).1
  refine ⟨H.ln, H.n40, ?_, H.m120, H.he, H.rg, H.one, ?_, H.m0⟩
  · show (S.ds.set _ D).map ends = es
    rw [List.map_set, h0, set_same (by rw [List.getElem?_map, hd']; rfl), H.le]
  · intro E hE
    rcases List.mem_or_eq_of_mem_set hE with q | q
    · exact H.dr E q
    · rw [q]; exact h1
theorem Pl.Ok.brk (d k : Int) (b : Bool) : (S.brk d k b).2.Ok n es := by
  unfold Pl.brk
  by_cases hd : S.isD d = true
  · rw [if_neg (by rw [hd]; simp)]
    have k := H.dr _ (Pl.dev_at hd).2
    exact H.setD hd _ rfl k
  · rw [if_pos (by simpa using hd)]; exact H
/-- a tote is put where none is -/
theorem Pl.Ok.putT {t m : Int} (hT : 1 ≤ t ∧ t ≤ 30) (hN : S.isN m = true) (hno : t ∉ S.ts) : Pl.Ok { S with ts := S.ts.set m.toNat t } n es := by
  have hN' := Pl.isN_iff.1 hN
  have hg : ∀ (i : Nat) (x : Int), (S.ts.set m.toNat t)[i]? = some x → (i = m.toNat ∧ x = t) ∨ S.ts[i]? = some x := fun i x hx => by
    by_cases e : m.toNat = i
    · subst e
      rw [List.getElem?_set, if_pos rfl, if_pos (by omega)] at hx
      exact .inl ⟨rfl, (Option.some.inj hx).symm⟩
    · rw [set_off e] at hx; exact .inr hx
  refine ⟨by show (S.ts.set _ _).length = n; rw [List.length_set]; exact H.ln, H.n40, H.le, H.m120, H.he, ?_, ?_, H.dr, H.m0⟩
  · intro x hx
    rcases List.mem_or_eq_of_mem_set hx with q | q
    · exact H.rg x q
    · omega
  · intro i j x hx hi hj
    rcases hg i x hi with ⟨e1, e2⟩ | q1 <;> rcases hg j x hj with ⟨e3, e4⟩ | q2
    · omega
    · subst e2; exact absurd (List.mem_of_getElem? q2) hno
    · subst e4; exact absurd (List.mem_of_getElem? q1) hno
    · exact H.one i j x hx q1 q2
theorem Pl.Ok.put (t m : Int) : (S.put t m).2.Ok n es := by
  unfold Pl.put
  by_cases h1 : (isT t && S.isN m) = false
  · rw [if_pos h1]; exact H
  rw [if_neg h1]
  by_cases h2 : S.whr t ≠ -1
  · rw [if_pos h2]; exact H
  rw [if_neg h2]
  by_cases h3 : S.att m ≠ 0
  · rw [if_pos h3]; exact H
  rw [if_neg h3]
  simp only [Bool.not_eq_false, Bool.and_eq_true] at h1
  exact H.putT (isT_iff.1 h1.1) h1.2 (fun q => h2 (by unfold Pl.whr; rw [if_pos h1.1, (loc_in q).1]; omega))
/-- a node is left -/
theorem Pl.Ok.off {m : Int} (hN : S.isN m = true) : Pl.Ok { S with ts := S.ts.set m.toNat 0 } n es := by
  have hN' := Pl.isN_iff.1 hN
  refine ⟨by show (S.ts.set _ _).length = n; rw [List.length_set]; exact H.ln, H.n40, H.le, H.m120, H.he, ?_, ?_, H.dr, H.m0⟩
  · intro x hx
    rcases List.mem_or_eq_of_mem_set hx with q | q
    · exact H.rg x q
    · omega
  · intro i j x hx hi hj
    have key : ∀ i : Nat, (S.ts.set m.toNat 0)[i]? = some x → S.ts[i]? = some x := fun i hi => by
      by_cases e : m.toNat = i
      · subst e
        rw [List.getElem?_set, if_pos rfl, if_pos (by omega)] at hi
        exact absurd (Option.some.inj hi).symm hx
      · rwa [set_off e] at hi
    exact H.one i j x hx (key i hi) (key j hj)
/-- what a move does that is done -/
theorem go_att {t : Tl} (hd : S.isD t.d = true) (x : Int) : (S.go t).att x = if x = (S.dev t.d).en then t.a else if x = (S.dev t.d).fr then 0 else S.att x := by
  obtain ⟨i1, i2, i3⟩ := H.ins (Pl.dev_at hd).2
  unfold Pl.go
  have f2 : Pl.isN ⟨S.ts.set (S.dev t.d).fr.toNat 0, S.ds, S.mv⟩ (S.dev t.d).en = true := by rw [Pl.isN_iff]; simpa using Pl.isN_iff.1 i2
  have e1 := att_set (ds := S.ds.set (t.d - 1).toNat { S.dev t.d with sq := t.s, tt := t.a }) (v := S.mv + 1) f2 t.a x
  have e2 := att_set (ds := S.ds) (v := S.mv) i1 0 x
  rw [e1, e2]
theorem Pl.Ok.go {t : Tl} (ht : t.In) (hd : S.isD t.d = true) (hw : S.whr t.a = (S.dev t.d).fr) : (S.go t).Ok n es := by
  obtain ⟨i1, i2, i3⟩ := H.ins (Pl.dev_at hd).2
  have N1 := Pl.isN_iff.1 i1
  have hT : isT t.a = true := by
    cases q : isT t.a with
    | true => rfl
    | false => unfold Pl.whr at hw; rw [q] at hw; simp at hw; omega
  have hT' := isT_iff.1 hT
  have ha : S.att (S.dev t.d).fr = t.a := by have := (whr_at hT (by rw [hw]; omega)).2; rwa [hw] at this
  have H1 := H.off i1
  have f2 : Pl.isN { S with ts := S.ts.set (S.dev t.d).fr.toNat 0 } (S.dev t.d).en = true := by rw [Pl.isN_iff]; simpa using Pl.isN_iff.1 i2
  have hno : t.a ∉ S.ts.set (S.dev t.d).fr.toNat 0 := fun q => by
    obtain ⟨i, hi⟩ := List.getElem?_of_mem q
    by_cases e : (S.dev t.d).fr.toNat = i
    · subst e
      rw [List.getElem?_set, if_pos rfl, if_pos (by omega)] at hi
      have := Option.some.inj hi
      omega
    · rw [set_off e] at hi
      have q2 := Pl.att_at i1
      rw [ha] at q2
      exact e (H.one _ _ t.a (by omega) q2 hi)
  have H2 := H1.putT hT' f2 hno
  have H3 := H2.setD (d := t.d) hd { S.dev t.d with sq := t.s, tt := t.a } rfl ⟨ht.2.2.1, by simp only; omega, fun q => by simp only at q; omega⟩
  exact ⟨H3.ln, H3.n40, H3.le, H3.m120, H3.he, H3.rg, H3.one, H3.dr, by have := H.m0; show 0 ≤ S.mv + 1; omega⟩
theorem Pl.Ok.mov {t : Tl} (ht : t.In) (hd : S.isD t.d = true) : (S.mov t).2.Ok n es := by
  unfold Pl.mov
  by_cases h1 : Pl.jst (S.dev t.d) t = true
  · rw [if_pos h1]; exact H
  rw [if_neg h1]
  by_cases h2 : Pl.lte (S.dev t.d) t = true
  · rw [if_pos h2]; exact H
  rw [if_neg h2]
  by_cases h3 : S.whr t.a ≠ (S.dev t.d).fr
  · rw [if_pos h3]; exact H
  rw [if_neg h3]
  by_cases h4 : S.att (S.dev t.d).en ≠ 0
  · rw [if_pos h4]; exact H
  rw [if_neg h4]
  exact H.go ht hd (by simpa using h3)
omit H in
theorem Pl.wrk_isD {d : Int} (h : S.wrk d = true) : S.isD d = true := by unfold Pl.wrk at h; simp only [Bool.and_eq_true] at h; exact h.1
theorem Pl.Ok.hear {t : Tl} (ht : t.In) : (S.hear t).2.Ok n es := by
  unfold Pl.hear
  by_cases h1 : S.wrk t.d = false
  · rw [if_pos h1]; exact H
  rw [if_neg h1]
  by_cases h2 : t.k = 1
  · rw [if_pos h2]; exact H.mov ht (Pl.wrk_isD (by simpa using h1))
  rw [if_neg h2]
  by_cases h3 : t.k = 6
  · rw [if_pos h3]; exact H
  rw [if_neg h3]; exact H
end
end Go.Proofs.Ythcdfclhenmleaa
