/- Plans, as plain data: when there is one, and what comes of it when it is done. -/
import Derived.Test.YtddcjkbdgneklaaGfm
namespace Go.Proofs.Ytddcjkbdgneklaa
open Go.RowKit
set_option linter.unusedVariables false

/-- the sum of rooms -/
def s2 (L : List (Nat × Nat)) : Nat := (L.map (·.2)).sum
theorem s2_cons (l : Nat × Nat) (L : List (Nat × Nat)) : s2 (l :: L) = l.2 + s2 L := by simp [s2]
theorem s2_set {L : List (Nat × Nat)} : ∀ {k : Nat} {l : Nat × Nat} (m : Nat × Nat), L[k]? = some l → s2 (L.set k m) + l.2 = s2 L + m.2 := by
  induction L with
  | nil => intro k l m h; simp at h
  | cons x R ih =>
    intro k l m h
    cases k with
    | zero => simp at h; subst h; rw [List.set_cons_zero, s2_cons, s2_cons]; omega
    | succ k =>
      have := ih m (by simpa using h)
      rw [List.set_cons_succ, s2_cons, s2_cons]; omega
theorem s2_ge {L : List (Nat × Nat)} {k : Nat} {l : Nat × Nat} (h : L[k]? = some l) : l.2 ≤ s2 L := by
  have := s2_set (0, 0) h
  simp at this
  omega
theorem s2_pos {L : List (Nat × Nat)} : s2 L ≠ 0 → ∃ (i : Nat) (l : Nat × Nat), L[i]? = some l ∧ l.2 ≠ 0 := by
  induction L with
  | nil => intro h; exact absurd rfl h
  | cons x R ih =>
    intro h
    by_cases hx : x.2 = 0
    · obtain ⟨i, l, h1, h2⟩ := ih (by rw [s2_cons] at h; omega)
      exact ⟨i + 1, l, by simpa using h1, h2⟩
    · exact ⟨0, x, rfl, hx⟩
theorem s2_lds (R : Rack) : s2 (lds R) = rm R := by unfold s2 lds rm; rw [List.map_map]; rfl
/-- the room in other lanes than one -/
def els (L : List (Nat × Nat)) (i : Nat) : Nat := s2 (L.set i (0, 0))
theorem els_room {L : List (Nat × Nat)} {i : Nat} {l : Nat × Nat} (h : L[i]? = some l) : els L i + l.2 = s2 L := by
  have := s2_set (0, 0) h
  simpa [els] using this
theorem bst_els {L : List (Nat × Nat)} {i : Nat} : bst L (i : Int) = -1 ↔ els L i = 0 := by
  have hb := bst_is L (i : Int)
  constructor
  · intro h
    by_cases h0 : els L i = 0
    · exact h0
    · exfalso
      obtain ⟨j, l, hj, hl⟩ := s2_pos h0
      rcases hb with ⟨_, hx⟩ | ⟨k, l, hk, _⟩
      · by_cases e : i = j
        · subst e
          rw [List.getElem?_set, if_pos rfl] at hj
          by_cases hlt : i < L.length
          · rw [if_pos hlt] at hj; cases hj; exact hl rfl
          · rw [if_neg hlt] at hj; cases hj
        · rw [set_off e] at hj
          exact hl (hx j l (idx_lt hj) hj (by omega))
      · omega
  · intro h
    rcases hb with ⟨hx, _⟩ | ⟨k, l, hk, hkl, hl, hki, hl2, _⟩
    · exact hx
    · exfalso
      have hne : i ≠ k := by omega
      have : (L.set i (0, 0))[k]? = some l := by rw [set_off hne]; exact hl
      have := s2_ge this
      unfold els at h
      omega
theorem bst_in {L : List (Nat × Nat)} {i : Nat} (h : bst L (i : Int) ≠ -1) : ∃ (k : Nat) (l : Nat × Nat), bst L (i : Int) = k ∧ L[k]? = some l ∧ k ≠ i ∧ l.2 ≠ 0 := by
  rcases bst_is L (i : Int) with ⟨hx, _⟩ | ⟨k, l, hk, hkl, hl, hki, hl2, _⟩
  · exact absurd hx h
  · exact ⟨k, l, hk, hl, by omega, hl2⟩
theorem els_inc {L : List (Nat × Nat)} {i k : Nat} {l : Nat × Nat} (hl : L[k]? = some l) (hki : k ≠ i) (h2 : l.2 ≠ 0) : els (inc L k) i + 1 = els L i := by
  unfold els
  rw [inc_at hl, List.set_comm _ _ hki]
  have h1 : (L.set i (0, 0))[k]? = some l := by rw [set_off (fun e => hki e.symm)]; exact hl
  have := s2_set (l.1 + 1, l.2 - 1) h1
  simp only at this
  omega
theorem pln_ok {i : Nat} : ∀ (xs : List Int) (L : List (Nat × Nat)), (pln (i : Int) L xs = none ↔ els L i < xs.length) ∧ ∀ ms, pln (i : Int) L xs = some ms → ms.length = xs.length
  | [], L => by
    refine ⟨⟨fun h => by simp [pln] at h, fun h => by simp at h⟩, fun ms h => ?_⟩
    simp [pln] at h
    subst h
    rfl
  | x :: xs, L => by
    by_cases hb : bst L (i : Int) = -1
    · have h0 := bst_els.1 hb
      rw [pln, if_pos hb]
      exact ⟨⟨fun _ => by simp; omega, fun _ => rfl⟩, fun ms h => by cases h⟩
    · obtain ⟨k, l, hk, hl, hki, hl2⟩ := bst_in hb
      have ih := pln_ok (i := i) xs (inc L k)
      have he := els_inc hl hki hl2
      rw [pln_step hk]
      refine ⟨⟨fun h => ?_, fun h => ?_⟩, fun ms h => ?_⟩
      · rw [Option.map_eq_none_iff] at h
        have := ih.1.1 h
        simp; omega
      · rw [Option.map_eq_none_iff]
        apply ih.1.2
        simp at h; omega
      · rw [Option.map_eq_some_iff] at h
        obtain ⟨ms', h1, h2⟩ := h
        subst h2
        simp [ih.2 ms' h1]

/-- loads that are the rack's in all lanes but one -/
def Agr (L : List (Nat × Nat)) (R : Rack) (i : Nat) : Prop := L.length = R.length ∧ ∀ j : Nat, j ≠ i → L[j]? = (lds R)[j]?
/-- a tote stands in the rack -/
def On (R : Rack) (y : Int) : Prop := ∃ (i : Nat) (l : Nat × List Int), R[i]? = some l ∧ y ∈ l.2
theorem on_set {R : Rack} {k : Nat} {l : Nat × List Int} (ys : List Int) (d : Nat) (hl : R[k]? = some l) (y : Int) : On (R.set k (d, ys)) y ↔ (y ∈ ys ∨ ∃ (i : Nat) (m : Nat × List Int), i ≠ k ∧ R[i]? = some m ∧ y ∈ m.2) := by
  constructor
  · rintro ⟨i, m, hi, hm⟩
    by_cases e : k = i
    · subst e
      rw [set_at hl] at hi
      cases hi
      exact .inl hm
    · rw [set_off e] at hi
      exact .inr ⟨i, m, fun h => e h.symm, hi, hm⟩
  · rintro (h | ⟨i, m, hi, hm, hy⟩)
    · exact ⟨k, _, set_at hl, h⟩
    · exact ⟨i, m, by rw [set_off (fun e => hi e.symm)]; exact hm, hy⟩
theorem on_at {R : Rack} {k : Nat} {l : Nat × List Int} (hl : R[k]? = some l) (y : Int) : On R y ↔ (y ∈ l.2 ∨ ∃ (i : Nat) (m : Nat × List Int), i ≠ k ∧ R[i]? = some m ∧ y ∈ m.2) := by
  have := on_set l.2 l.1 hl y
  rwa [set_same hl] at this
/-- a move out of the rack -/
theorem on_drop {R : Rack} (hw : Wf R) {k : Nat} {l : Nat × List Int} {t : Int} (hl : R[k]? = some l) (ht : l.2.getLast? = some t) (y : Int) : On (R.set k (l.1, l.2.dropLast)) y ↔ (On R y ∧ y ≠ t) := by
  rw [on_set _ _ hl, on_at hl]
  obtain ⟨ys, hy⟩ := List.getLast?_eq_some_iff.1 ht
  have hn := hw.nd k l hl
  have htm := List.mem_of_getLast? ht
  rw [hy] at hn
  rw [List.nodup_append] at hn
  constructor
  · rintro (h | ⟨i, m, hi, hm, hym⟩)
    · rw [hy] at h ⊢
      simp at h
      exact ⟨.inl (by simp [h]), fun e => by subst e; exact hn.2.2 _ h _ (by simp) rfl⟩
    · exact ⟨.inr ⟨i, m, hi, hm, hym⟩, fun e => by subst e; exact hi (hw.dj i k m l y hm hl hym htm)⟩
  · rintro ⟨h | h, hne⟩
    · left
      rw [hy] at h ⊢
      simp at h ⊢
      exact h.resolve_right hne
    · exact .inr h
theorem on_add {R : Rack} {k : Nat} {l : Nat × List Int} {t : Int} (hl : R[k]? = some l) (y : Int) : On (R.set k (l.1, l.2 ++ [t])) y ↔ (On R y ∨ y = t) := by
  rw [on_set _ _ hl, on_at hl]
  simp
  constructor
  · rintro ((h | h) | h)
    · exact .inl (.inl h)
    · exact .inr h
    · exact .inl (.inr h)
  · rintro ((h | h) | h)
    · exact .inl (.inl h)
    · exact .inr h
    · exact .inl (.inr h)
/-- lanes hold no more than they can -/
def Fit (R : Rack) : Prop := ∀ (i : Nat) (l : Nat × List Int), R[i]? = some l → l.2.length ≤ l.1
theorem do_out_rm {R : Rack} (hf : Fit R) (m : Mv) (hd : doC R m = 0) (ho : m.o = -1) : rm (doR R m) = rm R + 1 := by
  rcases do_form R m with ⟨e, _⟩ | ⟨_, i, l, _, hl, ht, ⟨_, e⟩ | ⟨j, n, ho', _⟩⟩
  · exact absurd hd e
  · have h1 := rm_set (l.1, l.2.dropLast) hl
    have h2 := hf i l hl
    have h3 : 0 < l.2.length := List.length_pos_of_mem (List.mem_of_getLast? ht)
    rw [e]
    simp at h1
    omega
  · omega
theorem do_out_on {R : Rack} (hw : Wf R) (m : Mv) (hd : doC R m = 0) (ho : m.o = -1) (y : Int) : On (doR R m) y ↔ (On R y ∧ y ≠ m.t) := by
  rcases do_form R m with ⟨e, _⟩ | ⟨_, i, l, _, hl, ht, ⟨_, e⟩ | ⟨j, n, ho', _⟩⟩
  · exact absurd hd e
  · rw [e]; exact on_drop hw hl ht y
  · omega
theorem do_in_rm {R : Rack} (hf : Fit R) (m : Mv) (hd : doC R m = 0) (ho : m.o ≠ -1) : rm (doR R m) = rm R := by
  rcases do_form R m with ⟨e, _⟩ | ⟨_, i, l, _, hl, ht, ⟨ho', _⟩ | ⟨j, n, _, hij, hn, hr, e⟩⟩
  · exact absurd hd e
  · exact absurd ho' ho
  · have h1 := rm_set (l.1, l.2.dropLast) hl
    have h2 := hf i l hl
    have h3 : 0 < l.2.length := List.length_pos_of_mem (List.mem_of_getLast? ht)
    have hn' : (R.set i (l.1, l.2.dropLast))[j]? = some n := by rw [set_off hij]; exact hn
    have h4 := rm_set (n.1, n.2 ++ [m.t]) hn'
    rw [e]
    simp at h1 h4
    omega
theorem do_in_on {R : Rack} (hw : Wf R) (m : Mv) (hd : doC R m = 0) (ho : m.o ≠ -1) (y : Int) : On (doR R m) y ↔ On R y := by
  rcases do_form R m with ⟨e, _⟩ | ⟨_, i, l, _, hl, ht, ⟨ho', _⟩ | ⟨j, n, _, hij, hn, hr, e⟩⟩
  · exact absurd hd e
  · exact absurd ho' ho
  · have hn' : (R.set i (l.1, l.2.dropLast))[j]? = some n := by rw [set_off hij]; exact hn
    rw [e, on_add hn', on_drop hw hl ht]
    have : On R m.t := ⟨i, l, hl, List.mem_of_getLast? ht⟩
    constructor
    · rintro (h | rfl)
      · exact h.1
      · exact this
    · intro h
      by_cases e' : y = m.t
      · exact .inr e'
      · exact .inl ⟨h, e'⟩
theorem do_dep {R : Rack} (m : Mv) : (doR R m).map (·.1) = R.map (·.1) := by
  have key : ∀ (R : Rack) (k : Nat) (l : Nat × List Int) (ys : List Int), R[k]? = some l → (R.set k (l.1, ys)).map (·.1) = R.map (·.1) := fun R k l ys h => by
    rw [List.map_set]
    exact set_same (by rw [List.getElem?_map, h]; rfl)
  rcases do_form R m with ⟨_, e⟩ | ⟨_, i, l, _, hl, ht, ⟨_, e⟩ | ⟨j, n, _, hij, hn, hr, e⟩⟩
  · rw [e]
  · rw [e]; exact key R i l _ hl
  · have hn' : (R.set i (l.1, l.2.dropLast))[j]? = some n := by rw [set_off hij]; exact hn
    rw [e, key _ j n _ hn', key R i l _ hl]
theorem put_dep {R : Rack} (t : Int) : (putR R t).map (·.1) = R.map (·.1) := by
  rcases put_form R t with ⟨_, e, _⟩ | ⟨_, k, l, _, hl, _, e, _⟩
  · rw [e]
  · rw [e, List.map_set]
    exact set_same (by rw [List.getElem?_map, hl]; rfl)
theorem Fit.doR {R : Rack} (hf : Fit R) (m : Mv) : Fit (doR R m) := by
  have key : ∀ (R : Rack) (k : Nat) (l : Nat × List Int) (ys : List Int), R[k]? = some l → Fit R → ys.length ≤ l.1 → Fit (R.set k (l.1, ys)) := fun R k l ys h hf hy i q hi => by
    by_cases e : k = i
    · subst e
      rw [set_at h] at hi
      cases hi
      exact hy
    · rw [set_off e] at hi; exact hf i q hi
  rcases do_form R m with ⟨_, e⟩ | ⟨_, i, l, _, hl, ht, ⟨_, e⟩ | ⟨j, n, _, hij, hn, hr, e⟩⟩
  · rw [e]; exact hf
  · rw [e]; exact key R i l _ hl hf (by have := hf i l hl; simp; omega)
  · have hn' : (R.set i (l.1, l.2.dropLast))[j]? = some n := by rw [set_off hij]; exact hn
    rw [e]
    exact key _ j n _ hn' (key R i l _ hl hf (by have := hf i l hl; simp; omega)) (by simp; omega)

/-- the moves that are left of a plan, and the rack as it is by then -/
def Pl (t : Int) (i : Nat) (R : Rack) (ms : List Mv) : Prop := ∃ (d : Nat) (base xs : List Int) (L : List (Nat × Nat)) (m1 : List Mv), R[i]? = some (d, base ++ [t] ++ xs.reverse) ∧ Agr L R i ∧ pln (i : Int) L xs = some m1 ∧ ms = m1 ++ [⟨t, (i : Int), -1⟩]
theorem bst_agr {L : List (Nat × Nat)} {R : Rack} {i : Nat} (h : Agr L R i) : bst L (i : Int) = bst (lds R) (i : Int) := by
  have hl : L.length = (lds R).length := by rw [lds_len]; exact h.1
  refine IsB.uniq (L := lds R) (but := (i : Int)) (n := (lds R).length) ?_ (bst_is _ _)
  have hb := bst_is L (i : Int)
  have ne : ∀ j : Nat, (j : Int) ≠ (i : Int) → L[j]? = (lds R)[j]? := fun j hj => h.2 j (by omega)
  rcases hb with ⟨h1, h2⟩ | ⟨k, l, h1, h2, h3, h4, h5, h6⟩
  · exact .inl ⟨h1, fun j l hj hl' hne => h2 j l (by omega) (by rw [ne j hne]; exact hl') hne⟩
  · exact .inr ⟨k, l, h1, by omega, by rw [← ne k h4]; exact h3, h4, h5, fun j l' hj hl' hne hr => h6 j l' (by omega) (by rw [ne j hne]; exact hl') hne hr⟩
theorem Pl.step {t : Int} {i : Nat} {R : Rack} {m : Mv} {ms : List Mv} (hw : Wf R) (h : Pl t i R (m :: ms)) : doC R m = 0 ∧ ((ms = [] ∧ m.o = -1 ∧ m.t = t) ∨ (m.o ≠ -1 ∧ Pl t i (doR R m) ms)) := by
  obtain ⟨d, base, xs, L, m1, hR, hA, hp, hms⟩ := h
  have hil := idx_lt hR
  cases xs with
  | nil =>
    simp [pln] at hp
    subst hp
    simp at hms
    obtain ⟨rfl, rfl⟩ := hms
    refine ⟨?_, .inl ⟨rfl, rfl, rfl⟩⟩
    unfold doC
    rw [if_neg (by simp only; omega), if_neg, if_neg (by simp)]
    simp only [Int.toNat_natCast, ln_at hR]
    simp
  | cons x xs =>
    have hb : bst L (i : Int) ≠ -1 := fun e => by rw [pln, if_pos e] at hp; cases hp
    obtain ⟨k, l, hk, hl, hki, hl2⟩ := bst_in hb
    rw [pln_step hk, Option.map_eq_some_iff] at hp
    obtain ⟨m2, hp2, rfl⟩ := hp
    simp at hms
    obtain ⟨rfl, rfl⟩ := hms
    have hl' := hl
    rw [hA.2 k hki] at hl'
    have hkR : k < R.length := by rw [← hA.1]; exact idx_lt hl
    obtain ⟨n, hn⟩ : ∃ n, R[k]? = some n := ⟨_, List.getElem?_eq_getElem hkR⟩
    rw [lds_at hn] at hl'
    cases hl'
    simp only at hl2
    have hlast : (base ++ [t] ++ (x :: xs).reverse).getLast? = some x := by rw [List.reverse_cons, ← List.append_assoc]; exact List.getLast?_concat
    have hdrop : (base ++ [t] ++ (x :: xs).reverse).dropLast = base ++ [t] ++ xs.reverse := by
      rw [List.reverse_cons, ← List.append_assoc, List.dropLast_concat]
    have hc : doC R ⟨x, i, k⟩ = 0 := by
      unfold doC
      rw [if_neg (by simp only; omega), if_neg, if_neg]
      · simp only [Int.toNat_natCast, ln_at hn]; omega
      · simp only [Int.toNat_natCast, ln_at hR, hlast]; simp
    refine ⟨hc, .inr ⟨by simp only; omega, ?_⟩⟩
    rcases do_form R ⟨x, i, k⟩ with ⟨e, _⟩ | ⟨_, i', q, hi', hq, _, ⟨ho, _⟩ | ⟨j', n', hj', hij', hn', _, e⟩⟩
    · exact absurd hc e
    · simp only at ho; omega
    · simp only at hi' hj' e
      obtain rfl : i = i' := by omega
      obtain rfl : k = j' := by omega
      rw [hR] at hq
      cases hq
      rw [hn] at hn'
      cases hn'
      simp only [hdrop] at e
      have hset : (R.set i (d, base ++ [t] ++ xs.reverse))[k]? = some n := by rw [set_off hij']; exact hn
      refine ⟨d, base, xs, inc L k, m2, ?_, ⟨?_, fun j hj => ?_⟩, hp2, rfl⟩
      · rw [e, set_off (fun e => hij' e.symm), set_at hR]
      · rw [e, inc_len, List.length_set, List.length_set]; exact hA.1
      · rw [e, inc_at hl]
        by_cases e' : k = j
        · subst e'
          rw [set_at hl, lds_at (set_at hset)]
          simp
          omega
        · rw [set_off e', hA.2 j hj]
          unfold lds
          rw [List.getElem?_map, List.getElem?_map, set_off e', set_off (fun e => hj e.symm)]
theorem pl_start {R : Rack} {t : Int} {i : Nat} (hw : whr R t = (i : Int)) (hc : planC R t = 0) : Pl t i R (planM R t) := by
  rcases whr_form R t with ⟨h, _⟩ | ⟨k, l, h, hkl, hl, hm, _⟩
  · rw [h] at hw; omega
  rw [h] at hw
  obtain rfl : k = i := by omega
  obtain ⟨p, hp, hpl, hpx⟩ := loc_in hm
  have eA : ahx R t = ahd l.2 p := by unfold ahx; rw [h, Int.toNat_natCast, ln_at hl, hp, Int.toNat_natCast]
  unfold planC at hc
  rw [h, if_neg (by omega), eA] at hc
  obtain ⟨ms, hms⟩ : ∃ ms, pln (k : Int) (lds R) (ahd l.2 p) = some ms := by
    cases e : pln (k : Int) (lds R) (ahd l.2 p) with
    | none => rw [e] at hc; simp at hc
    | some ms => exact ⟨ms, rfl⟩
  refine ⟨l.1, l.2.take p, ahd l.2 p, lds R, ms, ?_, ⟨lds_len R, fun _ _ => rfl⟩, hms, ?_⟩
  · have e : l.2.take p ++ [t] ++ (ahd l.2 p).reverse = l.2 := by
      unfold ahd
      rw [List.reverse_reverse]
      rw [List.getElem?_eq_getElem hpl] at hpx
      have h1 : l.2.take p ++ [t] = l.2.take (p + 1) := by rw [List.take_add_one, List.getElem?_eq_getElem hpl, Option.some.inj hpx]; rfl
      rw [h1, List.take_append_drop]
    rw [e, hl]
  · unfold planM
    rw [h, if_neg (by omega), eA, hms]
theorem plan_len {R : Rack} {t : Int} {i : Nat} {l : Nat × List Int} {p : Nat} (hw : whr R t = (i : Int)) (hl : R[i]? = some l) (hp : loc l.2 t = (p : Int)) : (planC R t = 0 ∧ (planM R t).length = (ahd l.2 p).length + 1 ∧ (ahd l.2 p).length ≤ els (lds R) i) ∨ (planC R t = 5 ∧ els (lds R) i < (ahd l.2 p).length) := by
  have eA : ahx R t = ahd l.2 p := by unfold ahx; rw [hw, Int.toNat_natCast, ln_at hl, hp, Int.toNat_natCast]
  have hk := pln_ok (i := i) (ahd l.2 p) (lds R)
  have hne : ¬ ((i : Int) = -1) := by omega
  cases e : pln (i : Int) (lds R) (ahd l.2 p) with
  | none =>
    right
    refine ⟨?_, hk.1.1 e⟩
    unfold planC
    rw [hw, if_neg hne, eA, if_pos e]
  | some ms =>
    left
    refine ⟨?_, ?_, ?_⟩
    · unfold planC
      rw [hw, if_neg hne, eA, if_neg (by rw [e]; simp)]
    · unfold planM
      rw [hw, if_neg hne, eA, e]
      simp [hk.2 ms e]
    · rcases Nat.lt_or_ge (els (lds R) i) (ahd l.2 p).length with g | g
      · have := hk.1.2 g; rw [e] at this; cases this
      · exact g

/-- how a plan's moves go: rack, room and totes -/
def Pst (R0 : Rack) (t : Int) (i : Nat) (R : Rack) (ms : List Mv) : Prop := (Fit R ∧ R.map (·.1) = R0.map (·.1)) ∧ ((ms ≠ [] ∧ Pl t i R ms ∧ (∀ y, On R y ↔ On R0 y) ∧ rm R = rm R0) ∨ (ms = [] ∧ (∀ y, On R y ↔ (On R0 y ∧ y ≠ t)) ∧ rm R = rm R0 + 1))
theorem Pst.step {R0 R : Rack} {t : Int} {i : Nat} {m : Mv} {ms : List Mv} (hw : Wf R) (h : Pst R0 t i R (m :: ms)) : doC R m = 0 ∧ Pst R0 t i (doR R m) ms := by
  obtain ⟨⟨hf, hd⟩, ⟨_, hp, ho, hr⟩ | ⟨h, _⟩⟩ := h
  · obtain ⟨hc, hx⟩ := hp.step hw
    refine ⟨hc, ⟨hf.doR m, by rw [do_dep]; exact hd⟩, ?_⟩
    rcases hx with ⟨rfl, h1, h2⟩ | ⟨h1, h2⟩
    · exact .inr ⟨rfl, fun y => by rw [do_out_on hw m hc h1, ho, h2], by rw [do_out_rm hf m hc h1, hr]⟩
    · refine .inl ⟨?_, h2, fun y => by rw [do_in_on hw m hc h1, ho], by rw [do_in_rm hf m hc h1, hr]⟩
      obtain ⟨_, _, _, _, m1, _, _, _, e⟩ := h2
      rw [e]; simp
  · cases h
theorem pst_start {R : Rack} {t : Int} {i : Nat} (hf : Fit R) (hw : whr R t = (i : Int)) (hc : planC R t = 0) : Pst R t i R (planM R t) := by
  have hp := pl_start hw hc
  refine ⟨⟨hf, rfl⟩, .inl ⟨?_, hp, fun _ => Iff.rfl, rfl⟩⟩
  obtain ⟨_, _, _, _, m1, _, _, _, e⟩ := hp
  rw [e]; simp
end Go.Proofs.Ytddcjkbdgneklaa
