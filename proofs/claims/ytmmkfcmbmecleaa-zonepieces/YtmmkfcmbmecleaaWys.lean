/- Ways in a graph: lengths of the shortest ones, and the invariants of the two searches. -/
namespace Go.Proofs.Ytmmkfcmbmecleaa
set_option linter.unusedVariables false

/-- a way of so many edges; it goes on from its beginning and from tracks alone -/
inductive Way (E : Nat → Nat → Prop) (T : Nat → Prop) (s : Nat) : Nat → Nat → Prop
  | here : Way E T s 0 s
  | step {k u v : Nat} : Way E T s k u → (u = s ∨ T u) → E u v → Way E T s (k + 1) v
/-- the same with tracks alone between its ends -/
inductive Pth (E : Nat → Nat → Prop) (T : Nat → Prop) (s : Nat) : Nat → Nat → Prop
  | one {v : Nat} : E s v → Pth E T s 1 v
  | more {k u v : Nat} : Pth E T s k u → T u → E u v → Pth E T s (k + 1) v

section
variable {E : Nat → Nat → Prop} {T : Nat → Prop} {s : Nat}

theorem Way.pth {k v : Nat} (h : Way E T s k v) : s = v ∨ ∃ j, j ≤ k ∧ Pth E T s j v := by
  induction h with
  | here => exact .inl rfl
  | @step k u v h1 h2 h3 ih =>
    rcases ih with rfl | ⟨j, hj, hp⟩
    · exact .inr ⟨1, by omega, .one h3⟩
    · rcases h2 with rfl | ht
      · exact .inr ⟨1, by omega, .one h3⟩
      · exact .inr ⟨j + 1, by omega, .more hp ht h3⟩
theorem Pth.way {k v : Nat} (h : Pth E T s k v) : Way E T s k v := by
  induction h with
  | one h => exact .step .here (.inl rfl) h
  | more _ ht h ih => exact .step ih (.inr ht) h
theorem Pth.front {k u v : Nat} (h0 : E s u) (ht : T u) (h : Pth E T u k v) : Pth E T s (k + 1) v := by
  induction h with
  | one h => exact .more (.one h0) ht h
  | more _ ht h ih => exact .more ih ht h
theorem Pth.back {k v : Nat} (h : Pth E T s k v) : Pth (fun a b => E b a) T v k s := by
  induction h with
  | one h => exact .one h
  | more _ ht h ih => exact Pth.front (E := fun a b => E b a) h ht ih
theorem Way.back {k v : Nat} (h : Way E T s k v) : ∃ j, j ≤ k ∧ Way (fun a b => E b a) T v j s := by
  rcases h.pth with rfl | ⟨j, hj, hp⟩
  · exact ⟨0, by omega, .here⟩
  · exact ⟨j, hj, hp.back.way⟩
theorem Way.imp {E' : Nat → Nat → Prop} {k v : Nat} (hE : ∀ u v, E u v → E' u v) (h : Way E T s k v) : Way E' T s k v := by
  induction h with
  | here => exact .here
  | step _ h2 h3 ih => exact .step ih h2 (hE _ _ h3)

/-- what is told of a node: the length of the shortest way, or -1 -/
def Dst (E : Nat → Nat → Prop) (T : Nat → Prop) (s v : Nat) (d : Int) : Prop :=
  (d = -1 ∧ ∀ k, ¬ Way E T s k v) ∨ ∃ k : Nat, d = k ∧ Way E T s k v ∧ ∀ j, Way E T s j v → k ≤ j
theorem Dst.uniq {v : Nat} {d d' : Int} (h : Dst E T s v d) (h' : Dst E T s v d') : d = d' := by
  rcases h with ⟨rfl, h1⟩ | ⟨k, rfl, h2, h3⟩ <;> rcases h' with ⟨rfl, h1'⟩ | ⟨k', rfl, h2', h3'⟩
  · rfl
  · exact absurd h2' (h1 _)
  · exact absurd h2 (h1' _)
  · have := h3 _ h2'
    have := h3' _ h2
    omega
theorem Dst.back {v : Nat} {d : Int} (h : Dst E T s v d) : Dst (fun a b => E b a) T v s d := by
  have fl : ∀ {k : Nat}, Way (fun a b => E b a) T v k s → ∃ j, j ≤ k ∧ Way E T s j v := fun h => h.back
  rcases h with ⟨rfl, h1⟩ | ⟨k, rfl, h2, h3⟩
  · exact .inl ⟨rfl, fun k h => by obtain ⟨j, _, hj⟩ := fl h; exact h1 _ hj⟩
  · obtain ⟨j, hj, hw⟩ := h2.back
    have hk : ∀ i, Way (fun a b => E b a) T v i s → k ≤ i := fun i hi => by
      obtain ⟨q, hq, hw⟩ := fl hi
      have := h3 _ hw
      omega
    have := hk _ hw
    obtain rfl : j = k := by omega
    exact .inr ⟨j, rfl, hw, hk⟩

/-- the value that stands at a place, -1 outside -/
def va (l : List Int) (v : Nat) : Int := l[v]?.getD (-1)
theorem va_set (l : List Int) (i : Nat) (x : Int) (v : Nat) (hi : i < l.length) : va (l.set i x) v = if v = i then x else va l v := by
  unfold va
  rw [List.getElem?_set]
  by_cases h : i = v
  · subst h; simp [hi]
  · rw [if_neg h, if_neg (fun e => h e.symm)]
theorem va_out (l : List Int) (v : Nat) (h : l.length ≤ v) : va l v = -1 := by
  unfold va; rw [List.getElem?_eq_none h]; rfl
theorem va_at (l : List Int) (v : Nat) (h : v < l.length) : l[v]? = some (va l v) := by
  unfold va; rw [List.getElem?_eq_getElem h]; rfl
theorem va_ext {l l' : List Int} (h0 : l.length = l'.length) (h : ∀ v, v < l.length → va l v = va l' v) : l = l' := by
  apply List.ext_getElem? 
  intro i
  rcases Nat.lt_or_ge i l.length with hi | hi
  · rw [va_at l i hi, va_at l' i (by omega), h i hi]
  · rw [List.getElem?_eq_none hi, List.getElem?_eq_none (by omega)]

/-- the lengths of all nodes -/
def Far (E : Nat → Nat → Prop) (T : Nat → Prop) (s n : Nat) (l : List Int) : Prop := l.length = n ∧ ∀ v, v < n → Dst E T s v (va l v)
theorem Far.uniq {n : Nat} {l l' : List Int} (h : Far E T s n l) (h' : Far E T s n l') : l = l' :=
  va_ext (by rw [h.1, h'.1]) fun v hv => (h.2 v (by rw [h.1] at hv; exact hv)).uniq (h'.2 v (by rw [h.1] at hv; exact hv))

/-- what both searches keep: each value is that of a way -/
structure Fnd (E : Nat → Nat → Prop) (T : Nat → Prop) (s n : Nat) (l : List Int) : Prop where
  len : l.length = n
  lt : s < n
  zero : va l s = 0
  low : ∀ v, -1 ≤ va l v
  way : ∀ v (k : Nat), va l v = k → Way E T s k v
/-- an edge is done -/
def Don (l : List Int) (u v : Nat) : Prop := 0 ≤ va l v ∧ va l v ≤ va l u + 1
theorem Fnd.far {n : Nat} {l : List Int} (h : Fnd E T s n l) (hE : ∀ u v, E u v → (u = s ∨ T u) → 0 ≤ va l u → Don l u v) : Far E T s n l := by
  have key : ∀ {k v}, Way E T s k v → 0 ≤ va l v ∧ va l v ≤ k := by
    intro k v hw
    induction hw with
    | here => rw [h.zero]; omega
    | @step k u v _ h2 h3 ih =>
      have := hE _ _ h3 h2 ih.1
      unfold Don at this
      omega
  refine ⟨h.len, fun v hv => ?_⟩
  by_cases h0 : 0 ≤ va l v
  · obtain ⟨k, hk⟩ := Int.eq_ofNat_of_zero_le h0
    exact .inr ⟨k, hk, h.way v k hk, fun j hj => by have := (key hj).2; omega⟩
  · refine .inl ⟨by have := h.low v; omega, fun k hk => h0 (key hk).1⟩
theorem Fnd.set {n : Nat} {l : List Int} (h : Fnd E T s n l) (u v : Nat) (hu : 0 ≤ va l u) (hT : u = s ∨ T u) (hE : E u v) (hv : v < n) (hs : v ≠ s) : Fnd E T s n (l.set v (va l u + 1)) := by
  have hl : v < l.length := by rw [h.len]; exact hv
  refine ⟨by rw [List.length_set]; exact h.len, h.lt, ?_, fun x => ?_, fun x k hx => ?_⟩
  · rw [va_set _ _ _ _ hl, if_neg (fun e => hs e.symm)]; exact h.zero
  · rw [va_set _ _ _ _ hl]
    split
    · omega
    · exact h.low x
  · rw [va_set _ _ _ _ hl] at hx
    split at hx
    · subst x
      obtain ⟨j, hj⟩ := Int.eq_ofNat_of_zero_le hu
      have := h.way u j hj
      obtain rfl : k = j + 1 := by omega
      exact .step this hT hE
    · exact h.way x k hx
theorem va_start (n s : Nat) (h : s < n) (v : Nat) : va ((List.replicate n (-1)).set s 0) v = if v = s then 0 else -1 := by
  rw [va_set _ _ _ _ (by simpa using h)]
  unfold va
  rw [List.getElem?_replicate]
  split
  · rfl
  · split <;> rfl
theorem Fnd.start (n : Nat) (h : s < n) : Fnd E T s n ((List.replicate n (-1)).set s 0) := by
  refine ⟨by simp, h, by rw [va_start n s h, if_pos rfl], fun v => ?_, fun v k hv => ?_⟩
  · rw [va_start n s h]; split <;> omega
  · rw [va_start n s h] at hv
    split at hv
    · subst v; obtain rfl : k = 0 := by omega
      exact .here
    · omega

/-! ### sums -/
def sm (f : Int → Nat) (l : List Int) : Nat := (l.map f).sum
theorem sm_set (f : Int → Nat) (l : List Int) (i : Nat) (x : Int) (hi : i < l.length) : sm f (l.set i x) + f (va l i) = sm f l + f x := by
  induction l generalizing i with
  | nil => simp at hi
  | cons y l ih =>
    cases i with
    | zero => simp [sm, va]; omega
    | succ i =>
      have := ih i (by simpa using hi)
      have e : va (y :: l) (i + 1) = va l i := by simp [va]
      rw [e]
      simp only [sm, List.set_cons_succ, List.map_cons, List.sum_cons] at this ⊢
      omega
def cn (x : Int) : Nat := if 0 ≤ x then 1 else 0
def wt (n : Nat) (x : Int) : Nat := if 0 ≤ x then x.toNat else n
theorem cn_le (l : List Int) : sm cn l ≤ l.length := by
  induction l with
  | nil => simp [sm]
  | cons x l ih =>
    simp only [sm, List.map_cons, List.sum_cons, List.length_cons] at ih ⊢
    have : cn x ≤ 1 := by unfold cn; split <;> omega
    omega

/-- the search that tells anew: no value is above the number of nodes that have one -/
def Low (l : List Int) : Prop := ∀ v, va l v < sm cn l
theorem low_set {n : Nat} {l : List Int} (h : Fnd E T s n l) (hl : Low l) (u v : Nat) (hu : 0 ≤ va l u) (hv : v < n) (hx : va l v < 0 ∨ va l u + 1 < va l v) :
    Low (l.set v (va l u + 1)) ∧ sm (wt n) (l.set v (va l u + 1)) < sm (wt n) l := by
  have hlen : v < l.length := by rw [h.len]; exact hv
  have e1 := sm_set cn l v (va l u + 1) hlen
  have e2 := sm_set (wt n) l v (va l u + 1) hlen
  have c1 : cn (va l u + 1) = 1 := by unfold cn; rw [if_pos (by omega)]
  have w1 : wt n (va l u + 1) = (va l u + 1).toNat := by unfold wt; rw [if_pos (by omega)]
  have hu' := hl u
  have hle := cn_le l
  have hle' := cn_le (l.set v (va l u + 1))
  rw [List.length_set, h.len] at hle'
  rw [h.len] at hle
  rw [c1] at e1
  rw [w1] at e2
  rcases Int.lt_or_le (va l v) 0 with h0 | h0
  · have c2 : cn (va l v) = 0 := by unfold cn; rw [if_neg (by omega)]
    have w2 : wt n (va l v) = n := by unfold wt; rw [if_neg (by omega)]
    rw [c2] at e1
    rw [w2] at e2
    refine ⟨fun x => ?_, by omega⟩
    rw [va_set _ _ _ _ hlen]
    have := hl x
    split <;> omega
  · have c2 : cn (va l v) = 1 := by unfold cn; rw [if_pos h0]
    have w2 : wt n (va l v) = (va l v).toNat := by unfold wt; rw [if_pos h0]
    rw [c2] at e1
    rw [w2] at e2
    refine ⟨fun x => ?_, by omega⟩
    rw [va_set _ _ _ _ hlen]
    have := hl x
    have := hl v
    split <;> omega
theorem low_start (n : Nat) (h : s < n) : Low ((List.replicate n (-1)).set s 0) := by
  have e1 := sm_set cn (List.replicate n (-1)) s 0 (by simpa using h)
  have e2 : va (List.replicate n (-1)) s = -1 := by
    unfold va; rw [List.getElem?_replicate, if_pos h]; rfl
  rw [e2] at e1
  have c1 : cn (-1) = 0 := by decide
  have c2 : cn 0 = 1 := by decide
  rw [c1, c2] at e1
  intro v
  rw [va_start n s h]
  split <;> omega

/-! ### the search by breadth -/
/-- the queue q, of which k are done; the values rise along it, by one at most -/
structure Que (T : Nat → Prop) (E : Nat → Nat → Prop) (s n : Nat) (l : List Int) (q : List Nat) (k : Nat) : Prop where
  fnd : Fnd E T s n l
  nodup : q.Nodup
  mem : ∀ v, v ∈ q ↔ 0 ≤ va l v
  rise : ∀ (i j u v : Nat), i ≤ j → q[i]? = some u → q[j]? = some v → va l u ≤ va l v
  near : ∀ (i j u v : Nat), k ≤ i → q[i]? = some u → q[j]? = some v → va l v ≤ va l u + 1
  idx : ∀ (i u : Nat), q[i]? = some u → va l u ≤ i
  don : ∀ (i u v : Nat), i < k → q[i]? = some u → E u v → (u = s ∨ T u) → Don l u v
theorem Que.lt {n : Nat} {l : List Int} {q : List Nat} {k : Nat} (h : Que T E s n l q k) {v : Nat} (hv : v ∈ q) : v < n := by
  have := (h.mem v).1 hv
  rcases Nat.lt_or_ge v n with h' | h'
  · exact h'
  · rw [va_out l v (by rw [h.fnd.len]; exact h')] at this; omega
theorem nodup_len : ∀ (n : Nat) (q : List Nat), q.Nodup → (∀ v ∈ q, v < n) → q.length ≤ n := by
  intro n
  induction n with
  | zero =>
    intro q _ h
    cases q with
    | nil => simp
    | cons x q => exact absurd (h x (by simp)) (by omega)
  | succ n ih =>
    intro q hq h
    have h1 := ih (q.erase n) (hq.erase n) (fun v hv => by
      have hv' := (hq.mem_erase_iff).1 hv
      have := h v hv'.2
      omega)
    rw [List.length_erase] at h1
    split at h1 <;> omega
theorem Que.size {n : Nat} {l : List Int} {q : List Nat} {k : Nat} (h : Que T E s n l q k) : q.length ≤ n := nodup_len n q h.nodup (fun _ hv => h.lt hv)
theorem Que.start (n : Nat) (h : s < n) : Que T E s n ((List.replicate n (-1)).set s 0) [s] 0 := by
  refine ⟨Fnd.start n h, by simp, fun v => ?_, fun i j u v hij hi hj => ?_, fun i j u v _ hi hj => ?_, fun i u hi => ?_, fun i u v hi => by omega⟩
  · rw [va_start n s h, List.mem_singleton]
    split <;> simp_all
  · have e1 : u = s := by have := List.mem_of_getElem? hi; simpa using this
    have e2 : v = s := by have := List.mem_of_getElem? hj; simpa using this
    subst e1; subst e2; omega
  · have e1 : u = s := by have := List.mem_of_getElem? hi; simpa using this
    have e2 : v = s := by have := List.mem_of_getElem? hj; simpa using this
    subst e1; subst e2; omega
  · have e1 : u = s := by have := List.mem_of_getElem? hi; simpa using this
    subst e1
    rw [va_start n u h, if_pos rfl]
    omega
theorem Que.far {n : Nat} {l : List Int} {q : List Nat} (h : Que T E s n l q q.length) : Far E T s n l :=
  h.fnd.far fun u v hE hT hu => by
    obtain ⟨i, hi⟩ := List.getElem?_of_mem ((h.mem u).2 hu)
    have : i < q.length := by
      rcases Nat.lt_or_ge i q.length with h' | h'
      · exact h'
      · rw [List.getElem?_eq_none h'] at hi; cases hi
    exact h.don i u v this hi hE hT
/-- the node in hand is done -/
theorem Que.next {n : Nat} {l : List Int} {q : List Nat} {k u : Nat} (h : Que T E s n l q k) (hk : q[k]? = some u) (hd : ∀ v, E u v → (u = s ∨ T u) → Don l u v) : Que T E s n l q (k + 1) := by
  refine ⟨h.fnd, h.nodup, h.mem, h.rise, fun i j x y hi => h.near i j x y (by omega), h.idx, fun i x y hi hx hE hT => ?_⟩
  rcases Nat.lt_or_ge i k with h' | h'
  · exact h.don i x y h' hx hE hT
  · obtain rfl : i = k := by omega
    rw [hk] at hx
    cases hx
    exact hd y hE hT
/-- a node that was reached already is near enough -/
theorem Que.old {n : Nat} {l : List Int} {q : List Nat} {k u v : Nat} (h : Que T E s n l q k) (hk : q[k]? = some u) (hv : va l v ≠ -1) : Don l u v := by
  have h0 : 0 ≤ va l v := by have := h.fnd.low v; omega
  obtain ⟨i, hi⟩ := List.getElem?_of_mem ((h.mem v).2 h0)
  exact ⟨h0, h.near k i u v (by omega) hk hi⟩
/-- a new node -/
theorem Que.put {n : Nat} {l : List Int} {q : List Nat} {k u v : Nat} (h : Que T E s n l q k) (hk : q[k]? = some u) (hT : u = s ∨ T u) (hE : E u v) (hv : va l v = -1) (hn : v < n) :
    Que T E s n (l.set v (va l u + 1)) (q ++ [v]) k ∧ (∀ x y, Don l x y → x ≠ v → Don (l.set v (va l u + 1)) x y) ∧ Don (l.set v (va l u + 1)) u v ∧ u ≠ v ∧ (q ++ [v])[k]? = some u := by
  have hl : v < l.length := by rw [h.fnd.len]; exact hn
  have hu : 0 ≤ va l u := (h.mem u).1 (List.mem_of_getElem? hk)
  have huv : u ≠ v := fun e => by subst e; omega
  have hkl : k < q.length := by
    rcases Nat.lt_or_ge k q.length with h' | h'
    · exact h'
    · rw [List.getElem?_eq_none h'] at hk; cases hk
  have hvs : v ≠ s := fun e => by have := h.fnd.zero; subst e; omega
  have hvq : v ∉ q := fun e => by have := (h.mem v).1 e; omega
  have V : ∀ x, va (l.set v (va l u + 1)) x = if x = v then va l u + 1 else va l x := fun x => va_set l v _ x hl
  have inq : ∀ {i x : Nat}, (q ++ [v])[i]? = some x → (i < q.length ∧ q[i]? = some x ∧ x ≠ v) ∨ (i = q.length ∧ x = v) := by
    intro i x hx
    rcases Nat.lt_or_ge i q.length with h' | h'
    · rw [List.getElem?_append_left h'] at hx
      exact .inl ⟨h', hx, fun e => hvq (e ▸ List.mem_of_getElem? hx)⟩
    · rw [List.getElem?_append_right h'] at hx
      have : i - q.length = 0 := by
        rcases Nat.eq_zero_or_pos (i - q.length) with h | h
        · exact h
        · rw [List.getElem?_eq_none (by simp; omega)] at hx; cases hx
      rw [this] at hx
      simp at hx
      exact .inr ⟨by omega, hx.symm⟩
  have dn : ∀ x y, Don l x y → x ≠ v → Don (l.set v (va l u + 1)) x y := fun x y hd hx => by
    have hy : y ≠ v := fun e => by subst e; unfold Don at hd; omega
    unfold Don
    rw [V, V, if_neg hy, if_neg hx]
    exact hd
  refine ⟨⟨h.fnd.set u v hu hT hE hn hvs, ?_, fun x => ?_, fun i j x y hij hi hj => ?_, fun i j x y hki hi hj => ?_, fun i x hi => ?_, fun i x y hi hx hE' hT' => ?_⟩, dn, ?_, huv, by rw [List.getElem?_append_left hkl]; exact hk⟩
  · rw [List.nodup_append]
    exact ⟨h.nodup, by simp, fun a ha b hb => by simp at hb; subst hb; exact fun e => hvq (e ▸ ha)⟩
  · rw [List.mem_append, List.mem_singleton, V, h.mem]
    by_cases hx : x = v
    · subst hx; simp; omega
    · simp [hx]
  · rw [V, V]
    rcases inq hi with ⟨h1, h2, h3⟩ | ⟨h1, rfl⟩ <;> rcases inq hj with ⟨g1, g2, g3⟩ | ⟨g1, rfl⟩
    · rw [if_neg h3, if_neg g3]; exact h.rise i j x y hij h2 g2
    · rw [if_neg h3, if_pos rfl]; exact h.near k i u x (Nat.le_refl _) hk h2
    · omega
    · rw [if_pos rfl]; omega
  · rw [V, V]
    rcases inq hi with ⟨h1, h2, h3⟩ | ⟨h1, rfl⟩ <;> rcases inq hj with ⟨g1, g2, g3⟩ | ⟨g1, rfl⟩
    · rw [if_neg h3, if_neg g3]; exact h.near i j x y hki h2 g2
    · rw [if_neg h3, if_pos rfl]
      have := h.rise k i u x hki hk h2
      omega
    · rw [if_neg g3, if_pos rfl]
      have := h.near k j u y (Nat.le_refl _) hk g2
      omega
    · rw [if_pos rfl]; omega
  · rw [V]
    rcases inq hi with ⟨h1, h2, h3⟩ | ⟨h1, rfl⟩
    · rw [if_neg h3]; exact h.idx i x h2
    · rw [if_pos rfl]
      have := h.idx k u hk
      omega
  · rcases inq hx with ⟨h1, h2, h3⟩ | ⟨h1, rfl⟩
    · exact dn x y (h.don i x y hi h2 hE' hT') h3
    · omega
  · unfold Don
    rw [V, V, if_pos rfl, if_neg huv]
    omega
end
end Go.Proofs.Ytmmkfcmbmecleaa
