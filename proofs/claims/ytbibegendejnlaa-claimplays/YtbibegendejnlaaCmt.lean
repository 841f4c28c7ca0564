/- Tables of claims as plain data: who may be granted, grants one behind the other; knows no program. -/
import Derived.Test.YtbibegendejnlaaBas
namespace Go.Proofs.Ytbibegendejnlaa
set_option linter.unusedVariables false

/-- a claim: a tote's, for some nodes -/
structure Cl where
  tote : Int
  nodes : List Int
/-- a table: each node's holder (0: none), claims that wait -/
structure Tb where
  hold : List Int
  q : List Cl

def hat (h : List Int) (n : Int) : Int := if 0 ≤ n then h[n.toNat]?.getD 0 else 0
def heldB (h : List Int) (t n : Int) : Bool := decide (hat h n ≠ 0 ∧ hat h n ≠ t)
def wantB (q : List Cl) (n : Int) : Bool := q.any (fun c => decide (n ∈ c.nodes))
def barB (h : List Int) (q : List Cl) (t n : Int) : Bool := heldB h t n || wantB q n
/-- whether a claim may be granted: the holders, those ahead, the claim -/
def mayC (h : List Int) (pre : List Cl) (c : Cl) : Bool := c.nodes.all (fun n => !(barB h pre c.tote n))
def mayB (T : Tb) (i : Nat) : Bool := match T.q[i]? with | none => false | some c => mayC T.hold (T.q.take i) c
def setL (h : List Int) (t : Int) (ns : List Int) : List Int := ns.foldl (fun h n => h.set n.toNat t) h
def grant (T : Tb) (i : Nat) (c : Cl) : Tb := ⟨setL T.hold c.tote c.nodes, T.q.take i ++ T.q.drop (i + 1)⟩

/-- grants: the first one that may be granted is, again and again -/
inductive Gr : Tb → Tb → List Int → Prop
  | done (T : Tb) : (∀ i, mayB T i = false) → Gr T T []
  | step (T : Tb) (i : Nat) (c : Cl) (T' : Tb) (l : List Int) : T.q[i]? = some c → mayB T i = true → (∀ j, j < i → mayB T j = false) → Gr (grant T i c) T' l → Gr T T' (c.tote :: l)

theorem mayB_at {T : Tb} {i : Nat} {c : Cl} (h : T.q[i]? = some c) : mayB T i = mayC T.hold (T.q.take i) c := by unfold mayB; rw [h]
theorem mayB_out {T : Tb} {i : Nat} (h : T.q.length ≤ i) : mayB T i = false := by unfold mayB; rw [List.getElem?_eq_none h]
theorem getq {T : Tb} {i : Nat} (h : mayB T i = true) : ∃ c, T.q[i]? = some c ∧ i < T.q.length := by
  unfold mayB at h
  split at h
  · cases h
  · rename_i c hc
    refine ⟨c, hc, ?_⟩
    rcases Nat.lt_or_ge i T.q.length with g | g
    · exact g
    · rw [List.getElem?_eq_none g] at hc; cases hc
theorem len_grant {T : Tb} {i : Nat} {c : Cl} (h : i < T.q.length) : (grant T i c).q.length + 1 = T.q.length := by
  show (T.q.take i ++ T.q.drop (i + 1)).length + 1 = _
  rw [List.length_append, List.length_take, List.length_drop]; omega

/-- there always are some -/
theorem Gr.ex : ∀ (k : Nat) (T : Tb), T.q.length = k → ∃ T' l, Gr T T' l := by
  intro k
  induction k with
  | zero => intro T h; exact ⟨T, [], .done T (fun i => mayB_out (by omega))⟩
  | succ k ih =>
    intro T h
    by_cases hex : ∃ i, mayB T i = true
    · obtain ⟨i, hi⟩ := hex
      have key : ∀ n i, i < n → mayB T i = true → ∃ j, mayB T j = true ∧ ∀ m, m < j → mayB T m = false := by
        intro n
        induction n with
        | zero => intro i h; omega
        | succ n ihn =>
          intro i hin hi
          by_cases hex : ∃ m, m < i ∧ mayB T m = true
          · obtain ⟨m, hm, hm'⟩ := hex
            exact ihn m (by omega) hm'
          · refine ⟨i, hi, fun m hm => ?_⟩
            cases e : mayB T m with
            | false => rfl
            | true => exact absurd ⟨m, hm, e⟩ hex
      obtain ⟨j, hj, hjm⟩ := key (i + 1) i (Nat.lt_succ_self _) hi
      obtain ⟨c, hc, hlt⟩ := getq hj
      obtain ⟨T', l, hG⟩ := ih (grant T j c) (by have := len_grant (c := c) hlt; omega)
      exact ⟨T', _, .step T j c T' l hc hj hjm hG⟩
    · refine ⟨T, [], .done T (fun i => ?_)⟩
      cases e : mayB T i with
      | false => rfl
      | true => exact absurd ⟨i, e⟩ hex

/-- and just one way -/
theorem Gr.uniq {T T1 T2 : Tb} {l1 l2 : List Int} (h1 : Gr T T1 l1) (h2 : Gr T T2 l2) : T1 = T2 ∧ l1 = l2 := by
  induction h1 generalizing T2 l2 with
  | done T h =>
    cases h2 with
    | done _ _ => exact ⟨rfl, rfl⟩
    | step _ i c _ l hc hm _ _ => rw [h i] at hm; cases hm
  | step T i c T' l hc hm hf hG ih =>
    cases h2 with
    | done _ h => rw [h i] at hm; cases hm
    | step _ j d _ l' hd hm' hf' hG' =>
      have e : i = j := by
        rcases Nat.lt_trichotomy i j with g | g | g
        · rw [hf' i g] at hm; cases hm
        · exact g
        · rw [hf j g] at hm'; cases hm'
      subst e
      rw [hc] at hd
      cases hd
      obtain ⟨e1, e2⟩ := ih hG'
      exact ⟨e1, by rw [e2]⟩

/-- behind them none may be granted -/
def Set' (T : Tb) : Prop := ∀ i, mayB T i = false
theorem Gr.settled {T T' : Tb} {l : List Int} (h : Gr T T' l) : Set' T' := by
  induction h with
  | done T h => exact h
  | step T i c T' l _ _ _ _ ih => exact ih

/-! ### holders -/
theorem setL_len (t : Int) : ∀ (ns : List Int) (h : List Int), (setL h t ns).length = h.length
  | [], _ => rfl
  | n :: ns, h => by
    show (setL (h.set n.toNat t) t ns).length = _
    rw [setL_len t ns, List.length_set]
theorem setL_snoc (h : List Int) (t : Int) (ns : List Int) (n : Int) : setL h t (ns ++ [n]) = (setL h t ns).set n.toNat t := by simp [setL]
theorem setL_at (t : Int) : ∀ (ns : List Int) (h : List Int) (j : Nat), (setL h t ns)[j]? = if (∃ n ∈ ns, n.toNat = j) ∧ j < h.length then some t else h[j]?
  | [], h, j => by simp [setL]
  | n :: ns, h, j => by
    show (setL (h.set n.toNat t) t ns)[j]? = _
    rw [setL_at t ns, List.length_set, List.getElem?_set]
    by_cases hj : j < h.length
    · by_cases h1 : ∃ m ∈ ns, m.toNat = j
      · rw [if_pos ⟨h1, hj⟩, if_pos]
        obtain ⟨m, hm, hm'⟩ := h1
        exact ⟨⟨m, List.mem_cons_of_mem _ hm, hm'⟩, hj⟩
      · rw [if_neg (fun h => h1 h.1)]
        by_cases h2 : n.toNat = j
        · rw [if_pos h2, if_pos (by omega), if_pos ⟨⟨n, List.mem_cons_self .., h2⟩, hj⟩]
        · rw [if_neg h2, if_neg]
          rintro ⟨⟨m, hm, hm'⟩, _⟩
          rcases List.mem_cons.1 hm with rfl | hm
          · exact h2 hm'
          · exact h1 ⟨m, hm, hm'⟩
    · have n1 : ∀ p : Prop, ¬ (p ∧ j < h.length) := fun p h => hj h.2
      rw [if_neg (n1 _), if_neg (n1 _)]
      by_cases h2 : n.toNat = j
      · rw [if_pos h2, if_neg (by omega), List.getElem?_eq_none (by omega)]
      · rw [if_neg h2]
theorem setL_same (h : List Int) (t : Int) (ns ms : List Int) (hm : ∀ n, n ∈ ns ↔ n ∈ ms) : setL h t ns = setL h t ms := by
  apply List.ext_getElem?
  intro j
  rw [setL_at, setL_at]
  have : (∃ n ∈ ns, n.toNat = j) ↔ ∃ n ∈ ms, n.toNat = j := ⟨fun ⟨n, h1, h2⟩ => ⟨n, (hm n).1 h1, h2⟩, fun ⟨n, h1, h2⟩ => ⟨n, (hm n).2 h1, h2⟩⟩
  by_cases h1 : ∃ n ∈ ns, n.toNat = j
  · by_cases h2 : j < h.length
    · rw [if_pos ⟨h1, h2⟩, if_pos ⟨this.1 h1, h2⟩]
    · have n1 : ∀ p : Prop, ¬ (p ∧ j < h.length) := fun p h => h2 h.2
      rw [if_neg (n1 _), if_neg (n1 _)]
  · have n1 : ∀ p : Prop, ¬ ((∃ n ∈ ns, n.toNat = j) ∧ p) := fun p h => h1 h.1
    have n2 : ∀ p : Prop, ¬ ((∃ n ∈ ms, n.toNat = j) ∧ p) := fun p h => h1 (this.2 h.1)
    rw [if_neg (n1 _), if_neg (n2 _)]
/-- the nodes lie in the table -/
def inT (N : Nat) (ns : List Int) : Prop := ∀ n ∈ ns, 0 ≤ n ∧ n < (N : Int)
theorem hat_setL (h : List Int) (t : Int) (ns : List Int) (hr : inT h.length ns) (n : Int) : hat (setL h t ns) n = if n ∈ ns then t else hat h n := by
  unfold hat
  by_cases h0 : 0 ≤ n
  · rw [if_pos h0, if_pos h0, setL_at]
    by_cases hn : n ∈ ns
    · rw [if_pos hn, if_pos ⟨⟨n, hn, rfl⟩, by have := hr n hn; omega⟩]; rfl
    · rw [if_neg hn, if_neg]
      rintro ⟨⟨m, hm, hm'⟩, _⟩
      have := hr m hm
      exact hn (by rw [show n = m by omega]; exact hm)
  · rw [if_neg h0, if_neg h0, if_neg (fun hn => h0 (hr n hn).1)]
theorem hat_set (h : List Int) (t m : Int) (hr : 0 ≤ m ∧ m < (h.length : Int)) (n : Int) : hat (h.set m.toNat t) n = if n = m then t else hat h n := by
  have := hat_setL h t [m] (fun x hx => by rw [List.mem_singleton] at hx; subst hx; exact hr) n
  simpa [setL] using this
theorem hat_at {h : List Int} {i : Nat} {x : Int} (hx : h[i]? = some x) : hat h (i : Int) = x := by unfold hat; simp [hx]
theorem hat_out {h : List Int} {n : Int} (hn : ¬ (0 ≤ n ∧ n < (h.length : Int))) : hat h n = 0 := by
  unfold hat
  by_cases h0 : 0 ≤ n
  · rw [if_pos h0, List.getElem?_eq_none (by omega)]; rfl
  · rw [if_neg h0]
theorem hat_rep (n : Nat) (k : Int) : hat (List.replicate n 0) k = 0 := by
  unfold hat
  split
  · rw [List.getElem?_replicate]; split <;> rfl
  · rfl
/-- lists of holders are told by what is told of each node -/
theorem hat_ext {h k : List Int} (hl : h.length = k.length) (he : ∀ n, hat h n = hat k n) : h = k := by
  apply List.ext_getElem
  · exact hl
  · intro i h1 h2
    have := he (i : Int)
    rw [hat_at (List.getElem?_eq_getElem h1), hat_at (List.getElem?_eq_getElem h2)] at this
    exact this

/-! ### what is always so -/
structure Wf (T : Tb) : Prop where
  len : T.hold.length ≤ 1000
  hold : ∀ x ∈ T.hold, 0 ≤ x ∧ x ≤ 30
  tote : ∀ c ∈ T.q, 1 ≤ c.tote ∧ c.tote ≤ 30
  nodes : ∀ c ∈ T.q, inT T.hold.length c.nodes ∧ c.nodes ≠ [] ∧ c.nodes.length ≤ 100000
  once : (T.q.map (·.tote)).Nodup
theorem nodup_len : ∀ (n : Nat) (l : List Int), l.Nodup → (∀ x ∈ l, 1 ≤ x ∧ x ≤ (n : Int)) → l.length ≤ n
  | 0, l, _, h => by
    cases l with
    | nil => simp
    | cons x l => have := h x (by simp); omega
  | n + 1, l, hn, h => by
    have h1 := nodup_len n (l.erase ((n : Int) + 1)) (hn.erase _) (fun x hx => by
      have h2 := h x (List.mem_of_mem_erase hx)
      have h3 : x ≠ (n : Int) + 1 := fun e => by subst e; exact (List.Nodup.not_mem_erase hn) hx
      omega)
    have h2 := List.length_erase (a := (n : Int) + 1) (l := l)
    split at h2 <;> omega
theorem Wf.qlen {T : Tb} (h : Wf T) : T.q.length ≤ 30 := by
  have := nodup_len 30 (T.q.map (·.tote)) h.once (fun x hx => by
    obtain ⟨c, hc, rfl⟩ := List.mem_map.1 hx
    exact h.tote c hc)
  simpa using this
theorem hat_in {h : List Int} (hb : ∀ x ∈ h, 0 ≤ x ∧ x ≤ 30) (n : Int) : 0 ≤ hat h n ∧ hat h n ≤ 30 := by
  unfold hat
  split
  · cases e : h[n.toNat]? with
    | none => exact ⟨by decide, by decide⟩
    | some x => exact hb x (List.mem_of_getElem? e)
  · exact ⟨by decide, by decide⟩
theorem setL_in {h : List Int} (hb : ∀ x ∈ h, 0 ≤ x ∧ x ≤ 30) (t : Int) (ht : 0 ≤ t ∧ t ≤ 30) (ns : List Int) : ∀ x ∈ setL h t ns, 0 ≤ x ∧ x ≤ 30 := by
  intro x hx
  obtain ⟨j, hj⟩ := List.getElem?_of_mem hx
  rw [setL_at] at hj
  split at hj
  · cases hj; exact ht
  · exact hb x (List.mem_of_getElem? hj)
theorem mem_del {q : List Cl} {i : Nat} {c : Cl} (h : c ∈ q.take i ++ q.drop (i + 1)) : c ∈ q := by
  rcases List.mem_append.1 h with h | h
  · exact List.mem_of_mem_take h
  · exact List.mem_of_mem_drop h
theorem Wf.del {T : Tb} (h : Wf T) (i : Nat) : Wf ⟨T.hold, T.q.take i ++ T.q.drop (i + 1)⟩ := by
  refine ⟨h.len, h.hold, fun c hc => h.tote c (mem_del hc), fun c hc => h.nodes c (mem_del hc), ?_⟩
  rw [List.map_append]
  refine List.Nodup.sublist ?_ h.once
  rw [← List.map_append]
  refine List.Sublist.map _ ?_
  have : T.q.take i ++ T.q.drop i = T.q := List.take_append_drop ..
  have h2 : (T.q.take i ++ T.q.drop (i + 1)).Sublist (T.q.take i ++ T.q.drop i) := List.Sublist.append (List.Sublist.refl _) (by rw [← List.drop_drop]; exact List.drop_sublist _ _)
  rw [this] at h2
  exact h2
theorem Wf.setH {T : Tb} (h : Wf T) (t : Int) (ht : 0 ≤ t ∧ t ≤ 30) (ns : List Int) : Wf ⟨setL T.hold t ns, T.q⟩ :=
  ⟨by rw [setL_len]; exact h.len, setL_in h.hold t ht ns, h.tote, fun c hc => by rw [setL_len]; exact h.nodes c hc, h.once⟩
theorem Wf.grant {T : Tb} (h : Wf T) {i : Nat} {c : Cl} (hc : T.q[i]? = some c) : Wf (grant T i c) :=
  (h.del i).setH c.tote (by have := h.tote c (List.mem_of_getElem? hc); omega) c.nodes
theorem Gr.wf {T T' : Tb} {l : List Int} (h : Gr T T' l) (hw : Wf T) : Wf T' := by
  induction h with
  | done T h => exact hw
  | step T i c T' l hc _ _ _ ih => exact ih (hw.grant hc)
theorem Gr.len {T T' : Tb} {l : List Int} (h : Gr T T' l) : T'.hold.length = T.hold.length ∧ T'.q.length + l.length = T.q.length := by
  induction h with
  | done T h => exact ⟨rfl, rfl⟩
  | step T i c T' l hc hm _ _ ih =>
    obtain ⟨_, _, hlt⟩ := getq hm
    refine ⟨ih.1.trans (setL_len _ _ _), ?_⟩
    have := len_grant (c := c) hlt
    simp only [List.length_cons]; omega

/-! ### nodes once each -/
def onc1 (l : List Int) (n : Int) : List Int := if n ∈ l then l else l ++ [n]
def onc (ns : List Int) : List Int := ns.foldl onc1 []
theorem onc_snoc (ns : List Int) (n : Int) : onc (ns ++ [n]) = onc1 (onc ns) n := by simp [onc]
theorem onc_mem (ns : List Int) (m : Int) : m ∈ onc ns ↔ m ∈ ns := by
  have key : ∀ (ns l : List Int), m ∈ ns.foldl onc1 l ↔ m ∈ l ∨ m ∈ ns := by
    intro ns
    induction ns with
    | nil => intro l; simp
    | cons n ns ih =>
      intro l
      rw [List.foldl_cons, ih]
      unfold onc1
      split
      · rename_i h
        constructor
        · rintro (h' | h')
          · exact .inl h'
          · exact .inr (List.mem_cons_of_mem _ h')
        · rintro (h' | h')
          · exact .inl h'
          · rcases List.mem_cons.1 h' with rfl | h'
            · exact .inl h
            · exact .inr h'
      · rw [List.mem_append, List.mem_singleton, List.mem_cons, or_assoc]
  have := key ns []
  unfold onc
  rw [this]
  simp
theorem onc_len (ns : List Int) : (onc ns).length ≤ ns.length := by
  have key : ∀ (ns l : List Int), (ns.foldl onc1 l).length ≤ l.length + ns.length := by
    intro ns
    induction ns with
    | nil => intro l; simp
    | cons n ns ih =>
      intro l
      rw [List.foldl_cons]
      refine Nat.le_trans (ih _) ?_
      unfold onc1
      split
      · simp only [List.length_cons]; omega
      · simp only [List.length_append, List.length_cons, List.length_nil]; omega
  have := key ns []
  unfold onc
  simpa using this

/-- the claims' nodes once each -/
def cnC (c : Cl) : Cl := ⟨c.tote, onc c.nodes⟩
def cn (T : Tb) : Tb := ⟨T.hold, T.q.map cnC⟩
theorem wantB_cn (q : List Cl) (n : Int) : wantB (q.map cnC) n = wantB q n := by
  unfold wantB
  rw [List.any_map]
  congr 1
  funext c
  simp only [Function.comp, cnC]
  exact decide_eq_decide.2 (onc_mem c.nodes n)
theorem mayC_cn (h : List Int) (pre : List Cl) (c : Cl) : mayC h (pre.map cnC) (cnC c) = mayC h pre c := by
  have e : ∀ n, barB h (pre.map cnC) (cnC c).tote n = barB h pre c.tote n := fun n => by unfold barB; rw [wantB_cn]; rfl
  unfold mayC
  simp only [e]
  rw [Bool.eq_iff_iff, List.all_eq_true, List.all_eq_true]
  exact ⟨fun h x hx => h x ((onc_mem _ _).2 hx), fun h x hx => h x ((onc_mem _ _).1 hx)⟩
theorem mayB_cn (T : Tb) (i : Nat) : mayB (cn T) i = mayB T i := by
  unfold mayB cn
  rw [List.getElem?_map]
  cases h : T.q[i]? with
  | none => rfl
  | some c =>
    show mayC T.hold ((T.q.map cnC).take i) (cnC c) = mayC T.hold (T.q.take i) c
    rw [← List.map_take, mayC_cn]
theorem grant_cn (T : Tb) (i : Nat) (c : Cl) : grant (cn T) i (cnC c) = cn (grant T i c) := by
  unfold grant cn
  congr 1
  · exact setL_same _ _ _ _ (onc_mem _)
  · rw [List.map_append, List.map_take, List.map_drop]
theorem Gr.cn {T T' : Tb} {l : List Int} (h : Gr T T' l) : Gr (cn T) (cn T') l := by
  induction h with
  | done T h => exact .done _ (fun i => by rw [mayB_cn]; exact h i)
  | step T i c T' l hc hm hf _ ih =>
    refine .step (Ytbibegendejnlaa.cn T) i (cnC c) _ l ?_ (by rw [mayB_cn]; exact hm) (fun j hj => by rw [mayB_cn]; exact hf j hj) (by rw [grant_cn]; exact ih)
    show (T.q.map cnC)[i]? = _
    rw [List.getElem?_map, hc]; rfl
end Go.Proofs.Ytbibegendejnlaa
