/- Notes as plain data: what is one, its bytes; bytes that begin with one; rows of them. No Go here. -/
import Derived.Test.YtgdoagmnhmfjkaaSums
namespace Go.Proofs.Ytgdoagmnhmfjkaa
set_option linter.unusedVariables false

def InB (l : List Int) : Prop := ∀ z ∈ l, 0 ≤ z ∧ z ≤ 255
theorem InB.append {l m : List Int} (h : InB l) (k : InB m) : InB (l ++ m) := by
  intro z hz
  rcases List.mem_append.1 hz with h' | h'
  · exact h z h'
  · exact k z h'
theorem InB.nil : InB [] := fun z hz => by cases hz
theorem InB.cons {z : Int} {l : List Int} (h0 : 0 ≤ z ∧ z ≤ 255) (h : InB l) : InB (z :: l) := by
  intro y hy
  rcases List.mem_cons.1 hy with rfl | hy
  · exact h0
  · exact h y hy
theorem InB.left {l m : List Int} (h : InB (l ++ m)) : InB l := fun z hz => h z (List.mem_append_left _ hz)
theorem InB.right {l m : List Int} (h : InB (l ++ m)) : InB m := fun z hz => h z (List.mem_append_right _ hz)
theorem InB.take {l : List Int} (h : InB l) (k : Nat) : InB (l.take k) := fun z hz => h z (List.mem_of_mem_take hz)
theorem InB.drop {l : List Int} (h : InB l) (k : Nat) : InB (l.drop k) := fun z hz => h z (List.mem_of_mem_drop hz)
theorem InB.at {l : List Int} (h : InB l) {i : Nat} {x : Int} (hx : l[i]? = some x) : 0 ≤ x ∧ x ≤ 255 := h x (List.mem_of_getElem? hx)

/-- a code of which no word begins another -/
structure PF {α : Type} (p : α → Prop) (f : α → List Int) : Prop where
  inj : ∀ a b r s, p a → p b → f a ++ r = f b ++ s → a = b ∧ r = s
  pos : ∀ a, f a ≠ []
theorem PF.flat {α : Type} {p : α → Prop} {f : α → List Int} (h : PF p f) : ∀ (xs ys : List α) (r s : List Int), (∀ x ∈ xs, p x) → (∀ y ∈ ys, p y) → xs.length ≤ ys.length → xs.flatMap f ++ r = ys.flatMap f ++ s → ∃ zs, ys = xs ++ zs ∧ r = zs.flatMap f ++ s := by
  intro xs
  induction xs with
  | nil => intro ys r s _ _ _ e; exact ⟨ys, rfl, by simpa using e⟩
  | cons x xs ih =>
    intro ys r s hx hy hl e
    cases ys with
    | nil => simp at hl
    | cons y ys =>
      simp only [List.flatMap_cons, List.append_assoc] at e
      obtain ⟨rfl, e2⟩ := h.inj _ _ _ _ (hx _ (by simp)) (hy _ (by simp)) e
      obtain ⟨zs, rfl, e3⟩ := ih ys r s (fun z hz => hx z (by simp [hz])) (fun z hz => hy z (by simp [hz])) (by simpa using hl) e2
      exact ⟨zs, rfl, e3⟩
theorem PF.none {α : Type} {p : α → Prop} {f : α → List Int} (h : PF p f) (zs : List α) (r : List Int) (e : zs.flatMap f ++ r = []) : zs = [] ∧ r = [] := by
  cases zs with
  | nil => exact ⟨rfl, by simpa using e⟩
  | cons z zs => simp [h.pos z] at e

/-! ### numbers -/
/-- a number's digits by 128 -/
def num (v : Nat) : List Int := if v < 128 then [(v : Int)] else ((v % 128 + 128 : Nat) : Int) :: num (v / 128)
termination_by v
theorem num_low {v : Nat} (h : v < 128) : num v = [(v : Int)] := by rw [num, if_pos h]
theorem num_high {v : Nat} (h : 128 ≤ v) : num v = ((v % 128 + 128 : Nat) : Int) :: num (v / 128) := by rw [num, if_neg (by omega)]
theorem num_pos (v : Nat) : num v ≠ [] := by
  rcases Nat.lt_or_ge v 128 with h | h
  · rw [num_low h]; simp
  · rw [num_high h]; simp
theorem num_one (v : Nat) : 1 ≤ (num v).length := by
  have := num_pos v
  cases h : num v with
  | nil => exact absurd h this
  | cons => simp
theorem num_in (v : Nat) : InB (num v) := by
  induction v using Nat.strongRecOn with
  | _ v ih =>
    rcases Nat.lt_or_ge v 128 with h | h
    · rw [num_low h]; exact InB.cons (by omega) InB.nil
    · rw [num_high h]; exact InB.cons (by omega) (ih _ (by omega))
theorem num_inj : ∀ (v u : Nat) (r s : List Int), num v ++ r = num u ++ s → v = u ∧ r = s := by
  intro v
  induction v using Nat.strongRecOn with
  | _ v ih =>
    intro u r s e
    rcases Nat.lt_or_ge v 128 with h | h <;> rcases Nat.lt_or_ge u 128 with h' | h'
    · rw [num_low h, num_low h'] at e
      simp only [List.cons_append, List.nil_append, List.cons.injEq] at e
      exact ⟨by omega, e.2⟩
    · rw [num_low h, num_high h'] at e
      simp only [List.cons_append, List.nil_append, List.cons.injEq] at e
      omega
    · rw [num_high h, num_low h'] at e
      simp only [List.cons_append, List.nil_append, List.cons.injEq] at e
      omega
    · rw [num_high h, num_high h'] at e
      simp only [List.cons_append, List.cons.injEq] at e
      obtain ⟨e1, e2⟩ := ih (v / 128) (by omega) _ _ _ e.2
      exact ⟨by omega, e2⟩
theorem num_pf : PF (fun _ : Nat => True) num := ⟨fun a b r s _ _ e => num_inj a b r s e, num_pos⟩
theorem num_len (k : Nat) : ∀ v, v < 128 ^ (k + 1) → (num v).length ≤ k + 1 := by
  induction k with
  | zero => intro v h; rw [num_low (by simpa using h)]; simp
  | succ k ih =>
    intro v h
    rcases Nat.lt_or_ge v 128 with h' | h'
    · rw [num_low h']; simp
    · rw [num_high h', List.length_cons]
      have := ih (v / 128) (by rw [Nat.pow_succ] at h; exact Nat.div_lt_of_lt_mul (by rw [Nat.mul_comm]; exact h))
      omega
theorem num_five {v : Nat} (h : v < 34359738368) : (num v).length ≤ 5 := num_len 4 v (by simpa using h)
/-- the rest of a number's digits from one on -/
theorem num_at (k : Nat) : ∀ v : Nat, k < (num v).length → (num v)[k]? = some (if k + 1 = (num v).length then ((v / 128 ^ k : Nat) : Int) else ((v / 128 ^ k % 128 + 128 : Nat) : Int)) ∧ (k + 1 = (num v).length ↔ v / 128 ^ k < 128) := by
  induction k with
  | zero =>
    intro v h
    rcases Nat.lt_or_ge v 128 with h' | h'
    · rw [num_low h']; simp; omega
    · have := num_one (v / 128)
      rw [num_high h']
      simp only [List.length_cons, Nat.pow_zero, Nat.div_one, List.getElem?_cons_zero]
      have e : ¬ (0 + 1 = (num (v / 128)).length + 1) := by omega
      rw [if_neg e]
      refine ⟨rfl, by omega⟩
  | succ k ih =>
    intro v h
    rcases Nat.lt_or_ge v 128 with h' | h'
    · rw [num_low h'] at h; simp at h
    · rw [num_high h'] at h ⊢
      simp only [List.length_cons, List.getElem?_cons_succ] at h ⊢
      have := ih (v / 128) (by omega)
      have e : v / 128 ^ (k + 1) = v / 128 / 128 ^ k := by rw [Nat.pow_succ, Nat.mul_comm, Nat.div_div_eq_div_mul]
      rw [e]
      have e2 : (k + 1 + 1 = (num (v / 128)).length + 1) = (k + 1 = (num (v / 128)).length) := by apply propext; omega
      simp only [e2]
      exact this

/-! ### notes -/
structure Nt where
  kind : Int
  a : Int
  b : Int
  c : Int
/-- how many numbers a Kind uses -/
def us (k : Int) : Nat := if k = 1 then 2 else if k = 2 then 3 else if k = 3 then 1 else if k = 4 then 3 else if k = 5 then 2 else if k = 6 then 1 else if k = 7 then 1 else if k = 8 then 2 else 0
theorem us_le (k : Int) : us k ≤ 3 := by unfold us; (repeat' split) <;> omega
theorem us_pos {k : Int} (h : 0 < us k) : 1 ≤ k ∧ k ≤ 8 := by
  unfold us at h
  repeat' split at h
  all_goals first | omega | (simp at h)
def okF (u i : Nat) (x : Int) : Bool := decide (0 ≤ x ∧ x ≤ 2147483647 ∧ (u ≤ i → x = 0))
def Nt.ok (n : Nt) : Bool := decide (0 < us n.kind) && okF (us n.kind) 0 n.a && okF (us n.kind) 1 n.b && okF (us n.kind) 2 n.c && decide (n.kind = 8 → n.b ≤ 1)
def Nt.fs (n : Nt) : List Int := [n.a, n.b, n.c]
/-- the numbers that it uses -/
def Nt.vs (n : Nt) : List Nat := (n.fs.take (us n.kind)).map Int.toNat
def Nt.body (n : Nt) : List Int := n.kind :: n.vs.flatMap num
def Nt.head (n : Nt) : List Int := (n.body.length : Int) :: n.body
/-- a word's two bytes, the higher one first -/
def w2 (x : Int) : List Int := [x / 256, x % 256]
def Nt.bts (n : Nt) : List Int := n.head ++ w2 (uv (sm 0xFFFF#16 n.head))
def nz : Nt := ⟨0, 0, 0, 0⟩

theorem ok_iff (n : Nt) : n.ok = true ↔ 0 < us n.kind ∧ (∀ i x, n.fs[i]? = some x → 0 ≤ x ∧ x ≤ 2147483647 ∧ (us n.kind ≤ i → x = 0)) ∧ (n.kind = 8 → n.b ≤ 1) := by
  unfold Nt.ok okF Nt.fs
  simp only [Bool.and_eq_true, decide_eq_true_eq]
  constructor
  · rintro ⟨⟨⟨⟨h0, h1⟩, h2⟩, h3⟩, h4⟩
    refine ⟨h0, fun i x hx => ?_, h4⟩
    match i with
    | 0 => simp at hx; subst hx; exact h1
    | 1 => simp at hx; subst hx; exact h2
    | 2 => simp at hx; subst hx; exact h3
    | i + 3 => simp at hx
  · rintro ⟨h0, h1, h4⟩
    exact ⟨⟨⟨⟨h0, h1 0 _ rfl⟩, h1 1 _ rfl⟩, h1 2 _ rfl⟩, h4⟩
theorem vs_len (n : Nt) : n.vs.length = us n.kind := by
  have := us_le n.kind
  unfold Nt.vs Nt.fs
  rw [List.length_map, List.length_take]
  simp; omega
theorem vs_at {n : Nt} (i : Nat) (h : i < us n.kind) : n.vs[i]? = n.fs[i]?.map Int.toNat := by
  unfold Nt.vs
  rw [List.getElem?_map, List.getElem?_take_of_lt h]
theorem fs_at (n : Nt) (i : Nat) (h : i < 3) : ∃ x, n.fs[i]? = some x := by
  match i with
  | 0 => exact ⟨_, rfl⟩
  | 1 => exact ⟨_, rfl⟩
  | 2 => exact ⟨_, rfl⟩
theorem vs_lt {n : Nt} (h : n.ok = true) : ∀ v ∈ n.vs, v < 2147483648 := by
  intro v hv
  unfold Nt.vs at hv
  obtain ⟨x, hx, rfl⟩ := List.mem_map.1 hv
  obtain ⟨i, hi⟩ := List.mem_iff_getElem?.1 (List.mem_of_mem_take hx)
  have := ((ok_iff n).1 h).2.1 i x hi
  omega
theorem flat_len {xs : List Nat} (h : ∀ v ∈ xs, v < 34359738368) : xs.length ≤ (xs.flatMap num).length ∧ (xs.flatMap num).length ≤ 5 * xs.length := by
  induction xs with
  | nil => simp
  | cons x xs ih =>
    have h1 := ih (fun v hv => h v (by simp [hv]))
    have h2 := num_one x
    have h3 := num_five (h x (by simp))
    rw [List.flatMap_cons, List.length_append, List.length_cons]
    omega
theorem flat_in (xs : List Nat) : InB (xs.flatMap num) := by
  intro z hz
  obtain ⟨v, _, h⟩ := List.mem_flatMap.1 hz
  exact num_in v z h
theorem body_len {n : Nt} (h : n.ok = true) : 2 ≤ n.body.length ∧ n.body.length ≤ 16 := by
  have h1 := flat_len (xs := n.vs) (fun v hv => by have := vs_lt h v hv; omega)
  rw [vs_len] at h1
  have := us_le n.kind
  have := ((ok_iff n).1 h).1
  unfold Nt.body
  rw [List.length_cons]
  omega
theorem body_in {n : Nt} (h : n.ok = true) : InB n.body := by
  have := us_pos ((ok_iff n).1 h).1
  exact InB.cons (by omega) (flat_in _)
theorem head_in {n : Nt} (h : n.ok = true) : InB n.head := by
  have := body_len h
  exact InB.cons (by omega) (body_in h)
theorem w2_in (x : BitVec 16) : InB (w2 (uv x)) := by
  intro z hz
  have := uv_lo x
  have := uv_hi x
  simp [w2] at hz
  rcases hz with rfl | rfl <;> omega
theorem bts_in {n : Nt} (h : n.ok = true) : InB n.bts := (head_in h).append (w2_in _)
theorem bts_len (n : Nt) : n.bts.length = n.body.length + 3 := by simp [Nt.bts, Nt.head, w2]
theorem bts_len5 {n : Nt} (h : n.ok = true) : 5 ≤ n.bts.length ∧ n.bts.length ≤ 19 := by
  have := body_len h
  rw [bts_len]; omega
theorem bts_first (n : Nt) : n.bts[0]? = some (n.body.length : Int) := rfl

theorem nt_ext {n m : Nt} (hn : n.ok = true) (hm : m.ok = true) (hk : n.kind = m.kind) (hv : n.vs = m.vs) : n = m := by
  have h1 := (ok_iff n).1 hn
  have h2 := (ok_iff m).1 hm
  have key : ∀ (i : Nat) (x y : Int), n.fs[i]? = some x → m.fs[i]? = some y → x = y := by
    intro i x y hx hy
    have a1 := h1.2.1 i x hx
    have a2 := h2.2.1 i y hy
    rcases Nat.lt_or_ge i (us n.kind) with q | q
    · have e1 := vs_at (n := n) i q
      have e2 := vs_at (n := m) i (by rw [← hk]; exact q)
      rw [hv, e2, hx, hy] at e1
      simp at e1
      omega
    · rw [a1.2.2 q, a2.2.2 (by rw [← hk]; exact q)]
  obtain ⟨k, a, b, c⟩ := n
  obtain ⟨k', a', b', c'⟩ := m
  simp only at hk
  subst hk
  rw [show a = a' from key 0 _ _ rfl rfl, show b = b' from key 1 _ _ rfl rfl, show c = c' from key 2 _ _ rfl rfl]
theorem body_inj {n m : Nt} (hn : n.ok = true) (hm : m.ok = true) (h : n.body = m.body) : n = m := by
  unfold Nt.body at h
  simp only [List.cons.injEq] at h
  obtain ⟨hk, he⟩ := h
  obtain ⟨zs, e1, e2⟩ := num_pf.flat n.vs m.vs [] [] (fun _ _ => trivial) (fun _ _ => trivial) (by rw [vs_len, vs_len, hk]; exact Nat.le_refl _) (by simpa using he)
  have : zs = [] := by
    have := congrArg List.length e1
    rw [List.length_append, vs_len, vs_len, hk] at this
    exact List.eq_nil_of_length_eq_zero (by omega)
  subst this
  exact nt_ext hn hm hk (by simpa using e1.symm)
theorem bts_inj (n m : Nt) (r s : List Int) (hn : n.ok = true) (hm : m.ok = true) (e : n.bts ++ r = m.bts ++ s) : n = m ∧ r = s := by
  have e' := e
  unfold Nt.bts Nt.head at e
  simp only [List.cons_append, List.append_assoc, List.cons.injEq] at e
  have hl : n.body.length = m.body.length := by omega
  have := List.append_inj_left e.2 hl
  have := body_inj hn hm this
  subst this
  exact ⟨rfl, List.append_cancel_left e'⟩
theorem bts_pos (n : Nt) : n.bts ≠ [] := by simp [Nt.bts, Nt.head]
theorem bts_pf : PF (fun n : Nt => n.ok = true) Nt.bts := ⟨bts_inj, bts_pos⟩

/-- bytes begin with a note's -/
def Fst (l : List Int) (n : Nt) : Prop := n.ok = true ∧ ∃ r, l = n.bts ++ r
theorem Fst.uniq {l : List Int} {n m : Nt} (h : Fst l n) (k : Fst l m) : n = m := by
  obtain ⟨h1, r, h2⟩ := h
  obtain ⟨k1, s, k2⟩ := k
  exact (bts_inj n m r s h1 k1 (by rw [← h2, ← k2])).1
theorem Fst.len {l : List Int} {n : Nt} (h : Fst l n) : n.bts.length ≤ l.length := by
  obtain ⟨_, r, rfl⟩ := h
  simp
theorem fst_nil (n : Nt) : ¬ Fst [] n := by
  rintro ⟨h, r, e⟩
  exact bts_pos n (List.append_eq_nil_iff.1 e.symm).1

/-- the notes that stand from the front on, and what is left -/
structure Rds (l : List Int) (ns : List Nt) (r : List Int) : Prop where
  eq : l = ns.flatMap Nt.bts ++ r
  ok : ∀ n ∈ ns, n.ok = true
  no : ∀ n, ¬ Fst r n
theorem Rds.go {l r : List Int} {ns ms : List Nt} (h : Rds l ns r) (hm : ∀ n ∈ ms, n.ok = true) (s : List Int) (e : l = ms.flatMap Nt.bts ++ s) : ∃ zs, ns = ms ++ zs ∧ s = zs.flatMap Nt.bts ++ r := by
  rcases Nat.le_total ms.length ns.length with q | q
  · exact bts_pf.flat ms ns s r hm h.ok q (by rw [← e, ← h.eq])
  · obtain ⟨zs, e1, e2⟩ := bts_pf.flat ns ms r s h.ok hm q (by rw [← e, ← h.eq])
    cases zs with
    | nil => exact ⟨[], by simpa using e1.symm, by simpa using e2.symm⟩
    | cons z zs =>
      refine absurd ⟨hm z (by rw [e1]; simp), zs.flatMap Nt.bts ++ s, ?_⟩ (h.no z)
      rw [e2]; simp
theorem Rds.uniq {l r s : List Int} {ns ms : List Nt} (h : Rds l ns r) (k : Rds l ms s) : ns = ms ∧ r = s := by
  obtain ⟨zs, e1, e2⟩ := h.go k.ok s k.eq
  cases zs with
  | nil => exact ⟨by simpa using e1, by simpa using e2.symm⟩
  | cons z zs =>
    refine absurd ⟨h.ok z (by rw [e1]; simp), zs.flatMap Nt.bts ++ r, ?_⟩ (k.no z)
    rw [e2]; simp
/-- all of them -/
theorem rds_all {ns : List Nt} (h : ∀ n ∈ ns, n.ok = true) : Rds (ns.flatMap Nt.bts) ns [] := ⟨by simp, h, fst_nil⟩
/-- cut off anywhere -/
theorem Rds.cut {ns got : List Nt} {k : Nat} {r : List Int} (h : ∀ n ∈ ns, n.ok = true) (hk : k ≤ (ns.flatMap Nt.bts).length) (hc : Rds ((ns.flatMap Nt.bts).take k) got r) :
    got.length ≤ ns.length ∧ ns.take got.length = got ∧ (got.flatMap Nt.bts).length ≤ k ∧ (got.length = ns.length → k = (ns.flatMap Nt.bts).length) ∧ (∀ z, ns[got.length]? = some z → k - (got.flatMap Nt.bts).length < z.bts.length) := by
  have e : ns.flatMap Nt.bts = got.flatMap Nt.bts ++ (r ++ (ns.flatMap Nt.bts).drop k) := by
    rw [← List.append_assoc, ← hc.eq, List.take_append_drop]
  obtain ⟨zs, e1, e2⟩ := (rds_all h).go hc.ok _ e
  have hlen : (got.flatMap Nt.bts).length + r.length = k := by
    have := congrArg List.length hc.eq
    rw [List.length_take, List.length_append] at this
    omega
  refine ⟨by rw [e1]; simp, by rw [e1]; simp, by omega, fun q => ?_, fun z hz => ?_⟩
  · have : zs = [] := by
      have := congrArg List.length e1
      rw [List.length_append] at this
      exact List.eq_nil_of_length_eq_zero (by omega)
    subst this
    have h3 := congrArg List.length e2
    rw [List.length_append, List.length_drop, List.flatMap_nil, List.append_nil, List.length_nil] at h3
    omega
  · rcases Nat.lt_or_ge (k - (got.flatMap Nt.bts).length) z.bts.length with q | q
    · exact q
    · exfalso
      rw [e1, List.getElem?_append_right (Nat.le_refl _), Nat.sub_self] at hz
      cases zs with
      | nil => simp at hz
      | cons y zs =>
        simp at hz
        subst hz
        refine hc.no y ⟨h y (by rw [e1]; simp), r.drop y.bts.length, ?_⟩
        rw [List.flatMap_cons, List.append_nil] at e2
        have e3 : y.bts = r.take y.bts.length := by
          have := congrArg (List.take y.bts.length) e2
          rw [List.take_append_of_le_length (by omega), List.take_left] at this
          exact this.symm
        have e4 : r.take y.bts.length ++ r.drop y.bts.length = r := List.take_append_drop _ _
        rw [← e3] at e4
        exact e4.symm
end Go.Proofs.Ytgdoagmnhmfjkaa
