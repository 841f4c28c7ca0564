/- How the document reads a note: what stands where if bytes begin with one. No Go here. -/
import Derived.Test.YtgdoagmnhmfjkaaNmt
namespace Go.Proofs.Ytgdoagmnhmfjkaa
set_option linter.unusedVariables false

def pfx (m : Nt) (i : Nat) : Nat := ((m.vs.take i).flatMap num).length
def ys (m : Nt) (i : Nat) : List Int := (m.vs.take i).map (fun v : Nat => (v : Int)) ++ List.replicate (3 - i) 0
/-- so many numbers are read -/
def Out (l : List Int) (i at' : Nat) (xs : List Int) : Prop := ∀ m, Fst l m → at' = 2 + pfx m i ∧ xs = ys m i
/-- and some digits of the next -/
def Inn (l : List Int) (i at' : Nat) (P : Int) (xs : List Int) : Prop := ∀ m, Fst l m → ∃ t v : Nat, m.vs[i]? = some v ∧ t < (num v).length ∧ at' = 2 + pfx m i + t ∧ P = ((128 ^ t : Nat) : Int) ∧ xs = (ys m i).set i ((v % 128 ^ t : Nat) : Int)

theorem flat_at {vs : List Nat} {i v t : Nat} (h : vs[i]? = some v) (ht : t < (num v).length) : (vs.flatMap num)[((vs.take i).flatMap num).length + t]? = (num v)[t]? := by
  have e : vs = vs.take i ++ v :: vs.drop (i + 1) := by
    have h1 := (List.getElem?_eq_some_iff.1 h).1
    have h2 : vs.drop i = v :: vs.drop (i + 1) := by
      rw [List.drop_eq_getElem_cons h1]
      congr 1
      exact (List.getElem?_eq_some_iff.1 h).2
    rw [← h2, List.take_append_drop]
  have e2 : vs.flatMap num = (vs.take i).flatMap num ++ (num v ++ (vs.drop (i + 1)).flatMap num) := by
    conv => lhs; rw [e]
    rw [List.flatMap_append, List.flatMap_cons]
  rw [e2, List.getElem?_append_right (by omega), Nat.add_sub_cancel_left, List.getElem?_append_left ht]
theorem pfx_succ {m : Nt} {i v : Nat} (h : m.vs[i]? = some v) : pfx m (i + 1) = pfx m i + (num v).length := by
  unfold pfx
  rw [List.take_add_one, h]
  simp
theorem pfx_le {m : Nt} {i v : Nat} (h : m.vs[i]? = some v) : pfx m i + (num v).length ≤ (m.vs.flatMap num).length := by
  have h1 : (num v).length = 0 ∨ 0 < (num v).length := Nat.eq_zero_or_pos _
  have h2 := num_one v
  have h3 := flat_at h (t := (num v).length - 1) (by omega)
  rw [List.getElem?_eq_getElem (show (num v).length - 1 < (num v).length by omega)] at h3
  have h4 := (List.getElem?_eq_some_iff.1 h3).1
  unfold pfx
  omega
theorem Fst.at0 {l : List Int} {m : Nt} (h : Fst l m) : l[0]? = some (m.body.length : Int) := by obtain ⟨_, r, rfl⟩ := h; rfl
theorem Fst.at1 {l : List Int} {m : Nt} (h : Fst l m) : l[1]? = some m.kind := by obtain ⟨_, r, rfl⟩ := h; rfl
theorem Fst.at2 {l : List Int} {m : Nt} (h : Fst l m) (j : Nat) (hj : j < (m.vs.flatMap num).length) : l[2 + j]? = (m.vs.flatMap num)[j]? := by
  obtain ⟨_, r, rfl⟩ := h
  have e : m.bts ++ r = (m.body.length : Int) :: m.kind :: (m.vs.flatMap num ++ (w2 (uv (sm 0xFFFF#16 m.head)) ++ r)) := by
    unfold Nt.bts Nt.head Nt.body
    simp
  rw [e, Nat.add_comm 2 j]
  simp only [List.getElem?_cons_succ]
  rw [List.getElem?_append_left hj]
theorem body_flat (m : Nt) : m.body.length = 1 + (m.vs.flatMap num).length := by unfold Nt.body; rw [List.length_cons, Nat.add_comm]
theorem ys_len (m : Nt) (i : Nat) (h : i ≤ us m.kind) : (ys m i).length = 3 := by
  have := us_le m.kind
  unfold ys
  rw [List.length_append, List.length_map, List.length_take, vs_len, List.length_replicate]
  omega
theorem ys_at (m : Nt) (i : Nat) (h : i < us m.kind) : (ys m i)[i]? = some 0 := by
  have := us_le m.kind
  have hl : ((m.vs.take i).map (fun v : Nat => (v : Int))).length = i := by rw [List.length_map, List.length_take, vs_len]; omega
  unfold ys
  rw [List.getElem?_append_right (by omega), hl, Nat.sub_self, List.getElem?_replicate]
  simp; omega
theorem ys_succ {m : Nt} {i v : Nat} (h : m.vs[i]? = some v) (hi : i < us m.kind) : (ys m i).set i (v : Int) = ys m (i + 1) := by
  have := us_le m.kind
  have hl : ((m.vs.take i).map (fun v : Nat => (v : Int))).length = i := by rw [List.length_map, List.length_take, vs_len]; omega
  unfold ys
  rw [List.set_append_right _ _ (by omega), hl, Nat.sub_self, List.take_add_one, h]
  rw [show 3 - i = (3 - (i + 1)) + 1 by omega, List.replicate_succ, List.set_cons_zero]
  simp
theorem idx_us {m : Nt} {i v : Nat} (h : m.vs[i]? = some v) : i < us m.kind := by
  have := (List.getElem?_eq_some_iff.1 h).1
  rw [vs_len] at this
  exact this

theorem out0 (l : List Int) : Out l 0 2 [0, 0, 0] := fun m _ => ⟨rfl, rfl⟩
theorem Out.inn {l : List Int} {i at' : Nat} {xs : List Int} (h : Out l i at' xs) {k : Int} (hk : l[1]? = some k) (hi : i < us k) : Inn l i at' 1 xs := by
  intro m hm
  obtain ⟨h1, h2⟩ := h m hm
  have ek : m.kind = k := by have := hm.at1; rw [hk] at this; simpa using this.symm
  have hi' : i < us m.kind := by rw [ek]; exact hi
  obtain ⟨v, hv⟩ : ∃ v, m.vs[i]? = some v := ⟨_, List.getElem?_eq_getElem (by rw [vs_len]; exact hi')⟩
  refine ⟨0, v, hv, num_one v, by omega, rfl, ?_⟩
  have e0 : ((v % 128 ^ 0 : Nat) : Int) = 0 := by rw [Nat.pow_zero, Nat.mod_one]; rfl
  have hy := ys_at m i hi'
  rw [h2, e0]
  apply List.ext_getElem?
  intro j
  rw [List.getElem?_set]
  by_cases e : i = j
  · subst e
    rw [if_pos rfl, if_pos (List.getElem?_eq_some_iff.1 hy).1, hy]
  · rw [if_neg e]
/-- the digit that is read -/
theorem Inn.digit {l : List Int} {m : Nt} (hm : Fst l m) {i t v : Nat} (hv : m.vs[i]? = some v) (ht : t < (num v).length) {z : Int} (hz : l[2 + pfx m i + t]? = some z) :
    z % 128 = ((v / 128 ^ t % 128 : Nat) : Int) ∧ (z < 128 ↔ t + 1 = (num v).length) ∧ (t + 1 = (num v).length ↔ v / 128 ^ t < 128) := by
  have h1 := pfx_le hv
  have h2 := hm.at2 (pfx m i + t) (by omega)
  rw [← Nat.add_assoc, hz, show pfx m i = ((m.vs.take i).flatMap num).length from rfl, flat_at hv ht] at h2
  obtain ⟨h3, h4⟩ := num_at t v ht
  rw [h3] at h2
  simp only [Option.some.injEq] at h2
  by_cases e : t + 1 = (num v).length
  · rw [if_pos e] at h2
    have h5 := h4.1 e
    rw [h2]
    refine ⟨by omega, by omega, h4⟩
  · rw [if_neg e] at h2
    rw [h2]
    refine ⟨by omega, ⟨fun q => by omega, fun q => absurd q e⟩, h4⟩
theorem set_set' {xs : List Int} {i : Nat} {a b : Int} : (xs.set i a).set i b = xs.set i b := List.set_set ..
theorem Inn.more {v t : Nat} {z P X : Int} (hz : z % 128 = ((v / 128 ^ t % 128 : Nat) : Int)) (hP : P = ((128 ^ t : Nat) : Int)) (hX : X = ((v % 128 ^ t : Nat) : Int)) : X + z % 128 * P = ((v % 128 ^ (t + 1) : Nat) : Int) := by
  rw [hz, hP, hX, Nat.mod_pow_succ, Int.natCast_add, Int.natCast_mul, Int.mul_comm]
theorem at_set {m : Nt} {i v t : Nat} {X : Int} (hi : i < us m.kind) (hX : ((ys m i).set i ((v % 128 ^ t : Nat) : Int))[i]? = some X) : X = ((v % 128 ^ t : Nat) : Int) := by
  rw [List.getElem?_set, if_pos rfl, if_pos (by rw [ys_len m i (by omega)]; have := us_le m.kind; omega)] at hX
  simpa using hX.symm
theorem Inn.step {l : List Int} {i at' : Nat} {P X z : Int} {xs : List Int} (h : Inn l i at' P xs) (hz : l[at']? = some z) (hX : xs[i]? = some X) (hb : 128 ≤ z) : Inn l i (at' + 1) (P * 128) (xs.set i (X + z % 128 * P)) := by
  intro m hm
  obtain ⟨t, v, hv, ht, ha, hP, hx⟩ := h m hm
  rw [ha] at hz
  obtain ⟨d1, d2, d3⟩ := Inn.digit hm hv ht hz
  rw [hx] at hX
  have eX := at_set (idx_us hv) hX
  refine ⟨t + 1, v, hv, ?_, by omega, ?_, ?_⟩
  · rcases Nat.lt_or_ge (t + 1) (num v).length with q | q
    · exact q
    · have := d2.2 (by omega); omega
  · rw [hP, Nat.pow_succ, Int.natCast_mul]; rfl
  · rw [hx, set_set', Inn.more d1 hP eX]
theorem Inn.last {l : List Int} {i at' : Nat} {P X z : Int} {xs : List Int} (h : Inn l i at' P xs) (hz : l[at']? = some z) (hX : xs[i]? = some X) (hb : z < 128) : Out l (i + 1) (at' + 1) (xs.set i (X + z % 128 * P)) := by
  intro m hm
  obtain ⟨t, v, hv, ht, ha, hP, hx⟩ := h m hm
  rw [ha] at hz
  obtain ⟨d1, d2, d3⟩ := Inn.digit hm hv ht hz
  rw [hx] at hX
  have eX := at_set (idx_us hv) hX
  have e := d2.1 hb
  refine ⟨by rw [pfx_succ hv]; omega, ?_⟩
  rw [hx, set_set', Inn.more d1 hP eX, Nat.mod_eq_of_lt, ys_succ hv (idx_us hv)]
  have h5 := d3.1 e
  rw [Nat.pow_succ]
  exact (Nat.div_lt_iff_lt_mul (Nat.pow_pos (by omega))).1 h5 |> fun q => by rw [Nat.mul_comm]; exact q
theorem Inn.far {l : List Int} {i at' : Nat} {P z : Int} {xs : List Int} (h : Inn l i at' P xs) (hz : l[at']? = some z) (hb : 128 ≤ z) (hf : 1099511627776 < P * 128) (j at2 : Nat) (ws : List Int) : Out l j at2 ws := by
  intro m hm
  obtain ⟨t, v, hv, ht, ha, hP, hx⟩ := h m hm
  exfalso
  have hv5 := num_five (v := v) (by have := vs_lt hm.1 v (List.mem_of_getElem? hv); omega)
  have h1 : 128 ^ t ≤ 128 ^ 4 := Nat.pow_le_pow_right (by omega) (by omega)
  have h2 : 128 ^ 4 = 268435456 := by decide
  omega
theorem Inn.out {l : List Int} {i at' : Nat} {P z : Int} {xs : List Int} (h : Inn l i at' P xs) {b0 : Nat} (h0 : l[0]? = some (b0 : Int)) (hb : b0 + 1 ≤ at') (j at2 : Nat) (ws : List Int) : Out l j at2 ws := by
  intro m hm
  obtain ⟨t, v, hv, ht, ha, hP, hx⟩ := h m hm
  exfalso
  have h1 := hm.at0
  rw [h0] at h1
  simp only [Option.some.injEq] at h1
  have h2 := body_flat m
  have h3 := pfx_le hv
  omega
/-- all are read: the note is this one -/
theorem Out.all {l : List Int} {at' : Nat} {k x y z : Int} (h : Out l (us k) at' [x, y, z]) (hk : l[1]? = some k) : ∀ m, Fst l m → m = ⟨k, x, y, z⟩ := by
  intro m hm
  obtain ⟨_, h2⟩ := h m hm
  have ek : m.kind = k := by have := hm.at1; rw [hk] at this; simpa using this.symm
  have hf := (ok_iff m).1 hm.1
  have hu := us_le k
  have hl : ((m.vs.take (us k)).map (fun v : Nat => (v : Int))).length = us k := by rw [List.length_map, List.length_take, vs_len, ek]; omega
  have key : ∀ (i : Nat) (q p : Int), i < 3 → m.fs[i]? = some q → [x, y, z][i]? = some p → q = p := by
    intro i q p hi hq hp
    have hb := hf.2.1 i q hq
    rw [h2] at hp
    unfold ys at hp
    rcases Nat.lt_or_ge i (us k) with hlt | hge
    · rw [List.getElem?_append_left (by omega), List.getElem?_map, List.getElem?_take_of_lt hlt, vs_at i (by rw [ek]; exact hlt), hq] at hp
      simp at hp
      omega
    · rw [List.getElem?_append_right (by omega), hl, List.getElem?_replicate, if_pos (by omega)] at hp
      simp at hp
      rw [hb.2.2 (by rw [ek]; exact hge), hp]
  obtain ⟨mk, ma, mb, mc⟩ := m
  simp only at ek
  rw [ek, key 0 ma x (by omega) rfl rfl, key 1 mb y (by omega) rfl rfl, key 2 mc z (by omega) rfl rfl]
end Go.Proofs.Ytgdoagmnhmfjkaa
