/- A tape as plain data: what each call answers and leaves. -/
import Derived.Test.YtgdoagmnhmfjkaaNrd
namespace Go.Proofs.Ytgdoagmnhmfjkaa
set_option linter.unusedVariables false

/-- a tape: its areas, which of them counts, whether there is a budget, the budget, whether it is dead -/
structure Tp where
  A : Bool → List Int
  cn : Bool
  ar : Bool
  bd : Nat
  dd : Bool
def Tp.now (T : Tp) : List Int := T.A T.cn
def Tp.oth (T : Tp) : List Int := T.A (!T.cn)
def Tp.nw : Tp := ⟨fun _ => [], false, false, 0, false⟩
/-- so many units may be done -/
def Tp.can (T : Tp) (n : Nat) : Bool := !T.ar || decide (n ≤ T.bd)
def Tp.use (T : Tp) (n : Nat) : Tp := ⟨T.A, T.cn, T.ar, if T.ar = true then T.bd - n else T.bd, T.dd⟩
def Tp.setA (T : Tp) (s : Bool) (xs : List Int) : Tp := ⟨fun q => if q = s then xs else T.A q, T.cn, T.ar, T.bd, T.dd⟩
def Tp.die (T : Tp) : Tp := ⟨T.A, T.cn, T.ar, T.bd, true⟩
def Tp.arm (T : Tp) (n : Int) : Int × Tp := if T.dd = true then (190, T) else if n < 0 ∨ 1099511627776 < n then (1, T) else (0, ⟨T.A, T.cn, true, n.toNat, T.dd⟩)
def Tp.put (T : Tp) (s : Bool) (bs : List Int) : Int × Tp := if T.can bs.length = true then (0, (T.use bs.length).setA s (T.A s ++ bs)) else (190, ((T.use T.bd).setA s (T.A s ++ bs.take T.bd)).die)
def Tp.cut (T : Tp) (s : Bool) (n : Nat) : Int × Tp := if (T.A s).length = n then (0, T) else if T.can 1 = true then (0, (T.use 1).setA s ((T.A s).take n)) else (190, T.die)
def Tp.turn (T : Tp) (s : Bool) : Int × Tp := if T.can 1 = true then (0, ⟨T.A, s, T.ar, (T.use 1).bd, T.dd⟩) else (190, T.die)
/-- Append, where r is what stands behind the good part -/
def Tp.app (T : Tp) (r : List Int) (ns : List Nt) : Int × Tp :=
  if T.dd = true then (190, T) else if ns.all Nt.ok = false then (180, T) else if r ≠ [] then (140, T) else if 65536 < T.now.length + tot ns then (5, T) else T.put T.cn (ns.flatMap Nt.bts)
def Tp.cmp3 (T : Tp) (s : Bool) (p : Int × Tp) : Int × Tp := if p.1 = 0 then p.2.turn s else p
def Tp.cmp2 (T : Tp) (s : Bool) (ns : List Nt) (p : Int × Tp) : Int × Tp := if p.1 = 0 then T.cmp3 s (p.2.put s (ns.flatMap Nt.bts)) else p
def Tp.cmp (T : Tp) (ns : List Nt) : Int × Tp :=
  if T.dd = true then (190, T) else if ns.all Nt.ok = false then (180, T) else if 65536 < tot ns then (5, T) else T.cmp2 (!T.cn) ns (T.cut (!T.cn) 0)
def Tp.rep (T : Tp) (r : List Int) : Int × Int × Tp :=
  if T.dd = true then (0, 190, T) else if (T.cut T.cn (T.now.length - r.length)).1 = 0 then (r.length, 0, (T.cut T.cn (T.now.length - r.length)).2) else (0, 190, (T.cut T.cn (T.now.length - r.length)).2)
def Tp.crash (T : Tp) : Tp := ⟨T.A, T.cn, false, 0, false⟩
/-- what holds of every tape -/
structure Tp.Ok (T : Tp) : Prop where
  inb : ∀ s, InB (T.A s)
  len : ∀ s, (T.A s).length ≤ 65536
  bud : T.bd ≤ 1099511627776
theorem Tp.Ok.nw : Tp.nw.Ok := ⟨fun _ => InB.nil, fun _ => by simp [Tp.nw], by simp [Tp.nw]⟩
theorem Tp.Ok.use {T : Tp} (h : T.Ok) (n : Nat) : (T.use n).Ok := ⟨h.inb, h.len, by
  have := h.bud
  unfold Tp.use
  simp only
  split <;> omega⟩
theorem Tp.Ok.setA {T : Tp} (h : T.Ok) (s : Bool) {xs : List Int} (hx : InB xs) (hl : xs.length ≤ 65536) : (T.setA s xs).Ok := ⟨fun q => by
  unfold Tp.setA
  simp only
  split
  · exact hx
  · exact h.inb q, fun q => by
  unfold Tp.setA
  simp only
  split
  · exact hl
  · exact h.len q, h.bud⟩
theorem Tp.Ok.die {T : Tp} (h : T.Ok) : T.die.Ok := ⟨h.inb, h.len, h.bud⟩
theorem Tp.Ok.crash {T : Tp} (h : T.Ok) : T.crash.Ok := ⟨h.inb, h.len, Nat.zero_le _⟩
theorem Tp.Ok.turn {T : Tp} (h : T.Ok) (s : Bool) : (T.turn s).2.Ok := by
  unfold Tp.turn
  split
  · exact ⟨h.inb, h.len, (h.use 1).bud⟩
  · exact h.die
theorem Tp.Ok.cut {T : Tp} (h : T.Ok) (s : Bool) (n : Nat) : (T.cut s n).2.Ok := by
  unfold Tp.cut
  split
  · exact h
  · split
    · exact (h.use 1).setA s ((h.inb s).take n) (by have := h.len s; rw [List.length_take]; omega)
    · exact h.die
theorem Tp.Ok.put {T : Tp} (h : T.Ok) (s : Bool) {bs : List Int} (hb : InB bs) (hl : (T.A s).length + bs.length ≤ 65536) : (T.put s bs).2.Ok := by
  unfold Tp.put
  split
  · exact (h.use _).setA s ((h.inb s).append hb) (by rw [List.length_append]; exact hl)
  · exact ((h.use _).setA s ((h.inb s).append (hb.take _)) (by rw [List.length_append, List.length_take]; omega)).die
theorem use_zero (T : Tp) : T.use 0 = T := by
  unfold Tp.use
  simp
theorem use_use (T : Tp) (a b : Nat) : (T.use a).use b = T.use (a + b) := by
  unfold Tp.use
  cases T.ar <;> simp
  omega
theorem setA_at (T : Tp) (s : Bool) (xs : List Int) : (T.setA s xs).A s = xs := by simp [Tp.setA]
theorem setA_off (T : Tp) {s q : Bool} (h : q ≠ s) (xs : List Int) : (T.setA s xs).A q = T.A q := by simp [Tp.setA, h]
theorem setA_set (T : Tp) (s : Bool) (xs ys : List Int) : (T.setA s xs).setA s ys = T.setA s ys := by
  unfold Tp.setA
  congr 1
  funext q
  by_cases h : q = s <;> simp [h]
theorem setA_same (T : Tp) (s : Bool) : T.setA s (T.A s) = T := by
  unfold Tp.setA
  congr 1
  funext q
  by_cases h : q = s <;> simp [h]
theorem setA_use (T : Tp) (s : Bool) (xs : List Int) (n : Nat) : (T.setA s xs).use n = (T.use n).setA s xs := rfl
theorem use_A (T : Tp) (n : Nat) : (T.use n).A = T.A := rfl
/-- what reads a note from the front on always tells something -/
theorem rds_ex (l : List Int) : ∃ ns r, Rds l ns r := by
  obtain ⟨n, hn⟩ : ∃ n, l.length = n := ⟨_, rfl⟩
  induction n using Nat.strongRecOn generalizing l with
  | _ n ih =>
    by_cases h : ∃ m, Fst l m
    · obtain ⟨m, hm, r, rfl⟩ := h
      have hp : m.bts ≠ [] := bts_pos m
      have hl : 0 < m.bts.length := List.length_pos_iff.2 hp
      rw [List.length_append] at hn
      obtain ⟨ns, s, q⟩ := ih r.length (by omega) r rfl
      exact ⟨m :: ns, s, by rw [List.flatMap_cons, List.append_assoc, ← q.eq], fun z hz => by
        rcases List.mem_cons.1 hz with rfl | hz
        · exact hm
        · exact q.ok z hz, q.no⟩
    · exact ⟨[], l, rds_nil (fun m hm => h ⟨m, hm⟩)⟩
end Go.Proofs.Ytgdoagmnhmfjkaa
