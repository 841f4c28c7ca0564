/- A window that is filled from behind: the intake's states. -/
import Derived.Test.YtmbgcbbpkbaajaaWake
namespace Go.Proofs.Ytmbgcbbpkbaajaa
open Go.RowKit
set_option linter.unusedVariables false

/-- the pieces from K on have come, none is taken over -/
structure Back (first : Int) (N K : Nat) (S : Ik) : Prop where
  win : S.win = N
  inw : S.Inw
  n : S.n + K = N
  nx : S.nx = first
  q : S.q = []
  yes : ∀ i : Nat, K ≤ i → i < N → ∃ p, S.wait ((first + i) % 65536) = some p ∧ p.2 = [(i : Int)]
  no : ∀ x, 0 ≤ x → x ≤ 65535 → (up first x < K ∨ (N : Int) ≤ up first x) → S.wait x = none
/-- all have come, and are taken over -/
structure Full (first : Int) (N : Nat) (S : Ik) : Prop where
  win : S.win = N
  inw : S.Inw
  n : S.n ≤ 1000
  nx : S.nx = (first + N) % 65536
  q : S.q.length = N
  head : ∃ p r, S.q = p :: r ∧ p.2 = [0]
  no : ∀ x, 0 ≤ x → x ≤ 65535 → S.wait x = none

theorem back_new (first : Int) (N : Nat) (hf : 0 ≤ first ∧ first ≤ 65535) : Back first N N (Ik.new N first) where
  win := rfl
  inw := fun x _ _ h => absurd rfl h
  n := by simp [Ik.new]
  nx := rfl
  q := rfl
  yes := fun i h1 h2 => by omega
  no := fun x _ _ _ => rfl

theorem back_code {first : Int} {N K : Nat} {S : Ik} (h : Back first N (K + 1) S) (hN : N ≤ 64) (hK : K + 1 ≤ N) : S.code ((first + K) % 65536) 1 = 0 := by
  have e1 : ¬ up ((S.nx - S.win) % 65536) ((first + K) % 65536) < S.win := by rw [h.nx, h.win]; unfold up; omega
  have e2 : up S.nx ((first + K) % 65536) = K := by rw [h.nx]; unfold up; omega
  have e3 : S.wait ((first + K) % 65536) = none := h.no _ (by omega) (by omega) (.inl (by unfold up; omega))
  have e4 : S.win = N := h.win
  unfold Ik.code
  rw [if_neg (by omega), if_neg e1, if_neg (by rw [e2, e4]; omega), if_neg (by rw [e3]; simp), if_neg (by rw [h.q, e4]; simp; omega)]

theorem back_put {first : Int} {N K : Nat} {S : Ik} (h : Back first N (K + 1) S) (hN : N ≤ 64) (hK : K + 1 ≤ N) (p : Dt) (hp : p.2 = [(K : Int)]) (i : Nat) (h1 : K ≤ i) (h2 : i < N) : ∃ p', (S.put ((first + K) % 65536) p).wait ((first + i) % 65536) = some p' ∧ p'.2 = [(i : Int)] := by
  show ∃ p', (if (first + (i : Int)) % 65536 = (first + K) % 65536 then some p else S.wait ((first + i) % 65536)) = some p' ∧ _
  by_cases e : i = K
  · subst e
    rw [if_pos rfl]
    exact ⟨p, rfl, hp⟩
  · rw [if_neg (by omega)]
    exact h.yes i (by omega) h2
theorem back_else {first : Int} {N K : Nat} {S : Ik} (h : Back first N (K + 1) S) (hN : N ≤ 64) (hK : K + 1 ≤ N) (p : Dt) (x : Int) (x0 : 0 ≤ x) (x1 : x ≤ 65535) (hx : up first x < K ∨ (N : Int) ≤ up first x) : (S.put ((first + K) % 65536) p).wait x = none := by
  show (if x = (first + K) % 65536 then some p else S.wait x) = none
  rw [if_neg (fun e => by rw [e] at hx; unfold up at hx; omega)]
  exact h.no x x0 x1 (by omega)

theorem back_next {first : Int} {N K j : Nat} {S : Ik} (h : Back first N (K + 1) S) (hN : N ≤ 64) (hK : K + 1 ≤ N) (hK0 : 0 < K) (p : Dt) (hp : p.2 = [(K : Int)]) (hf : 0 ≤ first ∧ first ≤ 65535)
    (j1 : (S.put ((first + K) % 65536) p).There j) (hI : ((S.put ((first + K) % 65536) p).go j).Inw) : Back first N K ((S.put ((first + K) % 65536) p).go j) := by
  have e0 : (S.put ((first + K) % 65536) p).wait ((S.nx + (0 : Nat)) % 65536) = none := by
    rw [h.nx]
    exact back_else h hN hK p _ (by omega) (by omega) (.inl (by unfold up; omega))
  have ej : j = 0 := by
    rcases Nat.eq_zero_or_pos j with e | e
    · exact e
    · exact absurd e0 (j1 0 e)
  subst ej
  have hn := h.n
  have ew : ∀ x, ((S.put ((first + K) % 65536) p).go 0).wait x = (S.put ((first + K) % 65536) p).wait x := fun x => by
    have := up_in S.nx x
    show (if up S.nx x < (0 : Nat) then none else _) = _
    rw [if_neg (by omega)]
  exact { win := h.win, inw := hI, n := by show S.n + 1 + K = N; omega, nx := by show (S.nx + (0 : Nat)) % 65536 = first; rw [h.nx]; omega, q := by show S.q ++ [] = []; rw [h.q]; rfl,
          yes := fun i h1 h2 => by rw [ew]; exact back_put h hN hK p hp i h1 h2
          no := fun x x0 x1 hx => by rw [ew]; exact back_else h hN hK p x x0 x1 hx }

theorem back_full {first : Int} {N j : Nat} {S : Ik} (h : Back first N (0 + 1) S) (hN : N ≤ 64) (hN1 : 1 ≤ N) (p : Dt) (hp : p.2 = [0]) (hf : 0 ≤ first ∧ first ≤ 65535)
    (j1 : (S.put ((first + (0 : Nat)) % 65536) p).There j) (j2 : (S.put ((first + (0 : Nat)) % 65536) p).wait ((S.nx + j) % 65536) = none) (hI : ((S.put ((first + (0 : Nat)) % 65536) p).go j).Inw) : Full first N ((S.put ((first + (0 : Nat)) % 65536) p).go j) := by
  have ej : j = N := by
    refine j1.uniq j2 (fun i hi => ?_) ?_
    · obtain ⟨p', h', _⟩ := back_put h hN hN1 p (by simpa using hp) i (by omega) hi
      show (S.put ((first + (0 : Nat)) % 65536) p).wait ((S.nx + i) % 65536) ≠ none
      rw [h.nx, h']; simp
    · show (S.put ((first + (0 : Nat)) % 65536) p).wait ((S.nx + N) % 65536) = none
      rw [h.nx]
      exact back_else h hN hN1 p _ (by omega) (by omega) (.inr (by unfold up; omega))
  subst ej
  have hn := h.n
  refine { win := h.win, inw := hI, n := by show S.n + 1 ≤ 1000; omega, nx := by show (S.nx + j) % 65536 = _; rw [h.nx], q := by show (S.q ++ _).length = j; rw [h.q]; simp, head := ?_, no := ?_ }
  · obtain ⟨k, rfl⟩ : ∃ k, j = k + 1 := ⟨j - 1, by omega⟩
    show ∃ p' r, S.q ++ (List.range (k + 1)).map _ = p' :: r ∧ p'.2 = [0]
    rw [h.q, List.range_succ_eq_map, List.map_cons]
    refine ⟨_, _, rfl, ?_⟩
    show (((S.put ((first + (0 : Nat)) % 65536) p).wait ((S.nx + ((0 : Nat) : Int)) % 65536)).getD (0, [])).2 = [0]
    rw [h.nx]
    show ((if (first + ((0 : Nat) : Int)) % 65536 = (first + (0 : Nat)) % 65536 then some p else _).getD (0, [])).2 = [0]
    rw [if_pos rfl]
    exact hp
  · intro x x0 x1
    show (if up S.nx x < (j : Int) then none else (S.put ((first + (0 : Nat)) % 65536) p).wait x) = none
    rw [h.nx]
    by_cases h' : up first x < j
    · rw [if_pos h']
    · rw [if_neg h']
      exact back_else h hN hN1 p x x0 x1 (.inr (by omega))

theorem full_far {first : Int} {N : Nat} {S : Ik} (h : Full first N S) (hN : N ≤ 64) (hN1 : 1 ≤ N) : S.code S.nx 0 = 40 := by
  have e1 : ¬ up ((S.nx - S.win) % 65536) S.nx < S.win := by rw [h.win]; unfold up; omega
  have e2 : up S.nx S.nx = 0 := by unfold up; omega
  have e3 : S.wait S.nx = none := h.no _ (by rw [h.nx]; omega) (by rw [h.nx]; omega)
  have e4 : S.win = N := h.win
  unfold Ik.code
  rw [if_neg (by omega), if_neg e1, if_neg (by rw [e2, e4]; omega), if_neg (by rw [e3]; simp), if_pos (by rw [h.q, e4]; omega)]
theorem full_ok {first : Int} {N : Nat} {S : Ik} (h : Full first N S) (hN : N ≤ 64) (hN1 : 1 ≤ N) (r : List Dt) (hr : r.length + 1 = N) : ({ S with q := r } : Ik).code S.nx 0 = 0 := by
  have e1 : ¬ up ((S.nx - S.win) % 65536) S.nx < S.win := by rw [h.win]; unfold up; omega
  have e2 : up S.nx S.nx = 0 := by unfold up; omega
  have e3 : S.wait S.nx = none := h.no _ (by rw [h.nx]; omega) (by rw [h.nx]; omega)
  have e4 : S.win = N := h.win
  unfold Ik.code
  show (if 256 < 0 then 3 else if up ((S.nx - S.win) % 65536) S.nx < S.win then 2 else if ¬ up S.nx S.nx < S.win then 40 else if (S.wait S.nx).isSome then 2 else if S.win ≤ (r.length : Int) then 40 else 0) = (0 : Int)
  rw [if_neg (by omega), if_neg e1, if_neg (by rw [e2, e4]; omega), if_neg (by rw [e3]; simp), if_neg (by rw [e4]; omega)]
/-- one more came, and was taken over -/
theorem full_more {first : Int} {N j : Nat} {S : Ik} (h : Full first N S) (hN : N ≤ 64) (hN1 : 1 ≤ N) (hf : 0 ≤ first ∧ first ≤ 65535) (r : List Dt) (hr : r.length + 1 = N) (p : Dt)
    (j1 : (({ S with q := r } : Ik).put S.nx p).There j) (j2 : (({ S with q := r } : Ik).put S.nx p).wait ((S.nx + j) % 65536) = none) :
    ((({ S with q := r } : Ik).put S.nx p).go j).q.length = N ∧ ((({ S with q := r } : Ik).put S.nx p).go j).code ((first + 1) % 65536) 0 = 2 := by
  have hn0 : 0 ≤ S.nx ∧ S.nx ≤ 65535 := by rw [h.nx]; omega
  have ej : j = 1 := by
    refine j1.uniq j2 (fun i hi => ?_) ?_
    · have : i = 0 := by omega
      subst this
      show (if (S.nx + ((0 : Nat) : Int)) % 65536 = S.nx then some p else S.wait _) ≠ none
      rw [if_pos (by omega)]; simp
    · show (if (S.nx + ((1 : Nat) : Int)) % 65536 = S.nx then some p else S.wait _) = none
      rw [if_neg (by omega)]
      exact h.no _ (by omega) (by omega)
  subst ej
  refine ⟨?_, ?_⟩
  · show (r ++ _).length = N
    simp; omega
  · have e1 : up ((((({ S with q := r } : Ik).put S.nx p).go 1).nx - ((({ S with q := r } : Ik).put S.nx p).go 1).win) % 65536) ((first + 1) % 65536) < ((({ S with q := r } : Ik).put S.nx p).go 1).win := by
      show up ((((S.nx + (1 : Nat)) % 65536) - S.win) % 65536) ((first + 1) % 65536) < S.win
      rw [h.nx, h.win]; unfold up; omega
    unfold Ik.code
    rw [if_neg (by omega), if_pos e1]

/-- the bytes of a piece -/
theorem Dat.form {w : World} {v : Value} {p : Dt} (h : Dat w v p) (hp : 0 < p.2.length) : ∃ g cap, v = .slice (some ⟨g, 0, none⟩) p.2.length cap ∧ ∀ i, i < p.2.length → w.cell? ⟨g, i, none⟩ = some (.int .u8 (p.2[i]?.getD 0)) := by
  have ho := h.1
  rcases h.1.2 with ⟨_, h1⟩ | ⟨g, cap, cur, rfl, _⟩
  · rw [h1] at hp; omega
  · refine ⟨g, cap, rfl, fun i hi => ?_⟩
    have := (ho.cell i (by rw [show bytesE.k = 1 from rfl]; omega)).1
    rw [this]
    have e := bytesE.fl_at p.2 i 0 (p.2[i]) (List.getElem?_eq_getElem hi) (by rw [show bytesE.k = 1 from rfl]; omega)
    rw [show bytesE.k = 1 from rfl, Nat.mul_one, Nat.add_zero] at e
    rw [e, List.getElem?_eq_getElem hi]
    rfl

theorem win_in (a : Int) : ∃ N : Nat, wrap64 ((IntKind.u64.wrap a).tmod 64) + 1 = (N : Int) ∧ 1 ≤ N ∧ N ≤ 64 := by
  have h0 : 0 ≤ IntKind.u64.wrap a := by simp [IntKind.wrap, IntKind.bits, IntKind.signed]; omega
  have e : (IntKind.u64.wrap a).tmod 64 = IntKind.u64.wrap a % 64 := Int.tmod_eq_emod_of_nonneg h0
  rw [e]
  generalize IntKind.u64.wrap a = b at h0
  refine ⟨(b % 64 + 1).toNat, ?_, by omega, by omega⟩
  unfold wrap64
  omega
end Go.Proofs.Ytmbgcbbpkbaajaa
