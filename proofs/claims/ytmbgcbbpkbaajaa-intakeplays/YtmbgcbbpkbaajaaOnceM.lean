/- Pieces that come in any order: the intake's states, what Take makes of them. -/
import Derived.Test.YtmbgcbbpkbaajaaFillM
namespace Go.Proofs.Ytmbgcbbpkbaajaa
open Go.RowKit
set_option linter.unusedVariables false

/-- the data of a number -/
def dt (n : Int) : List Int := [n % 256, n / 256 % 256]

structure Once (first : Int) (N : Nat) (got : Nat) (S : Ik) : Prop where
  win : S.win = N
  inw : S.Inw
  nx : S.nx = (first + got + S.q.length) % 65536
  ql : (S.q.length : Int) ≤ 2 * N - 1
  qs : ∀ (i : Nat) (p : Dt), S.q[i]? = some p → p.2 = dt (got + i)
  ws : ∀ x p, 0 ≤ x → x ≤ 65535 → S.wait x = some p → p.2 = dt (got + S.q.length + up S.nx x)

theorem once_new (first : Int) (N : Nat) (hN : 1 ≤ N) (hf : 0 ≤ first ∧ first ≤ 65535) : Once first N 0 (Ik.new N first) where
  win := rfl
  inw := fun x _ _ h => absurd rfl h
  nx := by show first = (first + (0 : Nat) + (([] : List Dt).length : Int)) % 65536; simp; omega
  ql := by simp [Ik.new]; omega
  qs := fun i p h => by simp [Ik.new] at h
  ws := fun x p _ _ h => by cases h

theorem once_get {first : Int} {N got : Nat} {S : Ik} {p : Dt} {r : List Dt} (h : Once first N got S) (hq : S.q = p :: r) : Once first N (got + 1) { S with q := r } ∧ p.2 = dt got := by
  have hl : S.q.length = r.length + 1 := by rw [hq]; rfl
  have e : ((got + 1 : Nat) : Int) + r.length = got + S.q.length := by omega
  refine ⟨{ win := h.win, inw := h.inw, nx := ?_, ql := ?_, qs := ?_, ws := ?_ }, ?_⟩
  · show S.nx = (first + ((got + 1 : Nat) : Int) + r.length) % 65536
    rw [h.nx]; omega
  · show (r.length : Int) ≤ _
    have := h.ql; omega
  · intro i p' hp
    have := h.qs (i + 1) p' (by rw [hq]; simpa using hp)
    rw [this]; congr 1; omega
  · intro x p' x0 x1 hp
    have := h.ws x p' x0 x1 hp
    rw [this]
    show dt _ = dt (((got + 1 : Nat) : Int) + r.length + up S.nx x)
    congr 1; omega
  · have := h.qs 0 p (by rw [hq]; rfl)
    simpa using this

theorem once_put {first : Int} {N got : Nat} {S : Ik} {n : Int} (h : Once first N got S) (hN : N ≤ 64) (hn0 : (got : Int) - 1 ≤ n) (hn1 : n ≤ (got : Int) + 2 * N) (hu : up S.nx ((first + n) % 65536) < S.win) :
    n = got + S.q.length + up S.nx ((first + n) % 65536) := by
  have h1 := h.nx
  have h2 := h.ql
  have h3 := h.win
  rw [h1] at hu ⊢
  rw [h3] at hu
  have h4 : (0 : Int) ≤ (S.q.length : Int) := by omega
  generalize (S.q.length : Int) = l at *
  unfold up at *
  omega

theorem range_at (f : Nat → Dt) (j i : Nat) (p : Dt) (h : ((List.range j).map f)[i]? = some p) : i < j ∧ f i = p := by
  rw [List.getElem?_map] at h
  rcases Nat.lt_or_ge i j with h' | h'
  · rw [List.getElem?_range h'] at h
    exact ⟨h', by simpa using h⟩
  · rw [List.getElem?_eq_none (by simpa using h')] at h
    cases h

theorem once_go {first : Int} {N got j : Nat} {S : Ik} {n : Int} {p : Dt} (h : Once first N got S) (hN : N ≤ 64) (hn0 : (got : Int) - 1 ≤ n) (hn1 : n ≤ (got : Int) + 2 * N) (hu : up S.nx ((first + n) % 65536) < S.win) (hq : (S.q.length : Int) < S.win) (hp : p.2 = dt n)
    (j1 : (S.put ((first + n) % 65536) p).There j) : Once first N got ((S.put ((first + n) % 65536) p).go j) := by
  have hr : (S.put ((first + n) % 65536) p).Room := (h.inw.put hu p).room hq
  have hj := j1.le hr (by show S.win ≤ 64; rw [h.win]; omega)
  have hn := once_put h hN hn0 hn1 hu
  have hx : ∀ x p', 0 ≤ x → x ≤ 65535 → (S.put ((first + n) % 65536) p).wait x = some p' → p'.2 = dt (got + S.q.length + up S.nx x) := by
    intro x p' x0 x1 hw
    have hw' : (if x = (first + n) % 65536 then some p else S.wait x) = some p' := hw
    by_cases e : x = (first + n) % 65536
    · rw [if_pos e] at hw'
      cases hw'
      rw [hp, e, ← hn]
    · rw [if_neg e] at hw'
      exact h.ws x p' x0 x1 hw'
  have hlen : ((S.put ((first + n) % 65536) p).go j).q.length = S.q.length + j := by
    show (S.q ++ _).length = _
    simp
  have hnx := h.nx
  refine { win := h.win, inw := (h.inw.put hu p).go j (by omega) (by show S.win ≤ 64; rw [h.win]; omega), nx := ?_, ql := ?_, qs := ?_, ws := ?_ }
  · rw [hlen]
    show (S.nx + j) % 65536 = _
    rw [hnx]
    omega
  · rw [hlen]
    rcases Nat.eq_zero_or_pos j with e | e
    · have := h.ql; omega
    · have := hr ((S.nx + ((j - 1 : Nat) : Int)) % 65536) (by omega) (by omega) (j1 (j - 1) (by omega))
      have e1 : up (S.put ((first + n) % 65536) p).nx ((S.nx + ((j - 1 : Nat) : Int)) % 65536) = ((j - 1 : Nat) : Int) := up_at S.nx (j - 1) (by omega)
      rw [e1] at this
      have e2 : (S.put ((first + n) % 65536) p).win = N := h.win
      have e3 : (S.put ((first + n) % 65536) p).q = S.q := rfl
      rw [e2, e3] at this
      omega
  · intro i p' hi
    have hi' : (S.q ++ (List.range j).map (fun i : Nat => ((S.put ((first + n) % 65536) p).wait ((S.nx + (i : Int)) % 65536)).getD (0, [])))[i]? = some p' := hi
    rcases Nat.lt_or_ge i S.q.length with h' | h'
    · rw [List.getElem?_append_left h'] at hi'
      exact h.qs i p' hi'
    · rw [List.getElem?_append_right h'] at hi'
      obtain ⟨k1, k2⟩ := range_at _ _ _ _ hi'
      have hth := j1 (i - S.q.length) k1
      have hth' : (S.put ((first + n) % 65536) p).wait ((S.nx + ((i - S.q.length : Nat) : Int)) % 65536) ≠ none := hth
      cases hw : (S.put ((first + n) % 65536) p).wait ((S.nx + ((i - S.q.length : Nat) : Int)) % 65536) with
      | none => exact absurd hw hth'
      | some p'' =>
        rw [hw] at k2
        have k2' : p'' = p' := k2
        subst k2'
        rw [hx _ p'' (by omega) (by omega) hw, up_at _ _ (by omega)]
        congr 1; omega
  · intro x p' x0 x1 hw
    have hw' : (if up S.nx x < (j : Int) then none else (S.put ((first + n) % 65536) p).wait x) = some p' := hw
    by_cases e : up S.nx x < j
    · rw [if_pos e] at hw'; cases hw'
    · rw [if_neg e] at hw'
      rw [hx x p' x0 x1 hw', hlen]
      show dt _ = dt (got + ((S.q.length + j : Nat) : Int) + up ((S.nx + j) % 65536) x)
      have : up ((S.nx + j) % 65536) x = up S.nx x - j := by unfold up at *; omega
      rw [this]; congr 1; omega

/-- whatever Take answers -/
theorem once_take {first : Int} {N got : Nat} {S : Ik} {n : Int} {w : World} {h : Hd} {v : Value} (H : Has w h S) (hS : Once first N got S) (hN : N ≤ 64) (hn0 : (got : Int) - 1 ≤ n) (hn1 : n ≤ (got : Int) + 2 * N) (hv : bytesE.Rd w v (dt n)) (hn : S.n ≤ 1000) :
    Calls Try.prog 12 #[.pointer (some ⟨h.g, 0, none⟩), .int .u16 ((first + n) % 65536), v] w fun e w' => ∃ c S', e = .returned (.int .i64 c) ∧ Has w' h S' ∧ Once first N got S' ∧ S'.n ≤ S.n + 1 ∧ Only h w w' := by
  have hl : (dt n).length = 2 := rfl
  by_cases hc : S.code ((first + n) % 65536) (dt n).length = 0
  · refine (take_ok H hS.inw (by omega) hv _ (by omega) (by omega) hc).mono ?_
    rintro e w' ⟨rfl, p, j, hp, _, j1, j2, H', I', O'⟩
    obtain ⟨_, _, h3, _, h5⟩ := code_ok hc
    exact ⟨0, _, rfl, H', once_go hS hN hn0 hn1 h3 h5 hp j1, Nat.le_refl _, O'⟩
  · refine (take_no H hv _ (by omega) (by omega) (by rw [hl]; omega) hc).mono ?_
    rintro e w' ⟨rfl, m, rfl⟩
    exact ⟨_, S, rfl, H.drewN m, hS, by omega, ⟨rfl, rfl, rfl, Nat.le_refl _, fun _ _ _ _ _ => rfl⟩⟩
end Go.Proofs.Ytmbgcbbpkbaajaa
