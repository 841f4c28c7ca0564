/- The pieces of a window in any order: the intake's states. -/
import Derived.Test.YtmbgcbbpkbaajaaSets
import Derived.Test.YtmbgcbbpkbaajaaOnceM
import Derived.Test.YtmbgcbbpkbaajaaWait
namespace Go.Proofs.Ytmbgcbbpkbaajaa
open Go.RowKit
set_option linter.unusedVariables false

/-- the numbers ys have come, m are taken over -/
structure Came (first : Int) (ys : List Int) (m : Nat) (S : Ik) : Prop where
  win : S.win = 64
  inw : S.Inw
  cnt : S.n ≤ ys.length
  nx : S.nx = (first + m) % 65536
  ql : S.q.length = m
  qs : ∀ (i : Nat) (p : Dt), S.q[i]? = some p → p.2 = [(i : Int)]
  yin : ∀ y ∈ ys, 0 ≤ y ∧ y < 40
  lo : ∀ v : Nat, v < m → (v : Int) ∈ ys
  end' : (m : Int) ∉ ys
  yes : ∀ y ∈ ys, (m : Int) ≤ y → ∃ p, S.wait ((first + y) % 65536) = some p ∧ p.2 = [y]
  no : ∀ x, 0 ≤ x → x ≤ 65535 → S.wait x ≠ none → ∃ y ∈ ys, (m : Int) ≤ y ∧ x = (first + y) % 65536

theorem Came.m_le {first : Int} {ys : List Int} {m : Nat} {S : Ik} (h : Came first ys m S) : m ≤ 40 := by
  rcases Nat.lt_or_ge 40 m with h' | h'
  · have := h.yin _ (h.lo 40 h'); omega
  · exact h'

theorem came_new (first : Int) (hf : 0 ≤ first ∧ first ≤ 65535) : Came first [] 0 (Ik.new 64 first) where
  win := rfl
  inw := fun x _ _ h => absurd rfl h
  cnt := Nat.le_refl _
  nx := by show first = (first + ((0 : Nat) : Int)) % 65536; omega
  ql := rfl
  qs := fun i p h => by simp [Ik.new] at h
  yin := fun y h => by cases h
  lo := fun v h => by omega
  end' := by simp
  yes := fun y h => by cases h
  no := fun x _ _ h => absurd rfl h

theorem came_ge {first : Int} {ys : List Int} {m : Nat} {S : Ik} (h : Came first ys m S) {v : Int} (hv : v ∉ ys) (h0 : 0 ≤ v) : (m : Int) ≤ v := by
  rcases Int.lt_or_le v m with h' | h'
  · have := h.lo v.toNat (by omega)
    rw [Int.toNat_of_nonneg h0] at this
    exact absurd this hv
  · exact h'

theorem came_code {first : Int} {ys : List Int} {m : Nat} {S : Ik} (h : Came first ys m S) {v : Int} (hv : v ∉ ys) (h0 : 0 ≤ v) (h1 : v < 40) : S.code ((first + v) % 65536) 1 = 0 := by
  have hm := came_ge h hv h0
  have e1 : ¬ up ((S.nx - S.win) % 65536) ((first + v) % 65536) < S.win := by rw [h.nx, h.win]; unfold up; omega
  have e2 : up S.nx ((first + v) % 65536) < S.win := by rw [h.nx, h.win]; unfold up; omega
  have e3 : S.wait ((first + v) % 65536) = none := by
    cases hw : S.wait ((first + v) % 65536) with
    | none => rfl
    | some p =>
      obtain ⟨y, hy, _, e⟩ := h.no ((first + v) % 65536) (by omega) (by omega) (by rw [hw]; simp)
      have := h.yin y hy
      have : y = v := by omega
      subst this
      exact absurd hy hv
  have e4 := h.m_le
  unfold Ik.code
  rw [if_neg (by omega), if_neg e1, if_neg (by simpa using e2), if_neg (by rw [e3]; simp), if_neg (by rw [h.ql, h.win]; omega)]

theorem came_take {first : Int} {ys : List Int} {m j : Nat} {S : Ik} (h : Came first ys m S) {v : Int} (hv : v ∉ ys) (h0 : 0 ≤ v) (h1 : v < 40) (p : Dt) (hp : p.2 = [v])
    (j1 : (S.put ((first + v) % 65536) p).There j) (j2 : (S.put ((first + v) % 65536) p).wait ((S.nx + j) % 65536) = none) (hI : ((S.put ((first + v) % 65536) p).go j).Inw) : Came first (ys ++ [v]) (m + j) ((S.put ((first + v) % 65536) p).go j) := by
  have hm := came_ge h hv h0
  have hu : up S.nx ((first + v) % 65536) < S.win := by rw [h.nx, h.win]; unfold up; omega
  have hq : (S.q.length : Int) < S.win := by rw [h.ql, h.win]; have := h.m_le; omega
  have hr : (S.put ((first + v) % 65536) p).Room := (h.inw.put hu p).room hq
  have hj := j1.le hr (by show S.win ≤ 64; rw [h.win]; omega)
  have hnx := h.nx
  have hm40 := h.m_le
  have hys : ∀ y ∈ ys ++ [v], 0 ≤ y ∧ y < 40 := fun y hy => by
    rcases List.mem_append.1 hy with hy | hy
    · exact h.yin y hy
    · have : y = v := by simpa using hy
      subst this; exact ⟨h0, h1⟩
  have hyes : ∀ y ∈ ys ++ [v], (m : Int) ≤ y → ∃ p', (S.put ((first + v) % 65536) p).wait ((first + y) % 65536) = some p' ∧ p'.2 = [y] := by
    intro y hy hmy
    show ∃ p', (if (first + y) % 65536 = (first + v) % 65536 then some p else S.wait ((first + y) % 65536)) = some p' ∧ _
    have hy0 := hys y hy
    by_cases e : y = v
    · subst e
      rw [if_pos rfl]
      exact ⟨p, rfl, hp⟩
    · rw [if_neg (by omega)]
      rcases List.mem_append.1 hy with hy | hy
      · exact h.yes y hy hmy
      · exact absurd (by simpa using hy) e
  have hno : ∀ x, 0 ≤ x → x ≤ 65535 → (S.put ((first + v) % 65536) p).wait x ≠ none → ∃ y ∈ ys ++ [v], (m : Int) ≤ y ∧ x = (first + y) % 65536 := by
    intro x x0 x1 hx
    have hx' : (if x = (first + v) % 65536 then some p else S.wait x) ≠ none := hx
    by_cases e : x = (first + v) % 65536
    · exact ⟨v, by simp, hm, e⟩
    · rw [if_neg e] at hx'
      obtain ⟨y, hy, h2, h3⟩ := h.no x x0 x1 hx'
      exact ⟨y, by simp [hy], h2, h3⟩
  have hth : ∀ i, i < j → ((m + i : Nat) : Int) ∈ ys ++ [v] := by
    intro i hi
    obtain ⟨y, hy, h2, h3⟩ := hno ((S.nx + i) % 65536) (by omega) (by omega) (j1 i hi)
    have := hys y hy
    rw [hnx] at h3
    have : y = ((m + i : Nat) : Int) := by omega
    rw [← this]; exact hy
  have hend : ((m + j : Nat) : Int) ∉ ys ++ [v] := by
    intro hy
    obtain ⟨p', h2, _⟩ := hyes _ hy (by omega)
    have e : (first + ((m + j : Nat) : Int)) % 65536 = (S.nx + j) % 65536 := by rw [hnx]; omega
    rw [e, j2] at h2
    cases h2
  have hlen : ((S.put ((first + v) % 65536) p).go j).q.length = m + j := by
    show (S.q ++ _).length = _
    simp [h.ql]
  have ew : ∀ x, ((S.put ((first + v) % 65536) p).go j).wait x = if up S.nx x < (j : Int) then none else (S.put ((first + v) % 65536) p).wait x := fun _ => rfl
  refine { win := h.win, inw := hI, cnt := by show S.n + 1 ≤ _; have := h.cnt; simp; omega, nx := by show (S.nx + j) % 65536 = _; rw [hnx]; omega, ql := hlen, qs := ?_, yin := hys, lo := ?_, end' := hend, yes := ?_, no := ?_ }
  · intro i p' hi
    have hi' : (S.q ++ (List.range j).map (fun i : Nat => ((S.put ((first + v) % 65536) p).wait ((S.nx + (i : Int)) % 65536)).getD (0, [])))[i]? = some p' := hi
    rcases Nat.lt_or_ge i S.q.length with h' | h'
    · rw [List.getElem?_append_left h'] at hi'
      exact h.qs i p' hi'
    · rw [List.getElem?_append_right h'] at hi'
      obtain ⟨k1, k2⟩ := range_at _ _ _ _ hi'
      have hmem := hth _ k1
      rw [h.ql] at hmem k1 k2 h'
      obtain ⟨p'', h2, h3⟩ := hyes _ hmem (by omega)
      have e : (first + ((m + (i - m) : Nat) : Int)) % 65536 = (S.nx + ((i - m : Nat) : Int)) % 65536 := by rw [hnx]; omega
      rw [e] at h2
      rw [h2] at k2
      have k2' : p'' = p' := k2
      subst k2'
      rw [h3]; congr 1; omega
  · intro u hu'
    rcases Nat.lt_or_ge u m with h' | h'
    · exact List.mem_append.2 (.inl (h.lo u h'))
    · have := hth (u - m) (by omega)
      rw [show m + (u - m) = u by omega] at this
      exact this
  · intro y hy hmy
    rw [ew]
    have := hys y hy
    rw [if_neg (by rw [hnx]; unfold up; omega)]
    exact hyes y hy (by omega)
  · intro x x0 x1 hx
    rw [ew] at hx
    by_cases e : up S.nx x < j
    · rw [if_pos e] at hx; exact absurd rfl hx
    · rw [if_neg e] at hx
      obtain ⟨y, hy, h2, h3⟩ := hno x x0 x1 hx
      have := hys y hy
      refine ⟨y, hy, ?_, h3⟩
      rw [h3, hnx] at e
      unfold up at e
      omega

/-- all of n have come: the queue has them in order -/
structure Out (first : Int) (n k : Nat) (S : Ik) : Prop where
  cnt : S.n ≤ 40
  nx : S.nx = (first + n) % 65536
  ql : S.q.length + k = n
  qs : ∀ (i : Nat) (p : Dt), S.q[i]? = some p → p.2 = [((k + i : Nat) : Int)]
  no : ∀ x, 0 ≤ x → x ≤ 65535 → S.wait x = none

theorem came_all {first : Int} {ys : List Int} {m n : Nat} {S : Ik} (h : Came first ys m S) (hp : ys.Perm ((List.range n).map Int.ofNat)) (hn : n ≤ 40) : Out first n 0 S := by
  have hmem : ∀ v : Nat, (v : Int) ∈ ys ↔ v < n := fun v => by
    rw [hp.mem_iff, List.mem_map]
    constructor
    · rintro ⟨a, ha, e⟩
      have : a = v := by have e' : (a : Int) = v := e; omega
      subst this
      exact List.mem_range.1 ha
    · intro hv; exact ⟨v, List.mem_range.2 hv, rfl⟩
  have hl : ys.length = n := by have := hp.length_eq; simpa using this
  have e : m = n := by
    have h1 : ¬ m < n := fun h' => h.end' ((hmem m).2 h')
    rcases Nat.lt_or_ge n m with h2 | h2
    · have := (hmem n).1 (h.lo n h2); omega
    · omega
  subst e
  refine { cnt := by have := h.cnt; omega, nx := h.nx, ql := h.ql, qs := fun i p hi => by rw [h.qs i p hi, Nat.zero_add], no := fun x x0 x1 => ?_ }
  cases hw : S.wait x with
  | none => rfl
  | some p =>
    obtain ⟨y, hy, h2, _⟩ := h.no x x0 x1 (by rw [hw]; simp)
    have h3 := h.yin y hy
    have h4 : ((y.toNat : Nat) : Int) = y := Int.toNat_of_nonneg h3.1
    have := (hmem y.toNat).1 (by rw [h4]; exact hy)
    omega

theorem out_get {first : Int} {n k : Nat} {S : Ik} (h : Out first n k S) (hk : k < n) : ∃ p r, S.q = p :: r ∧ p.2 = [(k : Int)] ∧ Out first n (k + 1) { S with q := r } := by
  cases hq : S.q with
  | nil => have := h.ql; rw [hq] at this; simp at this; omega
  | cons p r =>
    have hl := h.ql
    rw [hq] at hl
    refine ⟨p, r, rfl, ?_, { cnt := h.cnt, nx := h.nx, ql := ?_, qs := fun i p' hi => ?_, no := h.no }⟩
    · have := h.qs 0 p (by rw [hq]; rfl)
      simpa using this
    · show r.length + (k + 1) = n
      simp at hl; omega
    · have := h.qs (i + 1) p' (by rw [hq]; simpa using hi)
      rw [this]; congr 1; omega

theorem out_waits {first : Int} {n k : Nat} {S : Ik} {r : List Int} (h : Out first n k S) (hw : Wtg S r) : r = [] := by
  cases r with
  | nil => rfl
  | cons y t =>
    obtain ⟨⟨y0, y1⟩, hy⟩ := (hw.2 y).1 (by simp)
    exact absurd (h.no y y0 y1) hy
end Go.Proofs.Ytmbgcbbpkbaajaa
