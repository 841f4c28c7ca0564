/- An intake with one piece that waits: what Take answers. -/
import Derived.Test.YtmbgcbbpkbaajaaFillM
import Derived.Test.YtmbgcbbpkbaajaaWait
namespace Go.Proofs.Ytmbgcbbpkbaajaa
open Go.RowKit
set_option linter.unusedVariables false

structure Far (first : Int) (N : Nat) (S : Ik) : Prop where
  win : S.win = N
  inw : S.Inw
  n : S.n ≤ 1
  nx : S.nx = first
  q : S.q = []
  w1 : 1 < N → S.wait ((first + 1) % 65536) ≠ none
  w0 : ∀ x, 0 ≤ x → x ≤ 65535 → S.wait x ≠ none → x = (first + 1) % 65536 ∧ 1 < N

theorem far_new (first : Int) : Far first 1 (Ik.new ((1 : Nat) : Int) first) where
  win := rfl
  inw := fun x _ _ h => absurd rfl h
  n := by simp [Ik.new]
  nx := rfl
  q := rfl
  w1 := fun h => by omega
  w0 := fun x _ _ h => absurd rfl h

theorem far_code0 (first : Int) (N : Nat) (hN : N ≤ 64) (h1 : 1 < N) (hf : 0 ≤ first ∧ first ≤ 65535) : (Ik.new N first).code ((first + 1) % 65536) 1 = 0 := by
  have e1 : ¬ up (((Ik.new N first).nx - (Ik.new N first).win) % 65536) ((first + 1) % 65536) < (Ik.new N first).win := by
    show ¬ up ((first - N) % 65536) ((first + 1) % 65536) < (N : Int)
    unfold up; omega
  have e2 : up (Ik.new N first).nx ((first + 1) % 65536) < (Ik.new N first).win := by
    show up first ((first + 1) % 65536) < (N : Int)
    unfold up; omega
  unfold Ik.code
  rw [if_neg (by omega), if_neg e1, if_neg (by simpa using e2), if_neg (by simp [Ik.new]), if_neg (by simp [Ik.new]; omega)]

theorem far_put {first : Int} {N j : Nat} (hN : N ≤ 64) (h1 : 1 < N) (hf : 0 ≤ first ∧ first ≤ 65535) (p : Dt) (j1 : ((Ik.new N first).put ((first + 1) % 65536) p).There j) (hI : (((Ik.new N first).put ((first + 1) % 65536) p).go j).Inw) :
    Far first N (((Ik.new N first).put ((first + 1) % 65536) p).go j) := by
  have ej : j = 0 := by
    rcases Nat.eq_zero_or_pos j with e | e
    · exact e
    · have := j1 0 e
      have h' : (if (first + ((0 : Nat) : Int)) % 65536 = (first + 1) % 65536 then some p else none) ≠ none := this
      rw [if_neg (by omega)] at h'
      exact absurd rfl h'
  subst ej
  have ew : ∀ x, (((Ik.new N first).put ((first + 1) % 65536) p).go 0).wait x = if x = (first + 1) % 65536 then some p else none := fun x => by
    have := up_in first x
    show (if up first x < (0 : Nat) then none else _) = _
    rw [if_neg (by omega)]
    rfl
  exact { win := rfl, inw := hI, n := Nat.le_refl _, nx := by show (first + ((0 : Nat) : Int)) % 65536 = first; omega, q := rfl,
          w1 := fun _ => by rw [ew, if_pos rfl]; simp
          w0 := fun x x0 x1 hx => by
            rw [ew] at hx
            by_cases e : x = (first + 1) % 65536
            · exact ⟨e, h1⟩
            · rw [if_neg e] at hx; exact absurd rfl hx }

theorem far_far {first : Int} {N : Nat} {S : Ik} (h : Far first N S) (hN : N ≤ 64) (h1 : 1 ≤ N) (c : Int) (c0 : (N : Int) ≤ c) (c1 : c < 65536 - N) : S.code ((first + c) % 65536) 0 = 40 := by
  have e1 : ¬ up ((S.nx - S.win) % 65536) ((first + c) % 65536) < S.win := by rw [h.nx, h.win]; unfold up; omega
  have e2 : ¬ up S.nx ((first + c) % 65536) < S.win := by rw [h.nx, h.win]; unfold up; omega
  unfold Ik.code
  rw [if_neg (by omega), if_neg e1, if_pos e2]
theorem far_gone {first : Int} {N : Nat} {S : Ik} (h : Far first N S) (hN : N ≤ 64) (h1 : 1 ≤ N) (c : Int) (c0 : 65536 - (N : Int) ≤ c) (c1 : c ≤ 65535) : S.code ((first + c) % 65536) 0 = 2 := by
  have e1 : up ((S.nx - S.win) % 65536) ((first + c) % 65536) < S.win := by rw [h.nx, h.win]; unfold up; omega
  unfold Ik.code
  rw [if_neg (by omega), if_pos e1]
theorem far_one {first : Int} {N : Nat} {S : Ik} (h : Far first N S) (hN : N ≤ 64) (h1 : 1 < N) : S.code ((first + 1) % 65536) 0 = 2 := by
  have e1 : ¬ up ((S.nx - S.win) % 65536) ((first + 1) % 65536) < S.win := by rw [h.nx, h.win]; unfold up; omega
  have e2 : up S.nx ((first + 1) % 65536) < S.win := by rw [h.nx, h.win]; unfold up; omega
  have e3 : (S.wait ((first + 1) % 65536)).isSome = true := by
    have := h.w1 h1
    cases hw : S.wait ((first + 1) % 65536) with
    | none => exact absurd hw this
    | some p => rfl
  unfold Ik.code
  rw [if_neg (by omega), if_neg e1, if_neg (by simpa using e2), if_pos e3]

theorem far_waits {first : Int} {N : Nat} {S : Ik} {r : List Int} (h : Far first N S) (h1 : 1 ≤ N) (hw : Wtg S r) : r.length = min (N - 1) 1 := by
  rcases Nat.lt_or_ge 1 N with h2 | h2
  · have e : r = [(first + 1) % 65536] := by
      refine ordd_uniq S.nx r [(first + 1) % 65536] [(first + 1) % 65536] ⟨hw.1, fun x => ?_⟩ ⟨List.pairwise_singleton _ _, fun x => Iff.rfl⟩
      rw [hw.2 x, List.mem_singleton]
      constructor
      · rintro ⟨⟨x0, x1⟩, hx⟩; exact (h.w0 x x0 x1 hx).1
      · rintro rfl; exact ⟨⟨by omega, by omega⟩, h.w1 h2⟩
    rw [e]; simp; omega
  · have e : r = [] := by
      cases r with
      | nil => rfl
      | cons y t =>
        obtain ⟨⟨y0, y1⟩, hy⟩ := (hw.2 y).1 (by simp)
        have := (h.w0 y y0 y1 hy).2
        omega
    rw [e]; simp; omega

/-- whatever Take answers -/
theorem take_any {w : World} {h : Hd} {S : Ik} (H : Has w h S) (hI : S.Inw) (hn : S.n ≤ 1000000) {v : Value} {l : List Int} (hv : bytesE.Rd w v l) (x : Int) (x0 : 0 ≤ x) (x1 : x ≤ 65535) (hl : l.length ≤ 1000000) :
    Calls Try.prog 12 #[.pointer (some ⟨h.g, 0, none⟩), .int .u16 x, v] w fun e w' => ∃ c, e = .returned (.int .i64 c) ∧ Only h w w' := by
  by_cases hc : S.code x l.length = 0
  · refine (take_ok H hI hn hv x x0 x1 hc).mono ?_
    rintro e w' ⟨rfl, p, j, hp, _, j1, j2, H', I', O'⟩
    exact ⟨0, rfl, O'⟩
  · refine (take_no H hv x x0 x1 hl hc).mono ?_
    rintro e w' ⟨rfl, m, rfl⟩
    exact ⟨_, rfl, ⟨rfl, rfl, rfl, Nat.le_refl _, fun _ _ _ _ _ => rfl⟩⟩
end Go.Proofs.Ytmbgcbbpkbaajaa
