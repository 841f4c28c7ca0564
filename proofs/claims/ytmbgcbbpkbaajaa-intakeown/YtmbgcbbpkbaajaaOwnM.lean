/- Pieces that are handed in and changed, and pieces that are got and changed: the intake's states, and the blocks in which its data lie. -/
import Derived.Test.YtmbgcbbpkbaajaaTak3
import Derived.Test.YtmbgcbbpkbaajaaOnceM
import Derived.Test.YtmbgcbbpkbaajaaSets
import Derived.Test.YtmbgcbbpkbaajaaWait
import Derived.Test.YtmbgcbbpkbaajaaArgs
import Derived.Deep.RegionHeld3
import Derived.Deep.RegionWith
namespace Go.Proofs.Ytmbgcbbpkbaajaa
open Go.RowKit
set_option linter.unusedVariables false

def u16sE : El Try.prog Int where
  t := 50
  e := 22
  k := 1
  by' := 2
  z := .int .u16 0
  enc x := [.int .u16 x]
  ht := Try.underlying50
  info := by kernel_rfl
  zc := rfl
  kpos := by omega
  bsm := by omega
  len _ := rfl
  one x v hv := by simp at hv; subst hv; rfl
theorem ow_el {w : World} {B : Nat} {v : Value} {l : List Int} (h : Ow w B v l) : u16sE.Own w B v l := by
  unfold El.Own
  rw [fl_map u16sE (Value.int .u16) (fun _ => rfl)]
  exact h
/-- where a slice of the call's own lies, if it has an element -/
theorem El.Own.where' {α : Type} {E : El Try.prog α} {w : World} {B : Nat} {a : Option Addr} {n cap : Nat} {xs : List α} (h : E.Own w B (.slice a n cap) xs) (hx : 0 < xs.length) : ∃ g, a = some ⟨g, 0, none⟩ := by
  rcases h.2 with ⟨_, h0⟩ | ⟨g, c, cur, h1, _⟩
  · omega
  · simp only [Value.slice.injEq] at h1
    exact ⟨g, h1.1⟩

/-- of each piece's block P holds -/
def Blk (S : Ik) (P : Nat → Prop) : Prop := (∀ x p, S.wait x = some p → P p.1) ∧ ∀ p ∈ S.q, P p.1
theorem Blk.imp {S : Ik} {P Q : Nat → Prop} (h : Blk S P) (hPQ : ∀ c, P c → Q c) : Blk S Q := ⟨fun x p hp => hPQ _ (h.1 x p hp), fun p hp => hPQ _ (h.2 p hp)⟩
theorem Blk.both {S : Ik} {P Q : Nat → Prop} (h : Blk S P) (h' : Blk S Q) : Blk S (fun c => P c ∧ Q c) := ⟨fun x p hp => ⟨h.1 x p hp, h'.1 x p hp⟩, fun p hp => ⟨h.2 p hp, h'.2 p hp⟩⟩
theorem Blk.put {S : Ik} {P : Nat → Prop} (h : Blk S P) (x : Int) (p : Dt) (hp : P p.1) : Blk (S.put x p) P := by
  refine ⟨fun y p' hy => ?_, h.2⟩
  have hy' : (if y = x then some p else S.wait y) = some p' := hy
  by_cases e : y = x
  · rw [if_pos e] at hy'; cases hy'; exact hp
  · rw [if_neg e] at hy'; exact h.1 y p' hy'
theorem Blk.go {S : Ik} {P : Nat → Prop} (h : Blk S P) {j : Nat} (hj : S.There j) : Blk (S.go j) P := by
  refine ⟨fun y p' hy => ?_, fun p hp => ?_⟩
  · have hy' : (if up S.nx y < (j : Int) then none else S.wait y) = some p' := hy
    by_cases e : up S.nx y < j
    · rw [if_pos e] at hy'; cases hy'
    · rw [if_neg e] at hy'; exact h.1 y p' hy'
  · have hp' : p ∈ S.q ++ (List.range j).map (fun i : Nat => (S.wait ((S.nx + (i : Int)) % 65536)).getD (0, [])) := hp
    rcases List.mem_append.1 hp' with hp' | hp'
    · exact h.2 p hp'
    · obtain ⟨i, hi, e⟩ := List.mem_map.1 hp'
      have hth := hj i (List.mem_range.1 hi)
      cases hw : S.wait ((S.nx + (i : Int)) % 65536) with
      | none => exact absurd hw hth
      | some p'' =>
        rw [hw] at e
        have e' : p'' = p := e
        subst e'
        exact h.1 _ _ hw
theorem Blk.new (win first : Int) (P : Nat → Prop) : Blk (Ik.new win first) P := ⟨fun x p h => (by cases h), fun p h => (by cases h)⟩
theorem Blk.get {S : Ik} {P : Nat → Prop} (h : Blk S P) {p : Dt} {r : List Dt} (hq : S.q = p :: r) : Blk { S with q := r } P ∧ P p.1 := ⟨⟨h.1, fun p' hp => h.2 p' (by rw [hq]; simp [hp])⟩, h.2 p (by rw [hq]; simp)⟩

/-- a write into a block that is none of the object's -/
theorem Has.write {w : World} {h : Hd} {S : Ik} (H : Has w h S) {P : Nat → Prop} (hB : Blk S P) {b : Nat} (hb : ¬ P b) (h1 : b ≠ h.g) (h2 : b ≠ h.mb) (h3 : b ≠ h.c) (i : Nat) (u : Value) : Has (w.setCell ⟨b, i, none⟩ u) h S := by
  refine H.stay fun k _ hk => Below.heap_setCell _ _ _ _ (fun e => ?_)
  have e' : k = b := e
  subst e'
  rcases hk with rfl | rfl | rfl | ⟨p, hp, rfl⟩ | ⟨x, p, hp, rfl⟩
  · exact h1 rfl
  · exact h2 rfl
  · exact h3 rfl
  · exact hb (hB.2 p hp)
  · exact hb (hB.1 x p hp)

structure OBk (g : Nat) (first : Int) (n K : Nat) (ds : Nat → List Int) (S : Ik) : Prop where
  win : S.win = 64
  inw : S.Inw
  cnt : S.n + K = n
  nx : S.nx = first
  q : S.q = []
  yes : ∀ i : Nat, K ≤ i → i < n → ∃ p, S.wait ((first + i) % 65536) = some p ∧ p.2 = ds i
  sep : ∀ (i j : Nat) (p p' : Dt), K ≤ i → i < j → j < n → S.wait ((first + i) % 65536) = some p → S.wait ((first + j) % 65536) = some p' → p.1 = g ∨ p'.1 = g ∨ p'.1 < p.1
  no : ∀ x, 0 ≤ x → x ≤ 65535 → (up first x < K ∨ (n : Int) ≤ up first x) → S.wait x = none
  out : ∀ x, x < 0 ∨ 65535 < x → S.wait x = none

structure OQ (g : Nat) (n k : Nat) (ds : Nat → List Int) (S : Ik) : Prop where
  cnt : S.n ≤ 60
  ql : S.q.length + k = n
  qs : ∀ (i : Nat) (p : Dt), S.q[i]? = some p → p.2 = ds (k + i)
  sep : ∀ (i j : Nat) (p p' : Dt), i < j → S.q[i]? = some p → S.q[j]? = some p' → p.1 = g ∨ p'.1 = g ∨ p'.1 < p.1
  no : ∀ x, S.wait x = none

theorem obk_new (g : Nat) (first : Int) (n : Nat) (ds : Nat → List Int) : OBk g first n n ds (Ik.new 64 first) where
  win := rfl
  inw := fun x _ _ h => absurd rfl h
  cnt := by simp [Ik.new]
  nx := rfl
  q := rfl
  yes := fun i h1 h2 => by omega
  sep := fun i j p p' h1 h2 h3 => by omega
  no := fun x _ _ _ => rfl
  out := fun x _ => rfl
theorem oq_new (g : Nat) (first : Int) (ds : Nat → List Int) : OQ g 0 0 ds (Ik.new 64 first) where
  cnt := by simp [Ik.new]
  ql := rfl
  qs := fun i p h => by simp [Ik.new] at h
  sep := fun i j p p' _ h => by simp [Ik.new] at h
  no := fun x => rfl

theorem obk_code {g : Nat} {first : Int} {n K : Nat} {ds : Nat → List Int} {S : Ik} (h : OBk g first n (K + 1) ds S) (hn : n ≤ 60) (hK : K + 1 ≤ n) (len : Nat) (hl : len ≤ 256) : S.code ((first + K) % 65536) len = 0 := by
  have e1 : ¬ up ((S.nx - S.win) % 65536) ((first + K) % 65536) < S.win := by rw [h.nx, h.win]; unfold up; omega
  have e2 : up S.nx ((first + K) % 65536) = K := by rw [h.nx]; unfold up; omega
  have e3 : S.wait ((first + K) % 65536) = none := h.no _ (by omega) (by omega) (.inl (by unfold up; omega))
  unfold Ik.code
  rw [if_neg (by omega), if_neg e1, if_neg (by rw [e2, h.win]; omega), if_neg (by rw [e3]; simp), if_neg (by rw [h.q, h.win]; simp)]

section
variable {g : Nat} {first : Int} {n K : Nat} {ds : Nat → List Int} {S : Ik} {p : Dt} {B : Nat}

theorem obk_yes (h : OBk g first n (K + 1) ds S) (hn : n ≤ 60) (hK : K + 1 ≤ n) (hp : p.2 = ds K) (i : Nat) (h1 : K ≤ i) (h2 : i < n) : ∃ p', (S.put ((first + K) % 65536) p).wait ((first + i) % 65536) = some p' ∧ p'.2 = ds i := by
  show ∃ p', (if (first + (i : Int)) % 65536 = (first + K) % 65536 then some p else S.wait ((first + i) % 65536)) = some p' ∧ _
  by_cases e : i = K
  · subst e
    rw [if_pos rfl]
    exact ⟨p, rfl, hp⟩
  · rw [if_neg (by omega)]
    exact h.yes i (by omega) h2
theorem obk_no (h : OBk g first n (K + 1) ds S) (hn : n ≤ 60) (hK : K + 1 ≤ n) (x : Int) (x0 : 0 ≤ x) (x1 : x ≤ 65535) (hx : up first x < K ∨ (n : Int) ≤ up first x) : (S.put ((first + K) % 65536) p).wait x = none := by
  show (if x = (first + K) % 65536 then some p else S.wait x) = none
  rw [if_neg (fun e => by rw [e] at hx; unfold up at hx; omega)]
  exact h.no x x0 x1 (by omega)
theorem obk_out (h : OBk g first n (K + 1) ds S) (x : Int) (hx : x < 0 ∨ 65535 < x) : (S.put ((first + K) % 65536) p).wait x = none := by
  show (if x = (first + K) % 65536 then some p else S.wait x) = none
  rw [if_neg (by omega)]
  exact h.out x hx
theorem obk_sep (h : OBk g first n (K + 1) ds S) (hn : n ≤ 60) (hK : K + 1 ≤ n) (hB : Blk S (· < B)) (hpB : p.1 = g ∨ B ≤ p.1) (i j : Nat) (p1 p2 : Dt) (h1 : K ≤ i) (h2 : i < j) (h3 : j < n)
    (e1 : (S.put ((first + K) % 65536) p).wait ((first + i) % 65536) = some p1) (e2 : (S.put ((first + K) % 65536) p).wait ((first + j) % 65536) = some p2) : p1.1 = g ∨ p2.1 = g ∨ p2.1 < p1.1 := by
  have e1' : (if (first + (i : Int)) % 65536 = (first + K) % 65536 then some p else S.wait ((first + i) % 65536)) = some p1 := e1
  have e2' : (if (first + (j : Int)) % 65536 = (first + K) % 65536 then some p else S.wait ((first + j) % 65536)) = some p2 := e2
  rw [if_neg (by omega)] at e2'
  by_cases e : i = K
  · subst e
    rw [if_pos rfl] at e1'
    cases e1'
    have := hB.1 _ _ e2'
    rcases hpB with h' | h'
    · exact .inl h'
    · exact .inr (.inr (by omega))
  · rw [if_neg (by omega)] at e1'
    exact h.sep i j p1 p2 (by omega) h2 h3 e1' e2'

theorem obk_next {j : Nat} (h : OBk g first n (K + 1) ds S) (hn : n ≤ 60) (hK : K + 1 ≤ n) (hK0 : 0 < K) (hp : p.2 = ds K) (hf : 0 ≤ first ∧ first ≤ 65535) (hB : Blk S (· < B)) (hpB : p.1 = g ∨ B ≤ p.1)
    (j1 : (S.put ((first + K) % 65536) p).There j) (hI : ((S.put ((first + K) % 65536) p).go j).Inw) : OBk g first n K ds ((S.put ((first + K) % 65536) p).go j) := by
  have e0 : (S.put ((first + K) % 65536) p).wait ((S.nx + (0 : Nat)) % 65536) = none := by
    rw [h.nx]
    exact obk_no h hn hK _ (by omega) (by omega) (.inl (by unfold up; omega))
  have ej : j = 0 := by
    rcases Nat.eq_zero_or_pos j with e | e
    · exact e
    · exact absurd e0 (j1 0 e)
  subst ej
  have hc := h.cnt
  have ew : ∀ x, ((S.put ((first + K) % 65536) p).go 0).wait x = (S.put ((first + K) % 65536) p).wait x := fun x => by
    have := up_in S.nx x
    show (if up S.nx x < (0 : Nat) then none else _) = _
    rw [if_neg (by omega)]
  exact { win := h.win, inw := hI, cnt := by show S.n + 1 + K = n; omega, nx := by show (S.nx + (0 : Nat)) % 65536 = first; rw [h.nx]; omega, q := by show S.q ++ [] = []; rw [h.q]; rfl,
          yes := fun i h1 h2 => by rw [ew]; exact obk_yes h hn hK hp i h1 h2
          sep := fun i j p1 p2 h1 h2 h3 e1 e2 => by rw [ew] at e1 e2; exact obk_sep h hn hK hB hpB i j p1 p2 h1 h2 h3 e1 e2
          no := fun x x0 x1 hx => by rw [ew]; exact obk_no h hn hK x x0 x1 hx
          out := fun x hx => by rw [ew]; exact obk_out h x hx }

theorem obk_full {j : Nat} (h : OBk g first n (0 + 1) ds S) (hn : n ≤ 60) (hn1 : 1 ≤ n) (hp : p.2 = ds 0) (hf : 0 ≤ first ∧ first ≤ 65535) (hB : Blk S (· < B)) (hpB : p.1 = g ∨ B ≤ p.1)
    (j1 : (S.put ((first + (0 : Nat)) % 65536) p).There j) (j2 : (S.put ((first + (0 : Nat)) % 65536) p).wait ((S.nx + j) % 65536) = none) : OQ g n 0 ds ((S.put ((first + (0 : Nat)) % 65536) p).go j) := by
  have ej : j = n := by
    refine j1.uniq j2 (fun i hi => ?_) ?_
    · obtain ⟨p', h', _⟩ := obk_yes h hn hn1 hp i (by omega) hi
      show (S.put ((first + (0 : Nat)) % 65536) p).wait ((S.nx + i) % 65536) ≠ none
      rw [h.nx, h']; simp
    · show (S.put ((first + (0 : Nat)) % 65536) p).wait ((S.nx + n) % 65536) = none
      rw [h.nx]
      exact obk_no h hn hn1 _ (by omega) (by omega) (.inr (by unfold up; omega))
  subst ej
  have hc := h.cnt
  have hq : ((S.put ((first + (0 : Nat)) % 65536) p).go j).q = (List.range j).map (fun i : Nat => ((S.put ((first + (0 : Nat)) % 65536) p).wait ((first + (i : Int)) % 65536)).getD (0, [])) := by
    show S.q ++ (List.range j).map (fun i : Nat => ((S.put ((first + (0 : Nat)) % 65536) p).wait ((S.nx + (i : Int)) % 65536)).getD (0, [])) = _
    rw [h.q, h.nx]; rfl
  have hat : ∀ (i : Nat) (p' : Dt), ((S.put ((first + (0 : Nat)) % 65536) p).go j).q[i]? = some p' → i < j ∧ (S.put ((first + (0 : Nat)) % 65536) p).wait ((first + (i : Int)) % 65536) = some p' ∧ p'.2 = ds i := by
    intro i p' hi
    rw [hq] at hi
    obtain ⟨k1, k2⟩ := range_at _ _ _ _ hi
    obtain ⟨p'', h2, h3⟩ := obk_yes h hn hn1 hp i (Nat.zero_le _) k1
    rw [h2] at k2
    have k2' : p'' = p' := k2
    subst k2'
    exact ⟨k1, h2, h3⟩
  refine { cnt := by show S.n + 1 ≤ 60; omega, ql := by rw [hq]; simp, qs := fun i p' hi => by rw [Nat.zero_add]; exact (hat i p' hi).2.2, sep := fun i k p1 p2 hik h1 h2 => ?_, no := fun x => ?_ }
  · obtain ⟨_, e1, _⟩ := hat i p1 h1
    obtain ⟨k1, e2, _⟩ := hat k p2 h2
    exact obk_sep h hn hn1 hB hpB i k p1 p2 (Nat.zero_le _) hik k1 e1 e2
  · show (if up S.nx x < (j : Int) then none else (S.put ((first + (0 : Nat)) % 65536) p).wait x) = none
    rw [h.nx]
    by_cases h' : up first x < j
    · rw [if_pos h']
    · rw [if_neg h']
      by_cases hr : 0 ≤ x ∧ x ≤ 65535
      · exact obk_no h hn hn1 x hr.1 hr.2 (.inr (by omega))
      · exact obk_out h x (by omega)
end

theorem oq_get {g n k : Nat} {ds : Nat → List Int} {S : Ik} (h : OQ g n k ds S) (hk : k < n) : ∃ p r, S.q = p :: r ∧ p.2 = ds k ∧ OQ g n (k + 1) ds { S with q := r } ∧ (p.1 = g ∨ Blk { S with q := r } (fun c => c = g ∨ c < p.1)) := by
  cases hq : S.q with
  | nil => have := h.ql; rw [hq] at this; simp at this; omega
  | cons p r =>
    have hl := h.ql
    rw [hq] at hl
    refine ⟨p, r, rfl, ?_, { cnt := h.cnt, ql := ?_, qs := fun i p' hi => ?_, sep := fun i j p1 p2 hij h1 h2 => ?_, no := h.no }, ?_⟩
    · have := h.qs 0 p (by rw [hq]; rfl)
      simpa using this
    · show r.length + (k + 1) = n
      simp at hl; omega
    · have := h.qs (i + 1) p' (by rw [hq]; simpa using hi)
      rw [this]; congr 1; omega
    · exact h.sep (i + 1) (j + 1) p1 p2 (by omega) (by rw [hq]; simpa using h1) (by rw [hq]; simpa using h2)
    · by_cases e : p.1 = g
      · exact .inl e
      · refine .inr ⟨fun x p' hx => ?_, fun p' hp' => ?_⟩
        · have : S.wait x = some p' := hx
          rw [h.no x] at this; cases this
        · obtain ⟨j, hj, ej⟩ := List.mem_iff_getElem.1 hp'
          have := h.sep 0 (j + 1) p p' (by omega) (by rw [hq]; rfl) (by rw [hq]; simp only [List.getElem?_cons_succ]; rw [List.getElem?_eq_getElem hj, ej])
          rcases this with h' | h' | h'
          · exact absurd h' e
          · exact .inl h'
          · exact .inr h'
end Go.Proofs.Ytmbgcbbpkbaajaa
