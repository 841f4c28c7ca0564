/- Ways put together; what is best by way of a track. -/
import Derived.Test.YthimeobnfkoefaaArgs
namespace Go.Proofs.Ythimeobnfkoefaa
open Go.RowKit
set_option linter.unusedVariables false

theorem far_self {E : Nat → Nat → Prop} {T : Nat → Prop} {s n : Nat} {l : List Int} (h : Far E T s n l) (hs : s < n) : va l s = 0 := by
  rcases h.2 s hs with ⟨_, h1⟩ | ⟨k, h1, _, h3⟩
  · exact absurd .here (h1 0)
  · have := h3 0 .here
    omega
theorem far_step {E : Nat → Nat → Prop} {T : Nat → Prop} {s n u v : Nat} {l : List Int} (h : Far E T s n l) (hu : u < n) (hv : v < n) (hE : E u v) (hT : u = s ∨ T u) (h0 : 0 ≤ va l u) : 0 ≤ va l v ∧ va l v ≤ va l u + 1 := by
  rcases h.2 u hu with ⟨h1, _⟩ | ⟨k, h1, h2, _⟩
  · omega
  · have hw := Way.step h2 hT hE
    rcases h.2 v hv with ⟨_, g1⟩ | ⟨j, g1, _, g3⟩
    · exact absurd hw (g1 _)
    · have := g3 _ hw
      omega
theorem far_low {E : Nat → Nat → Prop} {T : Nat → Prop} {s n : Nat} {l : List Int} (h : Far E T s n l) (v : Nat) : -1 ≤ va l v := by
  rcases Nat.lt_or_ge v n with hv | hv
  · rcases h.2 v hv with ⟨h1, _⟩ | ⟨k, h1, _⟩ <;> omega
  · rw [va_out l v (by rw [h.1]; exact hv)]; omega
theorem way_short {E : Nat → Nat → Prop} {T : Nat → Prop} {s n : Nat} (hb : ∀ u v, E u v → v < n) (hs : s < n) {l : List Int} (h : Far E T s n l) : ∀ k : Nat, ∀ v, v < n → va l v = k → ∀ j : Nat, j ≤ k → ∃ u, u < n ∧ va l u = j := by
  intro k
  induction k with
  | zero =>
    intro v hv h0 j hj
    obtain rfl : j = 0 := by omega
    exact ⟨v, hv, h0⟩
  | succ k ih =>
    intro v hv h0 j hj
    rcases Nat.lt_or_ge j (k + 1) with h' | h'
    · rcases h.2 v hv with ⟨g1, _⟩ | ⟨q, g1, g2, g3⟩
      · omega
      · obtain rfl : q = k + 1 := by omega
        cases g2 with
        | @step _ u _ w1 w2 w3 =>
          have hu : u < n := by
            cases w1 with
            | here => exact hs
            | step _ _ e => exact hb _ _ e
          refine ih u hu ?_ j (by omega)
          rcases h.2 u hu with ⟨_, f1⟩ | ⟨r, f1, f2, f3⟩
          · exact absurd w1 (f1 _)
          · have a1 := f3 _ w1
            have a2 := g3 _ (.step f2 w2 w3)
            omega
    · obtain rfl : j = k + 1 := by omega
      exact ⟨v, hv, h0⟩
theorem far_high {E : Nat → Nat → Prop} {T : Nat → Prop} {s n : Nat} (hb : ∀ u v, E u v → v < n) (hs : s < n) {l : List Int} (h : Far E T s n l) (v : Nat) : va l v < n := by
  rcases Nat.lt_or_ge v n with hv | hv
  · rcases h.2 v hv with ⟨h1, _⟩ | ⟨k, h1, _⟩
    · omega
    · have key : ∀ j : Nat, j ≤ k → ∃ q : List Nat, q.length = j + 1 ∧ q.Nodup ∧ ∀ u ∈ q, u < n ∧ va l u ≤ j := by
        intro j
        induction j with
        | zero =>
          intro _
          obtain ⟨u, hu, h0⟩ := way_short hb hs h k v hv h1 0 (by omega)
          exact ⟨[u], rfl, by simp, fun x hx => by simp at hx; subst hx; exact ⟨hu, by omega⟩⟩
        | succ j ih =>
          intro hj
          obtain ⟨q, q1, q2, q3⟩ := ih (by omega)
          obtain ⟨u, hu, h0⟩ := way_short hb hs h k v hv h1 (j + 1) hj
          refine ⟨u :: q, by simp [q1], List.nodup_cons.2 ⟨fun hm => ?_, q2⟩, fun x hx => ?_⟩
          · have := (q3 u hm).2
            omega
          · rcases List.mem_cons.1 hx with rfl | hx
            · exact ⟨hu, by omega⟩
            · have := q3 x hx
              exact ⟨this.1, by omega⟩
      obtain ⟨q, q1, q2, q3⟩ := key k (Nat.le_refl _)
      have := nodup_len n q q2 (fun u hu => (q3 u hu).1)
      omega
  · rw [va_out l v (by rw [h.1]; exact hv)]; omega
theorem eg_lt {es : List Ed} {cl : List Bool} {n u v : Nat} (hE : inB n es) (h : Eg es cl 0 u v) : v < n := by
  obtain ⟨i, _, h2⟩ := h
  have := hE _ (List.mem_of_getElem? h2)
  simp only [if_pos] at this
  omega
theorem far_both {es : List Ed} {cl : List Bool} {T : Nat → Prop} {a b n : Nat} {l l' : List Int} (h : Far (Eg es cl 0) T a n l) (h' : Far (Eg es cl 1) T b n l') (ha : a < n) (hb : b < n) : va l' a = va l b := by
  have h1 := (h.2 b hb).back
  have h2 := h'.2 a ha
  rw [eg_back] at h2
  exact h2.uniq h1

theorem Way.cat {E : Nat → Nat → Prop} {T : Nat → Prop} {a b c i j : Nat} (h : Way E T a i b) (hT : T b) (h' : Way E T b j c) : Way E T a (i + j) c := by
  induction h' with
  | here => exact h
  | @step k u v _ h2 h3 ih =>
    exact .step ih (.inr (h2.elim (fun e => by rw [e]; exact hT) id)) h3

/-- all rows: a row's block and what it holds -/
abbrev Rw := Nat × List Int
def dd (ps : List Rw) (a b : Nat) : Int := (ps[a]?.map (fun p => va p.2 b)).getD (-1)
theorem dd_at {ps : List Rw} {a : Nat} {p : Rw} (h : ps[a]? = some p) (b : Nat) : dd ps a b = va p.2 b := by simp [dd, h]
/-- a track between, by which both ways are -/
def cand (T : Nat → Prop) (ps : List Rw) (a c b : Nat) : Prop := T b ∧ b ≠ a ∧ b ≠ c ∧ 0 ≤ dd ps a b ∧ 0 ≤ dd ps b c
def Best (T : Nat → Prop) (ps : List Rw) (a c k : Nat) (x : Int) : Prop :=
  (x = -1 ∧ ∀ b, b < k → ¬ cand T ps a c b) ∨ (0 ≤ x ∧ (∃ b, b < k ∧ cand T ps a c b ∧ x = dd ps a b + dd ps b c) ∧ ∀ b, b < k → cand T ps a c b → x ≤ dd ps a b + dd ps b c)
theorem Best.skip {T : Nat → Prop} {ps : List Rw} {a c k : Nat} {x : Int} (h : Best T ps a c k x) (hn : ¬ cand T ps a c k) : Best T ps a c (k + 1) x := by
  rcases h with ⟨h1, h2⟩ | ⟨h1, ⟨b, h2, h3⟩, h4⟩
  · refine .inl ⟨h1, fun b hb => ?_⟩
    rcases Nat.lt_or_ge b k with h' | h'
    · exact h2 b h'
    · obtain rfl : b = k := by omega
      exact hn
  · refine .inr ⟨h1, ⟨b, by omega, h3⟩, fun b hb hc => ?_⟩
    rcases Nat.lt_or_ge b k with h' | h'
    · exact h4 b h' hc
    · obtain rfl : b = k := by omega
      exact absurd hc hn
theorem Best.keep {T : Nat → Prop} {ps : List Rw} {a c k : Nat} {x : Int} (h : Best T ps a c k x) (h0 : 0 ≤ x) (hx : x ≤ dd ps a k + dd ps k c) : Best T ps a c (k + 1) x := by
  rcases h with ⟨h1, h2⟩ | ⟨h1, ⟨b, h2, h3⟩, h4⟩
  · omega
  · refine .inr ⟨h1, ⟨b, by omega, h3⟩, fun b hb hc => ?_⟩
    rcases Nat.lt_or_ge b k with h' | h'
    · exact h4 b h' hc
    · obtain rfl : b = k := by omega
      exact hx
theorem Best.take {T : Nat → Prop} {ps : List Rw} {a c k : Nat} {x : Int} (h : Best T ps a c k x) (hc : cand T ps a c k) (hx : x < 0 ∨ dd ps a k + dd ps k c < x) : Best T ps a c (k + 1) (dd ps a k + dd ps k c) := by
  have h0 : 0 ≤ dd ps a k + dd ps k c := by have := hc.2.2.2; omega
  refine .inr ⟨h0, ⟨k, by omega, hc, rfl⟩, fun b hb hb' => ?_⟩
  rcases Nat.lt_or_ge b k with h' | h'
  · rcases h with ⟨h1, h2⟩ | ⟨h1, _, h4⟩
    · exact absurd hb' (h2 b h')
    · have := h4 b h' hb'
      omega
  · obtain rfl : b = k := by omega
    omega
/-- all rows are the lengths -/
def Rows (E : Nat → Nat → Prop) (T : Nat → Prop) (n : Nat) (ps : List Rw) : Prop := ps.length = n ∧ ∀ (i : Nat) p, ps[i]? = some p → Far E T i n p.2
theorem Rows.dst {E : Nat → Nat → Prop} {T : Nat → Prop} {n : Nat} {ps : List Rw} (h : Rows E T n ps) (a b : Nat) (ha : a < n) (hb : b < n) : Dst E T a b (dd ps a b) := by
  obtain ⟨p, hp⟩ : ∃ p, ps[a]? = some p := ⟨_, List.getElem?_eq_getElem (by rw [h.1]; exact ha)⟩
  rw [dd_at hp]
  exact (h.2 a p hp).2 b hb
theorem Dst.le {E : Nat → Nat → Prop} {T : Nat → Prop} {s v k : Nat} {d : Int} (h : Dst E T s v d) (hw : Way E T s k v) : 0 ≤ d ∧ d ≤ k := by
  rcases h with ⟨_, h1⟩ | ⟨j, rfl, _, h3⟩
  · exact absurd hw (h1 _)
  · have := h3 _ hw
    omega
theorem Dst.way {E : Nat → Nat → Prop} {T : Nat → Prop} {s v : Nat} {d : Int} (h : Dst E T s v d) (h0 : 0 ≤ d) : ∃ k : Nat, d = k ∧ Way E T s k v := by
  rcases h with ⟨h1, _⟩ | ⟨j, h1, h2, _⟩
  · omega
  · exact ⟨j, h1, h2⟩
/-- by way of a track no way is longer than its two parts -/
theorem Rows.less {E : Nat → Nat → Prop} {T : Nat → Prop} {n : Nat} {ps : List Rw} (h : Rows E T n ps) {a c : Nat} {x : Int} (ha : a < n) (hc : c < n) (hB : Best T ps a c n x) (hx : 0 ≤ x) : 0 ≤ dd ps a c ∧ dd ps a c ≤ x := by
  rcases hB with ⟨h1, _⟩ | ⟨_, ⟨b, hb, hcd, rfl⟩, _⟩
  · omega
  · obtain ⟨i, hi, wi⟩ := (h.dst a b ha hb).way hcd.2.2.2.1
    obtain ⟨j, hj, wj⟩ := (h.dst b c hb hc).way hcd.2.2.2.2
    have := (h.dst a c ha hc).le (wi.cat hcd.1 wj)
    rw [hi, hj]
    omega
/-- a way of two edges or more goes by a track -/
theorem Rows.more {E : Nat → Nat → Prop} {T : Nat → Prop} {n : Nat} {ps : List Rw} (h : Rows E T n ps) (hE : ∀ u v, E u v → v < n) {a c : Nat} {x : Int} (ha : a < n) (hc : c < n) (hB : Best T ps a c n x) (h2 : 2 ≤ dd ps a c) : dd ps a c = x := by
  rcases h.dst a c ha hc with ⟨h1, _⟩ | ⟨k, h1, hw, hmin⟩
  · omega
  · cases hw with
    | here => omega
    | @step k u _ w1 w2 w3 =>
      have hua : u ≠ a := fun e => by
        have := hmin 1 (.step .here (.inl rfl) (by rw [← e]; exact w3))
        omega
      have huc : u ≠ c := fun e => by
        have := hmin k (by rw [← e]; exact w1)
        omega
      have hun : u < n := by
        cases w1 with
        | here => exact ha
        | step _ _ e => exact hE _ _ e
      have hT : T u := w2.elim (fun e => absurd e hua) id
      have d1 := (h.dst a u ha hun).le w1
      have d2 := (h.dst u c hun hc).le (.step .here (.inl rfl) w3)
      have hcd : cand T ps a c u := ⟨hT, hua, huc, d1.1, d2.1⟩
      rcases hB with ⟨_, g⟩ | ⟨g1, g2, g3⟩
      · exact absurd hcd (g u hun)
      · have e1 := g3 u hun hcd
        have e2 := (h.less ha hc (.inr ⟨g1, g2, g3⟩) g1).2
        omega

def farE (n : Nat) : El Try.prog Rw where
  t := 47
  e := 26
  k := 1
  by' := 24
  z := .slice none 0 0
  enc p := [.slice (some ⟨p.1, 0, none⟩) n n]
  ht := Try.underlying47
  info := by kernel_rfl
  zc := rfl
  kpos := by omega
  bsm := by omega
  len _ := rfl
  one x v hv := by simp at hv; subst hv; rfl
theorem far_at {n : Nat} {w : World} {a : Option Addr} {k c : Nat} {ps : List Rw} (h : (farE n).Rd w (.slice a k c) ps) (i : Nat) (p : Rw) (hp : ps[i]? = some p) : ∃ b off, a = some ⟨b, off, none⟩ ∧ w.cell? ⟨b, off + i, none⟩ = some (.slice (some ⟨p.1, 0, none⟩) n n) := by
  obtain ⟨b, off, h1, h2⟩ := h.at i p hp
  refine ⟨b, off, h1, ?_⟩
  have := h2 0 (by show 0 < 1; omega)
  simpa [farE] using this
end Go.Proofs.Ythimeobnfkoefaa
