/- Ways as rows of devices: the least device by which a shortest way goes on, the path, where devices lead. -/
import Derived.Test.YtmmkfcmbmecleaaFrr
namespace Go.Proofs.Ytmmkfcmbmecleaa
open Go
set_option linter.unusedVariables false

section
variable (ns : List Nd) (es : List Ed) (ms : List Int) (l : List Int) (t : Nat)
/-- may a way go on from u by the edge at place i, so that just so many edges are left? -/
def okD (u left : Int) (i : Nat) : Bool :=
  match es[i]? with
  | some e => decide (e.1 = u) && (decide (((i + 1 : Nat) : Int) ∉ ms) && (decide (va l e.2.toNat = left) && (decide (e.2 = (t : Int)) || decide (kindAt ns e.2 = 1))))
  | none => false
/-- the least device by which a way can go on -/
def stp (u left : Int) : Int := if left < 0 then 0 else match (List.range es.length).find? (okD ns es ms l t u left) with
  | some i => ((i + 1 : Nat) : Int)
  | none => 0
end
/-- where a device's edge goes to -/
def endN (es : List Ed) (d : Int) : Nat := (es[(d - 1).toNat]?.map (fun e => e.2.toNat)).getD 0
/-- the devices of the first one of the shortest ways -/
def pth (ns : List Nd) (es : List Ed) (ms : List Int) (l : List Int) (t : Nat) : Nat → Nat → List Int
  | 0, _ => []
  | k + 1, u => stp ns es ms l t (u : Int) (k : Int) :: pth ns es ms l t k (endN es (stp ns es ms l t (u : Int) (k : Int)))
/-- where devices lead -/
def wlk (es : List Ed) : Int → List Int → Option Int
  | u, [] => some u
  | u, d :: p => if 1 ≤ d ∧ d ≤ es.length then
      match es[(d - 1).toNat]? with
      | some e => if e.1 = u then wlk es e.2 p else none
      | none => none
    else none

/-- a layout, what is out of order, a target, and the lengths of the ways to it -/
structure Gr (ns : List Nd) (es : List Ed) (ms : List Int) (l : List Int) (t n : Nat) : Prop where
  inb : inB n es
  far : Far (Eg es (clo es.length ms) 1) (Tk ns) t n l
  lt : t < n

section
variable {ns : List Nd} {es : List Ed} {ms : List Int} {l : List Int} {t n : Nat}
theorem okD_iff {u left : Int} {i : Nat} : okD ns es ms l t u left i = true ↔ ∃ v : Int, es[i]? = some (u, v) ∧ ((i + 1 : Nat) : Int) ∉ ms ∧ va l v.toNat = left ∧ (v = (t : Int) ∨ kindAt ns v = 1) := by
  unfold okD
  cases h : es[i]? with
  | none => simp
  | some e =>
    obtain ⟨x, y⟩ := e
    simp only [Bool.and_eq_true, decide_eq_true_eq, Bool.or_eq_true, Option.some.injEq, Prod.mk.injEq]
    constructor
    · rintro ⟨rfl, h2, h3, h4⟩; exact ⟨y, ⟨rfl, rfl⟩, h2, h3, h4⟩
    · rintro ⟨v, ⟨rfl, rfl⟩, h2, h3, h4⟩; exact ⟨rfl, h2, h3, h4⟩
theorem okD_lt {u left : Int} {i : Nat} (h : okD ns es ms l t u left i = true) : i < es.length := by
  obtain ⟨v, h1, _⟩ := okD_iff.1 h
  rcases Nat.lt_or_ge i es.length with h' | h'
  · exact h'
  · rw [List.getElem?_eq_none h'] at h1; cases h1
theorem stp_of {u left : Int} {i : Nat} (h0 : 0 ≤ left) (h : okD ns es ms l t u left i = true) (hj : ∀ j, j < i → okD ns es ms l t u left j = false) : stp ns es ms l t u left = ((i + 1 : Nat) : Int) := by
  unfold stp
  rw [if_neg (by omega), List.find?_range_eq_some.2 ⟨h, by simpa using okD_lt h, fun j hj' => by rw [hj j hj']; rfl⟩]
theorem stp_none {u left : Int} (h : ∀ i, i < es.length → okD ns es ms l t u left i = false) : stp ns es ms l t u left = 0 := by
  unfold stp
  split
  · rfl
  · rw [List.find?_range_eq_none.2 (fun i hi => by rw [h i hi]; rfl)]
theorem stp_neg {u left : Int} (h : left < 0) : stp ns es ms l t u left = 0 := by unfold stp; rw [if_pos h]
theorem stp_cases (u left : Int) : (stp ns es ms l t u left = 0 ∧ (left < 0 ∨ ∀ i, okD ns es ms l t u left i = false)) ∨ (0 ≤ left ∧ ∃ i : Nat, stp ns es ms l t u left = ((i + 1 : Nat) : Int) ∧ okD ns es ms l t u left i = true ∧ ∀ j, j < i → okD ns es ms l t u left j = false) := by
  unfold stp
  by_cases h : left < 0
  · rw [if_pos h]; exact .inl ⟨rfl, .inl h⟩
  · rw [if_neg h]
    cases hf : (List.range es.length).find? (okD ns es ms l t u left) with
    | none =>
      refine .inl ⟨rfl, .inr fun i => ?_⟩
      rw [List.find?_range_eq_none] at hf
      rcases Nat.lt_or_ge i es.length with hi | hi
      · simpa using hf i hi
      · cases hk : okD ns es ms l t u left i with
        | false => rfl
        | true => have := okD_lt hk; omega
    | some i =>
      obtain ⟨h1, h2, h3⟩ := List.find?_range_eq_some.1 hf
      exact .inr ⟨by omega, i, rfl, h1, fun j hj => by simpa using h3 j hj⟩
theorem stp_ge (u left : Int) : 0 ≤ stp ns es ms l t u left ∧ stp ns es ms l t u left ≤ es.length := by
  rcases stp_cases (ns := ns) (es := es) (ms := ms) (l := l) (t := t) u left with ⟨h, _⟩ | ⟨_, i, h, h1, _⟩
  · rw [h]; omega
  · have := okD_lt h1; rw [h]; omega
theorem endN_at {i : Nat} {u v : Int} (h : es[i]? = some (u, v)) : endN es ((i + 1 : Nat) : Int) = v.toNat := by
  unfold endN
  rw [show ((((i + 1 : Nat) : Int) - 1).toNat) = i by omega, h]; rfl

/-- what a device of step is -/
theorem stp_pos {u left : Int} (h : stp ns es ms l t u left ≠ 0) : 0 ≤ left ∧ ∃ (i : Nat) (v : Int), stp ns es ms l t u left = ((i + 1 : Nat) : Int) ∧ i < es.length ∧ es[i]? = some (u, v) ∧ ((i + 1 : Nat) : Int) ∉ ms ∧ va l v.toNat = left ∧ (v = (t : Int) ∨ kindAt ns v = 1) ∧ endN es (stp ns es ms l t u left) = v.toNat := by
  rcases stp_cases (ns := ns) (es := es) (ms := ms) (l := l) (t := t) u left with ⟨h1, _⟩ | ⟨h0, i, h1, h2, _⟩
  · exact absurd h1 h
  · obtain ⟨v, h3, h4, h5, h6⟩ := okD_iff.1 h2
    exact ⟨h0, i, v, h1, okD_lt h2, h3, h4, h5, h6, by rw [h1]; exact endN_at h3⟩
theorem inB_at (h : inB n es) {i : Nat} {u v : Int} (hi : es[i]? = some (u, v)) : 0 ≤ u ∧ u < (n : Int) ∧ 0 ≤ v ∧ v < (n : Int) := h _ (List.mem_of_getElem? hi)
theorem eg_of {i u v : Nat} (hi : es[i]? = some ((u : Int), (v : Int))) (hm : ((i + 1 : Nat) : Int) ∉ ms) : Eg es (clo es.length ms) 1 v u := by
  have hl : i < es.length := by
    rcases Nat.lt_or_ge i es.length with h' | h'
    · exact h'
    · rw [List.getElem?_eq_none h'] at hi; cases hi
  exact ⟨i, by rw [clo_at _ _ _ hl]; simp only [Option.some.injEq]; exact decide_eq_false hm, by rw [if_neg (by omega)]; exact hi⟩
theorem of_eg {u v : Nat} (h : Eg es (clo es.length ms) 1 v u) : ∃ i : Nat, es[i]? = some ((u : Int), (v : Int)) ∧ ((i + 1 : Nat) : Int) ∉ ms := by
  obtain ⟨i, h1, h2⟩ := h
  rw [if_neg (by omega)] at h2
  have hl : i < es.length := by
    rcases Nat.lt_or_ge i es.length with h' | h'
    · exact h'
    · rw [List.getElem?_eq_none h'] at h2; cases h2
  rw [clo_at _ _ _ hl] at h1
  simp only [Option.some.injEq] at h1
  exact ⟨i, h2, of_decide_eq_false h1⟩
theorem Gr.zero (g : Gr ns es ms l t n) : va l t = 0 := far_self g.far g.lt
theorem Gr.low (g : Gr ns es ms l t n) (v : Nat) : -1 ≤ va l v := far_low g.far v
theorem eg1_lt {cl : List Bool} (hE : inB n es) {u v : Nat} (h : Eg es cl 1 u v) : v < n := by
  obtain ⟨i, _, h2⟩ := h
  rw [if_neg (by omega)] at h2
  have := inB_at hE h2
  omega
theorem Gr.high (g : Gr ns es ms l t n) (v : Nat) : va l v < n := far_high (fun u v h => eg1_lt g.inb h) g.lt g.far v
theorem Gr.out (g : Gr ns es ms l t n) {v : Nat} (h : 0 ≤ va l v) : v < n := by
  rcases Nat.lt_or_ge v n with h' | h'
  · exact h'
  · rw [va_out l v (by rw [g.far.1]; exact h')] at h; omega
theorem Gr.only (g : Gr ns es ms l t n) {v : Nat} (h : va l v = 0) : v = t := by
  have hv := g.out (v := v) (by omega)
  rcases g.far.2 v hv with ⟨h1, _⟩ | ⟨k, h1, h2, _⟩
  · omega
  · obtain rfl : k = 0 := by omega
    cases h2; rfl
/-- an edge that a way may go by makes it one longer at most -/
theorem Gr.near (g : Gr ns es ms l t n) {i u v : Nat} (hi : es[i]? = some ((u : Int), (v : Int))) (hm : ((i + 1 : Nat) : Int) ∉ ms) (hT : v = t ∨ kindAt ns (v : Int) = 1) (h0 : 0 ≤ va l v) : 0 ≤ va l u ∧ va l u ≤ va l v + 1 := by
  have hb := inB_at g.inb hi
  exact far_step g.far (by omega) (by omega) (eg_of hi hm) hT h0
/-- from a node with a way there is an edge by which it goes on -/
theorem Gr.next (g : Gr ns es ms l t n) {u k : Nat} (h : va l u = ((k + 1 : Nat) : Int)) : ∃ i, okD ns es ms l t (u : Int) (k : Int) i = true := by
  have hu := g.out (v := u) (by omega)
  rcases g.far.2 u hu with ⟨h1, _⟩ | ⟨j, h1, h2, h3⟩
  · omega
  · obtain rfl : j = k + 1 := by omega
    cases h2 with
    | @step _ v _ w1 w2 w3 =>
      obtain ⟨i, hi, hm⟩ := of_eg w3
      have hb := inB_at g.inb hi
      have hd := (g.far.2 v (by omega)).le w1
      obtain ⟨q, hq, hw⟩ := (g.far.2 v (by omega)).way hd.1
      have := h3 _ (.step hw w2 w3)
      refine ⟨i, okD_iff.2 ⟨(v : Int), hi, hm, by rw [Int.toNat_natCast]; omega, ?_⟩⟩
      rcases w2 with rfl | w2
      · exact .inl rfl
      · exact .inr w2
theorem Gr.stp (g : Gr ns es ms l t n) {u k : Nat} (h : va l u = ((k + 1 : Nat) : Int)) : stp ns es ms l t (u : Int) (k : Int) ≠ 0 := by
  obtain ⟨i, hi⟩ := g.next h
  rcases stp_cases (ns := ns) (es := es) (ms := ms) (l := l) (t := t) (u : Int) (k : Int) with ⟨_, h2 | h2⟩ | ⟨_, j, h1, _⟩
  · omega
  · rw [h2 i] at hi; cases hi
  · rw [h1]; omega
/-- one step of a path -/
theorem Gr.on (g : Gr ns es ms l t n) {u k : Nat} (h : va l u = ((k + 1 : Nat) : Int)) : ∃ i v : Nat, Ytmmkfcmbmecleaa.stp ns es ms l t (u : Int) (k : Int) = ((i + 1 : Nat) : Int) ∧ i < es.length ∧ es[i]? = some ((u : Int), (v : Int)) ∧ v < n ∧ ((i + 1 : Nat) : Int) ∉ ms ∧ va l v = k ∧ (v = t ∨ kindAt ns (v : Int) = 1) ∧ endN es (Ytmmkfcmbmecleaa.stp ns es ms l t (u : Int) (k : Int)) = v := by
  obtain ⟨_, i, v, h1, h2, h3, h4, h5, h6, h7⟩ := stp_pos (g.stp h)
  have hb := inB_at g.inb h3
  obtain ⟨q, rfl⟩ := Int.eq_ofNat_of_zero_le hb.2.2.1
  rw [Int.toNat_natCast] at h5 h7
  refine ⟨i, q, h1, h2, h3, by omega, h4, h5, ?_, h7⟩
  rcases h6 with h6 | h6
  · exact .inl (by omega)
  · exact .inr h6
theorem pth_len : ∀ (k u : Nat), (pth ns es ms l t k u).length = k
  | 0, _ => rfl
  | k + 1, u => by unfold pth; simp [pth_len k]
/-- a path leads to the target -/
theorem Gr.walk (g : Gr ns es ms l t n) : ∀ (k u : Nat), va l u = (k : Int) → wlk es (u : Int) (pth ns es ms l t k u) = some (t : Int)
  | 0, u, h => by obtain rfl := g.only (by simpa using h); rfl
  | k + 1, u, h => by
    obtain ⟨i, v, h1, h2, h3, h4, h5, h6, h7, h8⟩ := g.on h
    unfold pth wlk
    rw [h8, h1, if_pos (by omega), show ((((i + 1 : Nat) : Int) - 1).toNat) = i by omega, h3]
    simp only [if_true]
    exact g.walk k v h6
end
end Go.Proofs.Ytmmkfcmbmecleaa
