/- The program's intake and the document's: what the one has the other has. -/
import Derived.Test.YtmbgcbbpkbaajaaRGo
import Derived.Test.YtmbgcbbpkbaajaaTak2
import Derived.Test.YtmbgcbbpkbaajaaOnceM
import Derived.Test.YtmbgcbbpkbaajaaArgs
import Derived.Test.YtmbgcbbpkbaajaaWait
namespace Go.Proofs.Ytmbgcbbpkbaajaa
open Go.RowKit
set_option linter.unusedVariables false

theorem idx_yes (ps : List Pc) (s : Int) (h : 0 ≤ idx ps s) : ∃ p, ps[(idx ps s).toNat]? = some p ∧ p.1 = s := by
  induction ps with
  | nil => simp [idx] at h
  | cons q ps ih =>
    by_cases hq : q.1 = s
    · refine ⟨q, ?_, hq⟩
      simp [idx, hq]
    · by_cases hn : idx ps s < 0
      · simp [idx, hq, hn] at h
      · obtain ⟨p, h1, h2⟩ := ih (by omega)
        refine ⟨p, ?_, h2⟩
        have e : (idx (q :: ps) s).toNat = (idx ps s).toNat + 1 := by simp only [idx, if_neg hq, if_neg hn]; omega
        rw [e]; simpa using h1
theorem idx_no (ps : List Pc) (s : Int) (h : idx ps s < 0) : ∀ p ∈ ps, p.1 ≠ s := by
  induction ps with
  | nil => intro p hp; cases hp
  | cons q ps ih =>
    intro p hp
    by_cases hq : q.1 = s
    · simp [idx, hq] at h
    · by_cases hn : idx ps s < 0
      · rcases List.mem_cons.1 hp with rfl | hp
        · exact hq
        · exact ih hn p hp
      · simp only [idx, if_neg hq, if_neg hn] at h; omega

structure Rel (S : Ik) (came : List Pc) (queue : List ByteArray) : Prop where
  q : queue = S.q.map (fun p => str p.2)
  nod : (came.map (·.1)).Pairwise (· ≠ ·)
  rng : ∀ c ∈ came, 0 ≤ c.1 ∧ c.1 ≤ 65535
  fwd : ∀ x p, 0 ≤ x → x ≤ 65535 → S.wait x = some p → (x, str p.2) ∈ came
  bwd : ∀ c ∈ came, ∃ p, S.wait c.1 = some p ∧ c.2 = str p.2

theorem rel_new (win first : Int) : Rel (Ik.new win first) [] [] where
  q := rfl
  nod := List.Pairwise.nil
  rng := fun c h => by cases h
  fwd := fun x p _ _ h => by cases h
  bwd := fun c h => by cases h

theorem rel_some {S : Ik} {came : List Pc} {queue : List ByteArray} (h : Rel S came queue) {x : Int} (x0 : 0 ≤ x) (x1 : x ≤ 65535) : (S.wait x).isSome = decide (0 ≤ idx came x) := by
  by_cases hi : 0 ≤ idx came x
  · rw [decide_eq_true hi]
    obtain ⟨c, h1, h2⟩ := idx_yes came x hi
    obtain ⟨p, h3, _⟩ := h.bwd c (List.mem_of_getElem? h1)
    rw [h2] at h3
    rw [h3]; rfl
  · rw [decide_eq_false hi]
    cases hw : S.wait x with
    | none => rfl
    | some p => exact absurd rfl (idx_no came x (by omega) _ (h.fwd x p x0 x1 hw))

theorem rel_put {S : Ik} {came : List Pc} {queue : List ByteArray} (h : Rel S came queue) {x : Int} (x0 : 0 ≤ x) (x1 : x ≤ 65535) (hx : S.wait x = none) (p : Dt) : Rel (S.put x p) (came ++ [(x, str p.2)]) queue where
  q := h.q
  nod := by
    rw [List.map_append, List.pairwise_append]
    refine ⟨h.nod, List.pairwise_singleton _ _, fun a ha b hb => ?_⟩
    have hb' : b = x := by simpa using hb
    subst hb'
    obtain ⟨c, hc, rfl⟩ := List.mem_map.1 ha
    intro e
    obtain ⟨p', h1, _⟩ := h.bwd c hc
    rw [e, hx] at h1
    cases h1
  rng := fun c hc => by
    rcases List.mem_append.1 hc with hc | hc
    · exact h.rng c hc
    · have : c = (x, str p.2) := by simpa using hc
      subst this; exact ⟨x0, x1⟩
  fwd := fun y p' y0 y1 hy => by
    have hy' : (if y = x then some p else S.wait y) = some p' := hy
    by_cases e : y = x
    · rw [if_pos e] at hy'; cases hy'; subst e; simp
    · rw [if_neg e] at hy'
      exact List.mem_append.2 (.inl (h.fwd y p' y0 y1 hy'))
  bwd := fun c hc => by
    show ∃ p', (if c.1 = x then some p else S.wait c.1) = some p' ∧ _
    rcases List.mem_append.1 hc with hc | hc
    · obtain ⟨p', h1, h2⟩ := h.bwd c hc
      rw [if_neg (fun e => by rw [e, hx] at h1; cases h1)]
      exact ⟨p', h1, h2⟩
    · have : c = (x, str p.2) := by simpa using hc
      subst this
      exact ⟨p, by simp, rfl⟩

theorem rel_ext {S S' : Ik} {came : List Pc} {queue : List ByteArray} (h : Rel S came queue) (hq : S'.q = S.q) (hw : ∀ x, 0 ≤ x → x ≤ 65535 → S'.wait x = S.wait x) : Rel S' came queue where
  q := by rw [hq]; exact h.q
  nod := h.nod
  rng := h.rng
  fwd := fun x p x0 x1 hx => h.fwd x p x0 x1 (by rw [← hw x x0 x1]; exact hx)
  bwd := fun c hc => by
    obtain ⟨p, h1, h2⟩ := h.bwd c hc
    exact ⟨p, by rw [hw _ (h.rng c hc).1 (h.rng c hc).2]; exact h1, h2⟩

/-- a piece is taken over -/
theorem rel_over {S S' : Ik} {came : List Pc} {queue : List ByteArray} (h : Rel S came queue) {x : Int} (x0 : 0 ≤ x) (x1 : x ≤ 65535) {p : Dt} (hp : S.wait x = some p) (hq : S'.q = S.q ++ [p]) (hw : ∀ y, 0 ≤ y → y ≤ 65535 → S'.wait y = if y = x then none else S.wait y) :
    ∃ k : Nat, ∃ c, idx came x = k ∧ came[k]? = some c ∧ Rel S' (rm came k) (queue ++ [c.2]) := by
  have hi : 0 ≤ idx came x := by
    have := rel_some h x0 x1
    rw [hp] at this
    exact of_decide_eq_true this.symm
  obtain ⟨c, h1, h2⟩ := idx_yes came x hi
  have hkl : (idx came x).toNat < came.length := idx_lt hi
  have hc : came[(idx came x).toNat] = c := by rw [List.getElem?_eq_getElem hkl] at h1; exact Option.some.inj h1
  obtain ⟨p', h3, h4⟩ := h.bwd c (List.mem_of_getElem? h1)
  rw [h2, hp] at h3
  cases h3
  have hsplit : came = came.take (idx came x).toNat ++ c :: came.drop ((idx came x).toNat + 1) := by
    rw [← hc, ← List.drop_eq_getElem_cons hkl, List.take_append_drop]
  refine ⟨(idx came x).toNat, c, by omega, h1, ?_⟩
  have hnod := h.nod
  generalize came.take (idx came x).toNat = A at hsplit
  have hrm : rm came (idx came x).toNat = came.take (idx came x).toNat ++ came.drop ((idx came x).toNat + 1) := rfl
  have hA : came.take (idx came x).toNat = A := by
    have hl : A.length = (idx came x).toNat := by
      have := congrArg List.length hsplit
      simp at this
      omega
    have e := congrArg (List.take A.length) hsplit
    rw [List.take_left] at e
    rw [← hl]; exact e
  rw [hrm, hA]
  generalize came.drop ((idx came x).toNat + 1) = B at hsplit
  rw [hsplit, List.map_append, List.map_cons, List.pairwise_append, List.pairwise_cons] at hnod
  obtain ⟨n1, ⟨n2, n3⟩, n4⟩ := hnod
  have hmem : ∀ d, d ∈ A ++ B ↔ d ∈ came ∧ d.1 ≠ x := by
    intro d
    constructor
    · intro hd
      refine ⟨by rw [hsplit]; rcases List.mem_append.1 hd with hd | hd <;> simp [hd], fun e => ?_⟩
      rcases List.mem_append.1 hd with hd | hd
      · exact n4 d.1 (List.mem_map_of_mem hd) c.1 (by simp) (by rw [e, h2])
      · exact n2 d.1 (List.mem_map_of_mem hd) (by rw [e, h2])
    · rintro ⟨hd, hne⟩
      rw [hsplit] at hd
      rcases List.mem_append.1 hd with hd | hd
      · exact List.mem_append.2 (.inl hd)
      · rcases List.mem_cons.1 hd with rfl | hd
        · exact absurd h2 hne
        · exact List.mem_append.2 (.inr hd)
  refine { q := ?_, nod := ?_, rng := fun d hd => h.rng d ((hmem d).1 hd).1, fwd := fun y p' y0 y1 hy => ?_, bwd := fun d hd => ?_ }
  · rw [hq, List.map_append, h.q, h4]; rfl
  · rw [List.map_append, List.pairwise_append]
    exact ⟨n1, n3, fun a ha b hb => n4 a ha b (by simp [hb])⟩
  · rw [hw y y0 y1] at hy
    by_cases e : y = x
    · rw [if_pos e] at hy; cases hy
    · rw [if_neg e] at hy
      exact (hmem _).2 ⟨h.fwd y p' y0 y1 hy, e⟩
  · obtain ⟨hd1, hd2⟩ := (hmem d).1 hd
    obtain ⟨p', h5, h6⟩ := h.bwd d hd1
    have := h.rng d hd1
    exact ⟨p', by rw [hw _ this.1 this.2, if_neg hd2]; exact h5, h6⟩

theorem rel_adv {S : Ik} {came : List Pc} {queue : List ByteArray} (h : Rel S came queue) (hn : 0 ≤ S.nx ∧ S.nx ≤ 65535) (j : Nat) (hj : j ≤ 200) (h1 : S.There j) (h2 : S.wait ((S.nx + j) % 65536) = none) :
    (adv S.nx came queue).1 = (S.go j).nx ∧ Rel (S.go j) (adv S.nx came queue).2.1 (adv S.nx came queue).2.2 := by
  have key : ∀ i, i ≤ j → ∃ came' queue', adv S.nx came queue = adv ((S.nx + i) % 65536) came' queue' ∧ Rel (S.go i) came' queue' := by
    intro i
    induction i with
    | zero =>
      intro _
      refine ⟨came, queue, ?_, rel_ext h (by show S.q ++ [] = S.q; simp) (fun x _ _ => ?_)⟩
      · congr 1; omega
      · have := up_in S.nx x
        show (if up S.nx x < ((0 : Nat) : Int) then none else S.wait x) = S.wait x
        rw [if_neg (by omega)]
    | succ i ih =>
      intro hi
      obtain ⟨c1, q1, e1, r1⟩ := ih (by omega)
      have hth := h1 i (by omega)
      obtain ⟨p, hp⟩ : ∃ p, S.wait ((S.nx + i) % 65536) = some p := by
        cases hw : S.wait ((S.nx + i) % 65536) with
        | none => exact absurd hw hth
        | some p => exact ⟨p, rfl⟩
      have hup : up S.nx ((S.nx + i) % 65536) = i := up_at _ _ (by omega)
      have hpi : (S.go i).wait ((S.nx + i) % 65536) = some p := by
        show (if up S.nx ((S.nx + i) % 65536) < (i : Int) then none else S.wait ((S.nx + i) % 65536)) = some p
        rw [if_neg (by omega)]; exact hp
      obtain ⟨k, c, k1, k2, k3⟩ := rel_over (S' := S.go (i + 1)) r1 (x := (S.nx + i) % 65536) (by omega) (by omega) hpi (by
          show S.q ++ (List.range (i + 1)).map _ = (S.q ++ (List.range i).map _) ++ [p]
          rw [List.range_succ, List.map_append, List.append_assoc]
          simp only [List.map_cons, List.map_nil, hp, Option.getD_some]) (fun y y0 y1 => by
          show (if up S.nx y < ((i + 1 : Nat) : Int) then none else S.wait y) = if y = (S.nx + i) % 65536 then none else (if up S.nx y < (i : Int) then none else S.wait y)
          by_cases e : y = (S.nx + i) % 65536
          · rw [if_pos e, e, if_pos (by omega)]
          · rw [if_neg e]
            have : up S.nx y ≠ i := fun e' => e (by unfold up at e'; omega)
            by_cases h' : up S.nx y < i
            · rw [if_pos h', if_pos (by omega)]
            · rw [if_neg h', if_neg (by omega)])
      refine ⟨_, _, ?_, k3⟩
      rw [e1, adv_go _ _ _ k c k1 k2]
      congr 1; omega
  obtain ⟨c1, q1, e1, r1⟩ := key j (Nat.le_refl _)
  have hend : idx c1 ((S.nx + j) % 65536) < 0 := by
    have := rel_some r1 (x := (S.nx + j) % 65536) (by omega) (by omega)
    have e : (S.go j).wait ((S.nx + j) % 65536) = none := by
      show (if up S.nx ((S.nx + j) % 65536) < (j : Int) then none else S.wait ((S.nx + j) % 65536)) = none
      rw [h2]; split <;> rfl
    rw [e] at this
    have := of_decide_eq_false this.symm
    omega
  rw [e1, adv_end _ _ _ hend]
  exact ⟨rfl, r1⟩

/-- what waits is told alike -/
theorem rel_wtg {S : Ik} {came : List Pc} {queue : List ByteArray} (h : Rel S came queue) {r r' : List Int} (hw : Wtg S r) (ho : Ordd S.nx (came.map (·.1)) r') : r = r' := by
  refine ordd_uniq S.nx r r' (came.map (·.1)) ⟨hw.1, fun x => ?_⟩ ho
  rw [hw.2 x]
  constructor
  · rintro ⟨⟨x0, x1⟩, hx⟩
    cases hxw : S.wait x with
    | none => exact absurd hxw hx
    | some p => exact List.mem_map.2 ⟨_, h.fwd x p x0 x1 hxw, rfl⟩
  · intro hx
    obtain ⟨c, hc, rfl⟩ := List.mem_map.1 hx
    obtain ⟨p, h1, _⟩ := h.bwd c hc
    exact ⟨h.rng c hc, by rw [h1]; simp⟩

/-- the two codes -/
theorem rel_code {S : Ik} {came : List Pc} {queue : List ByteArray} (h : Rel S came queue) (hn : 0 ≤ S.nx ∧ S.nx ≤ 65535) (hw : 1 ≤ S.win ∧ S.win ≤ 64) {x : Int} (x0 : 0 ≤ x) (x1 : x ≤ 65535) (len : Nat) (hl : len ≤ 256) :
    (S.code x len = 0 ∧ 0 ≤ dst S.nx x ∧ dst S.nx x < S.win ∧ idx came x < 0 ∧ (queue.length : Int) < S.win) ∨
    (S.code x len ≠ 0 ∧ (((dst S.nx x < -S.win ∨ S.win ≤ dst S.nx x) ∧ S.code x len = 40) ∨ (-S.win ≤ dst S.nx x ∧ dst S.nx x < S.win ∧ (dst S.nx x < 0 ∨ 0 ≤ idx came x) ∧ S.code x len = 2) ∨ (0 ≤ dst S.nx x ∧ dst S.nx x < S.win ∧ idx came x < 0 ∧ S.win ≤ (queue.length : Int) ∧ S.code x len = 40))) := by
  have hs := rel_some h x0 x1
  have hq : queue.length = S.q.length := by rw [h.q]; simp
  have hd : dst S.nx x = if up S.nx x < 32768 then up S.nx x else up S.nx x - 65536 := rfl
  have hu := up_in S.nx x
  have hg : up ((S.nx - S.win) % 65536) x = (up S.nx x + S.win) % 65536 := by unfold up; omega
  unfold Ik.code
  rw [if_neg (by omega), hg, hs, hq, hd]
  generalize up S.nx x = u at *
  generalize S.win = win at *
  generalize (S.q.length : Int) = ql
  generalize idx came x = ix
  by_cases c1 : (u + win) % 65536 < win
  · rw [if_pos c1]
    right
    refine ⟨by omega, .inr (.inl ?_)⟩
    split <;> omega
  · rw [if_neg c1]
    by_cases c2 : u < win
    · rw [if_neg (by simpa using c2), if_pos (show u < 32768 by omega)]
      by_cases c3 : 0 ≤ ix
      · rw [decide_eq_true c3, if_pos rfl]
        exact .inr ⟨by omega, .inr (.inl ⟨by omega, by omega, .inr c3, rfl⟩)⟩
      · rw [decide_eq_false c3, if_neg (by simp)]
        by_cases c4 : win ≤ ql
        · rw [if_pos c4]
          exact .inr ⟨by omega, .inr (.inr ⟨by omega, by omega, by omega, c4, rfl⟩)⟩
        · rw [if_neg c4]
          exact .inl ⟨rfl, by omega, by omega, by omega, by omega⟩
    · rw [if_pos (by simpa using c2)]
      refine .inr ⟨by omega, .inl ⟨?_, rfl⟩⟩
      split <;> omega
end Go.Proofs.Ytmbgcbbpkbaajaa
