/- A ring of n holders and m that wait for it: the mathematics; holders put behind one another. -/
import Derived.Test.YtmmkfcmbmecleaaZhb
namespace Go.Proofs.Ytmmkfcmbmecleaa
open Go.RowKit
set_option linter.unusedVariables false

def rgH (n k : Nat) : List Hl := (List.range k).map (fun (j : Nat) => (⟨[(j : Int)], (((j + 1) % n : Nat) : Int)⟩ : Hl))
def mrH (n m : Nat) : List Hl := (List.range m).map (fun (i : Nat) => (⟨[], ((i % n : Nat) : Int)⟩ : Hl))
def hsR (n m : Nat) : List Hl := rgH n n ++ mrH n m
theorem rgH_succ (n k : Nat) : rgH n (k + 1) = rgH n k ++ [⟨[(k : Int)], (((k + 1) % n : Nat) : Int)⟩] := by simp [rgH, List.range_succ]
theorem mrH_succ (n m : Nat) : mrH n (m + 1) = mrH n m ++ [⟨[], ((m % n : Nat) : Int)⟩] := by simp [mrH, List.range_succ]
theorem rgH_len (n k : Nat) : (rgH n k).length = k := by simp [rgH]
theorem mrH_len (n m : Nat) : (mrH n m).length = m := by simp [mrH]
theorem hsR_len (n m : Nat) : (hsR n m).length = n + m := by simp [hsR, rgH_len, mrH_len]
theorem hsR_lo {n m i : Nat} (h : i < n) : (hsR n m)[i]? = some ⟨[(i : Int)], (((i + 1) % n : Nat) : Int)⟩ := by
  unfold hsR
  rw [List.getElem?_append_left (by rw [rgH_len]; exact h)]
  simp [rgH, h]
theorem hsR_hi {n m i : Nat} {p : Hl} (h : n ≤ i) (hp : (hsR n m)[i]? = some p) : p = ⟨[], (((i - n) % n : Nat) : Int)⟩ := by
  unfold hsR at hp
  rw [List.getElem?_append_right (by rw [rgH_len]; exact h), rgH_len] at hp
  have := idx_lt hp
  rw [mrH_len] at this
  simp [mrH, this] at hp
  rw [← hp]
  simp

theorem wtR {n m a b : Nat} (hn : 0 < n) (h : Wt (hsR n m) a b) : b < n ∧ (a < n → b = (a + 1) % n) := by
  obtain ⟨p, q, hp, hq, h0, hin⟩ := h
  have hb : b < n := by
    rcases Nat.lt_or_ge b n with g | g
    · exact g
    · rw [hsR_hi g hq] at hin; simp at hin
  refine ⟨hb, fun ha => ?_⟩
  rw [hsR_lo ha] at hp
  rw [hsR_lo hb] at hq
  cases hp
  cases hq
  rw [List.mem_singleton] at hin
  simp only at hin
  omega
theorem wtR_yes {n m a : Nat} (hn : 0 < n) (ha : a < n) : Wt (hsR n m) a ((a + 1) % n) :=
  ⟨_, _, hsR_lo ha, hsR_lo (Nat.mod_lt _ hn), by simp only; omega, by simp⟩

theorem ringR (n m : Nat) (hn : 0 < n) : IsRing (hsR n m) (List.range n) where
  ne := by intro e; have := congrArg List.length e; simp at this; omega
  nd := List.nodup_range
  lt := fun x hx => by rw [hsR_len]; have := List.mem_range.1 hx; omega
  wt := fun j a b ha hb => by
    rw [List.length_range] at hb
    have hj := idx_lt ha
    rw [List.length_range] at hj
    rw [List.getElem?_range hj] at ha
    rw [List.getElem?_range (Nat.mod_lt _ hn)] at hb
    cases ha
    cases hb
    exact wtR_yes hn hj

theorem ringR_at {n m : Nat} {l : List Nat} (hn : 0 < n) (h : IsRing (hsR n m) l) : l.length = n ∧ ∀ i x, l[i]? = some x → x < n ∧ l[(i + 1) % l.length]? = some ((x + 1) % n) := by
  have hpos := h.pos
  have hlt : ∀ x ∈ l, x < n := fun x hx => by
    obtain ⟨j, hj⟩ := List.getElem?_of_mem hx
    have hjl := idx_lt hj
    have e : ((j + l.length - 1) % l.length + 1) % l.length = j := by
      rw [Nat.mod_add_mod]
      rw [show j + l.length - 1 + 1 = j + l.length by omega, Nat.add_mod_right, Nat.mod_eq_of_lt hjl]
    obtain ⟨y, hy⟩ : ∃ y, l[(j + l.length - 1) % l.length]? = some y := ⟨_, List.getElem?_eq_getElem (Nat.mod_lt _ hpos)⟩
    have := h.wt _ y x hy (by rw [e]; exact hj)
    exact (wtR hn this).1
  have hstep : ∀ i x, l[i]? = some x → x < n ∧ l[(i + 1) % l.length]? = some ((x + 1) % n) := fun i x hx => by
    have hx1 := hlt x (List.mem_of_getElem? hx)
    obtain ⟨b, hb⟩ := h.next i
    have := (wtR hn (h.wt i x b hx hb)).2 hx1
    exact ⟨hx1, by rw [hb, this]⟩
  refine ⟨?_, hstep⟩
  have h1 : l ⊆ List.range n := fun x hx => List.mem_range.2 (hlt x hx)
  have h2 := List.Nodup.length_le_of_subset h.nd h1
  rw [List.length_range] at h2
  obtain ⟨x0, hx0⟩ : ∃ x, l[0]? = some x := ⟨_, List.getElem?_eq_getElem hpos⟩
  have hx0n := (hstep 0 x0 hx0).1
  have key : ∀ j, l[j % l.length]? = some ((x0 + j) % n) := by
    intro j
    induction j with
    | zero => rw [Nat.zero_mod, hx0, Nat.add_zero, Nat.mod_eq_of_lt hx0n]
    | succ j ih =>
      have := (hstep _ _ ih).2
      rw [Nat.mod_add_mod, Nat.mod_add_mod] at this
      exact this
  have hk := key l.length
  rw [Nat.mod_self, hx0] at hk
  simp only [Option.some.injEq] at hk
  have hd : (x0 + l.length) % n = x0 := hk.symm
  rcases Nat.lt_or_ge l.length n with g | g
  · exfalso
    rcases Nat.lt_or_ge (x0 + l.length) n with g2 | g2
    · rw [Nat.mod_eq_of_lt g2] at hd; omega
    · rw [Nat.mod_eq_sub_mod g2, Nat.mod_eq_of_lt (by omega)] at hd; omega
  · omega

/-- without one want nobody is stuck -/
theorem freeR {n m k : Nat} (hn : 0 < n) (hk : k < n) : Free ((hsR n m).set k ⟨[(k : Int)], -1⟩) := by
  have sk : Safe ((hsR n m).set k ⟨[(k : Int)], -1⟩) k := safe_none (p := ⟨[(k : Int)], -1⟩) (by rw [List.getElem?_set, if_pos rfl, if_pos (by rw [hsR_len]; omega)]) (show (-1 : Int) < 0 by decide)
  have hw : ∀ a b, a ≠ k → Wt ((hsR n m).set k ⟨[(k : Int)], -1⟩) a b → Wt (hsR n m) a b := fun a b ha h => by
    obtain ⟨p, q, hp, hq, h0, hin⟩ := h
    rw [List.getElem?_set, if_neg (fun e => ha e.symm)] at hp
    rw [List.getElem?_set] at hq
    by_cases e : k = b
    · subst e
      rw [if_pos rfl, if_pos (by rw [hsR_len]; omega)] at hq
      cases hq
      exact ⟨p, _, hp, hsR_lo hk, h0, hin⟩
    · rw [if_neg e] at hq
      exact ⟨p, q, hp, hq, h0, hin⟩
  have lo : ∀ d a, a < n → (a + d) % n = k → Safe ((hsR n m).set k ⟨[(k : Int)], -1⟩) a := by
    intro d
    induction d with
    | zero => intro a ha h; rw [Nat.add_zero, Nat.mod_eq_of_lt ha] at h; rw [h]; exact sk
    | succ d ih =>
      intro a ha h
      by_cases e : a = k
      · rw [e]; exact sk
      · refine safe_all fun b hb => ?_
        have := (wtR hn (hw a b e hb)).2 ha
        rw [this]
        refine ih _ (Nat.mod_lt _ hn) ?_
        rw [Nat.mod_add_mod, ← h]
        congr 1; omega
  have all : ∀ a, a < n → Safe ((hsR n m).set k ⟨[(k : Int)], -1⟩) a := fun a ha => lo (k + n - a) a ha (by
    rw [show a + (k + n - a) = k + n by omega, Nat.add_mod_right, Nat.mod_eq_of_lt hk])
  intro i _
  rcases Nat.lt_or_ge i n with g | g
  · exact all i g
  · exact safe_all fun b hb => all b (wtR hn (hw i b (by omega) hb)).1

theorem okR {n m : Nat} (hn : 0 < n) (h8 : n ≤ 8) : (hsR n m).all okH = true ∧ ∀ p ∈ hsR n m, p.has.length ≤ 30 := by
  have key : ∀ p ∈ hsR n m, okH p = true ∧ p.has.length ≤ 30 := fun p hp => by
    obtain ⟨i, hi⟩ := List.getElem?_of_mem hp
    rcases Nat.lt_or_ge i n with g | g
    · rw [hsR_lo g] at hi
      cases hi
      have := Nat.mod_lt (i + 1) hn
      refine ⟨?_, by simp⟩
      unfold okH
      rw [Bool.and_eq_true]
      exact ⟨List.all_eq_true.2 (fun z hz => by rw [List.mem_singleton] at hz; subst hz; exact decide_eq_true (by omega)), decide_eq_true (by show -1 ≤ (((i + 1) % n : Nat) : Int) ∧ (((i + 1) % n : Nat) : Int) < 8; omega)⟩
    · rw [hsR_hi g hi]
      have := Nat.mod_lt (i - n) hn
      refine ⟨?_, by simp⟩
      unfold okH
      rw [Bool.and_eq_true]
      exact ⟨rfl, decide_eq_true (by show -1 ≤ (((i - n) % n : Nat) : Int) ∧ (((i - n) % n : Nat) : Int) < 8; omega)⟩
  exact ⟨List.all_eq_true.2 fun p hp => (key p hp).1, fun p hp => (key p hp).2⟩
theorem okR_set {n m k : Nat} (hn : 0 < n) (h8 : n ≤ 8) (hk : k < n) : ((hsR n m).set k ⟨[(k : Int)], -1⟩).all okH = true ∧ ∀ p ∈ (hsR n m).set k ⟨[(k : Int)], -1⟩, p.has.length ≤ 30 := by
  obtain ⟨h1, h2⟩ := okR (m := m) hn h8
  refine ⟨List.all_eq_true.2 fun p hp => ?_, fun p hp => ?_⟩
  · rcases List.mem_or_eq_of_mem_set hp with hp | rfl
    · exact List.all_eq_true.1 h1 p hp
    · simp [okH, okZ]; omega
  · rcases List.mem_or_eq_of_mem_set hp with hp | rfl
    · exact h2 p hp
    · simp

/-! ### holders put behind one another -/
structure Rb (W0 w : World) (v : Value) (vs : List Hv) (hs : List Hl) : Prop where
  bel : Below W0.heap.size W0 w
  own : hvE.Own w W0.heap.size v vs
  len : vs.length = hs.length
  el : ∀ (i : Nat) (x : Hv) (p : Hl), vs[i]? = some x → hs[i]? = some p → x.want = p.want ∧ intE.Own w W0.heap.size (.slice x.a x.l x.c) p.has
theorem Rb.keep {W0 w w' : World} {v : Value} {vs : List Hv} {hs : List Hl} (h : Rb W0 w v vs hs) (hb : Below w.heap.size w w') : Rb W0 w' v vs hs :=
  ⟨h.bel.trans (hb.mono h.bel.size), h.own.keep hb, h.len, fun i x p hx hp => ⟨(h.el i x p hx hp).1, (h.el i x p hx hp).2.keep hb⟩⟩
theorem Rb.nil (W0 w : World) (hb : Below W0.heap.size W0 w) : Rb W0 w (.slice none 0 0) [] [] := ⟨hb, El.Own.nil _ _ _, rfl, fun i x p hx => by simp at hx⟩
theorem Rb.hds {W0 w : World} {v : Value} {vs : List Hv} {hs : List Hl} (h : Rb W0 w v vs hs) : Hds hvE w v hs :=
  ⟨vs, h.own.rd, h.len, fun i x p hx hp => ⟨(h.el i x p hx hp).1, (h.el i x p hx hp).2.rd⟩⟩
theorem own_sepT {w : World} {B B' : Nat} {v u : Value} {vs : List Hv} {l : List Int} (hv : hvE.Own w B v vs) (hu : intE.Own w B' u l) : Sep v u := fun g hg hg' => by
  obtain ⟨c1, h1⟩ := own_type hv g hg
  exact zown_ne hu h1 (by decide) hg'
theorem Rb.app {W0 w w' : World} {v v' : Value} {vs : List Hv} {hs : List Hl} {x : Hv} {p : Hl} (h : Rb W0 w v vs hs) (ho : hvE.Own w' W0.heap.size v' (vs ++ [x])) (hg : w.grownBy w' v.ownBlock) (hx : x.want = p.want) (hxo : intE.Own w W0.heap.size (.slice x.a x.l x.c) p.has) : Rb W0 w' v' (vs ++ [x]) (hs ++ [p]) := by
  refine ⟨h.bel.grown hg h.bel.size (fun k hk => h.own.ge k hk), ho, by simp [h.len], fun i y q hy hq => ?_⟩
  rcases Nat.lt_or_ge i vs.length with hi | hi
  · rw [List.getElem?_append_left hi] at hy
    rw [List.getElem?_append_left (by rw [← h.len]; exact hi)] at hq
    obtain ⟨h1, h2⟩ := h.el i y q hy hq
    exact ⟨h1, El.Own.kept (own_sepT h.own h2) h2 hg⟩
  · rw [List.getElem?_append_right hi] at hy
    rw [List.getElem?_append_right (by rw [← h.len]; exact hi)] at hq
    have hii : i - vs.length = 0 := by have := idx_lt hy; simp at this; omega
    rw [hii] at hy
    rw [← h.len, hii] at hq
    simp at hy hq
    subst hy hq
    exact ⟨hx, El.Own.kept (own_sepT h.own hxo) hxo hg⟩
/-- a want is set -/
theorem Rb.want {W0 w : World} {g n cap i : Nat} {vs : List Hv} {hs : List Hl} {p : Hl} (h : Rb W0 w (.slice (some ⟨g, 0, none⟩) n cap) vs hs) (hp : hs[i]? = some p) (z : Int) :
    (w.cell? ⟨g, i * 2 + 1, none⟩ = some (.int .i64 p.want) ∧ w.frozen? ⟨g, i * 2 + 1, none⟩ = false) ∧ ∃ vs', Rb W0 (w.setCell ⟨g, i * 2 + 1, none⟩ (.int .i64 z)) (.slice (some ⟨g, 0, none⟩) n cap) vs' (hs.set i ⟨p.has, z⟩) := by
  obtain ⟨v, hv⟩ : ∃ v, vs[i]? = some v := ⟨_, List.getElem?_eq_getElem (by rw [h.len]; exact idx_lt hp)⟩
  have hi := idx_lt hv
  have h1 := h.own.cell (i * 2 + 1) (by show _ < _ * 2; omega)
  have f1 := hvE.fl_at vs i 1 v hv (by decide)
  have e1 := (h.el i v p hv hp).1
  have hge : W0.heap.size ≤ g := h.own.ge g rfl
  obtain ⟨c1, hc1⟩ := own_type h.own g rfl
  refine ⟨⟨by rw [h1.1, ← e1]; exact f1, h1.2.1⟩, vs.set i ⟨v.a, v.l, v.c, z⟩, h.bel.setCell (p := ⟨g, i * 2 + 1, none⟩) hge _, own_setC (E := hvE) (j := 1) (x := v) (z := ⟨v.a, v.l, v.c, z⟩) (u := .int .i64 z) h.own hv (by decide) rfl, by rw [List.length_set, List.length_set]; exact h.len, fun j x q hx hq => ?_⟩
  rw [List.getElem?_set] at hx hq
  by_cases e : i = j
  · subst e
    rw [if_pos rfl, if_pos hi] at hx
    rw [if_pos rfl, if_pos (idx_lt hp)] at hq
    cases hx
    cases hq
    have := (h.el i v p hv hp).2
    exact ⟨rfl, own_set_other this (zown_ne this hc1 (by decide))⟩
  · rw [if_neg e] at hx hq
    obtain ⟨h2, h3⟩ := h.el j x q hx hq
    exact ⟨h2, own_set_other h3 (zown_ne h3 hc1 (by decide))⟩
end Go.Proofs.Ytmmkfcmbmecleaa
