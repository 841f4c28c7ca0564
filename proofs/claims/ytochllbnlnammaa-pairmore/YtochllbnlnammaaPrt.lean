/- The greatest saving doesn't hang on the order, nor on which are stores; one job more. -/
import Derived.Test.YtochllbnlnammaaPrn
import Derived.Test.YtochllbnlnammaaPdr
namespace Go.Proofs.Ytochllbnlnammaa
open Go.RowKit
set_option linter.unusedVariables false

/-- a matching -/
structure Mx (ns ng : Nat) (m : List (Nat × Nat)) : Prop where
  a : (m.map Prod.fst).Nodup
  b : (m.map Prod.snd).Nodup
  c : ∀ p ∈ m, p.1 < ns ∧ p.2 < ng
theorem Mx.mt {ns ng : Nat} {m : List (Nat × Nat)} (h : Mx ns ng m) : Mt 0 ns ng (2 ^ ng - 1) m :=
  ⟨h.a, h.b, fun p hp => ⟨Nat.zero_le _, (h.c p hp).1, (h.c p hp).2, full_bit ng p.2 (h.c p hp).2⟩⟩
theorem Mt.mx {ns ng left : Nat} {m : List (Nat × Nat)} (h : Mt 0 ns ng left m) : Mx ns ng m :=
  ⟨h.a, h.b, fun p hp => ⟨(h.c p hp).2.1, (h.c p hp).2.2.1⟩⟩
/-- the greatest saving -/
structure Is (F : Nat → Nat → Int) (ns ng : Nat) (x : Int) : Prop where
  ub : ∀ m, Mx ns ng m → sv F m ≤ x
  at' : ∃ m, Mx ns ng m ∧ sv F m = x
theorem mxs_is (L M : List (Int × Int)) : Is (sg L M) L.length M.length (mxs L M) :=
  ⟨fun m h => mxs_ub L M m h.mt, ⟨_, (bst_ok L M).1.mx, (bst_ok L M).2⟩⟩
theorem nodup_on {l : List Nat} (f : Nat → Nat) (n : Nat) (h : l.Nodup) (hl : ∀ x ∈ l, x < n) (hf : ∀ x y, x < n → y < n → f x = f y → x = y) : (l.map f).Nodup := by
  unfold List.Nodup at h ⊢
  rw [List.pairwise_map]
  exact List.Pairwise.imp_of_mem (fun {x y} hx hy hne e => hne (hf x y (hl x hx) (hl y hy) e)) h
theorem Is.le {F F' : Nat → Nat → Int} {ns ng ns' ng' : Nat} {x x' : Int} (h : Is F ns ng x) (h' : Is F' ns' ng' x') (f g : Nat → Nat) (hf : ∀ s, s < ns' → f s < ns) (hg : ∀ s, s < ng' → g s < ng)
    (fi : ∀ a b, a < ns' → b < ns' → f a = f b → a = b) (gi : ∀ a b, a < ng' → b < ng' → g a = g b → a = b) (e : ∀ s t, s < ns' → t < ng' → F' s t = F (f s) (g t)) : x' ≤ x := by
  obtain ⟨m, hm, hs⟩ := h'.at'
  have h1 : Mx ns ng (m.map fun p => (f p.1, g p.2)) := by
    refine ⟨?_, ?_, ?_⟩
    · rw [List.map_map]
      have := nodup_on f ns' hm.a (fun x hx => by obtain ⟨p, hp, rfl⟩ := List.mem_map.1 hx; exact (hm.c p hp).1) fi
      rw [List.map_map] at this; exact this
    · rw [List.map_map]
      have := nodup_on g ng' hm.b (fun x hx => by obtain ⟨p, hp, rfl⟩ := List.mem_map.1 hx; exact (hm.c p hp).2) gi
      rw [List.map_map] at this; exact this
    · intro q hq
      obtain ⟨p, hp, rfl⟩ := List.mem_map.1 hq
      exact ⟨hf _ (hm.c p hp).1, hg _ (hm.c p hp).2⟩
  have h2 : sv F (m.map fun p => (f p.1, g p.2)) = sv F' m := by
    unfold sv
    rw [List.map_map]
    congr 1
    exact List.map_congr_left (fun p hp => (e p.1 p.2 (hm.c p hp).1 (hm.c p hp).2).symm)
  rw [← hs, ← h2]
  exact h.ub _ h1
theorem Is.swap {F F' : Nat → Nat → Int} {ns ng : Nat} {x : Int} (h : Is F ns ng x) (e : ∀ s t, F' t s = F s t) : Is F' ng ns x := by
  have sw : ∀ (F F' : Nat → Nat → Int) (m : List (Nat × Nat)), (∀ s t, F' t s = F s t) → sv F' (m.map Prod.swap) = sv F m := fun F F' m e => by
    unfold sv
    rw [List.map_map]
    congr 1
    exact List.map_congr_left (fun p hp => e p.1 p.2)
  have mx : ∀ (ns ng : Nat) (m : List (Nat × Nat)), Mx ns ng m → Mx ng ns (m.map Prod.swap) := fun ns ng m h =>
    ⟨by rw [List.map_map]; exact h.b, by rw [List.map_map]; exact h.a, fun q hq => by obtain ⟨p, hp, rfl⟩ := List.mem_map.1 hq; exact ⟨(h.c p hp).2, (h.c p hp).1⟩⟩
  refine ⟨fun m hm => ?_, ?_⟩
  · rw [← sw F' F m (fun s t => (e t s).symm)]
    exact h.ub _ (mx _ _ _ hm)
  · obtain ⟨m, hm, hs⟩ := h.at'
    exact ⟨_, mx _ _ _ hm, by rw [sw F F' m e]; exact hs⟩
theorem Is.eq {F : Nat → Nat → Int} {ns ng : Nat} {x y : Int} (h : Is F ns ng x) (h' : Is F ns ng y) : x = y :=
  Int.le_antisymm (h'.le h id id (fun _ h => h) (fun _ h => h) (fun _ _ _ _ h => h) (fun _ _ _ _ h => h) (fun _ _ _ _ => rfl)) (h.le h' id id (fun _ h => h) (fun _ h => h) (fun _ _ _ _ h => h) (fun _ _ _ _ h => h) (fun _ _ _ _ => rfl))

/-! exchanged -/
theorem sgs_comm (p q : Int × Int) : sgs p q = sgs q p := by unfold sgs; rw [dr_comm p q]; omega
theorem mxs_swap (L M : List (Int × Int)) : mxs M L = mxs L M := (mxs_is M L).eq ((mxs_is L M).swap (fun s t => sgs_comm _ _))
theorem cst_swap (L M : List (Int × Int)) : cst M L (bst M L) = cst L M (bst L M) := by rw [cst_bst, cst_bst, mxs_swap]; omega

/-! turned -/
def rot (L : List (Int × Int)) (k : Nat) : List (Int × Int) := L.drop (k % L.length) ++ L.take (k % L.length)
theorem rot_len (L : List (Int × Int)) (k : Nat) : (rot L k).length = L.length := by
  unfold rot; rw [List.length_append, List.length_drop, List.length_take]
  have : min (k % L.length) L.length = k % L.length ∨ L.length ≤ k % L.length := by omega
  omega
/-- where a place comes from -/
def rt (n k i : Nat) : Nat := if i + k % n < n then i + k % n else i + k % n - n
theorem rt_mod {n k i : Nat} (h : i < n) : (i + k) % n = rt n k i := by
  have hr : k % n < n := Nat.mod_lt _ (by omega)
  rw [Nat.add_mod, Nat.mod_eq_of_lt h]
  unfold rt
  split
  · rename_i h'; exact Nat.mod_eq_of_lt h'
  · rw [Nat.mod_eq_sub_mod (by omega), Nat.mod_eq_of_lt (by omega)]
theorem rot_at {L : List (Int × Int)} {k i : Nat} (h : i < L.length) : (rot L k)[i]? = L[rt L.length k i]? := by
  have hr : k % L.length < L.length := Nat.mod_lt _ (by omega)
  unfold rot rt
  split
  · rw [List.getElem?_append_left (by rw [List.length_drop]; omega), List.getElem?_drop]
    congr 1; omega
  · rw [List.getElem?_append_right (by rw [List.length_drop]; omega), List.length_drop, List.getElem?_take_of_lt (by omega)]
    congr 1; omega
theorem rot_getD {L : List (Int × Int)} {k i : Nat} (h : i < L.length) : (rot L k).getD i (0, 0) = L.getD (rt L.length k i) (0, 0) := by
  rw [List.getD_eq_getElem?_getD, List.getD_eq_getElem?_getD, rot_at h]
theorem rot_tot (L : List (Int × Int)) (k : Nat) : tot (rot L k) = tot L := by
  unfold rot
  rw [tot_app, Int.add_comm, ← tot_app, List.take_append_drop]
theorem rot_alw {L : List (Int × Int)} (h : Alw L) (k : Nat) : Alw (rot L k) := by
  refine ⟨by rw [rot_len]; exact h.1, fun p hp => ?_⟩
  unfold rot at hp
  rcases List.mem_append.1 hp with h' | h'
  · exact h.2 p (List.mem_of_mem_drop h')
  · exact h.2 p (List.mem_of_mem_take h')
/-- back -/
def rb (n k i : Nat) : Nat := if i < k % n then i + n - k % n else i - k % n
theorem mxs_rot (L M : List (Int × Int)) (k : Nat) : mxs (rot L k) (rot M k) = mxs L M := by
  have h := mxs_is L M
  have h' := mxs_is (rot L k) (rot M k)
  rw [rot_len, rot_len] at h'
  have e : ∀ s t, s < L.length → t < M.length → sg (rot L k) (rot M k) s t = sg L M (rt L.length k s) (rt M.length k t) := fun s t hs ht => by
    unfold sg; rw [rot_getD hs, rot_getD ht]
  have lt : ∀ n s, s < n → rt n k s < n := fun n s hs => by
    have := Nat.mod_lt k (show 0 < n by omega)
    unfold rt; split <;> omega
  have inj : ∀ n a b, a < n → b < n → rt n k a = rt n k b → a = b := fun n a b ha hb h => by
    have := Nat.mod_lt k (show 0 < n by omega)
    unfold rt at h
    split at h <;> split at h <;> omega
  have ltb : ∀ n s, s < n → rb n k s < n := fun n s hs => by
    have := Nat.mod_lt k (show 0 < n by omega)
    unfold rb; split <;> omega
  have injb : ∀ n a b, a < n → b < n → rb n k a = rb n k b → a = b := fun n a b ha hb h => by
    have := Nat.mod_lt k (show 0 < n by omega)
    unfold rb at h
    split at h <;> split at h <;> omega
  have back : ∀ n s, s < n → rt n k (rb n k s) = s := fun n s hs => by
    have := Nat.mod_lt k (show 0 < n by omega)
    unfold rt rb
    split <;> split <;> omega
  refine Int.le_antisymm (h.le h' _ _ (lt _) (lt _) (inj _) (inj _) e) ?_
  refine h'.le h _ _ (ltb _) (ltb _) (injb _) (injb _) (fun s t hs ht => ?_)
  rw [e _ _ (ltb _ s hs) (ltb _ t ht), back _ s hs, back _ t ht]
theorem cst_rot (L M : List (Int × Int)) (k : Nat) : cst (rot L k) (rot M k) (bst (rot L k) (rot M k)) = cst L M (bst L M) := by rw [cst_bst, cst_bst, mxs_rot, rot_tot, rot_tot]

/-! one more -/
theorem sgs_le (p q : Int × Int) : sgs p q ≤ 2 * dr (0, 0) p := by
  have := dr_tri (0, 0) q p
  unfold sgs; omega
theorem mxs_more (L M : List (Int × Int)) (p : Int × Int) : mxs L M ≤ mxs (L ++ [p]) M ∧ mxs (L ++ [p]) M ≤ mxs L M + 2 * dr (0, 0) p := by
  have h := mxs_is L M
  have h' := mxs_is (L ++ [p]) M
  have el : (L ++ [p]).length = L.length + 1 := by simp
  rw [el] at h'
  have e : ∀ s t, s < L.length → sg (L ++ [p]) M s t = sg L M s t := fun s t hs => by
    unfold sg
    rw [List.getD_eq_getElem?_getD, List.getElem?_append_left hs, ← List.getD_eq_getElem?_getD]
  have en : ∀ t, sg (L ++ [p]) M L.length t ≤ 2 * dr (0, 0) p := fun t => by
    unfold sg
    rw [List.getD_eq_getElem?_getD, List.getElem?_append_right (Nat.le_refl _), Nat.sub_self]
    exact sgs_le _ _
  refine ⟨h'.le h id id (fun s hs => by show s < _; omega) (fun _ h => h) (fun _ _ _ _ h => h) (fun _ _ _ _ h => h) (fun s t hs _ => (e s t hs).symm), ?_⟩
  obtain ⟨m, hm, hs⟩ := h'.at'
  have hd : 0 ≤ dr (0, 0) p := by unfold dr ad; (repeat' split) <;> omega
  by_cases hk : ∃ g, (L.length, g) ∈ m
  · obtain ⟨g, hg⟩ := hk
    obtain ⟨m', hp⟩ := perm_take hg
    have ha := List.nodup_cons.1 ((hp.map Prod.fst).nodup_iff.1 hm.a)
    have hb := List.nodup_cons.1 ((hp.map Prod.snd).nodup_iff.1 hm.b)
    have hlt : ∀ q ∈ m', q.1 < L.length ∧ q.2 < M.length := fun q hq => by
      have := hm.c q (hp.mem_iff.2 (List.mem_cons_of_mem _ hq))
      have e1 : q.1 ≠ L.length := fun e => ha.1 (List.mem_map.2 ⟨q, hq, e⟩)
      exact ⟨by omega, this.2⟩
    have h1 := h.ub m' ⟨ha.2, hb.2, hlt⟩
    have h2 : sv (sg (L ++ [p]) M) m' = sv (sg L M) m' := sv_congr (fun q hq => e q.1 q.2 (hlt q hq).1)
    rw [sv_perm _ hp, sv_cons, h2] at hs
    have h3 : sg (L ++ [p]) M L.length g ≤ 2 * dr (0, 0) p := en g
    have h4 : sg (L ++ [p]) M (L.length, g).1 (L.length, g).2 = sg (L ++ [p]) M L.length g := rfl
    omega
  · have hlt : ∀ q ∈ m, q.1 < L.length ∧ q.2 < M.length := fun q hq => by
      have := hm.c q hq
      have e1 : q.1 ≠ L.length := fun e => hk ⟨q.2, by rw [← e]; exact hq⟩
      exact ⟨by omega, this.2⟩
    have h1 := h.ub m ⟨hm.a, hm.b, hlt⟩
    have h2 : sv (sg (L ++ [p]) M) m = sv (sg L M) m := sv_congr (fun q hq => e q.1 q.2 (hlt q hq).1)
    omega
theorem cst_more (L M : List (Int × Int)) (p : Int × Int) : cst L M (bst L M) ≤ cst (L ++ [p]) M (bst (L ++ [p]) M) ∧ cst (L ++ [p]) M (bst (L ++ [p]) M) ≤ cst L M (bst L M) + 2 * dr (0, 0) p := by
  have h := mxs_more L M p
  rw [cst_bst, cst_bst, tot_app, tot_one]
  unfold alo
  omega
theorem cst_more' (L M : List (Int × Int)) (p : Int × Int) : cst L M (bst L M) ≤ cst L (M ++ [p]) (bst L (M ++ [p])) ∧ cst L (M ++ [p]) (bst L (M ++ [p])) ≤ cst L M (bst L M) + 2 * dr (0, 0) p := by
  rw [← cst_swap L M, ← cst_swap L (M ++ [p])]
  exact cst_more M L p
end Go.Proofs.Ytochllbnlnammaa
