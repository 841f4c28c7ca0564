/- Numbers once each, from one on: there is one such list; what is sorted and compacted is it. -/
import Derived.Test.YtmbgcbbpkbaajaaLays
namespace Go.Proofs.Ytmbgcbbpkbaajaa
open Go.Sort Go.Lib


/-- r has the numbers of l, once each, in the order in which they come from lo on -/
def Ordd (lo : Int) (l r : List Int) : Prop := r.Pairwise (fun x y => up lo x < up lo y) ∧ ∀ x, x ∈ r ↔ x ∈ l

theorem ordd_uniq (lo : Int) : ∀ (r s l : List Int), Ordd lo l r → Ordd lo l s → r = s := by
  intro r
  induction r with
  | nil =>
    intro s l h1 h2
    cases s with
    | nil => rfl
    | cons b t => exact absurd ((h1.2 b).2 ((h2.2 b).1 (by simp))) (by simp)
  | cons a r ih =>
    intro s l h1 h2
    cases s with
    | nil => exact absurd ((h2.2 a).2 ((h1.2 a).1 (by simp))) (by simp)
    | cons b t =>
      have m1 : ∀ x, x ∈ a :: r ↔ x ∈ b :: t := fun x => (h1.2 x).trans (h2.2 x).symm
      have p1 := List.pairwise_cons.1 h1.1
      have p2 := List.pairwise_cons.1 h2.1
      have hab : a = b := by
        rcases List.mem_cons.1 ((m1 a).1 (by simp)) with h | h
        · exact h
        · rcases List.mem_cons.1 ((m1 b).2 (by simp)) with h' | h'
          · exact h'.symm
          · have := p1.1 b h'; have := p2.1 a h; omega
      subst hab
      congr 1
      refine ih t r ⟨p1.2, fun x => Iff.rfl⟩ ⟨p2.2, fun x => ?_⟩
      constructor
      · intro h
        rcases List.mem_cons.1 ((m1 x).2 (List.mem_cons_of_mem _ h)) with e | e
        · subst e; have := p2.1 x h; omega
        · exact e
      · intro h
        rcases List.mem_cons.1 ((m1 x).1 (List.mem_cons_of_mem _ h)) with e | e
        · subst e; have := p1.1 x h; omega
        · exact e

theorem up_inj {lo x y : Int} (hx : 0 ≤ x ∧ x ≤ 65535) (hy : 0 ≤ y ∧ y ≤ 65535) (h : up lo x = up lo y) : x = y := by
  unfold up at h; omega


/-- what is compared -/
def cfL (lo x y : Int) : Int := Lib.compareInt (up lo x) (up lo y)
theorem ltL (lo x y : Int) : ltOf (cfL lo) x y = decide (up lo x < up lo y) := by
  unfold ltOf cfL Lib.compareInt
  by_cases h1 : up lo x < up lo y
  · simp [h1]
  · by_cases h2 : up lo y < up lo x <;> simp [h1, h2]
theorem swoL (lo : Int) : SWO (ltOf (cfL lo)) where
  irrefl x := by rw [ltL]; simp
  trans x y z h1 h2 := by rw [ltL] at *; simp at *; omega
  ntrans x y z h1 h2 := by rw [ltL] at *; simp at *; omega

theorem at_mem (d : Array Int) (i : Nat) (hi : i < d.size) : d[i]! ∈ d.toList := by
  rw [getElem!_pos d i hi]; simp

theorem comp_mem (d : Array Int) (x : Int) : x ∈ compactUpTo d d.size ↔ x ∈ d.toList := by
  unfold compactUpTo
  constructor
  · intro h
    obtain ⟨i, hi, rfl⟩ := List.mem_map.1 h
    have := List.mem_range.1 (List.mem_filter.1 hi).1
    exact at_mem d i this
  · intro h
    have key : ∀ i, i < d.size → d[i]! ∈ ((List.range d.size).filter (keeps d)).map (d[·]!) := by
      intro i
      induction i with
      | zero => intro h0; exact List.mem_map.2 ⟨0, List.mem_filter.2 ⟨List.mem_range.2 h0, by simp [keeps]⟩, rfl⟩
      | succ i ih =>
        intro hi
        by_cases hk : keeps d (i + 1) = true
        · exact List.mem_map.2 ⟨i + 1, List.mem_filter.2 ⟨List.mem_range.2 hi, hk⟩, rfl⟩
        · have : d[i + 1]! = d[i]! := by simpa [keeps] using hk
          rw [this]; exact ih (by omega)
    obtain ⟨i, hi, rfl⟩ := List.mem_iff_getElem.1 h
    have hi' : i < d.size := by simpa using hi
    have := key i hi'
    rw [getElem!_pos d i hi'] at this
    simpa using this

theorem comp_sorted (lo : Int) (d : Array Int) (hin : ∀ x ∈ d.toList, 0 ≤ x ∧ x ≤ 65535) (hs : SortedIn (ltOf (cfL lo)) 0 d.size d) :
    (compactUpTo d d.size).Pairwise (fun x y => up lo x < up lo y) := by
  have le : ∀ i j, i < j → j < d.size → up lo d[i]! ≤ up lo d[j]! := by
    intro i j h1 h2
    have := hs i j (Nat.zero_le _) h1 h2
    rw [ltL] at this
    simpa using this
  unfold compactUpTo
  rw [List.pairwise_map, List.pairwise_filter]
  refine (List.pairwise_lt_range (n := d.size)).imp_of_mem ?_
  intro i j hi hj hij _ hk
  have hj' := List.mem_range.1 hj
  have hne : d[j]! ≠ d[j - 1]! := by
    have := of_decide_eq_true hk
    rcases this with h | h
    · omega
    · exact h
  have h1 : up lo d[j - 1]! ≤ up lo d[j]! := le (j - 1) j (by omega) hj'
  have h2 : up lo d[i]! ≤ up lo d[j - 1]! := by
    by_cases e : i = j - 1
    · subst e; exact Int.le_refl _
    · exact le i (j - 1) (by omega) (by omega)
  have h3 : up lo d[j]! ≠ up lo d[j - 1]! := fun h => hne (up_inj (hin _ (at_mem d j hj')) (hin _ (at_mem d (j - 1) (by omega))) h)
  omega

theorem comp_ordd (lo : Int) (l : List Int) (d : Array Int) (hin : ∀ x ∈ l, 0 ≤ x ∧ x ≤ 65535) (hp : PermIn 0 l.toArray.size l.toArray d) (hs : SortedIn (ltOf (cfL lo)) 0 l.toArray.size d) :
    d.size = l.length ∧ Ordd lo l (compactUpTo d d.size) := by
  have hz : d.size = l.length := by simpa using hp.1
  have hperm : d.toList.Perm l := by
    have h := hp.2.2
    have e1 : d.extract 0 l.toArray.size = d := by
      rw [show l.toArray.size = d.size by simp [hz]]; simp
    have e2 : l.toArray.extract 0 l.toArray.size = l.toArray := by simp
    rw [e1, e2] at h
    simpa using h
  have hz' : l.toArray.size = d.size := by simp [hz]
  rw [hz'] at hs
  refine ⟨hz, comp_sorted lo d (fun x hx => hin x (hperm.mem_iff.1 hx)) hs, fun x => ?_⟩
  rw [comp_mem]
  exact hperm.mem_iff
end Go.Proofs.Ytmbgcbbpkbaajaa
