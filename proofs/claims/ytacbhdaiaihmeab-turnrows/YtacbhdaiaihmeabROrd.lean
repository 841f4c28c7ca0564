/- The document's Order, and Same on two slices that read alike. -/
import Derived.Test.YtacbhdaiaihmeabOrd
namespace Go.Proofs.Ytacbhdaiaihmeab
open Go.ChangeShapes Go.WideShapes Go.ChangeAt Go.RowKit

theorem bs_one (w : World) (y : Int) (n : Nat) (hn : n = w.heap.size) : Bs (w.alloc (.cells #[.int .u16 y] 22)) (.slice (some ⟨n, 0, none⟩) 1 1) [y] := by
  subst hn
  refine .inr ⟨_, 1, rfl, fun i hi => ?_⟩
  have : i = 0 := by simp at hi; omega
  subst this
  rw [add_plain]
  simp

theorem Bs.at {w : World} {a : Option Addr} {n cap : Nat} {l : List Int} (h : Bs w (.slice a n cap) l) (i : Nat) (hi : i < l.length) :
    ∃ b off, a = some ⟨b, off, none⟩ ∧ w.cell? ⟨b, off + i, none⟩ = some (.int .u16 (l[i]?.getD 0)) := by
  rcases h with ⟨_, rfl⟩ | ⟨x, c, h1, h2⟩
  · simp at hi
  · simp only [Value.slice.injEq] at h1
    obtain ⟨b, off, spot⟩ := x
    have hspot : spot = none := by simpa [Addr.add] using World.cell?_spot (h2 0 (by omega))
    subst hspot
    refine ⟨b, off, h1.1, ?_⟩
    rw [← add_plain]; exact h2 i hi


set_option maxHeartbeats 2000000 in
theorem same_eq {w : World} {v u : Value} {l : List Int} (hv : Bs w v l) (hu : Bs w u l) (hm : l.length ≤ 100000) :
    Calls Try.prog 6 #[v, u] w fun e w' => e = .returned (.bool true) ∧ ∃ n, w' = w.drewN n := by
  obtain ⟨a, ca, rfl⟩ := hv.form
  obtain ⟨a', cb, rfl⟩ := hu.form
  have Hv := hide hv
  have Hu := hide hu
  clear hv hu
  obtain ⟨n, hn⟩ : ∃ n, l.length = n := ⟨_, rfl⟩
  rw [hn] at hm Hv Hu ⊢
  have Hn := hide hn
  clear hn
  have i0 : (n : Int) ≤ 100000 := by omega
  go_enter Try.func6, Try.ntmps6
  go_wp2_with fail
  go_loopw [13] (fun i wr => ∃ k q : Nat, k ≤ n ∧ i = .int .i64 k ∧ wr = w.drewN q) (fun i _ => n - (intOf i).toNat)
  case atStart => exact ⟨0, 0, by omega, rfl, rfl⟩
  case round =>
    obtain ⟨k, q, hk, rfl, rfl⟩ := hrel
    by_cases hlt : k < n
    · obtain ⟨b1, o1, rfl, x0⟩ := Hv.out.at k (by rw [Hn.out]; exact hlt)
      obtain ⟨b2, o2, rfl, y0⟩ := Hu.out.at k (by rw [Hn.out]; exact hlt)
      generalize l[k]?.getD 0 = z at *
      have j0 : (0 : Int) ≤ (k : Int) := by omega
      have j1 : (k : Int) < (n : Int) := by omega
      go_wp2_with fail
      go_quiet (fail)
      go_wp2_with fail
      go_roundw
      case rel => exact ⟨k + 1, _, by omega, by go_num, rfl⟩
      case measure => simp [intOf]; omega
    · have : k = n := by omega
      subst this
      go_wp2_with fail
      go_ret
      exact ⟨rfl, _, rfl⟩


/-- the numbers up to 'last' steps are all there -/
def PInv (lo : Int) (l r : List Int) (last : Int) : Prop :=
  r.Pairwise (fun x y => up lo x < up lo y) ∧ (∀ x ∈ r, x ∈ l ∧ up lo x ≤ last) ∧ ∀ x ∈ l, up lo x ≤ last → x ∈ r

/-- the next one, as far as it was looked for -/
def MInv (lo : Int) (l : List Int) (last : Int) (k : Nat) (next : Int) : Prop :=
  (∀ x ∈ l.take k, last < up lo x → next ≤ up lo x) ∧ (next = 65536 ∨ (last < next ∧ next ≤ 65535 ∧ ∃ x ∈ l, up lo x = next))

theorem pinv_start (lo : Int) (l : List Int) : PInv lo l [] (-1) :=
  ⟨List.Pairwise.nil, by simp, fun x _ h => by have := up_in lo x; omega⟩
theorem minv_start (lo : Int) (l : List Int) (last : Int) : MInv lo l last 0 65536 := ⟨by simp, .inl rfl⟩
theorem minv_in {lo : Int} {l : List Int} {last : Int} {k : Nat} {next : Int} (h : MInv lo l last k next) (h0 : -1 ≤ last) : 0 ≤ next ∧ next ≤ 65536 := by
  rcases h.2 with h | ⟨h, h', _⟩ <;> omega
theorem take_succ_mem (l : List Int) (k : Nat) (hk : k < l.length) (y : Int) (h : y ∈ l.take (k + 1)) : y ∈ l.take k ∨ y = l[k]?.getD 0 := by
  rw [List.take_add_one, List.getElem?_eq_getElem hk] at h
  rcases List.mem_append.1 h with h | h
  · exact .inl h
  · right; rw [List.getElem?_eq_getElem hk]; simpa using h
theorem minv_new {lo : Int} {l : List Int} {last : Int} {k : Nat} {next : Int} (h : MInv lo l last k next) (hk : k < l.length) (h1 : last < up lo (l[k]?.getD 0)) (h2 : up lo (l[k]?.getD 0) < next) :
    MInv lo l last (k + 1) (up lo (l[k]?.getD 0)) := by
  refine ⟨fun y hy hl => ?_, .inr ⟨h1, (up_in _ _).2, _, by rw [List.getElem?_eq_getElem hk]; exact List.getElem_mem hk, rfl⟩⟩
  rcases take_succ_mem l k hk y hy with h' | h'
  · have := h.1 y h' hl; omega
  · rw [h']; omega
theorem minv_old {lo : Int} {l : List Int} {last : Int} {k : Nat} {next : Int} (h : MInv lo l last k next) (hk : k < l.length) (h1 : ¬ (last < up lo (l[k]?.getD 0) ∧ up lo (l[k]?.getD 0) < next)) :
    MInv lo l last (k + 1) next := by
  refine ⟨fun y hy hl => ?_, h.2⟩
  rcases take_succ_mem l k hk y hy with h' | h'
  · exact h.1 y h' hl
  · rw [h'] at hl ⊢; omega
theorem pinv_done {lo : Int} {l r : List Int} {last : Int} (hp : PInv lo l r last) (h : MInv lo l last l.length 65536) : Ordd lo l r := by
  refine ⟨hp.1, fun x => ⟨fun hx => (hp.2.1 x hx).1, fun hx => hp.2.2 x hx ?_⟩⟩
  have := h.1 x (by simpa using hx)
  have := up_in lo x
  omega
theorem pinv_next {lo : Int} {l r : List Int} {last next : Int} (hin : InW l) (hp : PInv lo l r last) (h : MInv lo l last l.length next) (hn : next ≠ 65536) :
    PInv lo l (r ++ [(next + lo) % 65536]) next ∧ last < next ∧ 0 ≤ next ∧ next ≤ 65535 := by
  rcases h.2 with h2 | ⟨h2, h3, x, hx, hu⟩
  · exact absurd h2 hn
  · have hxi := hin x hx
    have e : (next + lo) % 65536 = x := by rw [← hu]; unfold up; omega
    have hu0 := up_in lo x
    refine ⟨?_, h2, by omega, h3⟩
    rw [e]
    refine ⟨?_, ?_, ?_⟩
    · rw [List.pairwise_append]
      refine ⟨hp.1, List.pairwise_singleton _ _, fun a ha b hb => ?_⟩
      have : b = x := by simpa using hb
      subst this
      have := (hp.2.1 a ha).2
      omega
    · intro y hy
      rcases List.mem_append.1 hy with hy | hy
      · exact ⟨(hp.2.1 y hy).1, by have := (hp.2.1 y hy).2; omega⟩
      · have : y = x := by simpa using hy
        subst this
        exact ⟨hx, by omega⟩
    · intro y hy hyl
      by_cases hl : up lo y ≤ last
      · exact List.mem_append.2 (.inl (hp.2.2 y hy hl))
      · have := h.1 y (by simpa using hy) (by omega)
        have : y = x := up_inj (hin y hy) hxi (by omega : up lo y = up lo x)
        subst this
        simp


end Go.Proofs.Ytacbhdaiaihmeab
