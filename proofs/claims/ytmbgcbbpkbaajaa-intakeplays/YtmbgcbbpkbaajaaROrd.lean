/- The document's Order, and Same on two slices that read alike. -/
import Derived.Test.YtmbgcbbpkbaajaaOrd
namespace Go.Proofs.Ytmbgcbbpkbaajaa
open Go.ChangeShapes Go.WideShapes Go.ChangeAt Go.RowKit

theorem bs_one (w : World) (y : Int) (n : Nat) (hn : n = w.heap.size) : Bs (w.alloc (.cells #[.int .u16 y] 22)) (.slice (some ⟨n, 0, none⟩) 1 1) [y] := by
  subst hn
  refine .inr ⟨_, 1, rfl, fun i hi => ?_⟩
  have : i = 0 := by simp at hi; omega
  subst this
  rw [add_plain]
  simp

theorem Bs.at {w : World} {a : Option Addr} {n cap : Nat} {l : List Int} (h : Bs w (.slice a n cap) l) (i : Nat) (hi : i < l.length) :
    ∃ b off, a = some ⟨b, off, none⟩ ∧ w.cell? ⟨b, off + i, none⟩ = some (.int .u16 (l[i]?.getD 0)) := by
  rcases h with ⟨_, rfl⟩ | ⟨x, c, h1, h2⟩
  · simp at hi
  · simp only [Value.slice.injEq] at h1
    obtain ⟨b, off, spot⟩ := x
    have hspot : spot = none := by simpa [Addr.add] using World.cell?_spot (h2 0 (by omega))
    subst hspot
    refine ⟨b, off, h1.1, ?_⟩
    rw [← add_plain]; exact h2 i hi


set_option maxHeartbeats 2000000 in
theorem same_eq {w : World} {v u : Value} {l : List Int} (hv : Bs w v l) (hu : Bs w u l) (hm : l.length ≤ 100000) :
    Calls Try.prog 23 #[v, u] w fun e w' => e = .returned (.bool true) ∧ ∃ n, w' = w.drewN n := by
  obtain ⟨a, ca, rfl⟩ := hv.form
  obtain ⟨a', cb, rfl⟩ := hu.form
  have Hv := hide hv
  have Hu := hide hu
  clear hv hu
  obtain ⟨n, hn⟩ : ∃ n, l.length = n := ⟨_, rfl⟩
  rw [hn] at hm Hv Hu ⊢
  have Hn := hide hn
  clear hn
  have i0 : (n : Int) ≤ 100000 := by omega
  go_enter Try.func23, Try.ntmps23
  go_wp2_with fail
  go_loopw [13] (fun i wr => ∃ k q : Nat, k ≤ n ∧ i = .int .i64 k ∧ wr = w.drewN q) (fun i _ => n - (intOf i).toNat)
  case atStart => exact ⟨0, 0, by omega, rfl, rfl⟩
  case round =>
    obtain ⟨k, q, hk, rfl, rfl⟩ := hrel
    by_cases hlt : k < n
    · obtain ⟨b1, o1, rfl, x0⟩ := Hv.out.at k (by rw [Hn.out]; exact hlt)
      obtain ⟨b2, o2, rfl, y0⟩ := Hu.out.at k (by rw [Hn.out]; exact hlt)
      generalize l[k]?.getD 0 = z at *
      have j0 : (0 : Int) ≤ (k : Int) := by omega
      have j1 : (k : Int) < (n : Int) := by omega
      go_wp2_with fail
      go_quiet (fail)
      go_wp2_with fail
      go_roundw
      case rel => exact ⟨k + 1, _, by omega, by go_num, rfl⟩
      case measure => simp [intOf]; omega
    · have : k = n := by omega
      subst this
      go_wp2_with fail
      go_ret
      exact ⟨rfl, _, rfl⟩


/-- the numbers up to 'last' steps are all there -/
def PInv (lo : Int) (l r : List Int) (last : Int) : Prop :=
  r.Pairwise (fun x y => up lo x < up lo y) ∧ (∀ x ∈ r, x ∈ l ∧ up lo x ≤ last) ∧ ∀ x ∈ l, up lo x ≤ last → x ∈ r

/-- the next one, as far as it was looked for -/
def MInv (lo : Int) (l : List Int) (last : Int) (k : Nat) (next : Int) : Prop :=
  (∀ x ∈ l.take k, last < up lo x → next ≤ up lo x) ∧ (next = 65536 ∨ (last < next ∧ next ≤ 65535 ∧ ∃ x ∈ l, up lo x = next))

theorem pinv_start (lo : Int) (l : List Int) : PInv lo l [] (-1) :=
  ⟨List.Pairwise.nil, by simp, fun x _ h => by have := up_in lo x; omega⟩
theorem minv_start (lo : Int) (l : List Int) (last : Int) : MInv lo l last 0 65536 := ⟨by simp, .inl rfl⟩
theorem minv_in {lo : Int} {l : List Int} {last : Int} {k : Nat} {next : Int} (h : MInv lo l last k next) (h0 : -1 ≤ last) : 0 ≤ next ∧ next ≤ 65536 := by
  rcases h.2 with h | ⟨h, h', _⟩ <;> omega
theorem take_succ_mem (l : List Int) (k : Nat) (hk : k < l.length) (y : Int) (h : y ∈ l.take (k + 1)) : y ∈ l.take k ∨ y = l[k]?.getD 0 := by
  rw [List.take_add_one, List.getElem?_eq_getElem hk] at h
  rcases List.mem_append.1 h with h | h
  · exact .inl h
  · right; rw [List.getElem?_eq_getElem hk]; simpa using h
theorem minv_new {lo : Int} {l : List Int} {last : Int} {k : Nat} {next : Int} (h : MInv lo l last k next) (hk : k < l.length) (h1 : last < up lo (l[k]?.getD 0)) (h2 : up lo (l[k]?.getD 0) < next) :
    MInv lo l last (k + 1) (up lo (l[k]?.getD 0)) := by
  refine ⟨fun y hy hl => ?_, .inr ⟨h1, (up_in _ _).2, _, by rw [List.getElem?_eq_getElem hk]; exact List.getElem_mem hk, rfl⟩⟩
  rcases take_succ_mem l k hk y hy with h' | h'
  · have := h.1 y h' hl; omega
  · rw [h']; omega
theorem minv_old {lo : Int} {l : List Int} {last : Int} {k : Nat} {next : Int} (h : MInv lo l last k next) (hk : k < l.length) (h1 : ¬ (last < up lo (l[k]?.getD 0) ∧ up lo (l[k]?.getD 0) < next)) :
    MInv lo l last (k + 1) next := by
  refine ⟨fun y hy hl => ?_, h.2⟩
  rcases take_succ_mem l k hk y hy with h' | h'
  · exact h.1 y h' hl
  · rw [h'] at hl ⊢; omega
theorem pinv_done {lo : Int} {l r : List Int} {last : Int} (hp : PInv lo l r last) (h : MInv lo l last l.length 65536) : Ordd lo l r := by
  refine ⟨hp.1, fun x => ⟨fun hx => (hp.2.1 x hx).1, fun hx => hp.2.2 x hx ?_⟩⟩
  have := h.1 x (by simpa using hx)
  have := up_in lo x
  omega
theorem pinv_next {lo : Int} {l r : List Int} {last next : Int} (hin : InW l) (hp : PInv lo l r last) (h : MInv lo l last l.length next) (hn : next ≠ 65536) :
    PInv lo l (r ++ [(next + lo) % 65536]) next ∧ last < next ∧ 0 ≤ next ∧ next ≤ 65535 := by
  rcases h.2 with h2 | ⟨h2, h3, x, hx, hu⟩
  · exact absurd h2 hn
  · have hxi := hin x hx
    have e : (next + lo) % 65536 = x := by rw [← hu]; unfold up; omega
    have hu0 := up_in lo x
    refine ⟨?_, h2, by omega, h3⟩
    rw [e]
    refine ⟨?_, ?_, ?_⟩
    · rw [List.pairwise_append]
      refine ⟨hp.1, List.pairwise_singleton _ _, fun a ha b hb => ?_⟩
      have : b = x := by simpa using hb
      subst this
      have := (hp.2.1 a ha).2
      omega
    · intro y hy
      rcases List.mem_append.1 hy with hy | hy
      · exact ⟨(hp.2.1 y hy).1, by have := (hp.2.1 y hy).2; omega⟩
      · have : y = x := by simpa using hy
        subst this
        exact ⟨hx, by omega⟩
    · intro y hy hyl
      by_cases hl : up lo y ≤ last
      · exact List.mem_append.2 (.inl (hp.2.2 y hy hl))
      · have := h.1 y (by simpa using hy) (by omega)
        have : y = x := up_inj (hin y hy) hxi (by omega : up lo y = up lo x)
        subst this
        simp


set_option maxHeartbeats 4000000 in
theorem rorder_any (lo : Int) (l : List Int) (v : Value) (w : World) (hv : Bs w v l) (hin : InW l) (hlo : 0 ≤ lo ∧ lo ≤ 65535) (hm : l.length ≤ 1000) :
    Calls Try.prog 27 #[v, .int .u16 lo] w fun e w' => ∃ v' r, e = .returned v' ∧ Ow w' w.heap.size v' r ∧ Ordd lo l r ∧ Below w.heap.size w w' := by
  obtain ⟨a, ca, rfl⟩ := hv.form
  have Hv := hide hv
  have Hin := hide hin
  clear hv hin
  obtain ⟨n, hn⟩ : ∃ n, l.length = n := ⟨_, rfl⟩
  rw [hn] at hm Hv ⊢
  have Hn := hide hn
  clear hn
  obtain ⟨lo0, lo1⟩ := hlo
  have i0 : (n : Int) ≤ 1000 := by omega
  go_enter Try.func27, Try.ntmps27
  go_wp2_with fail
  go_loopw [5, 6] (fun v5 v6 wr => ∃ (r : List Int) (last : Int), -1 ≤ last ∧ last ≤ 65535 ∧ (r.length : Int) ≤ last + 1 ∧ v6 = .int .i64 last ∧ Ow wr w.heap.size v5 r ∧ Below w.heap.size w wr ∧ Hid (PInv lo l r last)) (fun _ i _ => (65536 - intOf i).toNat)
  case atStart => exact ⟨[], -1, by omega, by omega, by simp, rfl, ⟨rfl, .inl ⟨rfl, rfl⟩⟩, Below.refl _ _, hide (pinv_start lo l)⟩
  case round =>
    obtain ⟨r, last, l0, l1, hrl, rfl, hown, hb, HP⟩ := hrel
    have Hv' := hide (Hv.out.keep hb)
    have Ho := hide hown
    have Hb := hide hb
    have Hrl := hide hrl
    clear hown hb hrl
    go_wp2_with fail
    go_loopw [7, 12] (fun v7 v12 wr' => ∃ (k : Nat) (next : Int), k ≤ n ∧ v7 = .int .i64 next ∧ v12 = .int .i64 k ∧ wr' = wr ∧ Hid (MInv lo l last k next)) (fun _ i _ => n - (intOf i).toNat)
    case atStart => exact ⟨0, 65536, by omega, rfl, rfl, rfl, hide (minv_start lo l last)⟩
    case round =>
      obtain ⟨k, next, hk, rfl, rfl, rfl, HM⟩ := hrel
      obtain ⟨n0, n1⟩ := minv_in HM.out l0
      by_cases hlt : k < n
      · obtain ⟨b1, o1, rfl, x0⟩ := Hv'.out.at k (by rw [Hn.out]; exact hlt)
        have Hkl : Hid (k < l.length) := hide (by rw [Hn.out]; exact hlt)
        have Ho' : Hid (∀ x, l[k]?.getD 0 = x → last < up lo x → up lo x < next → MInv lo l last (k + 1) (up lo x)) := hide (fun x hx h1 h2 => by subst hx; exact minv_new HM.out Hkl.out h1 h2)
        have Hn' : Hid (∀ x, l[k]?.getD 0 = x → ¬ (last < up lo x ∧ up lo x < next) → MInv lo l last (k + 1) next) := hide (fun x hx h => by subst hx; exact minv_old HM.out Hkl.out h)
        obtain ⟨x, hx⟩ : ∃ x, l[k]?.getD 0 = x := ⟨_, rfl⟩
        have hxi : 0 ≤ x ∧ x ≤ 65535 := by
          rw [← hx, List.getElem?_eq_getElem Hkl.out]; exact Hin.out _ (List.getElem_mem _)
        obtain ⟨xi0, xi1⟩ := hxi
        have Ho2 := hide (Ho'.out x hx)
        have Hn2 := hide (Hn'.out x hx)
        rw [hx] at x0
        clear hx Ho' Hn'
        have e1 : (x - lo + 65536).tmod 65536 = up lo x := by rw [Int.tmod_eq_emod_of_nonneg (by omega)]; unfold up; omega
        have ui := up_in lo x
        generalize up lo x = u at *
        obtain ⟨u0, u1⟩ := ui
        have j0 : (0 : Int) ≤ (k : Int) := by omega
        have j1 : (k : Int) < (n : Int) := by omega
        by_cases h1 : last < u
        · by_cases h2 : u < next
          · go_wp2_with fail
            go_roundw
            case rel => exact ⟨k + 1, u, by omega, by go_num, by go_num, by first | rfl | trivial, hide (Ho2.out h1 h2)⟩
            case measure => simp [intOf]; omega
          · go_wp2_with fail
            go_roundw
            case rel => exact ⟨k + 1, next, by omega, by go_num, by go_num, by first | rfl | trivial, hide (Hn2.out (by omega))⟩
            case measure => simp [intOf]; omega
        · go_wp2_with fail
          go_roundw
          case rel => exact ⟨k + 1, next, by omega, by go_num, by go_num, by first | rfl | trivial, hide (Hn2.out (by omega))⟩
          case measure => simp [intOf]; omega
      · have hkn : k = n := by omega
        subst hkn
        rw [← Hn.out] at HM
        by_cases hnx : next = 65536
        · subst hnx
          go_wp2_with fail
          go_ret
          exact ⟨_, r, rfl, Ho.out, pinv_done HP.out HM.out, Hb.out⟩
        · have hp' := pinv_next Hin.out HP.out HM.out hnx
          obtain ⟨hp1, hp2, hp3, hp4⟩ := hp'
          have HP1 := hide hp1
          clear hp1
          have e1 : (next + lo).tmod 65536 = (next + lo) % 65536 := Int.tmod_eq_emod_of_nonneg (by omega)
          obtain ⟨y, hy⟩ : ∃ y, (next + lo) % 65536 = y := ⟨_, rfl⟩
          rw [hy] at e1 HP1
          have y0 : 0 ≤ y := by omega
          have y1 : y ≤ 65535 := by omega
          clear hy
          go_wp2_with (at_builtin; refine wpList_app (Hb.out.alloc Hb.out.size _) (by rfl) _ _ rfl _ _ rfl rfl r [y] (World.ownsRow.alloc Ho.out _) (bs_one _ _ _ rfl) (by have := Hrl.out; simp; omega) ?_; intro v1 w1 hown1 hb1; refine Hid.out ?_)
          refine hide ?_
          go_wp2_with fail
          go_roundw
          case rel => exact ⟨r ++ [y], next, by omega, by omega, by have := Hrl.out; simp; omega, by go_num, hown1, hb1, HP1⟩
          case measure => simp [intOf]; omega
end Go.Proofs.Ytmbgcbbpkbaajaa
