/- GateCancels: what is cancelled is left out; the document's At, the law's has; booleans that came in. -/
import Derived.Test.YtdnkgfljkdbckaaGtf
import Derived.Test.YtdnkgfljkdbckaaLag
import Derived.Deep.CutBlock
namespace Go.Proofs.Ytdnkgfljkdbckaa
open Go.ChangeShapes Go.WideShapes Go.ChangeAt Go.RowKit
set_option linter.unusedVariables false

/-- a slice of booleans that came in -/
def IsBools (w : World) (a : Option Addr) (len : Nat) : Prop := ∀ i, i < len → ∃ b off t, a = some ⟨b, off, none⟩ ∧ b < w.heap.size ∧ w.cell? ⟨b, off + i, none⟩ = some (.bool t)
theorem IsBools.keep {w w' : World} {a : Option Addr} {len : Nat} (h : IsBools w a len) (hb : Below w.heap.size w w') : IsBools w' a len := fun i hi => by
  obtain ⟨b, off, t, h1, h2, h3⟩ := h i hi
  exact ⟨b, off, t, h1, Nat.lt_of_lt_of_le h2 hb.size, by rw [hb.cell h2]; exact h3⟩
section
variable {H : Type} {enc : TypeId × Value → H} {w : World} {base : Nat} {spare : Nat → Bool} {held : Bool} {fuel : Nat} {cs : List Value} {x : DataW H × List MemPlace}
theorem bools_of_trod {a : Option Addr} {len cap : Nat} (h : DataW.trod enc Try.prog w base spare held fuel 47 cs = some x) (hcs : cs = [.slice a len cap]) : IsBools w a len ∧ len ≤ maxLen := by
  have e4 : Try.prog.cellsOf 4 = 1 := by kernel_rfl
  rcases DataW.trod_slice Try.underlying47 h with ⟨h1, _⟩ | ⟨x0, len', cap', elems, rest, n, _, h1, _, _, hl, hcm, he, hr, _⟩
  · rw [hcs] at h1
    simp at h1
    obtain ⟨rfl, rfl, rfl⟩ := h1
    exact ⟨fun i hi => by omega, Nat.zero_le _⟩
  · rw [hcs] at h1
    simp at h1
    obtain ⟨rfl, rfl, rfl⟩ := h1
    rw [e4] at hr
    have one : ∀ i, i < len → ∃ t, w.cell? (x0.add i) = some (.bool t) := by
      intro i hi
      have h2 := hr i hi
      rw [List.getElem?_eq_getElem (by omega)] at h2
      obtain ⟨cs', h3, h4⟩ := Option.bind_eq_some_iff.1 h2
      obtain ⟨t, ht, _⟩ := DataW.trod_bool Try.underlying4 h4
      obtain ⟨_, _, h5⟩ := World.cells?_some h3
      have h6 := h5 0 (by omega)
      rw [ht] at h6
      exact ⟨t, by simpa [Addr.add] using h6⟩
    refine ⟨fun i hi => ?_, by omega⟩
    obtain ⟨b, off, spot⟩ := x0
    obtain ⟨_, z0⟩ := one 0 (by omega)
    have hspot : spot = none := by simpa [Addr.add] using World.cell?_spot z0
    subst hspot
    obtain ⟨t, k0⟩ := one i hi
    rw [addr_plain] at k0
    exact ⟨b, off, t, rfl, cell_lt k0, k0⟩
end

set_option maxRecDepth 100000 in
set_option maxHeartbeats 2000000 in
theorem at_any (a : Option Addr) (c n : Nat) (ms : List Int) (d : Int) (w : World) (hn : ms.length = n) (hv : intE.Rd w (.slice a n c) ms) (hl : n ≤ 100000) :
    Calls Try.prog 25 #[.slice a n c, .int .i64 d] w fun e w' => e = .returned (.int .i64 (loc ms d)) ∧ w' = w := by
  have Hn := hide hn
  have Hv := hide hv
  have i0 : (n : Int) ≤ 100000 := by omega
  have yes : Hid (∀ k : Nat, ms[k]? = some d → (∀ i : Nat, i < k → ms[i]? ≠ some d) → loc ms d = k) := hide (fun k h h' => loc_yes h h')
  have no : Hid ((∀ k : Nat, k < n → ms[k]? ≠ some d) → loc ms d = -1) := hide (fun h => loc_no' (by rw [hn]; exact h))
  generalize loc ms d = res at *
  clear hn hv hl
  go_enter Try.func25, Try.ntmps25
  go_wp2_with fail
  go_loopw [8] (fun v8 wr => ∃ k : Nat, wr = w ∧ v8 = .int .i64 k ∧ k ≤ n ∧ Hid (∀ i : Nat, i < k → ms[i]? ≠ some d)) (fun v8 _ => n - (intOf v8).toNat)
  case atStart => exact ⟨0, rfl, rfl, Nat.zero_le _, hide (fun i hi => by omega)⟩
  case round =>
    obtain ⟨k, rfl, rfl, hk, HX⟩ := hrel
    by_cases hlt : k < n
    · obtain ⟨p, hp⟩ : ∃ p, ms[k]? = some p := ⟨_, List.getElem?_eq_getElem (by rw [Hn.out]; exact hlt)⟩
      obtain ⟨b, off, rfl, c0⟩ := int_at Hv.out k p hp
      have j0 : (0 : Int) ≤ (k : Int) := by omega
      have j1 : (k : Int) < (n : Int) := by omega
      have Hp := hide hp
      clear hp
      by_cases he : d = p
      · subst he
        have e1 := yes.out k Hp.out HX.out
        subst e1
        go_wp2_with fail
        go_ret
        exact ⟨rfl, rfl⟩
      · have hbe : (p == d) = false := beq_eq_false_iff_ne.2 (fun e => he e.symm)
        have HX1 : Hid (∀ i : Nat, i < k + 1 → ms[i]? ≠ some d) := hide (fun i hi h => by
          rcases Nat.lt_or_ge i k with g | g
          · exact HX.out i g h
          · obtain rfl : i = k := by omega
            rw [Hp.out] at h; exact he (Option.some.inj h).symm)
        go_wp2_with fail
        go_roundw
        case rel => exact ⟨k + 1, trivial, by go_num, by omega, HX1⟩
        case measure => simp [intOf]; omega
    · obtain rfl : k = n := by omega
      have j1 : ¬ (k : Int) < (k : Int) := by omega
      have e1 := no.out HX.out
      subst e1
      go_wp2_with fail
      go_ret
      exact ⟨rfl, rfl⟩

set_option maxRecDepth 100000 in
theorem has_any (a : Option Addr) (c n : Nat) (ms : List Int) (d : Int) (w : World) (hn : ms.length = n) (hv : intE.Rd w (.slice a n c) ms) (hl : n ≤ 100000) :
    Calls Try.prog 23 #[.slice a n c, .int .i64 d] w fun e w' => e = .returned (.bool (decide (d ∈ ms))) ∧ w' = w := by
  have K := hide (at_any a c n ms d w hn hv hl)
  have hd := loc_mem ms d
  generalize loc ms d = res at *
  clear hn hv hl
  go_enter Try.func23, Try.ntmps23
  go_wp2_with (go_at_call 25; refine K.out.mono ?_; rintro e w1 ⟨rfl, rfl⟩)
  go_ret
  exact ⟨rfl, rfl⟩

theorem ints_eq (a b : Option Addr) (c d n : Nat) (xs : List Int) (w : World) (hn : xs.length = n) (hv : intE.Rd w (.slice a n c) xs) (hu : intE.Rd w (.slice b n d) xs) (hl : n ≤ 100000) :
    Calls Try.prog 22 #[.slice a n c, .slice b n d] w fun e w' => e = .returned (.bool true) ∧ ∃ q, w' = w.drewN q := by
  have := ints_any a b c d n n xs xs w hn hn hv hu hl
  rw [decide_eq_true rfl] at this
  exact this

/-- the last two of four change places -/
theorem Its.swap34 {w0 w : World} {x y z t : It} {l : List It} (h : Its w0 (x :: y :: z :: t :: l) w) : Its w0 (x :: y :: t :: z :: l) w := h.perm (.cons x (.cons y (.swap t z l)))

/-- what is left is all without what was cancelled -/
def Kpt (all left : List Int) : Prop := all.filter (fun y => decide (y ∈ left)) = left
theorem Kpt.nil : Kpt [] [] := rfl
theorem Kpt.sub {all left : List Int} (h : Kpt all left) {y : Int} (hy : y ∈ left) : y ∈ all := by
  rw [← h] at hy
  exact (List.mem_filter.1 hy).1
theorem Kpt.both {all left : List Int} (h : Kpt all left) {x : Int} (hx : x ∉ all) : Kpt (all ++ [x]) (left ++ [x]) := by
  unfold Kpt at h ⊢
  rw [List.filter_append]
  have e1 : all.filter (fun y => decide (y ∈ left ++ [x])) = left := by
    conv => rhs; rw [← h]
    apply List.filter_congr
    intro y hy
    have : y ≠ x := fun e => hx (e ▸ hy)
    simp [this]
  rw [e1]
  simp
theorem Kpt.one {all left : List Int} (h : Kpt all left) {x : Int} (hx : x ∉ all) : Kpt (all ++ [x]) left := by
  have hx' : x ∉ left := fun q => hx (h.sub q)
  unfold Kpt at h ⊢
  rw [List.filter_append, h]
  simp [hx']
/-- who waits behind so many of them -/
def wk (all left : List Int) (k : Nat) : List Int := (all.take k).filter (fun y => decide (y ∈ left)) ++ all.drop k
theorem wk_zero (all left : List Int) : wk all left 0 = all := by simp [wk]
theorem wk_end {all left : List Int} (h : Kpt all left) {n : Nat} (hn : all.length = n) : wk all left n = left := by
  unfold wk
  rw [← hn, List.take_length, List.drop_length, List.append_nil]
  exact h
theorem wk_yes {all left : List Int} {k : Nat} {x : Int} (h : all[k]? = some x) (hx : x ∈ left) : wk all left (k + 1) = wk all left k := by
  have hk := idx_lt h
  have h' : all[k] = x := by rw [List.getElem?_eq_getElem hk] at h; exact Option.some.inj h
  unfold wk
  rw [List.take_add_one, h, List.drop_eq_getElem_cons hk, h', List.filter_append]
  simp [hx]
theorem wk_no {all left : List Int} {k : Nat} {x : Int} (h : all[k]? = some x) (hx : x ∉ left) : x ∈ wk all left k ∧ (wk all left k).erase x = wk all left (k + 1) := by
  have hk := idx_lt h
  have h' : all[k] = x := by rw [List.getElem?_eq_getElem hk] at h; exact Option.some.inj h
  have e1 : wk all left k = (all.take k).filter (fun y => decide (y ∈ left)) ++ x :: all.drop (k + 1) := by
    unfold wk; rw [List.drop_eq_getElem_cons hk, h']
  have e2 : x ∉ (all.take k).filter (fun y => decide (y ∈ left)) := fun q => hx (of_decide_eq_true (List.mem_filter.1 q).2)
  refine ⟨by rw [e1]; simp, ?_⟩
  rw [e1, List.erase_append_right _ e2, List.erase_cons_head]
  unfold wk
  rw [List.take_add_one, h, List.filter_append]
  simp [hx]
end Go.Proofs.Ytdnkgfljkdbckaa
