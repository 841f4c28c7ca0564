/- slices.Clone, Index, Contains of numbers; Waiting, Inside. -/
import Derived.Test.YtdnkgfljkdbckaaGta
namespace Go.Proofs.Ytdnkgfljkdbckaa
open Go.Conc Go.RowKit
set_option linter.unusedVariables false

/-- where a number stands first; -1: nowhere -/
def loc (xs : List Int) (t : Int) : Int := if t ∈ xs then (xs.idxOf t : Int) else -1
theorem loc_yes {xs : List Int} {t : Int} {k : Nat} (h : xs[k]? = some t) (hn : ∀ i : Nat, i < k → xs[i]? ≠ some t) : loc xs t = (k : Int) := by
  have hm := List.mem_of_getElem? h
  unfold loc
  rw [if_pos hm]
  have hl := List.idxOf_lt_length_iff.2 hm
  have hg : xs[xs.idxOf t]? = some t := by rw [List.getElem?_eq_getElem hl, List.getElem_idxOf hl]
  have h1 : ¬ xs.idxOf t < k := fun h' => hn _ h' hg
  have h2 : ¬ k < xs.idxOf t := fun h' => by
    have hk := idx_lt h
    have := List.not_of_lt_findIdx (p := (· == t)) h'
    rw [List.getElem?_eq_getElem hk] at h
    have h' := Option.some.inj h
    simp [h'] at this
  omega
theorem loc_no {xs : List Int} {t : Int} (h : t ∉ xs) : loc xs t = -1 := if_neg h
theorem loc_no' {xs : List Int} {t : Int} (h : ∀ k : Nat, k < xs.length → xs[k]? ≠ some t) : loc xs t = -1 := loc_no fun hm => by
  obtain ⟨k, hk⟩ := List.getElem?_of_mem hm
  exact h k (idx_lt hk) hk
theorem loc_in {xs : List Int} {t : Int} (h : t ∈ xs) : loc xs t = (xs.idxOf t : Int) ∧ xs.idxOf t < xs.length := ⟨if_pos h, List.idxOf_lt_length_iff.2 h⟩
theorem loc_mem (xs : List Int) (t : Int) : decide (0 ≤ loc xs t) = decide (t ∈ xs) := by
  by_cases h : t ∈ xs
  · rw [(loc_in h).1, decide_eq_true h, decide_eq_true (by omega)]
  · rw [loc_no h, decide_eq_false h]; rfl

set_option maxRecDepth 100000 in
set_option maxHeartbeats 2000000 in
theorem idx_any (a : Option Addr) (c n : Nat) (ms : List Int) (d : Int) (w : World) (hn : ms.length = n) (hv : intE.Rd w (.slice a n c) ms) (hl : n ≤ 100000) :
    Calls Try.prog 29 #[.slice a n c, .int .i64 d] w fun e w' => e = .returned (.int .i64 (loc ms d)) ∧ w' = w := by
  have Hn := hide hn
  have Hv := hide hv
  have i0 : (n : Int) ≤ 100000 := by omega
  have yes : Hid (∀ k : Nat, ms[k]? = some d → (∀ i : Nat, i < k → ms[i]? ≠ some d) → loc ms d = k) := hide (fun k h h' => loc_yes h h')
  have no : Hid ((∀ k : Nat, k < n → ms[k]? ≠ some d) → loc ms d = -1) := hide (fun h => loc_no' (by rw [hn]; exact h))
  generalize loc ms d = res at *
  clear hn hv hl
  go_enter Try.func29, Try.ntmps29
  go_wp2_with fail
  go_loopw [8] (fun v8 wr => ∃ k : Nat, wr = w ∧ v8 = .int .i64 k ∧ k ≤ n ∧ Hid (∀ i : Nat, i < k → ms[i]? ≠ some d)) (fun v8 _ => n - (intOf v8).toNat)
  case atStart => exact ⟨0, rfl, rfl, Nat.zero_le _, hide (fun i hi => by omega)⟩
  case round =>
    obtain ⟨k, rfl, rfl, hk, HX⟩ := hrel
    by_cases hlt : k < n
    · obtain ⟨p, hp⟩ : ∃ p, ms[k]? = some p := ⟨_, List.getElem?_eq_getElem (by rw [Hn.out]; exact hlt)⟩
      obtain ⟨b, off, rfl, c0⟩ := int_at Hv.out k p hp
      have j0 : (0 : Int) ≤ (k : Int) := by omega
      have j1 : (k : Int) < (n : Int) := by omega
      have Hp := hide hp
      clear hp
      by_cases he : d = p
      · subst he
        have e1 := yes.out k Hp.out HX.out
        subst e1
        go_wp2_with fail
        go_ret
        exact ⟨rfl, rfl⟩
      · have hbe : (d == p) = false := beq_eq_false_iff_ne.2 he
        have HX1 : Hid (∀ i : Nat, i < k + 1 → ms[i]? ≠ some d) := hide (fun i hi h => by
          rcases Nat.lt_or_ge i k with g | g
          · exact HX.out i g h
          · obtain rfl : i = k := by omega
            rw [Hp.out] at h; exact he (Option.some.inj h).symm)
        go_wp2_with fail
        go_roundw
        case rel => exact ⟨k + 1, trivial, by go_num, by omega, HX1⟩
        case measure => simp [intOf]; omega
    · obtain rfl : k = n := by omega
      have j1 : ¬ (k : Int) < (k : Int) := by omega
      have e1 := no.out HX.out
      subst e1
      go_wp2_with fail
      go_ret
      exact ⟨rfl, rfl⟩

set_option maxRecDepth 100000 in
theorem contains_any (a : Option Addr) (c n : Nat) (ms : List Int) (d : Int) (w : World) (hn : ms.length = n) (hv : intE.Rd w (.slice a n c) ms) (hl : n ≤ 100000) :
    Calls Try.prog 30 #[.slice a n c, .int .i64 d] w fun e w' => e = .returned (.bool (decide (d ∈ ms))) ∧ w' = w := by
  have K := hide (idx_any a c n ms d w hn hv hl)
  have hd := loc_mem ms d
  generalize loc ms d = res at *
  clear hn hv hl
  go_enter Try.func30, Try.ntmps30
  go_wp2_with (go_at_call 29; refine K.out.mono ?_; rintro e w1 ⟨rfl, rfl⟩)
  go_ret
  exact ⟨rfl, rfl⟩

set_option maxRecDepth 100000 in
set_option maxHeartbeats 2000000 in
theorem clone_any (a : Option Addr) (n c : Nat) (ms : List Int) (w : World) (hn : ms.length = n) (hl : n ≤ 1000) (hv : intE.Rd w (.slice a n c) ms) :
    Calls Try.prog 28 #[.slice a n c] w fun e w' => ∃ a' c', e = .returned (.slice a' n c') ∧ intE.Own w' w.heap.size (.slice a' n c') ms ∧ Below w.heap.size w w' := by
  have hq : ∀ W a n c, (binOp .eql 28 (.slice a n c) (.slice none 0 0)).run Try.prog W = .ok (.bool a.isNone) W := fun W a n c => Lib.run_eql_slice_nil W 28 3 a n c 0 0 Try.underlying28
  cases a with
  | none =>
    obtain ⟨rfl, rfl, rfl⟩ : n = 0 ∧ c = 0 ∧ ms = [] := by
      rcases hv with ⟨h1, h2⟩ | ⟨x, cap, h, _⟩
      · simp only [Value.slice.injEq] at h1; exact ⟨h1.2.1, h1.2.2, h2⟩
      · simp only [Value.slice.injEq] at h; cases h.1
    clear hv hn hl
    go_enter Try.func28, Try.ntmps28
    go_wp2_with fail
    go_ret
    exact ⟨_, _, rfl, El.Own.nil _ _ _, Below.refl _ _⟩
  | some x =>
    have HR : Hid (∀ o, intE.Rd (w.alloc o) (.slice (some x) n c) ms) := hide (fun o => hv.keep ((Below.refl _ _).alloc (Nat.le_refl _) o))
    have Hnew : Hid (intE.Own (w.alloc (.cells #[] 3)) w.heap.size (.slice (some ⟨w.heap.size, 0, none⟩) 0 0) []) := hide (El.Own.new intE w w.heap.size (Nat.le_refl _) #[] [] rfl (by simp) _ _ _ rfl rfl rfl)
    have Hb : Hid (∀ o, Below w.heap.size w (w.alloc o)) := hide (fun o => (Below.refl _ _).alloc (Nat.le_refl _) o)
    have Hn : Hid (([] : List Int).length + ms.length ≤ 1000000) := hide (by simp; omega)
    have Hl := hide hn
    clear hv hl hn
    go_enter Try.func28, Try.ntmps28
    go_wp2_with (at_builtin; refine intE.wp (w0 := w) (Hb.out _) (by rfl) _ _ rfl _ _ rfl rfl [] ms Hnew.out (HR.out _) Hn.out ?_; intro v1 w2 ho2 _ _ hb2; have Ho := hide ho2; have HB2 := hide hb2; clear ho2 hb2)
    obtain ⟨a', c', e⟩ := Ho.out.rd.form
    rw [List.nil_append, Hl.out] at e
    subst e
    go_ret
    exact ⟨_, _, rfl, Ho.out, HB2.out⟩

set_option maxRecDepth 100000 in
theorem waiting_any {w : World} {B g c : Nat} {vw : Value} {S : Gt} (H : Gat w B g c vw S) : Calls Try.prog 19 #[.pointer (some ⟨g, 0, none⟩)] w fun e w' => ∃ a' c', e = .returned (.slice a' S.wt.length c') ∧ intE.Own w' w.heap.size (.slice a' S.wt.length c') S.wt ∧ Below w.heap.size w w' := by
  obtain ⟨c0, c1, _⟩ := H.cells
  obtain ⟨a, p, rfl⟩ := H.form
  have hm := H.ok.ml
  have K := hide (clone_any a S.wt.length p S.wt w rfl (by omega) H.row.rd)
  clear H hm
  generalize S.wt.length = n at *
  go_enter Try.func19, Try.ntmps19
  go_wp2_with (go_at_call 28; refine K.out.mono ?_; rintro e w1 ⟨a', c', rfl, ho, hb⟩; have HO := hide ho; have HB := hide hb; clear ho hb)
  go_ret
  exact ⟨_, _, rfl, HO.out, HB.out⟩

theorem rot (l : List Int) (k : Nat) (x : Int) (h : l[k]? = some x) : (l.drop k ++ l.take k) = x :: (l.drop (k + 1) ++ l.take k) ∧ (l.drop (k + 1) ++ l.take k) ++ [x] = l.drop (k + 1) ++ l.take (k + 1) := by
  have hk := idx_lt h
  have h' : l[k] = x := by rw [List.getElem?_eq_getElem hk] at h; exact Option.some.inj h
  constructor
  · rw [List.drop_eq_getElem_cons hk, h', List.cons_append]
  · rw [List.take_add_one, h, List.append_assoc]; rfl
end Go.Proofs.Ytdnkgfljkdbckaa
