/- Tapes without a budget: what Append, Repair, Compact leave; how long an area gets. -/
import Derived.Test.YtgdoagmnhmfjkaaTtm
namespace Go.Proofs.Ytgdoagmnhmfjkaa
open Go.RowKit
set_option linter.unusedVariables false

/-- no budget, not dead -/
def Tp.Free (T : Tp) : Prop := T.ar = false ∧ T.dd = false
theorem free_nw : Tp.nw.Free := ⟨rfl, rfl⟩
theorem free_crash (T : Tp) : T.crash.Free := ⟨rfl, rfl⟩
theorem can_free {T : Tp} (h : T.ar = false) (n : Nat) : T.can n = true := by unfold Tp.can; rw [h]; rfl
theorem put_free {T : Tp} (h : T.Free) (s : Bool) (bs : List Int) : ∃ T', T.put s bs = (0, T') ∧ T'.Free ∧ T'.cn = T.cn ∧ T'.A s = T.A s ++ bs ∧ ∀ q, q ≠ s → T'.A q = T.A q := by
  unfold Tp.put
  rw [if_pos (can_free h.1 _)]
  exact ⟨_, rfl, ⟨h.1, h.2⟩, rfl, setA_at _ _ _, fun q hq => setA_off _ hq _⟩
theorem cut_free {T : Tp} (h : T.Free) (s : Bool) (n : Nat) (hn : n ≤ (T.A s).length) : ∃ T', T.cut s n = (0, T') ∧ T'.Free ∧ T'.cn = T.cn ∧ T'.A s = (T.A s).take n ∧ ∀ q, q ≠ s → T'.A q = T.A q := by
  unfold Tp.cut
  by_cases e : (T.A s).length = n
  · rw [if_pos e]
    exact ⟨_, rfl, h, rfl, by rw [← e, List.take_length], fun _ _ => rfl⟩
  · rw [if_neg e, if_pos (can_free h.1 _)]
    exact ⟨_, rfl, ⟨h.1, h.2⟩, rfl, setA_at _ _ _, fun q hq => setA_off _ hq _⟩
/-- Append onto a clean area -/
theorem app_free {T : Tp} (h : T.Free) {ns : List Nt} (hk : ns.all Nt.ok = true) (hl : T.now.length + tot ns ≤ 65536) : ∃ T', T.app [] ns = (0, T') ∧ T'.Free ∧ T'.now = T.now ++ ns.flatMap Nt.bts := by
  rw [app_put h.2 hk (by omega)]
  obtain ⟨T', e, h1, h2, h3, _⟩ := put_free h T.cn (ns.flatMap Nt.bts)
  exact ⟨T', e, h1, by show T'.A T'.cn = _; rw [h2, h3]; rfl⟩
theorem rep_free {T : Tp} (h : T.Free) {got : List Nt} {r : List Int} (hr : Rds T.now got r) : ∃ T', T.rep r = ((r.length : Int), 0, T') ∧ T'.Free ∧ T'.now = got.flatMap Nt.bts := by
  have hl := rds_len hr
  obtain ⟨T', e, h1, h2, h3, _⟩ := cut_free h T.cn (T.now.length - r.length) (by show _ ≤ T.now.length; omega)
  unfold Tp.rep
  rw [if_neg (by rw [h.2]; decide), e, if_pos rfl]
  refine ⟨T', rfl, h1, ?_⟩
  show T'.A T'.cn = _
  rw [h2, h3]
  show T.now.take _ = _
  rw [show T.now.length - r.length = (got.flatMap Nt.bts).length by show _ = tot got; omega, hr.eq, List.take_left]
theorem cmp_free {T : Tp} (h : T.Free) {ns : List Nt} (hk : ns.all Nt.ok = true) (hl : ¬ 65536 < tot ns) : ∃ T', T.cmp ns = (0, T') ∧ T'.Free ∧ T'.now = ns.flatMap Nt.bts := by
  rw [cmp_go h.2 hk hl]
  obtain ⟨T1, e1, f1, c1, a1, _⟩ := cut_free h (!T.cn) 0 (Nat.zero_le _)
  unfold Tp.cmp2
  rw [e1, if_pos rfl]
  obtain ⟨T2, e2, f2, c2, a2, _⟩ := put_free f1 (!T.cn) (ns.flatMap Nt.bts)
  simp only
  unfold Tp.cmp3
  rw [e2, if_pos rfl]
  simp only
  unfold Tp.turn
  rw [if_pos (can_free f2.1 _)]
  refine ⟨_, rfl, ⟨f2.1, f2.2⟩, ?_⟩
  show T2.A (!T.cn) = _
  rw [a2, a1]
  simp
theorem app_codes (T : Tp) (r : List Int) (ns : List Nt) : (T.app r ns).2.now = T.now ∨ (T.dd = false ∧ ns.all Nt.ok = true ∧ r = [] ∧ ¬ 65536 < T.now.length + tot ns ∧ T.app r ns = T.put T.cn (ns.flatMap Nt.bts)) := by
  cases hd : T.dd
  · cases ha : ns.all Nt.ok
    · rw [app_note hd _ ha]; exact .inl rfl
    · by_cases hr : r = []
      · subst hr
        by_cases hl : 65536 < T.now.length + tot ns
        · rw [app_full hd ha hl]; exact .inl rfl
        · exact .inr ⟨rfl, rfl, rfl, hl, app_put hd ha hl⟩
      · rw [app_state hd ha hr]; exact .inl rfl
  · rw [app_dead hd]; exact .inl rfl
theorem put_now (T : Tp) (bs : List Int) : (T.put T.cn bs).2.now = (T.put T.cn bs).2.A T.cn := by
  show (T.put T.cn bs).2.A (T.put T.cn bs).2.cn = _
  rw [(put_fact T T.cn bs).1]
theorem app_len (T : Tp) (r : List Int) (ns : List Nt) : (T.app r ns).2.now.length ≤ T.now.length + 19 * ns.length := by
  rcases app_codes T r ns with h | ⟨_, hk, _, _, e⟩
  · rw [h]; omega
  · rw [e, put_now]
    have hl := flat_bts_len (List.all_eq_true.1 hk)
    have e1 : T.A T.cn = T.now := rfl
    rcases (put_fact T T.cn (ns.flatMap Nt.bts)).2.2 with ⟨_, q, _⟩ | ⟨_, q, _⟩
    · rw [q, List.length_append, e1]; omega
    · rw [q, List.length_append, List.length_take, e1]; omega
theorem rds_app {l : List Int} {got ns : List Nt} (h : Rds l got []) (hk : ns.all Nt.ok = true) : Rds (l ++ ns.flatMap Nt.bts) (got ++ ns) [] := by
  have e : l = got.flatMap Nt.bts := by rw [h.eq, List.append_nil]
  have := rds_all (ns := got ++ ns) (fun n hn => by
    rcases List.mem_append.1 hn with q | q
    · exact h.ok n q
    · exact List.all_eq_true.1 hk n q)
  rw [List.flatMap_append, ← e] at this
  exact this
end Go.Proofs.Ytgdoagmnhmfjkaa
