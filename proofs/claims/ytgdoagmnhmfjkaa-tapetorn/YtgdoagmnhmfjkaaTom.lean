/- What is read behind a crash within an append. -/
import Derived.Test.YtgdoagmnhmfjkaaTfm
namespace Go.Proofs.Ytgdoagmnhmfjkaa
open Go.RowKit
set_option linter.unusedVariables false

/-- what is read is all that was wanted, and then some first ones of the last list -/
def TornP (T : Tp) (want last : List Nt) : Prop := ∀ got r, Rds T.now got r → ∃ zs, got = want ++ zs ∧ zs.length ≤ last.length ∧ last.take zs.length = zs
theorem torn_end {T : Tp} {want : List Nt} (h : Rds T.now want []) : TornP T want [] := fun got r hr => ⟨[], by rw [List.append_nil]; exact (hr.uniq h).1, by simp, by simp⟩
theorem torn_cases {T : Tp} {want ns : List Nt} (hd : T.dd = false) (hr : Rds T.now want []) :
    ((T.app [] ns).1 = 0 ∧ (T.app [] ns).2.dd = false ∧ Rds (T.app [] ns).2.now (want ++ ns) []) ∨ ((T.app [] ns).1 = 190 ∧ TornP (T.app [] ns).2 want ns) ∨ ((T.app [] ns).1 ≠ 0 ∧ (T.app [] ns).1 ≠ 190 ∧ (T.app [] ns).2 = T) := by
  cases ha : ns.all Nt.ok
  · rw [app_note hd _ ha]; exact .inr (.inr ⟨show (180 : Int) ≠ 0 by decide, show (180 : Int) ≠ 190 by decide, rfl⟩)
  · by_cases hl : 65536 < T.now.length + tot ns
    · rw [app_full hd ha hl]; exact .inr (.inr ⟨show (5 : Int) ≠ 0 by decide, show (5 : Int) ≠ 190 by decide, rfl⟩)
    · rw [app_put hd ha hl]
      have hn := put_now T (ns.flatMap Nt.bts)
      rcases (put_fact T T.cn (ns.flatMap Nt.bts)).2.2 with ⟨q0, q1, q2⟩ | ⟨q0, q1, q2, _, q3⟩
      · refine .inl ⟨q0, by rw [q2]; exact hd, ?_⟩
        rw [hn, q1]
        exact rds_app hr ha
      · refine .inr (.inl ⟨q0, fun got r hg => ?_⟩)
        rw [hn, q1, show T.A T.cn = want.flatMap Nt.bts from by rw [show T.A T.cn = T.now from rfl, hr.eq, List.append_nil]] at hg
        obtain ⟨zs, e1, e2⟩ := hg.go hr.ok _ rfl
        have hz : Rds ((ns.flatMap Nt.bts).take T.bd) zs r := ⟨e2, fun n hn => hg.ok n (by rw [e1]; simp [hn]), hg.no⟩
        have hc := Rds.cut (List.all_eq_true.1 ha) (Nat.le_of_lt q2) hz
        exact ⟨zs, e1, hc.1, hc.2.1⟩
end Go.Proofs.Ytgdoagmnhmfjkaa
