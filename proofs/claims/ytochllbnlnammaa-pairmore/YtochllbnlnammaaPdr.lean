/- The drive, as the document has it. -/
import Derived.Test.YtochllbnlnammaaPrd
namespace Go.Proofs.Ytochllbnlnammaa
open Go.RowKit
set_option linter.unusedVariables false

theorem dr_comm (p q : Int × Int) : dr p q = dr q p := by unfold dr ad; (repeat' split) <;> omega
theorem dr_tri (p q r : Int × Int) : dr p q ≤ dr p r + dr r q := by unfold dr ad; (repeat' split) <;> omega
theorem dr_zero (p q : Int × Int) : dr p q = 0 ↔ p.1 = q.1 ∧ p.2 = q.2 := by unfold dr ad; (repeat' split) <;> omega
theorem dr_sm {p q : Int × Int} (h1 : Sm p.1) (h2 : Sm p.2) (h3 : Sm q.1) (h4 : Sm q.2) : 0 ≤ dr p q ∧ dr p q ≤ 2147483648 := by unfold Sm at *; unfold dr ad; (repeat' split) <;> omega
theorem dr_abs (x1 y1 x2 y2 : Int) : dr (x1, y1) (x2, y2) = if (if x1 - x2 < 0 then -(x1 - x2) else x1 - x2) > (if y1 - y2 < 0 then -(y1 - y2) else y1 - y2) then (if x1 - x2 < 0 then -(x1 - x2) else x1 - x2) else (if y1 - y2 < 0 then -(y1 - y2) else y1 - y2) := by unfold dr ad; (repeat' split) <;> simp only at * <;> omega

set_option maxRecDepth 100000 in
set_option maxHeartbeats 2000000 in
theorem rdrive_any (x1 y1 x2 y2 : Int) (w : World) (h1 : Sm x1) (h2 : Sm y1) (h3 : Sm x2) (h4 : Sm y2) : Calls Try.prog 11 #[.agg #[.int .i64 x1, .int .i64 y1], .agg #[.int .i64 x2, .int .i64 y2]] w fun e w' => e = .returned (.int .i64 (dr (x1, y1) (x2, y2))) ∧ Below w.heap.size w w' := by
  rw [dr_abs]
  have HB := hide (below_alloc2 w (.cells #[.int .i64 x1, .int .i64 y1] 28) (.cells #[.int .i64 x2, .int .i64 y2] 28))
  have HT := hide (two_new w x1 y1 x2 y2 28)
  obtain ⟨g, hg⟩ : ∃ g, w.heap.size = g := ⟨_, rfl⟩
  rw [hg] at HT
  have SI : Hid (∀ W, Two g x1 y1 x2 y2 W → Two g x1 y1 x2 y2 W.drew) := hide (fun W h => h)
  have SD : Hid (∀ W, Two g x1 y1 x2 y2 W → W.cell? ⟨g, 0, none⟩ = some (.int .i64 x1) ∧ W.cell? ⟨g, 1, none⟩ = some (.int .i64 y1) ∧ W.cell? ⟨g + 1, 0, none⟩ = some (.int .i64 x2) ∧ W.cell? ⟨g + 1, 1, none⟩ = some (.int .i64 y2)) := hide (fun W h => h)
  obtain ⟨S0, hS0⟩ : ∃ S : World → Prop, S = Two g x1 y1 x2 y2 := ⟨_, rfl⟩
  rw [← hS0] at SI SD HT
  unfold Sm at h1 h2 h3 h4
  obtain ⟨x, hx⟩ : ∃ x, x1 - x2 = x := ⟨_, rfl⟩
  obtain ⟨y, hy⟩ : ∃ y, y1 - y2 = y := ⟨_, rfl⟩
  have e1 : IntKind.i64.wrap (x1 - x2) = x := by rw [IntKind.wrap_i64]; omega
  have e2 : IntKind.i64.wrap (y1 - y2) = y := by rw [IntKind.wrap_i64]; omega
  have b1 : -9000000000 < x ∧ x < 9000000000 ∧ -9000000000 < y ∧ y < 9000000000 := by omega
  obtain ⟨b1, b2, b3, b4⟩ := b1
  rw [hx, hy]
  obtain ⟨ax, hax⟩ : ∃ ax, (if x < 0 then -x else x) = ax := ⟨_, rfl⟩
  obtain ⟨ay, hay⟩ : ∃ ay, (if y < 0 then -y else y) = ay := ⟨_, rfl⟩
  have e3 : wrap64 (-x) = -x := by unfold wrap64; omega
  have e4 : wrap64 (-y) = -y := by unfold wrap64; omega
  clear h1 h2 h3 h4 hS0 hx hy
  go_enter Try.func11, Try.ntmps11
  go_upto_region 1 with fail
  try rw [hg]
  generalize ((w.alloc (Obj.cells #[Value.int IntKind.i64 x1, Value.int IntKind.i64 y1] 28)).alloc (Obj.cells #[Value.int IntKind.i64 x2, Value.int IntKind.i64 y2] 28)) = W at *
  have HBd : Hid (∀ q, Below w.heap.size w (W.drewN q)) := hide (fun q => HB.out.trans ((below_drewN W q).mono HB.out.size))
  clear hg
  obtain ⟨y5, y6, y7, y8⟩ := SD.out W HT.out
  clear SI SD HB HT
  go_quiet (fail)
  by_cases c1 : x < 0
  all_goals by_cases c2 : y < 0
  all_goals
    first | rw [if_pos c1] at hax | rw [if_neg c1] at hax
    first | rw [if_pos c2] at hay | rw [if_neg c2] at hay
    subst hax hay
    go_wp2_with fail
    all_goals
      go_ret
      exact ⟨rfl, HBd.out _⟩

end Go.Proofs.Ytochllbnlnammaa
