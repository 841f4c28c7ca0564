/- Spots, and the drive between two. -/
import Derived.Test.YtochllbnlnammabCba
import Derived.Deep.RegionWith
import Derived.Deep.RegionHeld3
namespace Go.Proofs.Ytochllbnlnammab
open Go.RowKit
set_option linter.unusedVariables false

def spE : El Try.prog (Int × Int) where
  t := 29
  e := 23
  k := 2
  by' := 16
  z := .agg #[.int .i64 0, .int .i64 0]
  enc l := [.int .i64 l.1, .int .i64 l.2]
  ht := Try.underlying29
  info := by kernel_rfl
  zc := rfl
  kpos := by omega
  bsm := by omega
  len _ := rfl
  one x v hv := by simp at hv; rcases hv with rfl | rfl <;> rfl
theorem sp_at {w : World} {a : Option Addr} {n c : Nat} {L : List (Int × Int)} (h : spE.Rd w (.slice a n c) L) (i : Nat) (l : Int × Int) (hp : L[i]? = some l) : ∃ b off, a = some ⟨b, off, none⟩ ∧ w.cell? ⟨b, off + i * 2, none⟩ = some (.int .i64 l.1) ∧ w.cell? ⟨b, off + i * 2 + 1, none⟩ = some (.int .i64 l.2) := by
  obtain ⟨b, off, e, hc⟩ := El.Rd.at h i l hp
  exact ⟨b, off, e, hc 0 (by decide), hc 1 (by decide)⟩

/-- how far two numbers are apart -/
def ad (a b : Int) : Int := if b - a > a - b then b - a else a - b
/-- the drive -/
def dr (p q : Int × Int) : Int := if ad p.2 q.2 > ad p.1 q.1 then ad p.2 q.2 else ad p.1 q.1
/-- small numbers -/
def Sm (x : Int) : Prop := -1073741824 ≤ x ∧ x ≤ 1073741824
theorem ad_le {a b : Int} (ha : Sm a) (hb : Sm b) : 0 ≤ ad a b ∧ ad a b ≤ 2147483648 := by unfold ad Sm at *; split <;> omega

theorem below_drewN (w : World) (q : Nat) : Below w.heap.size w (w.drewN q) := ⟨rfl, rfl, rfl, Nat.le_refl _, fun _ _ => rfl⟩
set_option maxRecDepth 100000 in
theorem apart_any (a b : Int) (w : World) (ha : Sm a) (hb : Sm b) : Calls Try.prog 11 #[.int .i64 a, .int .i64 b] w fun e w' => e = .returned (.int .i64 (ad a b)) ∧ w' = w := by
  obtain ⟨a0, a1⟩ := ha
  obtain ⟨b0, b1⟩ := hb
  by_cases h : b - a > a - b
  · rw [show ad a b = b - a from if_pos h]
    go_enter Try.func11, Try.ntmps11
    go_wp2_with fail
    go_ret
    exact ⟨rfl, rfl⟩
  · rw [show ad a b = a - b from if_neg h]
    go_enter Try.func11, Try.ntmps11
    go_wp2_with fail
    go_ret
    exact ⟨rfl, rfl⟩

theorem below_alloc2 (w : World) (o1 o2 : Obj) : Below w.heap.size w ((w.alloc o1).alloc o2) :=
  ((Below.refl _ _).alloc (Nat.le_refl _) _).alloc (by show w.heap.size ≤ (w.heap.push o1).size; simp) _
theorem heap_new2 (w : World) (o1 o2 : Obj) : ((w.alloc o1).alloc o2).heap[w.heap.size]? = some o1 ∧ ((w.alloc o1).alloc o2).heap[w.heap.size + 1]? = some o2 := by
  constructor
  · show ((w.heap.push o1).push o2)[w.heap.size]? = _
    rw [Array.getElem?_push, if_neg (by simp)]; simp
  · show ((w.heap.push o1).push o2)[w.heap.size + 1]? = _
    rw [Array.getElem?_push, if_pos (by simp)]

/-- two spots in boxes -/
def Two (g : Nat) (x1 y1 x2 y2 : Int) (W : World) : Prop := W.cell? ⟨g, 0, none⟩ = some (.int .i64 x1) ∧ W.cell? ⟨g, 1, none⟩ = some (.int .i64 y1) ∧ W.cell? ⟨g + 1, 0, none⟩ = some (.int .i64 x2) ∧ W.cell? ⟨g + 1, 1, none⟩ = some (.int .i64 y2)
theorem two_new (w : World) (x1 y1 x2 y2 : Int) (t : TypeId) : Two w.heap.size x1 y1 x2 y2 ((w.alloc (.cells #[.int .i64 x1, .int .i64 y1] t)).alloc (.cells #[.int .i64 x2, .int .i64 y2] t)) := by
  obtain ⟨h1, h2⟩ := heap_new2 w (.cells #[.int .i64 x1, .int .i64 y1] t) (.cells #[.int .i64 x2, .int .i64 y2] t)
  exact ⟨(cells_at h1 0).1, (cells_at h1 1).1, (cells_at h2 0).1, (cells_at h2 1).1⟩

set_option maxRecDepth 100000 in
set_option maxHeartbeats 2000000 in
theorem drive_any (x1 y1 x2 y2 : Int) (w : World) (h1 : Sm x1) (h2 : Sm y1) (h3 : Sm x2) (h4 : Sm y2) : Calls Try.prog 6 #[.agg #[.int .i64 x1, .int .i64 y1], .agg #[.int .i64 x2, .int .i64 y2]] w fun e w' => e = .returned (.int .i64 (dr (x1, y1) (x2, y2))) ∧ Below w.heap.size w w' := by
  have K1 := hide (fun W => apart_any x1 x2 W h1 h3)
  have K2 := hide (fun W => apart_any y1 y2 W h2 h4)
  have e : dr (x1, y1) (x2, y2) = if ad y1 y2 > ad x1 x2 then ad y1 y2 else ad x1 x2 := rfl
  rw [e]
  generalize ad x1 x2 = dx at *
  generalize ad y1 y2 = dy at *
  have HB := hide (below_alloc2 w (.cells #[.int .i64 x1, .int .i64 y1] 23) (.cells #[.int .i64 x2, .int .i64 y2] 23))
  have HT := hide (two_new w x1 y1 x2 y2 23)
  obtain ⟨g, hg⟩ : ∃ g, w.heap.size = g := ⟨_, rfl⟩
  rw [hg] at HT
  have SI : Hid (∀ W, Two g x1 y1 x2 y2 W → Two g x1 y1 x2 y2 W.drew) := hide (fun W h => h)
  have SD : Hid (∀ W, Two g x1 y1 x2 y2 W → W.cell? ⟨g, 0, none⟩ = some (.int .i64 x1) ∧ W.cell? ⟨g, 1, none⟩ = some (.int .i64 y1) ∧ W.cell? ⟨g + 1, 0, none⟩ = some (.int .i64 x2) ∧ W.cell? ⟨g + 1, 1, none⟩ = some (.int .i64 y2)) := hide (fun W h => h)
  obtain ⟨S0, hS0⟩ : ∃ S : World → Prop, S = Two g x1 y1 x2 y2 := ⟨_, rfl⟩
  rw [← hS0] at SI SD HT
  clear h1 h2 h3 h4 e hS0
  go_enter Try.func6, Try.ntmps6
  go_upto_region 1 with fail
  try rw [hg]
  generalize ((w.alloc (Obj.cells #[Value.int IntKind.i64 x1, Value.int IntKind.i64 y1] 23)).alloc (Obj.cells #[Value.int IntKind.i64 x2, Value.int IntKind.i64 y2] 23)) = W at *
  have HBd : Hid (Below w.heap.size w W.drew) := hide HB.out.drew
  clear hg
  have hS := SI.out _ HT.out
  refine wp_region_held_drew (S := S0) (by kernel_rfl) hS (fun _ => ?_)
  refine wpAnyH_take (i := 0) (v := .pointer (some ⟨g, 0, none⟩)) rfl (by kernel_rfl) (by kernel_rfl) (by kernel_rfl) (fun _ _ _ h => h) (Or.inl ⟨by rfl, fun W' hW => by go_simp⟩) hS ?_
  refine wpAnyH_take (i := 1) (v := .int .i64 x1) rfl (by kernel_rfl) (by kernel_rfl) (by kernel_rfl) (fun _ _ _ h => h) (Or.inl ⟨by rfl, fun W' hW => by have z0 := SD.out W' hW; go_simp⟩) hS ?_
  refine wpAnyH_take (i := 2) (v := .pointer (some ⟨g + 1, 0, none⟩)) rfl (by kernel_rfl) (by kernel_rfl) (by kernel_rfl) (fun _ _ _ h => h) (Or.inl ⟨by rfl, fun W' hW => by go_simp⟩) hS ?_
  refine wpAnyH_take (i := 3) (v := .int .i64 x2) rfl (by kernel_rfl) (by kernel_rfl) (by kernel_rfl) (fun _ _ _ h => h) (Or.inl ⟨by rfl, fun W' hW => by have z0 := SD.out W' hW; go_simp⟩) hS ?_
  refine wpAnyH_take (i := 5) (v := .pointer (some ⟨g, 1, none⟩)) rfl (by kernel_rfl) (by kernel_rfl) (by kernel_rfl) (fun _ _ _ h => h) (Or.inl ⟨by rfl, fun W' hW => by go_simp⟩) hS ?_
  refine wpAnyH_take (i := 6) (v := .int .i64 y1) rfl (by kernel_rfl) (by kernel_rfl) (by kernel_rfl) (fun _ _ _ h => h) (Or.inl ⟨by rfl, fun W' hW => by have z0 := SD.out W' hW; go_simp⟩) hS ?_
  refine wpAnyH_take (i := 7) (v := .pointer (some ⟨g + 1, 1, none⟩)) rfl (by kernel_rfl) (by kernel_rfl) (by kernel_rfl) (fun _ _ _ h => h) (Or.inl ⟨by rfl, fun W' hW => by go_simp⟩) hS ?_
  refine wpAnyH_take (i := 8) (v := .int .i64 y2) rfl (by kernel_rfl) (by kernel_rfl) (by kernel_rfl) (fun _ _ _ h => h) (Or.inl ⟨by rfl, fun W' hW => by have z0 := SD.out W' hW; go_simp⟩) hS ?_
  refine wpAnyH_ready (rs := [4]) (by kernel_rfl) (by simp) ?_
  refine AllReadyH.cons rfl (fun K hK => ?_) AllReadyH.nil
  go_simp
  go_at_call 11
  refine (K1.out _).mono ?_
  rintro e W4 ⟨rfl, rfl⟩
  go_simp
  refine hK.out _ _ hS (fun _ => ?_)
  clear hK K
  refine wpAnyH_ready (rs := [9]) (by kernel_rfl) (by simp) ?_
  refine AllReadyH.cons rfl (fun K hK => ?_) AllReadyH.nil
  go_simp
  go_at_call 11
  refine (K2.out _).mono ?_
  rintro e W4 ⟨rfl, rfl⟩
  go_simp
  refine hK.out _ _ hS (fun _ => ?_)
  clear hK K
  refine wpAnyH_ready (rs := [10]) (by kernel_rfl) (by simp) ?_
  refine AllReadyH.cons rfl (fun K hK => ?_) AllReadyH.nil
  go_simp
  refine hK.out _ _ hS (fun _ => ?_)
  clear hK K
  refine wpAnyH_ready (rs := [11]) (by kernel_rfl) (by simp) ?_
  refine AllReadyH.cons rfl (fun K hK => ?_) AllReadyH.nil
  go_simp
  refine hK.out _ _ hS (fun _ => ?_)
  clear hK K
  refine wpAnyH_done (by kernel_rfl) ?_ _
  go_wp2_with fail
  all_goals
    go_ret
    exact ⟨rfl, HBd.out⟩
end Go.Proofs.Ytochllbnlnammab
