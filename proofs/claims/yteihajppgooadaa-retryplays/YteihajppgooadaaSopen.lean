/- Open: the numbers of the pieces. -/
import Derived.Test.YteihajppgooadaaSnew
import Derived.OwnWalk
namespace Go.Proofs.Yteihajppgooadaa
open Go.RowKit
set_option linter.unusedVariables false

def u16sE : El Try.prog Int where
  t := 56
  e := 22
  k := 1
  by' := 2
  z := .int .u16 0
  enc x := [.int .u16 x]
  ht := Try.underlying56
  info := by kernel_rfl
  zc := rfl
  kpos := by omega
  bsm := by omega
  len _ := rfl
  one x v hv := by simp at hv; subst hv; rfl
theorem info22 : (Try.prog.info? 22).map (fun i => (i.zero, i.size, i.bytes)) = some (some (.int .u16 0), 1, 2) := by kernel_rfl
theorem make_u16 (w : World) (c : Nat) (hc : c ≤ 100000) : ∃ w', (Instr.makeSlice 56 (.int .i64 0) (.int .i64 (c : Int))).run Try.prog w = .ok (.slice (some ⟨w.heap.size, 0, none⟩) 0 c) w' ∧
    u16sE.Own w' w.heap.size (.slice (some ⟨w.heap.size, 0, none⟩) 0 c) [] ∧ Below w.heap.size w w' := by
  obtain ⟨i, hi, he⟩ := Option.map_eq_some_iff.1 info22
  have e1 : i.zero = some (.int .u16 0) := congrArg Prod.fst he
  have e2 : i.size = 1 := congrArg (fun p => p.2.1) he
  have e3 : i.bytes = 2 := congrArg (fun p => p.2.2) he
  obtain ⟨w', h1, h2, h3⟩ := run_make_own (P := Try.prog) w w.heap.size 56 22 i (.int .u16 0) 1 Try.underlying56 hi e1 e2 .i64 .i64 c (by rw [e3]; omega) (by unfold maxLen; omega) (Nat.le_refl _)
  exact ⟨w', h1, h2, (Below.refl _ _).grown h3 (Nat.le_refl _) (by simp)⟩
theorem u16_new (w : World) (x : Int) (g : Nat) (hg : g = w.heap.size) : u16sE.Rd (w.alloc (.cells #[.int .u16 x] 22)) (.slice (some ⟨g, 0, none⟩) 1 1) [x] := by
  subst hg
  refine .inr ⟨_, 1, rfl, fun i hi => ?_⟩
  rw [addr_plain, Nat.zero_add]
  have e : (w.alloc (.cells #[.int .u16 x] 22)).heap[w.heap.size]? = some (.cells #[.int .u16 x] 22) := by
    show (w.heap.push _)[w.heap.size]? = _
    simp
  unfold World.cell?
  simp only [e]
  have : i < 1 := by simpa [u16sE] using hi
  match i, this with
  | 0, _ => rfl

/-- the numbers of the pieces -/
def Sd.nums (S : Sd) : List Int := S.ps.map (fun p => sq S.first p.n)

set_option maxRecDepth 100000 in
set_option maxHeartbeats 2000000 in
theorem open_any {w : World} {g B : Nat} {S : Sd} (H : Snd w g B S) (hl : S.ps.length ≤ 1000) : Calls Try.prog 23 #[.pointer (some ⟨g, 0, none⟩)] w fun e w' => ∃ v, e = .returned v ∧ u16sE.Own w' w.heap.size v S.nums ∧ Below w.heap.size w w' := by
  obtain ⟨c0, c1, c2, c3, c4, c5⟩ := H.cells
  obtain ⟨a, c, hv, _, _, _, hax⟩ := H.lies.form
  obtain ⟨n, hn⟩ : ∃ n, S.ps.length = n := ⟨_, rfl⟩
  rw [hn] at hv hl
  rw [hv] at c4
  obtain ⟨w1, hmk, ho1, hb1⟩ := make_u16 w n (by omega)
  have d4 : w1.cell? ⟨g, 4, none⟩ = some (.slice a n c) := by rw [hb1.cell (heap_lt H.box)]; exact c4
  have Hn := hide hn
  have Hv := hide hv
  have HH := hide H
  have i0 : (n : Int) ≤ 1000 := by omega
  have i1 : (0 : Int) ≤ (n : Int) := by omega
  have Hb1 := hide hb1
  have Ho1 := hide ho1
  clear H hn hv c0 c1 c2 c3 c5 hb1 ho1
  go_enter Try.func23, Try.ntmps23
  go_wp2_with fail
  go_loopw [3, 17] (fun v3 v17 wr => ∃ k : Nat, k ≤ n ∧ v17 = .int .i64 k ∧ Hid (u16sE.Own wr w.heap.size v3 ((S.ps.take k).map (fun p => sq S.first p.n))) ∧ Hid (Below w.heap.size w wr)) (fun _ v17 _ => n - (intOf v17).toNat)
  case atStart => exact ⟨0, by omega, rfl, by simpa using Ho1, Hb1⟩
  case round =>
    clear Hb1 Ho1 hmk d4 c4
    obtain ⟨k, hk, rfl, Ho, Hb⟩ := hrel
    by_cases hlt : k < n
    · obtain ⟨p, hp⟩ : ∃ p, S.ps[k]? = some p := ⟨_, List.getElem?_eq_getElem (by rw [Hn.out]; exact hlt)⟩
      have hL := (HH.out.keep Hb.out).lies
      obtain ⟨b, c', hv', _⟩ := hL.full (by rw [Hn.out]; omega)
      have hv'' := hv'
      rw [Hv.out] at hv''
      simp only [Value.slice.injEq] at hv''
      obtain ⟨rfl, hnn, rfl⟩ := hv''
      clear hnn
      rw [hv'] at hL
      obtain ⟨e0, e1, e2, e3, _⟩ := hL.at k p hp
      have j0 : (0 : Int) ≤ (k : Int) := by omega
      have j1 : (k : Int) < (n : Int) := by omega
      have Hp := hide hp
      have Hne : Hid ((S.ps.take (k + 1)).map (fun p => sq S.first p.n) = (S.ps.take k).map (fun p => sq S.first p.n) ++ [sq S.first p.n]) := hide (by rw [List.take_add_one, Hp.out, List.map_append]; rfl)
      have Hlen : Hid (((S.ps.take k).map (fun p => sq S.first p.n)).length ≤ 1000) := hide (by rw [List.length_map, List.length_take]; omega)
      clear hL hp hv'
      generalize (S.ps.take k).map (fun p => sq S.first p.n) = xs at *
      generalize sq S.first p.n = x at *
      have b1 := Hb.out.alloc Hb.out.size (.cells #[.int .u16 x, .slice p.a p.l p.c, .int .i64 p.sent, .int .i64 p.ago] 83)
      have Hb2 := hide (b1.alloc b1.size (.cells #[.int .u16 x] 22))
      have Ho2 : Hid (u16sE.Own ((wr.alloc (.cells #[.int .u16 x, .slice p.a p.l p.c, .int .i64 p.sent, .int .i64 p.ago] 83)).alloc (.cells #[.int .u16 x] 22)) w.heap.size u3 xs) := hide (World.ownsRow.alloc (World.ownsRow.alloc Ho.out _) _)
      clear b1
      go_wp2_with (at_builtin; refine u16sE.wp (w0 := w) Hb2.out (by rfl) _ _ rfl _ _ rfl rfl xs [x] Ho2.out (u16_new _ _ _ (by simp)) (by have := Hlen.out; simp; omega) ?_; intro v1 w2 ho2 _ _ hb2; refine Hid.out ?_)
      refine hide ?_
      have HO := hide ho2
      have HB := hide hb2
      clear ho2 hb2
      go_wp2_with fail
      go_roundw
      case rel => exact ⟨k + 1, by omega, by go_num, by rw [Hne.out]; exact HO, HB⟩
      case measure => simp [intOf]; omega
    · have j1 : ¬ (k : Int) < (n : Int) := by omega
      have hkn : (S.ps.take k).map (fun p => sq S.first p.n) = S.nums := by unfold Sd.nums; rw [List.take_of_length_le (by rw [Hn.out]; omega)]
      rw [hkn] at Ho
      go_wp2_with fail
      go_ret
      exact ⟨_, rfl, Ho.out, Hb.out⟩
end Go.Proofs.Yteihajppgooadaa
