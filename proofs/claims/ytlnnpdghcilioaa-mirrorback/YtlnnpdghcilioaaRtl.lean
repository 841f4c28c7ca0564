/- Tells. -/
import Derived.Test.YtlnnpdghcilioaaRmj
namespace Go.Proofs.Ytlnnpdghcilioaa
open Go.RowKit
set_option linter.unusedVariables false
section
variable {w0 w : World} {l : List It} {B g k : Nat} {H : Nat × Nat} {S : Mr} {V : Vm} {R : Rm} {a b : Option Addr} {c e n m : Nat} {ns : List Nd} {es : List Ed}
set_option maxRecDepth 100000 in
set_option maxHeartbeats 8000000 in
theorem tellsS (h : Its w0 (.mir B g H n m es S :: .dm w0.heap.size V R k :: l) w) (L0 : Lyt w0 a b c e n m ns es) (hR : Rel S R n es) : Calls Try.prog 17 #[.pointer (some ⟨g, 0, none⟩), .agg #[.slice a n c, .slice b m e, .slice V.aS V.nS V.cS, .slice V.aT V.nT V.cT, .slice V.aD V.nD V.cD, .slice V.aL V.nL V.cL]] w fun r w' => r = .returned (.bool true) ∧ Its w0 (.mir B g H n m es S :: .dm w0.heap.size V R k :: l) w' := by
  have I1 := hide (h.boxN #[.slice a n c, .slice b m e, .slice V.aS V.nS V.cS, .slice V.aT V.nT V.cT, .slice V.aD V.nD V.cD, .slice V.aL V.nL V.cL] 38 rfl)
  have hlen := mr_len h.one
  have hT : ∀ y ∈ R.td, 1 ≤ y.dev ∧ y.dev ≤ m := fun y hy => by have := hR.devs y hy; rw [L0.hm] at this; exact this
  have K19 : Hid (∀ (W : World) (z : Int), Its w0 (.box w.heap.size #[.slice a n c, .slice b m e, .slice V.aS V.nS V.cS, .slice V.aT V.nT V.cT, .slice V.aD V.nD V.cD, .slice V.aL V.nL V.cL] 38 :: .mir B g H n m es S :: .dm w0.heap.size V R k :: l) W → Calls Try.prog 19 #[.pointer (some ⟨g, 0, none⟩), .int .i64 z] W fun r9 w' => r9 = .returned (.int .i64 (S.whr z)) ∧ w' = W) := hide (fun W z hW => where_m hW.two z)
  have K36 : Hid (∀ (W : World) (z : Int), Its w0 (.box w.heap.size #[.slice a n c, .slice b m e, .slice V.aS V.nS V.cS, .slice V.aT V.nT V.cT, .slice V.aD V.nD V.cD, .slice V.aL V.nL V.cL] 38 :: .mir B g H n m es S :: .dm w0.heap.size V R k :: l) W → Calls Try.prog 36 #[.agg #[.slice a n c, .slice b m e, .slice V.aS V.nS V.cS, .slice V.aT V.nT V.cT, .slice V.aD V.nD V.cD, .slice V.aL V.nL V.cL], .int .i64 z] W fun r9 w' => r9 = .returned (.int .i64 (S.whr z)) ∧ Below W.heap.size W w') := hide (fun W z hW => by have := rwhere_any (a := a) (b := b) (c := c) (e := e) (n := n) (m := m) hW.three z; rwa [hR.whr] at this)
  have K20 : Hid (∀ (W : World) (z : Int), Its w0 (.box w.heap.size #[.slice a n c, .slice b m e, .slice V.aS V.nS V.cS, .slice V.aT V.nT V.cT, .slice V.aD V.nD V.cD, .slice V.aL V.nL V.cL] 38 :: .mir B g H n m es S :: .dm w0.heap.size V R k :: l) W → Calls Try.prog 20 #[.pointer (some ⟨g, 0, none⟩), .int .i64 z] W fun r9 w' => r9 = .returned (.int .i64 (S.att z)) ∧ w' = W) := hide (fun W z hW => at_m hW.two z)
  have K37 : Hid (∀ (W : World) (z : Int), Its w0 (.box w.heap.size #[.slice a n c, .slice b m e, .slice V.aS V.nS V.cS, .slice V.aT V.nT V.cT, .slice V.aD V.nD V.cD, .slice V.aL V.nL V.cL] 38 :: .mir B g H n m es S :: .dm w0.heap.size V R k :: l) W → Calls Try.prog 37 #[.agg #[.slice a n c, .slice b m e, .slice V.aS V.nS V.cS, .slice V.aT V.nT V.cT, .slice V.aD V.nD V.cD, .slice V.aL V.nL V.cL], .int .i64 z] W fun r9 w' => r9 = .returned (.int .i64 (S.att z)) ∧ Below W.heap.size W w') := hide (fun W z hW => by have := rat_any (a := a) (b := b) (c := c) (e := e) (n := n) (m := m) hW.three z; rwa [hR.att] at this)
  have K22 : Hid (∀ (W : World) (z : Int), Its w0 (.box w.heap.size #[.slice a n c, .slice b m e, .slice V.aS V.nS V.cS, .slice V.aT V.nT V.cT, .slice V.aD V.nD V.cD, .slice V.aL V.nL V.cL] 38 :: .mir B g H n m es S :: .dm w0.heap.size V R k :: l) W → Calls Try.prog 22 #[.pointer (some ⟨g, 0, none⟩), .int .i64 z] W fun r9 w' => r9 = .returned (.bool (S.tak z)) ∧ Below W.heap.size W w') := hide (fun W z hW => taken_m hW.two z)
  have K38 : Hid (∀ (W : World) (z : Int), Its w0 (.box w.heap.size #[.slice a n c, .slice b m e, .slice V.aS V.nS V.cS, .slice V.aT V.nT V.cT, .slice V.aD V.nD V.cD, .slice V.aL V.nL V.cL] 38 :: .mir B g H n m es S :: .dm w0.heap.size V R k :: l) W → Calls Try.prog 38 #[.agg #[.slice a n c, .slice b m e, .slice V.aS V.nS V.cS, .slice V.aT V.nT V.cT, .slice V.aD V.nD V.cD, .slice V.aL V.nL V.cL], .int .i64 z] W fun r9 w' => r9 = .returned (.bool (S.tak z)) ∧ Below W.heap.size W w') := hide (fun W z hW => by have := rtaken_any (a := a) (b := b) (c := c) (e := e) (n := n) (m := m) hW.three (L0.keep hW.bel) hT (by omega) z; rwa [hR.tak] at this)
  have K21 : Hid (∀ (W : World) (z : Int), Its w0 (.box w.heap.size #[.slice a n c, .slice b m e, .slice V.aS V.nS V.cS, .slice V.aT V.nT V.cT, .slice V.aD V.nD V.cD, .slice V.aL V.nL V.cL] 38 :: .mir B g H n m es S :: .dm w0.heap.size V R k :: l) W → Calls Try.prog 21 #[.pointer (some ⟨g, 0, none⟩), .int .i64 z] W fun r9 w' => r9 = .returned (.tuple #[.int .i64 (S.told z).1, .int .i64 (S.told z).2.1, .bool (S.told z).2.2]) ∧ Below W.heap.size W w') := hide (fun W z hW => (told_m hW.two z).mono (by rintro e9 w' ⟨he, q, rfl⟩; exact ⟨he, below_drew _ q⟩))
  have K39 : Hid (∀ (W : World) (z : Int), Its w0 (.box w.heap.size #[.slice a n c, .slice b m e, .slice V.aS V.nS V.cS, .slice V.aT V.nT V.cT, .slice V.aD V.nD V.cD, .slice V.aL V.nL V.cL] 38 :: .mir B g H n m es S :: .dm w0.heap.size V R k :: l) W → Calls Try.prog 39 #[.agg #[.slice a n c, .slice b m e, .slice V.aS V.nS V.cS, .slice V.aT V.nT V.cT, .slice V.aD V.nD V.cD, .slice V.aL V.nL V.cL], .int .i64 z] W fun r9 w' => r9 = .returned (.int .i64 (R.fnd z)) ∧ Below W.heap.size W w') := hide (fun W z hW => rfnd_any hW.three z)
  have K28 : Hid (∀ (W : World) (z : Int), Its w0 (.box w.heap.size #[.slice a n c, .slice b m e, .slice V.aS V.nS V.cS, .slice V.aT V.nT V.cT, .slice V.aD V.nD V.cD, .slice V.aL V.nL V.cL] 38 :: .mir B g H n m es S :: .dm w0.heap.size V R k :: l) W → Calls Try.prog 28 #[.pointer (some ⟨g, 0, none⟩), .int .i64 z] W fun r9 w' => r9 = .returned (.tuple #[.int .i64 (S.last z).1, .bool (S.last z).2]) ∧ Below W.heap.size W w') := hide (fun W z hW => (last_m hW.two z).mono (by rintro e9 w' ⟨he, q, rfl⟩; exact ⟨he, below_drew _ q⟩))
  have K40 : Hid (∀ (W : World) (z : Int), Its w0 (.box w.heap.size #[.slice a n c, .slice b m e, .slice V.aS V.nS V.cS, .slice V.aT V.nT V.cT, .slice V.aD V.nD V.cD, .slice V.aL V.nL V.cL] 38 :: .mir B g H n m es S :: .dm w0.heap.size V R k :: l) W → Calls Try.prog 40 #[.agg #[.slice a n c, .slice b m e, .slice V.aS V.nS V.cS, .slice V.aT V.nT V.cT, .slice V.aD V.nD V.cD, .slice V.aL V.nL V.cL], .int .i64 z] W fun r9 w' => r9 = .returned (.tuple #[.int .i64 (S.last z).1, .bool (S.last z).2]) ∧ Below W.heap.size W w') := hide (fun W z hW => by have q0 := rlast_any (a := a) (b := b) (c := c) (e := e) (n := n) (m := m) hW.three z; rw [hR.la z] at q0; exact q0)
  have HTo : Hid (∀ z, (∃ (i : Nat) (x : Td), R.td[i]? = some x ∧ R.fnd z = (i : Int) ∧ S.told z = (x.tote, x.seq, true)) ∨ (R.fnd z = -1 ∧ S.told z = (0, 0, false))) := hide (fun z => hR.told z)
  have HOut : Hid (∀ z : Int, ¬ (0 ≤ z ∧ z < n) → S.tak z = false) := hide (fun z hz => tak_out hR.ok (by unfold Mr.isN; rw [hR.ok.ln]; exact decide_eq_false hz))
  have KD : Hid (∀ W, Its w0 (.box w.heap.size #[.slice a n c, .slice b m e, .slice V.aS V.nS V.cS, .slice V.aT V.nT V.cT, .slice V.aD V.nD V.cD, .slice V.aL V.nL V.cL] 38 :: .mir B g H n m es S :: .dm w0.heap.size V R k :: l) W → Calls Try.prog 18 #[.pointer (some ⟨g, 0, none⟩)] W fun r9 w' => DownP w0 (.mir B g H n m es S :: .box w.heap.size #[.slice a n c, .slice b m e, .slice V.aS V.nS V.cS, .slice V.aT V.nT V.cT, .slice V.aD V.nD V.cD, .slice V.aL V.nL V.cL] 38 :: .dm w0.heap.size V R k :: l) S.down r9 w') := hide (fun W hW => downS hW.swap)
  have HRT : Hid (∀ W, Its w0 (.box w.heap.size #[.slice a n c, .slice b m e, .slice V.aS V.nS V.cS, .slice V.aT V.nT V.cT, .slice V.aD V.nD V.cD, .slice V.aL V.nL V.cL] 38 :: .mir B g H n m es S :: .dm w0.heap.size V R k :: l) W → tdE.Rd W (.slice V.aT V.nT V.cT) R.td) := hide (fun W hW => (dm_t hW.three).rd)
  have HF := hide (dm_f (h.two))
  have hdw := hide hR.dw
  have i0 : (n : Int) ≤ 40 := by omega
  have i1 : (m : Int) ≤ 120 := by omega
  have HRD : Hid (∀ W, (It.dm w0.heap.size V R k).P W → intE.Rd W (.slice V.aD V.nD V.cD) S.down) := hide (fun W hW => by rw [← hdw.out]; exact (dm_d hW).rd)
  have HlD : Hid (S.down.length = V.nD) := hide (by rw [← hdw.out]; exact HF.out.lD)
  have HlT := hide HF.out.lT
  have i2 : (V.nT : Int) ≤ 1000 := by have := HF.out.bT; have := HF.out.bk; omega
  have HbD := hide HF.out.bD
  clear h L0 hR hlen hT HF hdw
  obtain ⟨aS, nS, cS, aT, nT, cT, aD, nD, cD, aL, nL, cL⟩ := V
  dsimp only at *
  go_enter Try.func17, Try.ntmps17
  go_upto_region 1 with fail
  generalize w.alloc (.cells #[.slice a n c, .slice b m e, .slice aS nS cS, .slice aT nT cT, .slice aD nD cD, .slice aL nL cL] 38) = W1 at *
  go_wp2_with fail
  go_loopw [5] (fun v5 wr => ∃ z : Int, v5 = .int .i64 z ∧ -1 ≤ z ∧ z ≤ 32 ∧ Hid (Its w0 (.box w.heap.size #[.slice a n c, .slice b m e, .slice aS nS cS, .slice aT nT cT, .slice aD nD cD, .slice aL nL cL] 38 :: .mir B g H n m es S :: .dm w0.heap.size ⟨aS, nS, cS, aT, nT, cT, aD, nD, cD, aL, nL, cL⟩ R k :: l) wr)) (fun v5 _ => (32 - intOf v5).toNat)
  case atStart => exact ⟨-1, rfl, by omega, by omega, I1⟩
  case round =>
    obtain ⟨z, rfl, hz1, hz2, HR⟩ := hrel
    by_cases hz : z ≤ 31
    case pos =>
      obtain ⟨c0, c1, c2, c3, c4, c5, cf⟩ := Its.cells6 HR.out
      have HD : Hid (Its w0 (.box w.heap.size #[.slice a n c, .slice b m e, .slice aS nS cS, .slice aT nT cT, .slice aD nD cD, .slice aL nL cL] 38 :: .mir B g H n m es S :: .dm w0.heap.size ⟨aS, nS, cS, aT, nT, cT, aD, nD, cD, aL, nL, cL⟩ R k :: l) wr.drew) := hide (HR.out.drew 1)
      go_upto_region 4 with fail
      go_cut [27] (fun v27 wx => v27 = .bool false ∧ Hid (Its w0 (.box w.heap.size #[.slice a n c, .slice b m e, .slice aS nS cS, .slice aT nT cT, .slice aD nD cD, .slice aL nL cL] 38 :: .mir B g H n m es S :: .dm w0.heap.size ⟨aS, nS, cS, aT, nT, cT, aD, nD, cD, aL, nL, cL⟩ R k :: l) wx))
      case first =>
        go_region_with (first
          | (go_at_call 19; refine (K19.out _ z I6.out).mono ?_; rintro e1 W7 ⟨rfl, rfl⟩)
          | (go_at_call 19; refine (K19.out _ z HD.out).mono ?_; rintro e1 W7 ⟨rfl, rfl⟩)
          | (go_at_call 36; refine (K36.out _ z HD.out).mono ?_; rintro e1 W6 ⟨rfl, q⟩; have I6 := hide (HD.out.keep q); clear q; obtain ⟨d0, d1, d2, d3, d4, d5, df⟩ := Its.cells6 I6.out))
        all_goals go_wp2_with fail
        all_goals go_meet
        all_goals exact ⟨by simp, I6⟩
      case rest =>
        obtain ⟨rfl, I7⟩ := hcut
        go_wp2_with fail
        go_roundw
        case rel => exact ⟨z + 1, by go_num, by omega, by omega, I7⟩
        case measure => simp [intOf]; omega
    case neg =>
      have hz3 : ¬ z ≤ 31 := hz
      obtain ⟨WA, rfl⟩ : ∃ W, W = wr := ⟨_, rfl⟩
      clear I1
      go_wp2_with fail
      go_loopw [6] (fun v6 wr => ∃ y : Int, v6 = .int .i64 y ∧ -1 ≤ y ∧ y ≤ (n : Int) + 1 ∧ Hid (Its w0 (.box w.heap.size #[.slice a n c, .slice b m e, .slice aS nS cS, .slice aT nT cT, .slice aD nD cD, .slice aL nL cL] 38 :: .mir B g H n m es S :: .dm w0.heap.size ⟨aS, nS, cS, aT, nT, cT, aD, nD, cD, aL, nL, cL⟩ R k :: l) wr)) (fun v6 _ => ((n : Int) + 1 - intOf v6).toNat)
      case atStart => exact ⟨-1, rfl, by omega, by omega, HR⟩
      case round =>
        obtain ⟨y, rfl, hy1, hy2, HR2⟩ := hrel
        obtain ⟨c0, c1, c2, c3, c4, c5, cf⟩ := Its.cells6 HR2.out
        by_cases hy : y ≤ (n : Int)
        case pos =>
          have HD : Hid (Its w0 (.box w.heap.size #[.slice a n c, .slice b m e, .slice aS nS cS, .slice aT nT cT, .slice aD nD cD, .slice aL nL cL] 38 :: .mir B g H n m es S :: .dm w0.heap.size ⟨aS, nS, cS, aT, nT, cT, aD, nD, cD, aL, nL, cL⟩ R k :: l) wr.drew) := hide (HR2.out.drew 1)
          go_upto_region 9 with fail
          go_cut [63] (fun v63 wx => v63 = .bool false ∧ Hid (Its w0 (.box w.heap.size #[.slice a n c, .slice b m e, .slice aS nS cS, .slice aT nT cT, .slice aD nD cD, .slice aL nL cL] 38 :: .mir B g H n m es S :: .dm w0.heap.size ⟨aS, nS, cS, aT, nT, cT, aD, nD, cD, aL, nL, cL⟩ R k :: l) wx))
          case first =>
            obtain ⟨S0, hS0⟩ : ∃ Sx : World → Prop, Sx = fun W => Its w0 (.box w.heap.size #[.slice a n c, .slice b m e, .slice aS nS cS, .slice aT nT cT, .slice aD nD cD, .slice aL nL cL] 38 :: .mir B g H n m es S :: .dm w0.heap.size ⟨aS, nS, cS, aT, nT, cT, aD, nD, cD, aL, nL, cL⟩ R k :: l) W := ⟨_, rfl⟩
            have SI : Hid (∀ W, Its w0 (.box w.heap.size #[.slice a n c, .slice b m e, .slice aS nS cS, .slice aT nT cT, .slice aD nD cD, .slice aL nL cL] 38 :: .mir B g H n m es S :: .dm w0.heap.size ⟨aS, nS, cS, aT, nT, cT, aD, nD, cD, aL, nL, cL⟩ R k :: l) W → S0 W) := hide (fun W h => by rw [hS0]; exact h)
            have SO : Hid (∀ W, S0 W → Its w0 (.box w.heap.size #[.slice a n c, .slice b m e, .slice aS nS cS, .slice aT nT cT, .slice aD nD cD, .slice aL nL cL] 38 :: .mir B g H n m es S :: .dm w0.heap.size ⟨aS, nS, cS, aT, nT, cT, aD, nD, cD, aL, nL, cL⟩ R k :: l) W) := hide (fun W h => by rw [hS0] at h; exact h)
            have SC : Hid (∀ W, S0 W → W.cell? ⟨w.heap.size, 0, none⟩ = some (.slice a n c) ∧ W.cell? ⟨w.heap.size, 1, none⟩ = some (.slice b m e) ∧ W.cell? ⟨w.heap.size, 2, none⟩ = some (.slice aS nS cS) ∧ W.cell? ⟨w.heap.size, 3, none⟩ = some (.slice aT nT cT) ∧ W.cell? ⟨w.heap.size, 4, none⟩ = some (.slice aD nD cD) ∧ W.cell? ⟨w.heap.size, 5, none⟩ = some (.slice aL nL cL) ∧ True) := hide (fun W h => by have q := Its.cells6 (SO.out W h); exact ⟨q.1, q.2.1, q.2.2.1, q.2.2.2.1, q.2.2.2.2.1, q.2.2.2.2.2.1, trivial⟩)
            have hSd := SI.out _ HD.out
            have HO := HOut.out y
            have K20y := hide (fun W h => K20.out W y h)
            have K37y := hide (fun W h => K37.out W y h)
            have K22y := hide (fun W h => K22.out W y h)
            have K38y := hide (fun W h => K38.out W y h)
            clear hS0 HOut HTo K19 K36 K21 K39 K28 K40 KD HRT HRD K20 K37 K22 K38
            generalize S.att y = av at *
            generalize S.tak y = tk at *
            by_cases y0 : 0 ≤ y
            · by_cases y1 : y < (n : Int)
              · clear HO
                refine wp_region_held_drew (S := S0) (by kernel_rfl) hSd (fun _ => ?_)
                refine wpAnyH_take (i := 0) (v := .pointer (some ⟨g, 0, none⟩)) rfl (by kernel_rfl) (by kernel_rfl) (by kernel_rfl) (fun _ _ _ h => h) (Or.inl ⟨by kernel_rfl, fun W' hW => by go_simp⟩) hSd ?_
                refine wpAnyH_take (i := 1) (v := .int .i64 y) rfl (by kernel_rfl) (by kernel_rfl) (by kernel_rfl) (fun _ _ _ h => h) (Or.inl ⟨by kernel_rfl, fun W' hW => by go_simp⟩) hSd ?_
                refine wpAnyH_take (i := 3) (v := .agg #[.slice a n c, .slice b m e, .slice aS nS cS, .slice aT nT cT, .slice aD nD cD, .slice aL nL cL]) rfl (by kernel_rfl) (by kernel_rfl) (by kernel_rfl) (fun _ _ _ h => h) (Or.inl ⟨by kernel_rfl, fun W' hW => by have ⟨z0, z1, z2, z3, z4, z5, _⟩ := SC.out W' hW; go_simp⟩) hSd ?_
                refine wpAnyH_take (i := 4) (v := .int .i64 y) rfl (by kernel_rfl) (by kernel_rfl) (by kernel_rfl) (fun _ _ _ h => h) (Or.inl ⟨by kernel_rfl, fun W' hW => by go_simp⟩) hSd ?_
                refine wpAnyH_ready (rs := [2]) (by kernel_rfl) (by simp) ?_
                refine AllReadyH.cons rfl (fun K hK => ?_) AllReadyH.nil
                go_simp
                go_at_call 20
                refine (K20y.out _ (SO.out _ hSd)).mono ?_
                rintro e1 W7 ⟨rfl, rfl⟩
                go_simp
                refine hK.out _ _ hSd (fun _ => ?_)
                clear hK K
                refine wpAnyH_ready (rs := [5]) (by kernel_rfl) (by simp) ?_
                refine AllReadyH.cons rfl (fun K hK => ?_) AllReadyH.nil
                go_simp
                go_at_call 37
                refine (K37y.out _ (SO.out _ hSd)).mono ?_
                rintro e1 WsA ⟨rfl, q⟩
                have sA := SI.out _ ((SO.out _ hSd).keep q)
                clear q
                go_simp
                refine hK.out _ _ sA (fun _ => ?_)
                clear hK K
                refine wpAnyH_take (i := 6) (v := .bool false) rfl (by kernel_rfl) (by kernel_rfl) (by kernel_rfl) (fun _ _ _ h => h) (Or.inl ⟨by kernel_rfl, fun W' hW => by go_simp⟩) sA ?_
                refine wpAnyH_take (i := 7) (v := .bool false) rfl (by kernel_rfl) (by kernel_rfl) (by kernel_rfl) (fun _ _ _ h => h) (Or.inl ⟨by kernel_rfl, fun W' hW => by go_simp⟩) sA ?_
                refine wpAnyH_take (i := 8) (v := .pointer (some ⟨g, 0, none⟩)) rfl (by kernel_rfl) (by kernel_rfl) (by kernel_rfl) (fun _ _ _ h => h) (Or.inl ⟨by kernel_rfl, fun W' hW => by go_simp⟩) sA ?_
                refine wpAnyH_take (i := 9) (v := .int .i64 y) rfl (by kernel_rfl) (by kernel_rfl) (by kernel_rfl) (fun _ _ _ h => h) (Or.inl ⟨by kernel_rfl, fun W' hW => by go_simp⟩) sA ?_
                refine wpAnyH_take (i := 11) (v := .int .i64 y) rfl (by kernel_rfl) (by kernel_rfl) (by kernel_rfl) (fun _ _ _ h => h) (Or.inl ⟨by kernel_rfl, fun W' hW => by go_simp⟩) sA ?_
                refine wpAnyH_take (i := 12) (v := .bool true) rfl (by kernel_rfl) (by kernel_rfl) (by kernel_rfl) (fun _ _ _ h => h) (Or.inl ⟨by kernel_rfl, fun W' hW => by go_simp⟩) sA ?_
                refine wpAnyH_ready (rs := [10]) (by kernel_rfl) (by simp) ?_
                refine AllReadyH.cons rfl (fun K hK => ?_) AllReadyH.nil
                go_simp
                go_at_call 22
                refine (K22y.out _ (SO.out _ sA)).mono ?_
                rintro e1 WsAa ⟨rfl, q⟩
                have sAa := SI.out _ ((SO.out _ sA).keep q)
                clear q
                go_simp
                refine hK.out _ _ sAa (fun _ => ?_)
                clear hK K
                refine wpAnyH_take (i := 13) (v := .bool true) rfl (by kernel_rfl) (by kernel_rfl) (by kernel_rfl) (fun _ _ _ h => h) (Or.inl ⟨by kernel_rfl, fun W' hW => by go_simp⟩) sAa ?_
                refine wpAnyH_take (i := 14) (v := .int .i64 y) rfl (by kernel_rfl) (by kernel_rfl) (by kernel_rfl) (fun _ _ _ h => h) (Or.inl ⟨by kernel_rfl, fun W' hW => by go_simp⟩) sAa ?_
                refine wpAnyH_take (i := 15) (v := .pointer (some ⟨w.heap.size, 0, none⟩)) rfl (by kernel_rfl) (by kernel_rfl) (by kernel_rfl) (fun _ _ _ h => h) (Or.inl ⟨by kernel_rfl, fun W' hW => by go_simp⟩) sAa ?_
                refine wpAnyH_take (i := 16) (v := .pointer (some ⟨w.heap.size, 0, none⟩)) rfl (by kernel_rfl) (by kernel_rfl) (by kernel_rfl) (fun _ _ _ h => h) (Or.inl ⟨by kernel_rfl, fun W' hW => by go_simp⟩) sAa ?_
                refine wpAnyH_take (i := 17) (v := .slice a n c) rfl (by kernel_rfl) (by kernel_rfl) (by kernel_rfl) (fun _ _ _ h => h) (Or.inl ⟨by kernel_rfl, fun W' hW => by have ⟨z0, z1, z2, z3, z4, z5, _⟩ := SC.out W' hW; go_simp⟩) sAa ?_
                refine wpAnyH_take (i := 18) (v := .int .i64 (n : Int)) rfl (by kernel_rfl) (by kernel_rfl) (by kernel_rfl) (fun _ _ _ h => h) (Or.inl ⟨by kernel_rfl, fun W' hW => by go_simp⟩) sAa ?_
                refine wpAnyH_take (i := 19) (v := .bool true) rfl (by kernel_rfl) (by kernel_rfl) (by kernel_rfl) (fun _ _ _ h => h) (Or.inl ⟨by kernel_rfl, fun W' hW => by go_simp⟩) sAa ?_
                refine wpAnyH_take (i := 20) (v := .bool true) rfl (by kernel_rfl) (by kernel_rfl) (by kernel_rfl) (fun _ _ _ h => h) (Or.inl ⟨by kernel_rfl, fun W' hW => by go_simp⟩) sAa ?_
                refine wpAnyH_take (i := 21) (v := .bool true) rfl (by kernel_rfl) (by kernel_rfl) (by kernel_rfl) (fun _ _ _ h => h) (Or.inl ⟨by kernel_rfl, fun W' hW => by go_simp⟩) sAa ?_
                refine wpAnyH_take (i := 22) (v := .agg #[.slice a n c, .slice b m e, .slice aS nS cS, .slice aT nT cT, .slice aD nD cD, .slice aL nL cL]) rfl (by kernel_rfl) (by kernel_rfl) (by kernel_rfl) (fun _ _ _ h => h) (Or.inl ⟨by kernel_rfl, fun W' hW => by have ⟨z0, z1, z2, z3, z4, z5, _⟩ := SC.out W' hW; go_simp⟩) sAa ?_
                refine wpAnyH_take (i := 23) (v := .int .i64 y) rfl (by kernel_rfl) (by kernel_rfl) (by kernel_rfl) (fun _ _ _ h => h) (Or.inl ⟨by kernel_rfl, fun W' hW => by go_simp⟩) sAa ?_
                refine wpAnyH_ready (rs := [24]) (by kernel_rfl) (by simp) ?_
                refine AllReadyH.cons rfl (fun K hK => ?_) AllReadyH.nil
                go_simp
                go_at_call 38
                refine (K38y.out _ (SO.out _ sAa)).mono ?_
                rintro e1 WsAab ⟨rfl, q⟩
                have sAab := SI.out _ ((SO.out _ sAa).keep q)
                clear q
                go_simp
                refine hK.out _ _ sAab (fun _ => ?_)
                clear hK K
                refine wpAnyH_take (i := 25) (v := .bool tk) rfl (by kernel_rfl) (by kernel_rfl) (by kernel_rfl) (fun _ _ _ h => h) (Or.inl ⟨by kernel_rfl, fun W' hW => by go_simp⟩) sAab ?_
                refine wpAnyH_take (i := 26) (v := .bool false) rfl (by kernel_rfl) (by kernel_rfl) (by kernel_rfl) (fun _ _ _ h => h) (Or.inl ⟨by kernel_rfl, fun W' hW => by go_simp⟩) sAab ?_
                refine wpAnyH_ready (rs := [27]) (by kernel_rfl) (by simp) ?_
                refine AllReadyH.cons rfl (fun K hK => ?_) AllReadyH.nil
                go_simp
                refine hK.out _ _ sAab (fun _ => ?_)
                clear hK K
                refine wpAnyH_done (by kernel_rfl) ?_ _
                go_wp2_with fail
                go_meet
                exact ⟨rfl, hide (SO.out _ sAab)⟩
              · have ho := HO (fun q => y1 q.2)
                subst ho
                clear HO
                refine wp_region_held_drew (S := S0) (by kernel_rfl) hSd (fun _ => ?_)
                refine wpAnyH_take (i := 0) (v := .pointer (some ⟨g, 0, none⟩)) rfl (by kernel_rfl) (by kernel_rfl) (by kernel_rfl) (fun _ _ _ h => h) (Or.inl ⟨by kernel_rfl, fun W' hW => by go_simp⟩) hSd ?_
                refine wpAnyH_take (i := 1) (v := .int .i64 y) rfl (by kernel_rfl) (by kernel_rfl) (by kernel_rfl) (fun _ _ _ h => h) (Or.inl ⟨by kernel_rfl, fun W' hW => by go_simp⟩) hSd ?_
                refine wpAnyH_take (i := 3) (v := .agg #[.slice a n c, .slice b m e, .slice aS nS cS, .slice aT nT cT, .slice aD nD cD, .slice aL nL cL]) rfl (by kernel_rfl) (by kernel_rfl) (by kernel_rfl) (fun _ _ _ h => h) (Or.inl ⟨by kernel_rfl, fun W' hW => by have ⟨z0, z1, z2, z3, z4, z5, _⟩ := SC.out W' hW; go_simp⟩) hSd ?_
                refine wpAnyH_take (i := 4) (v := .int .i64 y) rfl (by kernel_rfl) (by kernel_rfl) (by kernel_rfl) (fun _ _ _ h => h) (Or.inl ⟨by kernel_rfl, fun W' hW => by go_simp⟩) hSd ?_
                refine wpAnyH_ready (rs := [2]) (by kernel_rfl) (by simp) ?_
                refine AllReadyH.cons rfl (fun K hK => ?_) AllReadyH.nil
                go_simp
                go_at_call 20
                refine (K20y.out _ (SO.out _ hSd)).mono ?_
                rintro e1 W7 ⟨rfl, rfl⟩
                go_simp
                refine hK.out _ _ hSd (fun _ => ?_)
                clear hK K
                refine wpAnyH_ready (rs := [5]) (by kernel_rfl) (by simp) ?_
                refine AllReadyH.cons rfl (fun K hK => ?_) AllReadyH.nil
                go_simp
                go_at_call 37
                refine (K37y.out _ (SO.out _ hSd)).mono ?_
                rintro e1 WsA ⟨rfl, q⟩
                have sA := SI.out _ ((SO.out _ hSd).keep q)
                clear q
                go_simp
                refine hK.out _ _ sA (fun _ => ?_)
                clear hK K
                refine wpAnyH_take (i := 6) (v := .bool false) rfl (by kernel_rfl) (by kernel_rfl) (by kernel_rfl) (fun _ _ _ h => h) (Or.inl ⟨by kernel_rfl, fun W' hW => by go_simp⟩) sA ?_
                refine wpAnyH_take (i := 7) (v := .bool false) rfl (by kernel_rfl) (by kernel_rfl) (by kernel_rfl) (fun _ _ _ h => h) (Or.inl ⟨by kernel_rfl, fun W' hW => by go_simp⟩) sA ?_
                refine wpAnyH_take (i := 8) (v := .pointer (some ⟨g, 0, none⟩)) rfl (by kernel_rfl) (by kernel_rfl) (by kernel_rfl) (fun _ _ _ h => h) (Or.inl ⟨by kernel_rfl, fun W' hW => by go_simp⟩) sA ?_
                refine wpAnyH_take (i := 9) (v := .int .i64 y) rfl (by kernel_rfl) (by kernel_rfl) (by kernel_rfl) (fun _ _ _ h => h) (Or.inl ⟨by kernel_rfl, fun W' hW => by go_simp⟩) sA ?_
                refine wpAnyH_take (i := 11) (v := .int .i64 y) rfl (by kernel_rfl) (by kernel_rfl) (by kernel_rfl) (fun _ _ _ h => h) (Or.inl ⟨by kernel_rfl, fun W' hW => by go_simp⟩) sA ?_
                refine wpAnyH_take (i := 12) (v := .bool true) rfl (by kernel_rfl) (by kernel_rfl) (by kernel_rfl) (fun _ _ _ h => h) (Or.inl ⟨by kernel_rfl, fun W' hW => by go_simp⟩) sA ?_
                refine wpAnyH_ready (rs := [10]) (by kernel_rfl) (by simp) ?_
                refine AllReadyH.cons rfl (fun K hK => ?_) AllReadyH.nil
                go_simp
                go_at_call 22
                refine (K22y.out _ (SO.out _ sA)).mono ?_
                rintro e1 WsAa ⟨rfl, q⟩
                have sAa := SI.out _ ((SO.out _ sA).keep q)
                clear q
                go_simp
                refine hK.out _ _ sAa (fun _ => ?_)
                clear hK K
                refine wpAnyH_take (i := 13) (v := .bool true) rfl (by kernel_rfl) (by kernel_rfl) (by kernel_rfl) (fun _ _ _ h => h) (Or.inl ⟨by kernel_rfl, fun W' hW => by go_simp⟩) sAa ?_
                refine wpAnyH_take (i := 14) (v := .int .i64 y) rfl (by kernel_rfl) (by kernel_rfl) (by kernel_rfl) (fun _ _ _ h => h) (Or.inl ⟨by kernel_rfl, fun W' hW => by go_simp⟩) sAa ?_
                refine wpAnyH_take (i := 15) (v := .pointer (some ⟨w.heap.size, 0, none⟩)) rfl (by kernel_rfl) (by kernel_rfl) (by kernel_rfl) (fun _ _ _ h => h) (Or.inl ⟨by kernel_rfl, fun W' hW => by go_simp⟩) sAa ?_
                refine wpAnyH_take (i := 16) (v := .pointer (some ⟨w.heap.size, 0, none⟩)) rfl (by kernel_rfl) (by kernel_rfl) (by kernel_rfl) (fun _ _ _ h => h) (Or.inl ⟨by kernel_rfl, fun W' hW => by go_simp⟩) sAa ?_
                refine wpAnyH_take (i := 17) (v := .slice a n c) rfl (by kernel_rfl) (by kernel_rfl) (by kernel_rfl) (fun _ _ _ h => h) (Or.inl ⟨by kernel_rfl, fun W' hW => by have ⟨z0, z1, z2, z3, z4, z5, _⟩ := SC.out W' hW; go_simp⟩) sAa ?_
                refine wpAnyH_take (i := 18) (v := .int .i64 (n : Int)) rfl (by kernel_rfl) (by kernel_rfl) (by kernel_rfl) (fun _ _ _ h => h) (Or.inl ⟨by kernel_rfl, fun W' hW => by go_simp⟩) sAa ?_
                refine wpAnyH_take (i := 19) (v := .bool false) rfl (by kernel_rfl) (by kernel_rfl) (by kernel_rfl) (fun _ _ _ h => h) (Or.inl ⟨by kernel_rfl, fun W' hW => by go_simp⟩) sAa ?_
                refine wpAnyH_take (i := 20) (v := .bool false) rfl (by kernel_rfl) (by kernel_rfl) (by kernel_rfl) (fun _ _ _ h => h) (Or.inl ⟨by kernel_rfl, fun W' hW => by go_simp⟩) sAa ?_
                refine wpAnyH_take (i := 21) (v := .bool false) rfl (by kernel_rfl) (by kernel_rfl) (by kernel_rfl) (fun _ _ _ h => h) (Or.inl ⟨by kernel_rfl, fun W' hW => by go_simp⟩) sAa ?_
                refine wpAnyH_take (i := 22) (v := undef) rfl (by kernel_rfl) (by kernel_rfl) (by kernel_rfl) (fun _ _ _ h => h) (Or.inr ⟨by kernel_rfl, rfl⟩) sAa ?_
                refine wpAnyH_take (i := 23) (v := undef) rfl (by kernel_rfl) (by kernel_rfl) (by kernel_rfl) (fun _ _ _ h => h) (Or.inr ⟨by kernel_rfl, rfl⟩) sAa ?_
                refine wpAnyH_take (i := 24) (v := undef) rfl (by kernel_rfl) (by kernel_rfl) (by kernel_rfl) (fun _ _ _ h => h) (Or.inr ⟨by kernel_rfl, rfl⟩) sAa ?_
                refine wpAnyH_take (i := 25) (v := .bool false) rfl (by kernel_rfl) (by kernel_rfl) (by kernel_rfl) (fun _ _ _ h => h) (Or.inl ⟨by kernel_rfl, fun W' hW => by go_simp⟩) sAa ?_
                refine wpAnyH_take (i := 26) (v := .bool false) rfl (by kernel_rfl) (by kernel_rfl) (by kernel_rfl) (fun _ _ _ h => h) (Or.inl ⟨by kernel_rfl, fun W' hW => by go_simp⟩) sAa ?_
                refine wpAnyH_ready (rs := [27]) (by kernel_rfl) (by simp) ?_
                refine AllReadyH.cons rfl (fun K hK => ?_) AllReadyH.nil
                go_simp
                refine hK.out _ _ sAa (fun _ => ?_)
                clear hK K
                refine wpAnyH_done (by kernel_rfl) ?_ _
                go_wp2_with fail
                go_meet
                exact ⟨rfl, hide (SO.out _ sAa)⟩
            · have ho := HO (fun q => y0 q.1)
              subst ho
              clear HO
              refine wp_region_held_drew (S := S0) (by kernel_rfl) hSd (fun _ => ?_)
              refine wpAnyH_take (i := 0) (v := .pointer (some ⟨g, 0, none⟩)) rfl (by kernel_rfl) (by kernel_rfl) (by kernel_rfl) (fun _ _ _ h => h) (Or.inl ⟨by kernel_rfl, fun W' hW => by go_simp⟩) hSd ?_
              refine wpAnyH_take (i := 1) (v := .int .i64 y) rfl (by kernel_rfl) (by kernel_rfl) (by kernel_rfl) (fun _ _ _ h => h) (Or.inl ⟨by kernel_rfl, fun W' hW => by go_simp⟩) hSd ?_
              refine wpAnyH_take (i := 3) (v := .agg #[.slice a n c, .slice b m e, .slice aS nS cS, .slice aT nT cT, .slice aD nD cD, .slice aL nL cL]) rfl (by kernel_rfl) (by kernel_rfl) (by kernel_rfl) (fun _ _ _ h => h) (Or.inl ⟨by kernel_rfl, fun W' hW => by have ⟨z0, z1, z2, z3, z4, z5, _⟩ := SC.out W' hW; go_simp⟩) hSd ?_
              refine wpAnyH_take (i := 4) (v := .int .i64 y) rfl (by kernel_rfl) (by kernel_rfl) (by kernel_rfl) (fun _ _ _ h => h) (Or.inl ⟨by kernel_rfl, fun W' hW => by go_simp⟩) hSd ?_
              refine wpAnyH_ready (rs := [2]) (by kernel_rfl) (by simp) ?_
              refine AllReadyH.cons rfl (fun K hK => ?_) AllReadyH.nil
              go_simp
              go_at_call 20
              refine (K20y.out _ (SO.out _ hSd)).mono ?_
              rintro e1 W7 ⟨rfl, rfl⟩
              go_simp
              refine hK.out _ _ hSd (fun _ => ?_)
              clear hK K
              refine wpAnyH_ready (rs := [5]) (by kernel_rfl) (by simp) ?_
              refine AllReadyH.cons rfl (fun K hK => ?_) AllReadyH.nil
              go_simp
              go_at_call 37
              refine (K37y.out _ (SO.out _ hSd)).mono ?_
              rintro e1 WsA ⟨rfl, q⟩
              have sA := SI.out _ ((SO.out _ hSd).keep q)
              clear q
              go_simp
              refine hK.out _ _ sA (fun _ => ?_)
              clear hK K
              refine wpAnyH_take (i := 6) (v := .bool false) rfl (by kernel_rfl) (by kernel_rfl) (by kernel_rfl) (fun _ _ _ h => h) (Or.inl ⟨by kernel_rfl, fun W' hW => by go_simp⟩) sA ?_
              refine wpAnyH_take (i := 7) (v := .bool false) rfl (by kernel_rfl) (by kernel_rfl) (by kernel_rfl) (fun _ _ _ h => h) (Or.inl ⟨by kernel_rfl, fun W' hW => by go_simp⟩) sA ?_
              refine wpAnyH_take (i := 8) (v := .pointer (some ⟨g, 0, none⟩)) rfl (by kernel_rfl) (by kernel_rfl) (by kernel_rfl) (fun _ _ _ h => h) (Or.inl ⟨by kernel_rfl, fun W' hW => by go_simp⟩) sA ?_
              refine wpAnyH_take (i := 9) (v := .int .i64 y) rfl (by kernel_rfl) (by kernel_rfl) (by kernel_rfl) (fun _ _ _ h => h) (Or.inl ⟨by kernel_rfl, fun W' hW => by go_simp⟩) sA ?_
              refine wpAnyH_take (i := 11) (v := .int .i64 y) rfl (by kernel_rfl) (by kernel_rfl) (by kernel_rfl) (fun _ _ _ h => h) (Or.inl ⟨by kernel_rfl, fun W' hW => by go_simp⟩) sA ?_
              refine wpAnyH_take (i := 12) (v := .bool false) rfl (by kernel_rfl) (by kernel_rfl) (by kernel_rfl) (fun _ _ _ h => h) (Or.inl ⟨by kernel_rfl, fun W' hW => by go_simp⟩) sA ?_
              refine wpAnyH_ready (rs := [10]) (by kernel_rfl) (by simp) ?_
              refine AllReadyH.cons rfl (fun K hK => ?_) AllReadyH.nil
              go_simp
              go_at_call 22
              refine (K22y.out _ (SO.out _ sA)).mono ?_
              rintro e1 WsAa ⟨rfl, q⟩
              have sAa := SI.out _ ((SO.out _ sA).keep q)
              clear q
              go_simp
              refine hK.out _ _ sAa (fun _ => ?_)
              clear hK K
              refine wpAnyH_take (i := 13) (v := .bool false) rfl (by kernel_rfl) (by kernel_rfl) (by kernel_rfl) (fun _ _ _ h => h) (Or.inl ⟨by kernel_rfl, fun W' hW => by go_simp⟩) sAa ?_
              refine wpAnyH_take (i := 14) (v := undef) rfl (by kernel_rfl) (by kernel_rfl) (by kernel_rfl) (fun _ _ _ h => h) (Or.inr ⟨by kernel_rfl, rfl⟩) sAa ?_
              refine wpAnyH_take (i := 15) (v := undef) rfl (by kernel_rfl) (by kernel_rfl) (by kernel_rfl) (fun _ _ _ h => h) (Or.inr ⟨by kernel_rfl, rfl⟩) sAa ?_
              refine wpAnyH_take (i := 16) (v := undef) rfl (by kernel_rfl) (by kernel_rfl) (by kernel_rfl) (fun _ _ _ h => h) (Or.inr ⟨by kernel_rfl, rfl⟩) sAa ?_
              refine wpAnyH_take (i := 17) (v := undef) rfl (by kernel_rfl) (by kernel_rfl) (by kernel_rfl) (fun _ _ _ h => h) (Or.inr ⟨by kernel_rfl, rfl⟩) sAa ?_
              refine wpAnyH_take (i := 18) (v := undef) rfl (by kernel_rfl) (by kernel_rfl) (by kernel_rfl) (fun _ _ _ h => h) (Or.inr ⟨by kernel_rfl, rfl⟩) sAa ?_
              refine wpAnyH_take (i := 19) (v := undef) rfl (by kernel_rfl) (by kernel_rfl) (by kernel_rfl) (fun _ _ _ h => h) (Or.inr ⟨by kernel_rfl, rfl⟩) sAa ?_
              refine wpAnyH_take (i := 20) (v := .bool false) rfl (by kernel_rfl) (by kernel_rfl) (by kernel_rfl) (fun _ _ _ h => h) (Or.inl ⟨by kernel_rfl, fun W' hW => by go_simp⟩) sAa ?_
              refine wpAnyH_take (i := 21) (v := .bool false) rfl (by kernel_rfl) (by kernel_rfl) (by kernel_rfl) (fun _ _ _ h => h) (Or.inl ⟨by kernel_rfl, fun W' hW => by go_simp⟩) sAa ?_
              refine wpAnyH_take (i := 22) (v := undef) rfl (by kernel_rfl) (by kernel_rfl) (by kernel_rfl) (fun _ _ _ h => h) (Or.inr ⟨by kernel_rfl, rfl⟩) sAa ?_
              refine wpAnyH_take (i := 23) (v := undef) rfl (by kernel_rfl) (by kernel_rfl) (by kernel_rfl) (fun _ _ _ h => h) (Or.inr ⟨by kernel_rfl, rfl⟩) sAa ?_
              refine wpAnyH_take (i := 24) (v := undef) rfl (by kernel_rfl) (by kernel_rfl) (by kernel_rfl) (fun _ _ _ h => h) (Or.inr ⟨by kernel_rfl, rfl⟩) sAa ?_
              refine wpAnyH_take (i := 25) (v := .bool false) rfl (by kernel_rfl) (by kernel_rfl) (by kernel_rfl) (fun _ _ _ h => h) (Or.inl ⟨by kernel_rfl, fun W' hW => by go_simp⟩) sAa ?_
              refine wpAnyH_take (i := 26) (v := .bool false) rfl (by kernel_rfl) (by kernel_rfl) (by kernel_rfl) (fun _ _ _ h => h) (Or.inl ⟨by kernel_rfl, fun W' hW => by go_simp⟩) sAa ?_
              refine wpAnyH_ready (rs := [27]) (by kernel_rfl) (by simp) ?_
              refine AllReadyH.cons rfl (fun K hK => ?_) AllReadyH.nil
              go_simp
              refine hK.out _ _ sAa (fun _ => ?_)
              clear hK K
              refine wpAnyH_done (by kernel_rfl) ?_ _
              go_wp2_with fail
              go_meet
              exact ⟨rfl, hide (SO.out _ sAa)⟩
          case rest =>
            obtain ⟨rfl, I7⟩ := hcut
            go_wp2_with fail
            go_roundw
            case rel => exact ⟨y + 1, by go_num, by omega, by omega, I7⟩
            case measure => simp [intOf]; omega
        case neg =>
          have hy3 : ¬ y ≤ (n : Int) := hy
          obtain ⟨WB, rfl⟩ : ∃ W, W = wr := ⟨_, rfl⟩
          have q1 : wrap64 ((m : Int) + 1) = (m : Int) + 1 := by unfold wrap64; omega
          clear HR HOut K19 K36 K20 K37 K22 K38
          go_wp2_with fail
          go_loopw [7] (fun v7 wr => ∃ d : Int, v7 = .int .i64 d ∧ -1 ≤ d ∧ d ≤ (m : Int) + 2 ∧ Hid (Its w0 (.box w.heap.size #[.slice a n c, .slice b m e, .slice aS nS cS, .slice aT nT cT, .slice aD nD cD, .slice aL nL cL] 38 :: .mir B g H n m es S :: .dm w0.heap.size ⟨aS, nS, cS, aT, nT, cT, aD, nD, cD, aL, nL, cL⟩ R k :: l) wr)) (fun v7 _ => ((m : Int) + 2 - intOf v7).toNat)
          case atStart => exact ⟨-1, rfl, by omega, by omega, HR2⟩
          case round =>
            obtain ⟨d, rfl, hd1, hd2, HR3⟩ := hrel
            obtain ⟨c0, c1, c2, c3, c4, c5, cf⟩ := Its.cells6 HR3.out
            by_cases hd : d ≤ (m : Int) + 1
            case pos =>
              have K21' := hide (fun W => K21.out W d)
              have K39' := hide (fun W => K39.out W d)
              have K28' := hide (fun W => K28.out W d)
              have K40' := hide (fun W => K40.out W d)
              obtain ⟨l0, l1⟩ : ∃ l0 : Int × Bool, S.last d = l0 := ⟨_, rfl⟩
              rw [l1] at K28' K40'
              clear l1
              obtain ⟨la, lb⟩ := l0
              rcases HTo.out d with ⟨i, x, f1, f2, f3⟩ | ⟨f1, f2⟩
              · rw [f3] at K21'
                rw [f2] at K39'
                have XT : Hid (∀ W, Its w0 (.box w.heap.size #[.slice a n c, .slice b m e, .slice aS nS cS, .slice aT nT cT, .slice aD nD cD, .slice aL nL cL] 38 :: .mir B g H n m es S :: .dm w0.heap.size ⟨aS, nS, cS, aT, nT, cT, aD, nD, cD, aL, nL, cL⟩ R k :: l) W → ∃ bt ot, aT = some ⟨bt, ot, none⟩ ∧ W.cell? ⟨bt, ot + i * 3, none⟩ = some (.int .i64 x.dev) ∧ W.cell? ⟨bt, ot + i * 3 + 1, none⟩ = some (.int .i64 x.tote) ∧ W.cell? ⟨bt, ot + i * 3 + 2, none⟩ = some (.int .i64 x.seq)) := hide (fun W hW => td_at (HRT.out W hW) i x f1)
                obtain ⟨bt, ot, rfl, _⟩ := XT.out _ HR3.out
                have i4 : i < nT := by rw [← HlT.out]; exact idx_lt f1
                have j0 : (0 : Int) ≤ (i : Int) := by omega
                have j1 : (i : Int) < (nT : Int) := by omega
                clear f1 f2 f3
                go_upto_region 18 with (first
                  | (go_at_call 39; refine (K39'.out _ I5b.out.tail).mono ?_; rintro e1 W6 ⟨rfl, q⟩; have I6 := hide (I5b.out.keep q); clear q; obtain ⟨g0, g1, g2, g3, g4, g5, gf⟩ := Its.cells6 I6.out.tail)
                  | (go_at_call 21; refine (K21'.out _ HR3.out).mono ?_; rintro e1 W5 ⟨rfl, q⟩; have I5 := hide (HR3.out.keep q); clear q; have I5b := hide (I5.out.box1 #[.int .i64 0, .int .i64 0, .int .i64 0] 79); obtain ⟨h0, h1, h2, h3, h4, h5, hf⟩ := Its.cells6 I5b.out.tail))
                obtain ⟨b9, o9, hb9, x0, x1, x2⟩ := XT.out _ I6.out.tail
                simp only [Option.some.injEq, Addr.mk.injEq, and_true] at hb9
                obtain ⟨rfl, rfl⟩ := hb9
                have hbx : W6.heap[W5.heap.size]? = some (.cells #[.int .i64 0, .int .i64 0, .int .i64 0] 79) := I6.out.one
                have v0 := (cells_at hbx 0)
                have v1 := (cells_at hbx 1)
                have v2 := (cells_at hbx 2)
                have v00 : W6.cell? ⟨W5.heap.size, 0, none⟩ = some (.int .i64 0) := v0.1
                have v10 : W6.cell? ⟨W5.heap.size, 1, none⟩ = some (.int .i64 0) := v1.1
                have v20 : W6.cell? ⟨W5.heap.size, 2, none⟩ = some (.int .i64 0) := v2.1
                have v01 := v0.2
                have v11 := v1.2
                have v21 := v2.2
                have I7 : Hid (Its w0 (.box W5.heap.size #[.int .i64 x.dev, .int .i64 x.tote, .int .i64 x.seq] 79 :: .box w.heap.size #[.slice a n c, .slice b m e, .slice aS nS cS, .slice (some ⟨bt, ot, none⟩) nT cT, .slice aD nD cD, .slice aL nL cL] 38 :: .mir B g H n m es S :: .dm w0.heap.size ⟨aS, nS, cS, some ⟨bt, ot, none⟩, nT, cT, aD, nD, cD, aL, nL, cL⟩ R k :: l) (((W6.setCell ⟨W5.heap.size, 0, none⟩ (.int .i64 x.dev)).setCell ⟨W5.heap.size, 1, none⟩ (.int .i64 x.tote)).setCell ⟨W5.heap.size, 2, none⟩ (.int .i64 x.seq))) := hide (((I6.out.put1 0 _).put1 1 _).put1 2 _)
                clear hbx v0 v1 v2
                go_upto_region 19 with fail
                generalize ((W6.setCell ⟨W5.heap.size, 0, none⟩ (.int .i64 x.dev)).setCell ⟨W5.heap.size, 1, none⟩ (.int .i64 x.tote)).setCell ⟨W5.heap.size, 2, none⟩ (.int .i64 x.seq) = W7 at *
                obtain ⟨r0, r1, r2, r3, r4, r5, rf⟩ := Its.cells6 I7.out.tail
                have XB : Hid (∀ W, Its w0 (.box W5.heap.size #[.int .i64 x.dev, .int .i64 x.tote, .int .i64 x.seq] 79 :: .box w.heap.size #[.slice a n c, .slice b m e, .slice aS nS cS, .slice (some ⟨bt, ot, none⟩) nT cT, .slice aD nD cD, .slice aL nL cL] 38 :: .mir B g H n m es S :: .dm w0.heap.size ⟨aS, nS, cS, some ⟨bt, ot, none⟩, nT, cT, aD, nD, cD, aL, nL, cL⟩ R k :: l) W → W.cell? ⟨W5.heap.size, 1, none⟩ = some (.int .i64 x.tote) ∧ W.cell? ⟨W5.heap.size, 2, none⟩ = some (.int .i64 x.seq)) := hide (fun W hW => ⟨(cells_at hW.one 1).1, (cells_at hW.one 2).1⟩)
                go_wp2_with (first
                  | (go_at_call 40; refine (K40'.out _ I8.out.tail).mono ?_; rintro e1 W9 ⟨rfl, q⟩; have I9 := hide (I8.out.keep q); clear q; obtain ⟨t1, t2⟩ := XB.out _ I9.out)
                  | (go_at_call 28; refine (K28'.out _ I7.out.tail).mono ?_; rintro e1 W8 ⟨rfl, q⟩; have I8 := hide (I7.out.keep q); clear q; obtain ⟨p0, p1, p2, p3, p4, p5, pf⟩ := Its.cells6 I8.out.tail))
                go_roundw
                case rel => exact ⟨d + 1, by go_num, by omega, by omega, hide I9.out.tail⟩
                case measure => simp [intOf]; omega
              · rw [f2] at K21'
                rw [f1] at K39'
                clear f1 f2
                go_wp2_with (first
                  | (go_at_call 40; refine (K40'.out _ I8.out.tail).mono ?_; rintro e1 W9 ⟨rfl, q⟩; have I9 := hide (I8.out.keep q); clear q; obtain ⟨t1, t2⟩ := XB.out _ I9.out)
                  | (go_at_call 28; refine (K28'.out _ I6.out.tail).mono ?_; rintro e1 W8 ⟨rfl, q⟩; have I8 := hide (I6.out.keep q); clear q; obtain ⟨p0, p1, p2, p3, p4, p5, pf⟩ := Its.cells6 I8.out.tail)
                  | (go_at_call 39; refine (K39'.out _ I5b.out.tail).mono ?_; rintro e1 W6 ⟨rfl, q⟩; have I6 := hide (I5b.out.keep q); clear q; obtain ⟨g0, g1, g2, g3, g4, g5, gf⟩ := Its.cells6 I6.out.tail)
                  | (go_at_call 21; refine (K21'.out _ HR3.out).mono ?_; rintro e1 W5 ⟨rfl, q⟩; have I5 := hide (HR3.out.keep q); clear q; have I5b := hide (I5.out.box1 #[.int .i64 0, .int .i64 0, .int .i64 0] 79); have XB : Hid (∀ W, Its w0 (.box W5.heap.size #[.int .i64 0, .int .i64 0, .int .i64 0] 79 :: .box w.heap.size #[.slice a n c, .slice b m e, .slice aS nS cS, .slice aT nT cT, .slice aD nD cD, .slice aL nL cL] 38 :: .mir B g H n m es S :: .dm w0.heap.size ⟨aS, nS, cS, aT, nT, cT, aD, nD, cD, aL, nL, cL⟩ R k :: l) W → W.cell? ⟨W5.heap.size, 1, none⟩ = some (.int .i64 0) ∧ W.cell? ⟨W5.heap.size, 2, none⟩ = some (.int .i64 0)) := hide (fun W hW => ⟨(cells_at hW.one 1).1, (cells_at hW.one 2).1⟩); obtain ⟨h0, h1, h2, h3, h4, h5, hf⟩ := Its.cells6 I5b.out.tail))
                go_roundw
                case rel => exact ⟨d + 1, by go_num, by omega, by omega, hide I9.out.tail⟩
                case measure => simp [intOf]; omega
            case neg =>
              have hd3 : ¬ d ≤ (m : Int) + 1 := hd
              have HD : Hid (Its w0 (.box w.heap.size #[.slice a n c, .slice b m e, .slice aS nS cS, .slice aT nT cT, .slice aD nD cD, .slice aL nL cL] 38 :: .mir B g H n m es S :: .dm w0.heap.size ⟨aS, nS, cS, aT, nT, cT, aD, nD, cD, aL, nL, cL⟩ R k :: l) wr.drew) := hide (HR3.out.drew 1)
              go_upto_region 23 with fail
              go_region_with (first
                | (go_at_call 41; refine (ints_any _ _ _ _ _ _ S.down S.down _ Hn7.out HlD.out (El.Own.rd J7.out.one) (HRD.out _ J7.out.four) (by have := HbD.out; have := HlD.out; have := Hn7.out; omega)).mono ?_; rw [decide_eq_true (rfl : S.down = S.down)]; rintro e1 W8 ⟨rfl, q8, rfl⟩)
                | (go_at_call 18; refine (KD.out _ HD.out).mono ?_; rintro e1 W7 ⟨a7, n7, c7, rfl, hn7, q⟩; have J7 := hide q; have Hn7 := hide hn7; clear q hn7; obtain ⟨g0, g1, g2, g3, g4, g5, gf⟩ := Its.cells6 J7.out.tail.tail))
              all_goals go_wp2_with fail
              all_goals go_ret
              all_goals exact ⟨by first | rfl | simp, (J7.out.drew _).tail.swap.tail⟩
end
end Go.Proofs.Ytlnnpdghcilioaa
