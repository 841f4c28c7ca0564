/- Take, where the piece comes. -/
import Derived.Test.YteihajppgooadaaTake
namespace Go.Proofs.Yteihajppgooadaa
open Go.Conc Go.RowKit Go.Maps Go.ChangeMaps
set_option linter.unusedVariables false

theorem clone_has {w : World} {h : Hd} {S : Ik} (H : Has w h S) {v : Value} {l : List Int} (hs : bytesE.Rd w v l) (hm : l.length ≤ 1000) :
    Calls Try.prog 31 #[v] w fun e w' => ∃ v' p, e = .returned v' ∧ p.2 = l ∧ w.heap.size ≤ p.1 ∧ Has w' h S ∧ Dat w' v' p ∧ Below w.heap.size w w' := by
  refine (clone_any hs hm).mono ?_
  rintro e w' ⟨v', rfl, ho, hb⟩
  refine ⟨v', (v'.ownBlock.getD w.heap.size, l), rfl, rfl, ?_, H.keep hb, ⟨ho.mono (Nat.zero_le _), fun b hb' => by rw [hb']; rfl⟩, hb⟩
  cases hv : v'.ownBlock with
  | none => exact Nat.le_refl _
  | some b => exact ho.ge b hv

theorem code_ok {S : Ik} {x : Int} {n : Nat} (h : S.code x n = 0) : n ≤ 256 ∧ ¬ up ((S.nx - S.win) % 65536) x < S.win ∧ up S.nx x < S.win ∧ S.wait x = none ∧ (S.q.length : Int) < S.win := by
  unfold Ik.code at h
  split at h
  · cases h
  · rename_i h1
    split at h
    · cases h
    · rename_i h2
      split at h
      · cases h
      · rename_i h3
        split at h
        · cases h
        · rename_i h4
          split at h
          · cases h
          · rename_i h5
            exact ⟨by omega, h2, by simpa using h3, by simpa using h4, by omega⟩

set_option maxRecDepth 100000 in
set_option maxHeartbeats 4000000 in
theorem take_ok {w : World} {h : Hd} {S : Ik} (H : Has w h S) (hI : S.Inw) (hn : S.n ≤ 1000000) {v : Value} {l : List Int} (hv : bytesE.Rd w v l) (x : Int) (x0 : 0 ≤ x) (x1 : x ≤ 65535) (hc : S.code x l.length = 0) :
    Calls Try.prog 27 #[.pointer (some ⟨h.g, 0, none⟩), .int .u16 x, v] w fun e w' => e = .returned (.int .i64 0) ∧ ∃ p j, p.2 = l ∧ w.heap.size ≤ p.1 ∧
      (S.put x p).There j ∧ (S.put x p).wait ((S.nx + j) % 65536) = none ∧ Has w' h ((S.put x p).go j) ∧ ((S.put x p).go j).Inw ∧ Only h w w' := by
  obtain ⟨a, ca, rfl⟩ := hv.form
  obtain ⟨hl, h2, h3, h4, h5⟩ := code_ok hc
  obtain ⟨w0, w1⟩ := H.win
  obtain ⟨n0, n1⟩ := H.nx
  obtain ⟨vv, F⟩ := H.fx x0 x1
  have e1 : IntKind.u16.wrap S.win = S.win := by unfold IntKind.wrap; simp [IntKind.bits, IntKind.signed]; omega
  have e2 : IntKind.u16.wrap (S.nx - S.win) = (S.nx - S.win) % 65536 := by unfold IntKind.wrap; simp [IntKind.bits, IntKind.signed]
  have hm' : ¬ (256 : Int) < (l.length : Int) := by omega
  have e3 : (S.wait x).isSome = false := by rw [h4]; rfl
  rw [e3] at F
  have K18 := hide (fun W => within_any x ((S.nx - S.win) % 65536) S.win W)
  have K18' := hide (fun W => within_any x S.nx S.win W)
  rw [decide_eq_false h2] at K18
  rw [decide_eq_true h3] at K18'
  have HI := hide (fun p => hI.put h3 p)
  have HR := hide (fun p => (hI.put h3 p).room h5)
  have HH := hide H
  have HV := hide hv
  have HL := hide (show l.length ≤ 1000 by omega)
  have Hn := hide hn
  clear H hv hc e3 h2 h3 h4 hI hl hn
  obtain ⟨win, ewin⟩ : ∃ win, S.win = win := ⟨_, rfl⟩
  obtain ⟨nx, enx⟩ : ∃ nx, S.nx = nx := ⟨_, rfl⟩
  obtain ⟨q, eq⟩ : ∃ q, (S.q.length : Int) = q := ⟨_, rfl⟩
  obtain ⟨lo, elo⟩ : ∃ lo, (S.nx - S.win) % 65536 = lo := ⟨_, rfl⟩
  rw [elo] at K18 e2
  rw [ewin, enx] at e2
  rw [ewin] at K18 K18' F e1 w0 w1 h5
  rw [enx] at K18' F n0 n1
  rw [eq] at F h5
  have Henx := hide enx
  clear ewin enx eq elo
  have c0 := F.c0
  have c1 := F.c1
  have c2 := F.c2
  have HF0 := hide F
  clear F
  have HE0 : Hid (∃ n, w = w.drewN n) := hide ⟨0, rfl⟩
  go_enter Try.func27, Try.ntmps27
  go_wp2_with fail
  go_quiet ((go_at_call 38; exact Calls.quiet_of_same (K18.out _)))
  have F1 := HF0.out.drewN nq
  have HE1 : Hid (∃ n, w.drewN nq = w.drewN n) := hide (by obtain ⟨n, hn⟩ := HE0.out; exact ⟨n + nq, by rw [← drewN_add, ← hn]⟩)
  generalize hW : w.drewN nq = W1 at *
  clear hW c0 c1 c2
  have c0 := F1.c0
  have c1 := F1.c1
  have c2 := F1.c2
  have HF1 := hide F1
  clear F1
  go_wp2_with fail
  go_quiet ((go_at_call 38; exact Calls.quiet_of_same (K18'.out _)))
  have F2 := HF1.out.drewN nq
  have HE2 : Hid (∃ n, W1.drewN nq = w.drewN n) := hide (by obtain ⟨n, hn⟩ := HE1.out; exact ⟨n + nq, by rw [← drewN_add, ← hn]⟩)
  generalize hW : W1.drewN nq = W2 at *
  clear hW c0 c1 c2
  have c0 := F2.c0
  have c1 := F2.c1
  have c2 := F2.c2
  have HF2 := hide F2
  have lk : (Instr.lookup 96 (.map (some h.mb)) (.int .u16 x) true).run Try.prog W2 = .ok (.tuple #[vv, .bool false]) W2 := F2.look 0
  have k15 := F2.ready
  clear F2
  go_wp2_with fail
  go_quiet ((go_at_call 41; exact Calls.quiet_of_same (k15 _)))
  have F3 := HF2.out.drewN nq
  have HE3 : Hid (∃ n, W2.drewN nq = w.drewN n) := hide (by obtain ⟨n, hn⟩ := HE2.out; exact ⟨n + nq, by rw [← drewN_add, ← hn]⟩)
  generalize hW : W2.drewN nq = W3 at *
  clear hW c0 c1 c2
  have c0 := F3.c0
  have c1 := F3.c1
  have c2 := F3.c2
  have HF3 := hide F3
  have k15 := F3.ready
  clear F3
  go_upto_region 11 with fail
  obtain ⟨nn, hnn⟩ := HE3.out
  have K19 : Hid (∀ m, Calls Try.prog 31 #[.slice a l.length ca] (W3.drewN m) fun e w' => ∃ v' p, e = .returned v' ∧ p.2 = l ∧ w.heap.size ≤ p.1 ∧ Has w' h S ∧ Dat w' v' p ∧ Below w.heap.size w w') := hide (fun m => by
    rw [hnn, drewN_add]
    refine (clone_has (HH.out.drewN (nn + m)) (HV.out.keep ⟨rfl, rfl, rfl, Nat.le_refl _, fun _ _ => rfl⟩) HL.out).mono ?_
    rintro e w' ⟨v', p, h1, h2, h3, h4, h5, h6⟩
    exact ⟨v', p, h1, h2, h3, h4, h5, ⟨h6.os, h6.tape, h6.output, h6.size, h6.block⟩⟩)
  clear hnn c0 c1
  go_region_with (go_at_call 31; first | refine (K19.out 0).mono ?_ | refine (K19.out 1).mono ?_; rintro e w5 ⟨v5, p, rfl, hp2, hp1, H5, D5, hb5⟩; have c2' := H5.cells.2.2.1; obtain ⟨w6, hput, H6, O6, Z6⟩ := H5.put x0 x1 D5 Hn.out; obtain ⟨w7, hput', H7, O7, Z7⟩ := (H5.drewN 1).put x0 x1 (D5.stay (w' := w5.drewN 1) (fun _ _ _ _ => rfl)) Hn.out; have hput2 : (Instr.mapUpdate 96 (.map (some h.mb)) (.int .u16 x) v5).run Try.prog w5.drew = .ok () w7 := hput'; have H6' := hide H6; have O6' : Hid (Only h w w6) := hide ((Only.of_below hb5).trans O6); have H7' := hide H7; have O7' : Hid (Only h w w7) := hide ((Only.of_below hb5).trans ⟨O7.os, O7.tape, O7.output, O7.size, O7.block⟩); have Hp2 := hide hp2; have Hp1 := hide hp1; clear H5 D5 H6 O6 Z6 H7 O7 Z7 hput' hp2 hp1)
  all_goals
    have K6 := hide (over_any H6'.out (HR.out p))
    have K7 := hide (over_any H7'.out (HR.out p))
    go_wp2_with (first
      | (go_at_call 42; refine K6.out.mono ?_; rintro e w8 ⟨rfl, j, j1, j2, H8, O8, Z8⟩; have HO8 := hide (O6'.out.trans O8); clear O8)
      | (go_at_call 42; refine K7.out.mono ?_; rintro e w8 ⟨rfl, j, j1, j2, H8, O8, Z8⟩; have HO8 := hide (O7'.out.trans O8); clear O8))
    go_ret
    exact ⟨rfl, p, j, Hp2.out, Hp1.out, j1, j2, H8, (HI.out p).go j (by have := j1.le (HR.out p) HH.out.win.2; omega) HH.out.win.2, HO8.out⟩
end Go.Proofs.Yteihajppgooadaa
