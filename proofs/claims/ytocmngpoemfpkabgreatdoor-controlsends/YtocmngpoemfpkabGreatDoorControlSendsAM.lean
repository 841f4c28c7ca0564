import Derived.HandedShaped
import Derived.Lay
import Derived.Lib.LaidU8
import Derived.PinnedBridge
import Derived.Shelf.Vars
import Derived.Test.YtocmngpoemfpkabGreatDoorControlSendsAA
import Derived.Test.YtocmngpoemfpkabGreatDoorControlSendsAB
import Derived.Test.YtocmngpoemfpkabGreatDoorControlSendsAD
import Derived.Test.YtocmngpoemfpkabGreatDoorControlSendsAI
import Derived.Test.YtocmngpoemfpkabGreatDoorControlSendsAL
set_option linter.unusedVariables false
namespace Go.Proofs.YtocmngpoemfpkabGreatDoor
open Go.RowKit
theorem Fit.put {c : Ct} {k : Nat} (h : Fit c k) (E : Ev) (t x : Int) : Fit (c.put E t x).2 (k + 1) := by
  unfold Ct.put
  split
  · exact h.up (by omega)
  · split
    · exact h.up (by omega)
    · exact h.note _
theorem aw_fit1 : Fit aw1 1 := aw_fit.put (awEv 0) 5 1
theorem aw_fit2 : Fit aw2 2 := aw_fit1.note ⟨2, 7, 2, 5⟩
theorem aw_deads : aw0.dead = false ∧ aw1.dead = false ∧ aw2.dead = false := ⟨by kernel_rfl, by kernel_rfl, by kernel_rfl⟩
theorem sl_at {w : World} {a : Option Addr} {n c : Nat} {svs : List Sv} (h : slE.Rd w (.slice a n c) svs) (i : Nat) (s : Sv) (hs : svs[i]? = some s) : ∃ b off, a = some ⟨b, off, none⟩ ∧ w.cell? ⟨b, off + i, none⟩ = some (.slice s.a s.l s.c) := by
  obtain ⟨b, off, h1, h2⟩ := h.at i s hs
  refine ⟨b, off, h1, ?_⟩
  have := h2 0 (by show 0 < 1; omega)
  simpa [slE] using this
set_option maxRecDepth 100000 in
set_option maxHeartbeats 4000000 in
theorem awake_any (w : World) (L : Laid w) : Calls Tryz.prog 5 #[] w fun e w' => e = .returned (.bool true) ∧ Below w.heap.size w w' := by
  have K41 : Hid (Calls Tryz.prog 19 #[.string awT] w fun e w' => ∃ aN cN aE cE, e = .returned (.tuple #[.agg #[.slice aN 3 cN, .slice aE 2 cE], .int .i64 0, .int .i64 0]) ∧ ndE.Own w' w.heap.size (.slice aN 3 cN) awN ∧ edE.Own w' w.heap.size (.slice aE 2 cE) awE ∧ Below w.heap.size w w') := hide (by
    have := lparse_any awT w L (by decide)
    rw [aw_parse] at this
    refine this.mono ?_
    rintro e w' ⟨vN, vE, rfl, hN, hE, hb⟩
    obtain ⟨aN, cN, rfl⟩ := hN.rd.form
    obtain ⟨aE, cE, rfl⟩ := hE.rd.form
    exact ⟨aN, cN, aE, cE, rfl, hN, hE, hb⟩)
  unfold awT at K41
  clear L
  go_enter Tryz.func5, Tryz.ntmps5
  go_upto_region 2 with (go_at_call 19; refine (K41.out).mono ?_; rintro e W1 ⟨aN, cN, aE, cE, rfl, hN, hE, hb⟩; have HN := hide hN; have HE := hide hE; have HB := hide hb; clear hN hE hb)
  obtain ⟨W2, hW2⟩ : ∃ W2, W1.alloc (.cells #[.slice aN 3 cN, .slice aE 2 cE] 25) = W2 := ⟨_, rfl⟩
  have b2 : Below W1.heap.size W1 W2 := by rw [← hW2]; exact (Below.refl _ _).alloc (Nat.le_refl _) _
  have hx : W2.heap[W1.heap.size]? = some (.cells #[.slice aN 3 cN, .slice aE 2 cE] 25) := by rw [← hW2]; exact heap_new _ _
  have HBW := hide (HB.out.trans (b2.mono HB.out.size))
  have HL : Hid (∀ W, Below W2.heap.size W2 W → Lyt W aN aE cN cE 3 2 awN awE) := hide (fun W h => by
    have h1 := b2.trans (h.mono b2.size)
    exact ⟨rfl, rfl, (HN.out.keep h1).rd, (HE.out.keep h1).rd, nd_cap HE.out, by decide +kernel⟩)
  have SB : Hid (∀ W, Below W2.heap.size W2 W → W.cell? ⟨W1.heap.size, 0, none⟩ = some (.slice aN 3 cN) ∧ W.cell? ⟨W1.heap.size, 1, none⟩ = some (.slice aE 2 cE)) := hide (fun W h => by
    have hx' : W.heap[W1.heap.size]? = some (.cells #[.slice aN 3 cN, .slice aE 2 cE] 25) := by rw [h.block _ (heap_lt hx)]; exact hx
    exact ⟨(cells_at hx' 0).1, (cells_at hx' 1).1⟩)
  try rw [hW2]
  clear b2 hx hW2
  have I0 := hide (Its.nil W2)
  have K11 : Hid (∀ W, Its W2 [] W → Calls Tryz.prog 7 #[] W fun e w' => ∃ g H, e = .returned (.pointer (some ⟨g, 0, none⟩)) ∧ Its W2 [.tape W2.heap.size g H Tp.nw] w') := hide (fun W hW => newS hW)
  have K12 : Hid (∀ W g H, Its W2 [.tape W2.heap.size g H Tp.nw] W → Calls Tryz.prog 8 #[.agg #[.slice aN 3 cN, .slice aE 2 cE], .int .i64 3, .pointer (some ⟨g, 0, none⟩)] W fun e w' => ∃ gc P, e = .returned (.tuple #[.pointer (some ⟨gc, 0, none⟩), .int .i64 0]) ∧ (P.S = aw0.S ∧ P.K = aw0.K) ∧ Its W2 [.ctl W2.heap.size gc (awEv g) 3 2 P aw0] w') := hide (fun W g H hW => by
    have := kopenS (l := []) hW (fun W x hW => HL.out W hW.bel) 3 (rds_all (ns := []) (fun n hn => by cases hn)) (by simp) ⟨0, 0, .slice none 0 0, fun _ => none, []⟩
    rw [aw_opn] at this
    refine this.mono ?_
    rintro e w' (⟨q, _⟩ | ⟨_, gc, P, S, K, q1, rfl, q2, q3⟩)
    · exact absurd rfl q
    · cases q1
      exact ⟨gc, P, rfl, q2, q3⟩)
  have K37 : Hid (∀ W gc g P, (P.S = aw0.S ∧ P.K = aw0.K) → Its W2 [.ctl W2.heap.size gc (awEv g) 3 2 P aw0] W → Calls Tryz.prog 16 #[.pointer (some ⟨gc, 0, none⟩), .int .i64 5, .int .i64 1] W fun e w' => e = .returned (.int .i64 0) ∧ ∃ P', (P'.S = aw1.S ∧ P'.K = aw1.K) ∧ Its W2 [.ctl W2.heap.size gc (awEv g) 3 2 P' aw1] w') := hide (fun W gc g P h1 hW => by
    have := kputS hW (fun _ => h1) aw_fit.gd (by omega) 5 1 (by unfold I64; omega)
    rw [aw_put'] at this
    refine this.mono ?_
    rintro e w' ⟨rfl, P', q1, q2⟩
    exact ⟨rfl, P', q1 aw_deads.2.1, q2⟩)
  have K29 : Hid (∀ W gc g P, (P.S = aw1.S ∧ P.K = aw1.K) → Its W2 [.ctl W2.heap.size gc (awEv g) 3 2 P aw1] W → Calls Tryz.prog 14 #[.pointer (some ⟨gc, 0, none⟩), .agg #[.int .i64 7, .int .i64 2, .int .i64 5]] W fun e w' => e = .returned (.tuple #[.bool true, .int .i64 0]) ∧ ∃ P', (P'.S = aw2.S ∧ P'.K = aw2.K) ∧ Its W2 [.ctl W2.heap.size gc (awEv g) 3 2 P' aw2] w') := hide (fun W gc g P h1 hW => by
    have := korderS hW (fun _ => h1) aw_fit1.gd (by omega) ⟨7, 2, 5⟩
    rw [aw_order'] at this
    refine this.mono ?_
    rintro e w' ⟨rfl, P', q1, q2⟩
    exact ⟨rfl, P', q1 aw_deads.2.2, q2⟩)
  have K42 : Hid (∀ W gc g P, (P.S = aw2.S ∧ P.K = aw2.K) → Its W2 [.ctl W2.heap.size gc (awEv g) 3 2 P aw2] W → Calls Tryz.prog 17 #[.pointer (some ⟨gc, 0, none⟩)] W fun e w' => ∃ (b off r : Nat) (s : Sv) (P' : Kp), e = .returned (.tuple #[.slice (some ⟨b, off, none⟩) 1 r, .int .i64 0]) ∧ P'.K.sta 7 = 1 ∧ Its W2 [.row slE W2.heap.size (.slice (some ⟨b, off, none⟩) 1 r) [s], .bys W2.heap.size [s] [enc ⟨1, 1, 0, 5, 0⟩], .ctl W2.heap.size gc (awEv g) 3 2 P' aw5] w') := hide (fun W gc g P h1 hW => by
    have := ktickS hW (fun _ => h1) aw_fit2 (by omega)
    rw [aw_tick'] at this
    refine this.mono ?_
    rintro e w' (⟨_, a, q, r, svs, P', rfl, q1, q2, q3, q4⟩ | ⟨q, _⟩)
    · have hq : q = 1 := q2.symm
      subst hq
      obtain ⟨s, rfl⟩ : ∃ s, svs = [s] := List.length_eq_one_iff.1 q1
      obtain ⟨b, off, rfl, _⟩ := sl_at q4.one.rd 0 s rfl
      refine ⟨b, off, r, s, P', rfl, by rw [q3.2.1]; exact aw_sta, ?_⟩
      have : [(1 : Int)].map aw5.movB = [enc ⟨1, 1, 0, 5, 0⟩] := by
        show [enc (aw5.movT 1)] = _
        rw [aw_mov]
      rw [← this]
      exact q4
    · exact absurd rfl q)
  have CV : Hid (∀ W b off r s x, Its W2 [.row slE W2.heap.size (.slice (some ⟨b, off, none⟩) 1 r) [s], .bys W2.heap.size [s] [enc ⟨1, 1, 0, 5, 0⟩], x] W → W.cell? ⟨b, off, none⟩ = some (.slice s.a s.l s.c) ∧ (convert 54 9 (.slice s.a s.l s.c)).run Tryz.prog W = .ok (.string (str (enc ⟨1, 1, 0, 5, 0⟩))) W) := hide (fun W b off r s x hW => by
    obtain ⟨b', off', z, q⟩ := sl_at hW.one.rd 0 s rfl
    simp only [Option.some.injEq, Addr.mk.injEq, and_true] at z
    obtain ⟨rfl, rfl⟩ := z
    exact ⟨q, conv_str ((hW.two.2 0 s _ rfl rfl).rd)⟩)
  have K35 : Hid (∀ W L, Its W2 L W → Calls Tryz.prog 20 #[.agg #[.int .u8 1, .int .u16 1, .int .u16 0, .int .u16 5, .int .u16 0]] W fun e w' => ∃ a5 n5 p5, e = .returned (.slice a5 n5 p5) ∧ (convert 54 9 (.slice a5 n5 p5)).run Tryz.prog w' = .ok (.string (str (enc ⟨1, 1, 0, 5, 0⟩))) w' ∧ Its W2 L w') := hide (fun W L hW => by
    refine (tl_bytes_any 1 1 0 5 0 W (by unfold Tl.In; decide)).mono ?_
    rintro e w' ⟨v, rfl, q1, q2⟩
    have q3 := ow_by q1
    obtain ⟨a5, p5, rfl⟩ := q3.rd.form
    exact ⟨a5, _, p5, rfl, conv_str q3.rd, hW.keep q2⟩)
  have K33 : Hid (∀ W gc g P x y, P.K.sta 7 = 1 → Its W2 [x, y, .ctl W2.heap.size gc (awEv g) 3 2 P aw5] W → Calls Tryz.prog 21 #[.pointer (some ⟨gc, 0, none⟩), .int .i64 7] W fun e w' => e = .returned (.int .i64 1) ∧ w' = W) := hide (fun W gc g P x y h1 hW => by
    have := kstate_any hW.three (x := 7) (by unfold I64; omega)
    rw [h1] at this
    exact this)
  generalize enc ⟨1, 1, 0, 5, 0⟩ = eb at *
  have S0 := SB.out W2 (Below.refl _ _)
  go_region_held3 (fun W => W.cell? ⟨W1.heap.size, 0, none⟩ = some (.slice aN 3 cN) ∧ W.cell? ⟨W1.heap.size, 1, none⟩ = some (.slice aE 2 cE)) (first | exact S0 | exact SB.out _ I2.out.bel | exact SB.out _ I1.out.bel | exact SB.out _ (Its.hp (w' := W2.drew) I0.out rfl rfl rfl rfl).bel | fail)
    (first
      | (go_at_call 7; refine (K11.out _ ?_).mono ?_; (first | exact I0.out | exact I0.out.hp rfl rfl rfl rfl); rintro e w1 ⟨gt, H1, rfl, q⟩; have I1 := hide q; clear q)
      | (go_at_call 8; refine (K12.out _ gt H1 ?_).mono ?_; (first | exact I1.out | exact I1.out.hp rfl rfl rfl rfl); rintro e w2 ⟨gc, P1, rfl, q1, q2⟩; have HV1 := hide q1; have I2 := hide q2; clear q1 q2)
      | fail)
  all_goals (
    go_upto_region 7 with (first
      | (go_at_call 16; refine (K37.out _ gc gt P1 HV1.out ?_).mono ?_; (first | exact I2.out | exact I2.out.hp rfl rfl rfl rfl); rintro e w3 ⟨rfl, P2, q1, q2⟩; have HV2 := hide q1; have I3 := hide q2; clear q1 q2)
      | (go_at_call 14; refine (K29.out _ gc gt P2 HV2.out ?_).mono ?_; (first | exact I3.out | exact I3.out.hp rfl rfl rfl rfl); rintro e w4 ⟨rfl, P3, q1, q2⟩; have HV3 := hide q1; have I4 := hide q2; clear q1 q2)
      | (go_at_call 17; refine (K42.out _ gc gt P3 HV3.out ?_).mono ?_; (first | exact I4.out | exact I4.out.hp rfl rfl rfl rfl); rintro e w5 ⟨b, off, r, s, P4, rfl, q1, q2⟩; have HV4 := hide q1; have I5 := hide q2; clear q1 q2))
    have S5 := CV.out _ _ _ _ _ _ I5.out
    refine wp_region_held_drew (S := (fun W => W.cell? ⟨b, off, none⟩ = some (.slice s.a s.l s.c) ∧ (convert 54 9 (.slice s.a s.l s.c)).run Tryz.prog W = .ok (.string (str eb)) W)) (by kernel_rfl) (by first | exact S5 | exact CV.out _ _ _ _ _ _ (Its.hp (w' := w5.drew) I5.out rfl rfl rfl rfl)) (fun hS => ?_)
    refine wpAnyH_take (i := 0) (v := .bool true) rfl (by kernel_rfl) (by kernel_rfl) (by kernel_rfl) (fun _ _ _ h => h) (Or.inl ⟨by kernel_rfl, fun W' hW => by obtain ⟨s0, s1⟩ := hW; go_simp⟩) hS ?_
    refine wpAnyH_take (i := 1) (v := .bool true) rfl (by kernel_rfl) (by kernel_rfl) (by kernel_rfl) (fun _ _ _ h => h) (Or.inl ⟨by kernel_rfl, fun W' hW => by obtain ⟨s0, s1⟩ := hW; go_simp⟩) hS ?_
    refine wpAnyH_take (i := 2) (v := .int .i64 0) rfl (by kernel_rfl) (by kernel_rfl) (by kernel_rfl) (fun _ _ _ h => h) (Or.inl ⟨by kernel_rfl, fun W' hW => by obtain ⟨s0, s1⟩ := hW; go_simp⟩) hS ?_
    refine wpAnyH_take (i := 3) (v := .bool true) rfl (by kernel_rfl) (by kernel_rfl) (by kernel_rfl) (fun _ _ _ h => h) (Or.inl ⟨by kernel_rfl, fun W' hW => by obtain ⟨s0, s1⟩ := hW; go_simp⟩) hS ?_
    refine wpAnyH_take (i := 4) (v := .bool true) rfl (by kernel_rfl) (by kernel_rfl) (by kernel_rfl) (fun _ _ _ h => h) (Or.inl ⟨by kernel_rfl, fun W' hW => by obtain ⟨s0, s1⟩ := hW; go_simp⟩) hS ?_
    refine wpAnyH_take (i := 5) (v := .bool true) rfl (by kernel_rfl) (by kernel_rfl) (by kernel_rfl) (fun _ _ _ h => h) (Or.inl ⟨by kernel_rfl, fun W' hW => by obtain ⟨s0, s1⟩ := hW; go_simp⟩) hS ?_
    refine wpAnyH_take (i := 6) (v := .int .i64 0) rfl (by kernel_rfl) (by kernel_rfl) (by kernel_rfl) (fun _ _ _ h => h) (Or.inl ⟨by kernel_rfl, fun W' hW => by obtain ⟨s0, s1⟩ := hW; go_simp⟩) hS ?_
    refine wpAnyH_take (i := 7) (v := .bool true) rfl (by kernel_rfl) (by kernel_rfl) (by kernel_rfl) (fun _ _ _ h => h) (Or.inl ⟨by kernel_rfl, fun W' hW => by obtain ⟨s0, s1⟩ := hW; go_simp⟩) hS ?_
    refine wpAnyH_take (i := 8) (v := .bool true) rfl (by kernel_rfl) (by kernel_rfl) (by kernel_rfl) (fun _ _ _ h => h) (Or.inl ⟨by kernel_rfl, fun W' hW => by obtain ⟨s0, s1⟩ := hW; go_simp⟩) hS ?_
    refine wpAnyH_take (i := 9) (v := .bool true) rfl (by kernel_rfl) (by kernel_rfl) (by kernel_rfl) (fun _ _ _ h => h) (Or.inl ⟨by kernel_rfl, fun W' hW => by obtain ⟨s0, s1⟩ := hW; go_simp⟩) hS ?_
    refine wpAnyH_take (i := 10) (v := .slice (some ⟨b, off, none⟩) 1 r) rfl (by kernel_rfl) (by kernel_rfl) (by kernel_rfl) (fun _ _ _ h => h) (Or.inl ⟨by kernel_rfl, fun W' hW => by obtain ⟨s0, s1⟩ := hW; go_simp⟩) hS ?_
    refine wpAnyH_take (i := 11) (v := .int .i64 1) rfl (by kernel_rfl) (by kernel_rfl) (by kernel_rfl) (fun _ _ _ h => h) (Or.inl ⟨by kernel_rfl, fun W' hW => by obtain ⟨s0, s1⟩ := hW; go_simp⟩) hS ?_
    refine wpAnyH_take (i := 12) (v := .bool true) rfl (by kernel_rfl) (by kernel_rfl) (by kernel_rfl) (fun _ _ _ h => h) (Or.inl ⟨by kernel_rfl, fun W' hW => by obtain ⟨s0, s1⟩ := hW; go_simp⟩) hS ?_
    refine wpAnyH_take (i := 13) (v := .bool true) rfl (by kernel_rfl) (by kernel_rfl) (by kernel_rfl) (fun _ _ _ h => h) (Or.inl ⟨by kernel_rfl, fun W' hW => by obtain ⟨s0, s1⟩ := hW; go_simp⟩) hS ?_
    refine wpAnyH_take (i := 14) (v := .bool true) rfl (by kernel_rfl) (by kernel_rfl) (by kernel_rfl) (fun _ _ _ h => h) (Or.inl ⟨by kernel_rfl, fun W' hW => by obtain ⟨s0, s1⟩ := hW; go_simp⟩) hS ?_
    refine wpAnyH_take (i := 15) (v := .slice (some ⟨b, off, none⟩) 1 r) rfl (by kernel_rfl) (by kernel_rfl) (by kernel_rfl) (fun _ _ _ h => h) (Or.inl ⟨by kernel_rfl, fun W' hW => by obtain ⟨s0, s1⟩ := hW; go_simp⟩) hS ?_
    refine wpAnyH_take (i := 16) (v := .pointer (some ⟨b, off, none⟩)) rfl (by kernel_rfl) (by kernel_rfl) (by kernel_rfl) (fun _ _ _ h => h) (Or.inl ⟨by kernel_rfl, fun W' hW => by obtain ⟨s0, s1⟩ := hW; go_simp⟩) hS ?_
    refine wpAnyH_take (i := 17) (v := .slice s.a s.l s.c) rfl (by kernel_rfl) (by kernel_rfl) (by kernel_rfl) (fun _ _ _ h => h) (Or.inl ⟨by kernel_rfl, fun W' hW => by obtain ⟨s0, s1⟩ := hW; go_simp⟩) hS ?_
    refine wpAnyH_take (i := 18) (v := .string (str eb)) rfl (by kernel_rfl) (by kernel_rfl) (by kernel_rfl) (fun _ _ _ h => h) (Or.inl ⟨by kernel_rfl, fun W' hW => by obtain ⟨s0, s1⟩ := hW; go_simp⟩) hS ?_
    refine wpAnyH_take (i := 19) (v := .agg #[.int .u8 1, .int .u16 1, .int .u16 0, .int .u16 5, .int .u16 0]) rfl (by kernel_rfl) (by kernel_rfl) (by kernel_rfl) (fun _ _ _ h => h) (Or.inl ⟨by kernel_rfl, fun W' hW => by obtain ⟨s0, s1⟩ := hW; go_simp⟩) hS ?_
    refine wpAnyH_ready (rs := [20]) (by kernel_rfl) (by simp) ?_
    refine AllReadyH.cons rfl (fun K hK => ?_) AllReadyH.nil
    go_simp
    go_at_call 20
    refine (K35.out _ [.row slE W2.heap.size (.slice (some ⟨b, off, none⟩) 1 r) [s], .bys W2.heap.size [s] [eb], .ctl W2.heap.size gc (awEv gt) 3 2 P4 aw5] ?_).mono ?_
    (first | exact I5.out | exact Its.hp (w' := w5.drew) I5.out rfl rfl rfl rfl)
    rintro e w6 ⟨a5, n5, p5, rfl, q1, q2⟩
    have I6 := hide q2
    have cv0 := q1
    clear q1 q2
    go_simp
    refine hK.out _ _ (CV.out _ _ _ _ _ _ I6.out) (fun _ => ?_)
    clear hK K
    refine wpAnyH_ready (rs := [21]) (by kernel_rfl) (by simp) ?_
    refine AllReadyH.cons rfl (fun K hK => ?_) AllReadyH.nil
    go_simp
    refine hK.out _ _ (CV.out _ _ _ _ _ _ I6.out) (fun _ => ?_)
    clear hK K
    refine wpAnyH_take (i := 22) (v := .bool true) rfl (by kernel_rfl) (by kernel_rfl) (by kernel_rfl) (fun _ _ _ h => h) (Or.inl ⟨by kernel_rfl, fun W' hW => by obtain ⟨s0, s1⟩ := hW; go_simp⟩) (CV.out _ _ _ _ _ _ I6.out) ?_
    refine wpAnyH_take (i := 23) (v := .bool true) rfl (by kernel_rfl) (by kernel_rfl) (by kernel_rfl) (fun _ _ _ h => h) (Or.inl ⟨by kernel_rfl, fun W' hW => by obtain ⟨s0, s1⟩ := hW; go_simp⟩) (CV.out _ _ _ _ _ _ I6.out) ?_
    refine wpAnyH_take (i := 24) (v := .bool true) rfl (by kernel_rfl) (by kernel_rfl) (by kernel_rfl) (fun _ _ _ h => h) (Or.inl ⟨by kernel_rfl, fun W' hW => by obtain ⟨s0, s1⟩ := hW; go_simp⟩) (CV.out _ _ _ _ _ _ I6.out) ?_
    refine wpAnyH_take (i := 25) (v := .pointer (some ⟨gc, 0, none⟩)) rfl (by kernel_rfl) (by kernel_rfl) (by kernel_rfl) (fun _ _ _ h => h) (Or.inl ⟨by kernel_rfl, fun W' hW => by obtain ⟨s0, s1⟩ := hW; go_simp⟩) (CV.out _ _ _ _ _ _ I6.out) ?_
    refine wpAnyH_ready (rs := [26]) (by kernel_rfl) (by simp) ?_
    refine AllReadyH.cons rfl (fun K hK => ?_) AllReadyH.nil
    go_simp
    go_at_call 21
    refine (K33.out _ gc gt P4 (.row slE W2.heap.size (.slice (some ⟨b, off, none⟩) 1 r) [s]) (.bys W2.heap.size [s] [eb]) HV4.out ?_).mono ?_
    (first | exact I6.out | exact I6.out.hp rfl rfl rfl rfl)
    rintro e w7 ⟨rfl, rfl⟩
    go_simp
    refine hK.out _ _ (CV.out _ _ _ _ _ _ I6.out) (fun _ => ?_)
    clear hK K
    refine wpAnyH_take (i := 27) (v := .bool true) rfl (by kernel_rfl) (by kernel_rfl) (by kernel_rfl) (fun _ _ _ h => h) (Or.inl ⟨by kernel_rfl, fun W' hW => by obtain ⟨s0, s1⟩ := hW; go_simp⟩) (CV.out _ _ _ _ _ _ I6.out) ?_
    refine wpAnyH_take (i := 28) (v := .bool true) rfl (by kernel_rfl) (by kernel_rfl) (by kernel_rfl) (fun _ _ _ h => h) (Or.inl ⟨by kernel_rfl, fun W' hW => by obtain ⟨s0, s1⟩ := hW; go_simp⟩) (CV.out _ _ _ _ _ _ I6.out) ?_
    refine wpAnyH_ready (rs := [29]) (by kernel_rfl) (by simp) ?_
    refine AllReadyH.cons rfl (fun K hK => ?_) AllReadyH.nil
    go_simp
    refine hK.out _ _ (CV.out _ _ _ _ _ _ I6.out) (fun _ => ?_)
    clear hK K
    refine wpAnyH_done (by kernel_rfl) ?_ _
    go_wp2_with fail
    first
      | (go_ret; exact ⟨rfl, HBW.out.trans (I6.out.bel.mono HBW.out.size)⟩)
      | (go_ret2; exact ⟨rfl, HBW.out.trans (I6.out.bel.mono HBW.out.size)⟩))
end Go.Proofs.YtocmngpoemfpkabGreatDoor

namespace Go.Proofs.YtocmngpoemfpkabGreatDoor
open Go.RowKit
theorem stepB {P : Program} {α : Type} (E : El P α) {B : Nat} {w : World} (hB : B ≤ w.heap.size) {ops : Array Oper} {o : Oper} {a : Act} {K : Act → World → Prop} {Q : Exit → Act → World → Prop} {F : Prop} (hgd : o.guard = none) (s x : Operand)
    (ho : o.op = .call { callee := .builtin .append, args := #[s, x], argTypes := #[E.t, E.t] }) (v u : Value) (hs : a.eval s = v) (hx : a.eval x = u)
    (xs ys : List α) (hown : E.Own w B v xs) (hu : E.Rd w u ys) (hn : xs.length + ys.length ≤ 1000000)
    (h : ∀ v' w', E.Own w' B v' (xs ++ ys) → w.grownBy w' v.ownBlock → K (a.put o.dst v') w') :
    if Region.wanted o (yielded ops a.tmps) = true then Oper.wp P o a w K Q else F := by
  have hw : Region.wanted o (yielded ops a.tmps) = true := by simp [Region.wanted, hgd]
  rw [if_pos hw]
  obtain ⟨v', w', hr, h2, h3, h4⟩ := E.run hown hB hu hn o.type
  unfold Oper.wp execOp
  simp only [ho, resolve, invoke, builtin, Sem.run_bind, Sem.run_pure, Result.andThen_ok, List.map_toArray, List.map_cons, List.map_nil, hs, hx, hr]
  exact h v' w' h2 h3
theorem own_other {α β : Type} {E : El Tryz.prog α} {F : El Tryz.prog β} {w w' : World} {B : Nat} {v u : Value} {xs : List α} {ys : List β} (hne : E.e ≠ F.e) (hE : E.Own w B v xs) (hF : F.Own w B u ys) (hg : w.grownBy w' v.ownBlock) : F.Own w' B u ys :=
  own_chg hF fun k cur hk hc => hg.block k (heap_lt hc) (fun e => by
    rcases hE.2 with ⟨hx, _⟩ | ⟨q', cap, cur', hx, h2, h3, _⟩
    · rw [hx] at e; cases e
    · rw [hx] at e
      simp [Value.ownBlock] at e
      subst e
      rw [hc] at h3
      simp only [Option.some.injEq, Obj.cells.injEq] at h3
      exact hne h3.2.1.symm)
theorem leaf_ok {w W0 W : World} {vN vE : Value} {ns : List Nd} {es : List Ed} (h0 : w.heap.size ≤ W0.heap.size) (hA : Below w.heap.size w W0) (hb : Below W0.heap.size W0 W) (hz : W.heap[w.heap.size + 1]? = some (.cells #[.slice none 0 0, .slice none 0 0] 25)) (hn : ndE.Own W W0.heap.size vN ns) (he : edE.Own W W0.heap.size vE es) :
    ((W.setCell ⟨w.heap.size + 1, 0, none⟩ vN).setCell ⟨w.heap.size + 1, 1, none⟩ vE).heap[w.heap.size + 1]? = some (.cells #[vN, vE] 25) ∧ ndE.Own ((W.setCell ⟨w.heap.size + 1, 0, none⟩ vN).setCell ⟨w.heap.size + 1, 1, none⟩ vE) w.heap.size vN ns ∧ edE.Own ((W.setCell ⟨w.heap.size + 1, 0, none⟩ vN).setCell ⟨w.heap.size + 1, 1, none⟩ vE) w.heap.size vE es ∧ Below w.heap.size w ((W.setCell ⟨w.heap.size + 1, 0, none⟩ vN).setCell ⟨w.heap.size + 1, 1, none⟩ vE) := by
  refine ⟨heap_put (heap_put hz vN) vE, (own_chg hn fun k cur _ hk => ?_).mono h0, (own_chg he fun k cur _ hk => ?_).mono h0, ((hA.trans (hb.mono h0)).setCell (p := ⟨w.heap.size + 1, 0, none⟩) (by simp) _).setCell (p := ⟨w.heap.size + 1, 1, none⟩) (by simp) _⟩
  · have ne : k ≠ w.heap.size + 1 := fun e => by subst e; rw [hz] at hk; simp only [Option.some.injEq, Obj.cells.injEq] at hk; exact absurd hk.2.1 (by decide)
    rw [Below.heap_setCell _ _ _ _ ne, Below.heap_setCell _ _ _ _ ne]
  · have ne : k ≠ w.heap.size + 1 := fun e => by subst e; rw [hz] at hk; simp only [Option.some.injEq, Obj.cells.injEq] at hk; exact absurd hk.2.1 (by decide)
    rw [Below.heap_setCell _ _ _ _ ne, Below.heap_setCell _ _ _ _ ne]
set_option maxRecDepth 100000 in
set_option maxHeartbeats 8000000 in
theorem copy_any (a a' : Option Addr) (c c' : Nat) (ns : List Nd) (es : List Ed) (w : World) (hv : ndE.Rd w (.slice a ns.length c) ns) (hu : edE.Rd w (.slice a' es.length c') es) (hl : ns.length ≤ 1000) (hl' : es.length ≤ 1000) :
    Calls Tryz.prog 9 #[.agg #[.slice a ns.length c, .slice a' es.length c']] w fun e w' => ∃ vN vE, e = .returned (.agg #[vN, vE]) ∧ ndE.Own w' w.heap.size vN ns ∧ edE.Own w' w.heap.size vE es ∧ Below w.heap.size w w' := by
  obtain ⟨n, hn⟩ : ∃ n, ns.length = n := ⟨_, rfl⟩
  obtain ⟨m, hm⟩ : ∃ m, es.length = m := ⟨_, rfl⟩
  rw [hn] at hv ⊢
  rw [hm] at hu ⊢
  obtain ⟨W0, hW0⟩ : ∃ W0, (w.alloc (.cells #[.slice a n c, .slice a' m c'] 25)).alloc (.cells #[.slice none 0 0, .slice none 0 0] 25) = W0 := ⟨_, rfl⟩
  have bA : Below w.heap.size w W0 := by rw [← hW0]; exact ((Below.refl _ _).alloc (Nat.le_refl _) _).alloc (by simp) _
  have x1 : W0.heap[w.heap.size]? = some (.cells #[.slice a n c, .slice a' m c'] 25) := by rw [← hW0, Below.heap_alloc _ _ _ (by simp)]; exact heap_new _ _
  have x2 : W0.heap[w.heap.size + 1]? = some (.cells #[.slice none 0 0, .slice none 0 0] 25) := by
    rw [← hW0]
    have := heap_new (w.alloc (.cells #[.slice a n c, .slice a' m c'] 25)) (.cells #[.slice none 0 0, .slice none 0 0] 25)
    rwa [show (w.alloc (.cells #[.slice a n c, .slice a' m c'] 25)).heap.size = w.heap.size + 1 by simp] at this
  have HA := hide bA
  have Hx2 := hide x2
  have HW0s : Hid (W0 = W0) := hide rfl
  have Hn := hide hn
  have Hm := hide hm
  have HRN : Hid (∀ W, Below W0.heap.size W0 W → ndE.Rd W (.slice a n c) ns) := hide (fun W h => (hv.keep bA).keep h)
  have HRE : Hid (∀ W, Below W0.heap.size W0 W → edE.Rd W (.slice a' m c') es) := hide (fun W h => (hu.keep bA).keep h)
  obtain ⟨SS, hSS⟩ : ∃ SS : World → Prop, SS = fun W' => Below W0.heap.size W0 W' := ⟨_, rfl⟩
  have s9 : Hid (∀ W', SS W' → Below W0.heap.size W0 W') := hide (fun W' h => by rw [hSS] at h; exact h)
  have s8 : Hid (∀ W', Below W0.heap.size W0 W' → SS W') := hide (fun W' h => by rw [hSS]; exact h)
  have s1 : ∀ W', SS W' → W'.cell? ⟨w.heap.size, 0, none⟩ = some (.slice a n c) := fun W' h => by rw [(s9.out W' h).cell (heap_lt x1)]; exact (cells_at x1 0).1
  have s2 : ∀ W', SS W' → W'.cell? ⟨w.heap.size, 1, none⟩ = some (.slice a' m c') := fun W' h => by rw [(s9.out W' h).cell (heap_lt x1)]; exact (cells_at x1 1).1
  have hS0 := s8.out W0.drew (Below.refl _ _).drew
  have HW0 := hide hW0
  clear hSS hn hm hv hu bA x1 x2 hW0
  go_enter Tryz.func9, Tryz.ntmps9
  go_upto_region 1 with fail
  rw [HW0.out]
  go_cut [] (fun wx => ∃ (vN vE : Value) (W : World), wx = W ∧ Hid (W.heap[w.heap.size + 1]? = some (.cells #[vN, vE] 25) ∧ ndE.Own W w.heap.size vN ns ∧ edE.Own W w.heap.size vE es ∧ Below w.heap.size w W))
  case first =>
    refine wp_region_E SS 9 (by kernel_rfl) ?_
    refine wpAnyE_take (i := 1) (v := .pointer (some ⟨w.heap.size, 0, none⟩)) rfl (by kernel_rfl) (by kernel_rfl) (by kernel_rfl) (by kernel_rfl) (fun _ _ _ h => h) (Or.inl ⟨by rfl, fun W' hW => by go_simp⟩) hS0 ?_
    refine wpAnyE_take (i := 2) (v := .slice a n c) rfl (by kernel_rfl) (by kernel_rfl) (by kernel_rfl) (by kernel_rfl) (fun _ _ _ h => h) (Or.inl ⟨by rfl, fun W' hW => by have x0 := s1 W' hW; go_simp⟩) hS0 ?_
    refine wpAnyE_take (i := 5) (v := .pointer (some ⟨w.heap.size, 1, none⟩)) rfl (by kernel_rfl) (by kernel_rfl) (by kernel_rfl) (by kernel_rfl) (fun _ _ _ h => h) (Or.inl ⟨by rfl, fun W' hW => by go_simp⟩) hS0 ?_
    refine wpAnyE_take (i := 6) (v := .slice a' m c') rfl (by kernel_rfl) (by kernel_rfl) (by kernel_rfl) (by kernel_rfl) (fun _ _ _ h => h) (Or.inl ⟨by rfl, fun W' hW => by have x0 := s2 W' hW; go_simp⟩) hS0 ?_
    refine wpAnyE_ready (rs := [0, 4]) (by kernel_rfl) (by simp) ?_
    refine AllReadyE.cons rfl (fun K hK => ?_) (AllReadyE.cons rfl (fun K hK => ?_) AllReadyE.nil)
    · go_simp
      have S1 := s8.out _ ((s9.out _ hS0).alloc (s9.out _ hS0).size (.cells #[] 133))
      have O1 : Hid (ndE.Own (W0.drew.alloc (.cells #[] 133)) W0.heap.size (.slice (some ⟨W0.heap.size, 0, none⟩) 0 0) []) := hide (El.Own.new ndE W0.drew _ (s9.out _ hS0).size #[] [] rfl (by simp) _ _ _ (by simp) rfl rfl)
      refine hK.out _ _ (fun _ => S1) ?_
      clear hK K
      refine wpAnyE_ready (rs := [3, 4]) (by kernel_rfl) (by simp) ?_
      refine AllReadyE.cons rfl (fun K hK => ?_) (AllReadyE.cons rfl (fun K hK => ?_) AllReadyE.nil)
      · refine stepB ndE (B := W0.heap.size) (s9.out _ S1).size rfl (.tmp 3) (.tmp 5) rfl (.slice (some ⟨W0.heap.size, 0, none⟩) 0 0) (.slice a n c) rfl rfl [] ns O1.out (HRN.out _ (s9.out _ S1)) (by simp; omega) ?_
        intro v2 W2 ho2 hg2
        rw [List.nil_append] at ho2
        have S2 := s8.out _ ((s9.out _ S1).grown hg2 (s9.out _ S1).size (fun q hq => O1.out.ge q hq))
        obtain ⟨a2, c2, hv2⟩ := ho2.rd.form
        rw [Hn.out] at hv2
        subst hv2
        have O2 := hide ho2
        clear ho2 hg2
        refine hK.out _ _ (fun _ => S2) ?_
        clear hK K
        refine wpAnyE_ready (rs := [4]) (by kernel_rfl) (by simp) ?_
        refine AllReadyE.cons rfl (fun K hK => ?_) AllReadyE.nil
        go_simp
        have S3 := s8.out _ ((s9.out _ S2).alloc (s9.out _ S2).size (.cells #[] 65))
        have O3 : Hid (edE.Own (W2.alloc (.cells #[] 65)) W0.heap.size (.slice (some ⟨W2.heap.size, 0, none⟩) 0 0) []) := hide (El.Own.new edE W2 _ (s9.out _ S2).size #[] [] rfl (by simp) _ _ _ (by simp) rfl rfl)
        have P3 : Hid (ndE.Own (W2.alloc (.cells #[] 65)) W0.heap.size (.slice a2 n c2) ns) := hide (World.ownsRow.alloc O2.out (.cells #[] 65))
        refine hK.out _ _ (fun _ => S3) ?_
        clear hK K
        refine wpAnyE_ready (rs := [7]) (by kernel_rfl) (by simp) ?_
        refine AllReadyE.cons rfl (fun K hK => ?_) AllReadyE.nil
        refine stepB edE (B := W0.heap.size) (s9.out _ S3).size rfl (.tmp 7) (.tmp 9) rfl (.slice (some ⟨W2.heap.size, 0, none⟩) 0 0) (.slice a' m c') rfl rfl [] es O3.out (HRE.out _ (s9.out _ S3)) (by simp; omega) ?_
        intro v4 W4 ho4 hg4
        rw [List.nil_append] at ho4
        have S4 := s8.out _ ((s9.out _ S3).grown hg4 (s9.out _ S3).size (fun q hq => O3.out.ge q hq))
        have P4 := hide (own_other (by decide) O3.out P3.out hg4)
        obtain ⟨a4, c4, hv4⟩ := ho4.rd.form
        rw [Hm.out] at hv4
        subst hv4
        have O4 := hide ho4
        clear ho4 hg4
        refine hK.out _ _ (fun _ => S4) ?_
        clear hK K
        refine wpAnyE_take (i := 8) (v := .agg #[.slice a2 n c2, .slice a4 m c4]) rfl (by kernel_rfl) (by kernel_rfl) (by kernel_rfl) (by kernel_rfl) (fun _ _ _ h => h) (Or.inl ⟨by rfl, fun W' hW => by go_simp⟩) S4 ?_
        refine wpAnyE_ready (rs := [9]) (by kernel_rfl) (by simp) ?_
        refine AllReadyE.cons rfl (fun K hK => ?_) AllReadyE.nil
        have z0 := (s9.out _ S4)
        have zb : W4.heap[w.heap.size + 1]? = some (.cells #[.slice none 0 0, .slice none 0 0] 25) := by rw [z0.block _ (heap_lt Hx2.out)]; exact Hx2.out
        have y0 := (cells_at zb 0).1
        have y1 := (cells_at zb 1).1
        have f0 := (cells_at zb 0).2
        have f1 := (cells_at zb 1).2
        simp at y0 y1
        have MT := leaf_ok (by rw [← HW0s.out]; exact HA.out.size) HA.out z0 zb P4.out O4.out
        have MTH := hide MT
        clear MT z0 zb
        go_simp
        refine hK.out _ _ (fun h => absurd rfl h) ?_
        clear hK K
        refine wpAnyE_done (by kernel_rfl) ?_ _
        go_wp2_with fail
        go_meet
        exact ⟨_, _, _, rfl, MTH⟩
      · go_simp
        have S5 := s8.out _ ((s9.out _ S1).alloc (s9.out _ S1).size (.cells #[] 65))
        have O5 : Hid (edE.Own ((W0.drew.alloc (.cells #[] 133)).alloc (.cells #[] 65)) W0.heap.size (.slice (some ⟨W0.heap.size + 1, 0, none⟩) 0 0) []) := hide (El.Own.new edE (W0.drew.alloc (.cells #[] 133)) _ (s9.out _ S1).size #[] [] rfl (by simp) _ _ _ (by simp) rfl rfl)
        have P5 : Hid (ndE.Own ((W0.drew.alloc (.cells #[] 133)).alloc (.cells #[] 65)) W0.heap.size (.slice (some ⟨W0.heap.size, 0, none⟩) 0 0) []) := hide (World.ownsRow.alloc O1.out (.cells #[] 65))
        refine hK.out _ _ (fun _ => S5) ?_
        clear hK K
        refine wpAnyE_ready (rs := [3]) (by kernel_rfl) (by simp) ?_
        refine AllReadyE.cons rfl (fun K hK => ?_) AllReadyE.nil
        refine stepB ndE (B := W0.heap.size) (s9.out _ S5).size rfl (.tmp 3) (.tmp 5) rfl (.slice (some ⟨W0.heap.size, 0, none⟩) 0 0) (.slice a n c) rfl rfl [] ns P5.out (HRN.out _ (s9.out _ S5)) (by simp; omega) ?_
        intro v6 W6 ho6 hg6
        rw [List.nil_append] at ho6
        have S6 := s8.out _ ((s9.out _ S5).grown hg6 (s9.out _ S5).size (fun q hq => P5.out.ge q hq))
        have P6 := hide (own_other (by decide) P5.out O5.out hg6)
        obtain ⟨a6, c6, hv6⟩ := ho6.rd.form
        rw [Hn.out] at hv6
        subst hv6
        have O6 := hide ho6
        clear ho6 hg6
        refine hK.out _ _ (fun _ => S6) ?_
        clear hK K
        refine wpAnyE_ready (rs := [7]) (by kernel_rfl) (by simp) ?_
        refine AllReadyE.cons rfl (fun K hK => ?_) AllReadyE.nil
        refine stepB edE (B := W0.heap.size) (s9.out _ S6).size rfl (.tmp 7) (.tmp 9) rfl (.slice (some ⟨W0.heap.size + 1, 0, none⟩) 0 0) (.slice a' m c') rfl rfl [] es P6.out (HRE.out _ (s9.out _ S6)) (by simp; omega) ?_
        intro v7 W7 ho7 hg7
        rw [List.nil_append] at ho7
        have S7 := s8.out _ ((s9.out _ S6).grown hg7 (s9.out _ S6).size (fun q hq => P6.out.ge q hq))
        have P7 := hide (own_other (by decide) P6.out O6.out hg7)
        obtain ⟨a7, c7, hv7⟩ := ho7.rd.form
        rw [Hm.out] at hv7
        subst hv7
        have O7 := hide ho7
        clear ho7 hg7
        refine hK.out _ _ (fun _ => S7) ?_
        clear hK K
        refine wpAnyE_take (i := 8) (v := .agg #[.slice a6 n c6, .slice a7 m c7]) rfl (by kernel_rfl) (by kernel_rfl) (by kernel_rfl) (by kernel_rfl) (fun _ _ _ h => h) (Or.inl ⟨by rfl, fun W' hW => by go_simp⟩) S7 ?_
        refine wpAnyE_ready (rs := [9]) (by kernel_rfl) (by simp) ?_
        refine AllReadyE.cons rfl (fun K hK => ?_) AllReadyE.nil
        have z0 := (s9.out _ S7)
        have zb : W7.heap[w.heap.size + 1]? = some (.cells #[.slice none 0 0, .slice none 0 0] 25) := by rw [z0.block _ (heap_lt Hx2.out)]; exact Hx2.out
        have y0 := (cells_at zb 0).1
        have y1 := (cells_at zb 1).1
        have f0 := (cells_at zb 0).2
        have f1 := (cells_at zb 1).2
        simp at y0 y1
        have MT := leaf_ok (by rw [← HW0s.out]; exact HA.out.size) HA.out z0 zb P7.out O7.out
        have MTH := hide MT
        clear MT z0 zb
        go_simp
        refine hK.out _ _ (fun h => absurd rfl h) ?_
        clear hK K
        refine wpAnyE_done (by kernel_rfl) ?_ _
        go_wp2_with fail
        go_meet
        exact ⟨_, _, _, rfl, MTH⟩
    · go_simp
      have S8 := s8.out _ ((s9.out _ hS0).alloc (s9.out _ hS0).size (.cells #[] 65))
      have O8 : Hid (edE.Own (W0.drew.alloc (.cells #[] 65)) W0.heap.size (.slice (some ⟨W0.heap.size, 0, none⟩) 0 0) []) := hide (El.Own.new edE W0.drew _ (s9.out _ hS0).size #[] [] rfl (by simp) _ _ _ (by simp) rfl rfl)
      refine hK.out _ _ (fun _ => S8) ?_
      clear hK K
      refine wpAnyE_ready (rs := [0]) (by kernel_rfl) (by simp) ?_
      refine AllReadyE.cons rfl (fun K hK => ?_) AllReadyE.nil
      go_simp
      have S9 := s8.out _ ((s9.out _ S8).alloc (s9.out _ S8).size (.cells #[] 133))
      have O9 : Hid (ndE.Own ((W0.drew.alloc (.cells #[] 65)).alloc (.cells #[] 133)) W0.heap.size (.slice (some ⟨W0.heap.size + 1, 0, none⟩) 0 0) []) := hide (El.Own.new ndE (W0.drew.alloc (.cells #[] 65)) _ (s9.out _ S8).size #[] [] rfl (by simp) _ _ _ (by simp) rfl rfl)
      have P9 : Hid (edE.Own ((W0.drew.alloc (.cells #[] 65)).alloc (.cells #[] 133)) W0.heap.size (.slice (some ⟨W0.heap.size, 0, none⟩) 0 0) []) := hide (World.ownsRow.alloc O8.out (.cells #[] 133))
      refine hK.out _ _ (fun _ => S9) ?_
      clear hK K
      refine wpAnyE_ready (rs := [3]) (by kernel_rfl) (by simp) ?_
      refine AllReadyE.cons rfl (fun K hK => ?_) AllReadyE.nil
      refine stepB ndE (B := W0.heap.size) (s9.out _ S9).size rfl (.tmp 3) (.tmp 5) rfl (.slice (some ⟨W0.heap.size + 1, 0, none⟩) 0 0) (.slice a n c) rfl rfl [] ns O9.out (HRN.out _ (s9.out _ S9)) (by simp; omega) ?_
      intro v10 W10 ho10 hg10
      rw [List.nil_append] at ho10
      have S10 := s8.out _ ((s9.out _ S9).grown hg10 (s9.out _ S9).size (fun q hq => O9.out.ge q hq))
      have P10 := hide (own_other (by decide) O9.out P9.out hg10)
      obtain ⟨a10, c10, hv10⟩ := ho10.rd.form
      rw [Hn.out] at hv10
      subst hv10
      have O10 := hide ho10
      clear ho10 hg10
      refine hK.out _ _ (fun _ => S10) ?_
      clear hK K
      refine wpAnyE_ready (rs := [7]) (by kernel_rfl) (by simp) ?_
      refine AllReadyE.cons rfl (fun K hK => ?_) AllReadyE.nil
      refine stepB edE (B := W0.heap.size) (s9.out _ S10).size rfl (.tmp 7) (.tmp 9) rfl (.slice (some ⟨W0.heap.size, 0, none⟩) 0 0) (.slice a' m c') rfl rfl [] es P10.out (HRE.out _ (s9.out _ S10)) (by simp; omega) ?_
      intro v11 W11 ho11 hg11
      rw [List.nil_append] at ho11
      have S11 := s8.out _ ((s9.out _ S10).grown hg11 (s9.out _ S10).size (fun q hq => P10.out.ge q hq))
      have P11 := hide (own_other (by decide) P10.out O10.out hg11)
      obtain ⟨a11, c11, hv11⟩ := ho11.rd.form
      rw [Hm.out] at hv11
      subst hv11
      have O11 := hide ho11
      clear ho11 hg11
      refine hK.out _ _ (fun _ => S11) ?_
      clear hK K
      refine wpAnyE_take (i := 8) (v := .agg #[.slice a10 n c10, .slice a11 m c11]) rfl (by kernel_rfl) (by kernel_rfl) (by kernel_rfl) (by kernel_rfl) (fun _ _ _ h => h) (Or.inl ⟨by rfl, fun W' hW => by go_simp⟩) S11 ?_
      refine wpAnyE_ready (rs := [9]) (by kernel_rfl) (by simp) ?_
      refine AllReadyE.cons rfl (fun K hK => ?_) AllReadyE.nil
      have z0 := (s9.out _ S11)
      have zb : W11.heap[w.heap.size + 1]? = some (.cells #[.slice none 0 0, .slice none 0 0] 25) := by rw [z0.block _ (heap_lt Hx2.out)]; exact Hx2.out
      have y0 := (cells_at zb 0).1
      have y1 := (cells_at zb 1).1
      have f0 := (cells_at zb 0).2
      have f1 := (cells_at zb 1).2
      simp at y0 y1
      have MT := leaf_ok (by rw [← HW0s.out]; exact HA.out.size) HA.out z0 zb P11.out O11.out
      have MTH := hide MT
      clear MT z0 zb
      go_simp
      refine hK.out _ _ (fun h => absurd rfl h) ?_
      clear hK K
      refine wpAnyE_done (by kernel_rfl) ?_ _
      go_wp2_with fail
      go_meet
      exact ⟨_, _, _, rfl, MTH⟩
  case rest =>
  obtain ⟨vN, vE, W, rfl, HH⟩ := hcut
  obtain ⟨aN, cN, hN⟩ := HH.out.2.1.rd.form
  obtain ⟨aE, cE, hE⟩ := HH.out.2.2.1.rd.form
  subst hN
  subst hE
  have q0 := (cells_at HH.out.1 0).1
  have q1 := (cells_at HH.out.1 1).1
  simp at q0 q1
  go_wp2_with fail
  refine bodyPost_ret (v := .agg #[.slice aN ns.length cN, .slice aE es.length cE]) (by simp [results, Tryz.results9, go_sem, q0, q1]) rfl ?_
  exact ⟨_, _, rfl, HH.out.2.1, HH.out.2.2.1, HH.out.2.2.2⟩
end Go.Proofs.YtocmngpoemfpkabGreatDoor

namespace Go.Proofs.YtocmngpoemfpkabGreatDoor
open Go.RowKit
structure Pi (c : Ct) (k : Nat) : Prop where
  fit : Fit c k
  al : c.dead = false
  fr : c.T.Free
  len : c.T.now.length ≤ 19 * k
theorem Pi.up {c : Ct} {k j : Nat} (h : Pi c k) (hk : k ≤ j) : Pi c j := ⟨h.fit.up hk, h.al, h.fr, by have := h.len; omega⟩
theorem Pi.note {c : Ct} {k : Nat} (h : Pi c k) (hk : k ≤ 3000) {x : Nt} (hx : x.ok = true) : Pi (c.note x).2 (k + 1) ∧
    ((c.note x).1 = ndC c.S c.K x) ∧ (ndC c.S c.K x ≠ 0 → (c.note x).2 = c) ∧
    (ndC c.S c.K x = 0 → (c.note x).2.S = ndS c.S x ∧ (c.note x).2.K = ndK c.K x ∧ (c.note x).2.J = c.J ∧ (c.note x).2.tk = c.tk ∧ c.T.now.length < (c.note x).2.T.now.length) := by
  have hfit := h.fit.note x
  have hl := h.len
  have hb := bts_len5 hx
  have ht : tot [x] = x.bts.length := by simp [tot]
  obtain ⟨T', e1, e2, e3⟩ := app_free h.fr (ns := [x]) (by simp [hx]) (by omega)
  have hw : c.wr x = (0, T') := e1
  have hn : c.note x = if ndC c.S c.K x ≠ 0 then (ndC c.S c.K x, c) else (0, ⟨ndS c.S x, ndK c.K x, T', c.J, c.tk, c.dead⟩) := by
    unfold Ct.note
    rw [hw]
    simp
  rw [hn] at hfit ⊢
  by_cases h0 : ndC c.S c.K x = 0
  · rw [if_neg (by simp [h0])] at hfit ⊢
    have hlen : T'.now.length = c.T.now.length + x.bts.length := by rw [e3]; simp
    refine ⟨⟨hfit, h.al, e2, by show T'.now.length ≤ _; omega⟩, h0.symm, fun q => absurd h0 q, fun _ => ⟨rfl, rfl, rfl, rfl, by show _ < T'.now.length; omega⟩⟩
  · rw [if_pos h0] at hfit ⊢
    exact ⟨h.up (by omega), rfl, fun _ => rfl, fun q => absurd q h0⟩
theorem put_ok {S : Mr} {n : Nat} {es : List (Int × Int)} (hn : S.ts.length ≤ 40) {t x : Int} (h : (S.put t x).1 = 0) : (⟨1, t, x, 0⟩ : Nt).ok = true ∧ (1 ≤ t ∧ t ≤ 30) ∧ 0 ≤ x ∧ x < S.ts.length := by
  unfold Mr.put at h
  by_cases h1 : (isT t && S.isN x) = false
  · rw [if_pos h1] at h; cases h
  · have h2 : isT t = true ∧ S.isN x = true := by
      cases a : isT t <;> cases b : S.isN x <;> simp_all
    have h3 := isT_iff.1 h2.1
    have h4 := Mr.isN_iff.1 h2.2
    refine ⟨(ok_iff _).2 ⟨by show 0 < us 1; decide, fun i y hy => ?_, fun q => by simp at q⟩, h3, h4⟩
    rcases i with _ | _ | _ | i
    · simp [Nt.fs] at hy; subst hy; refine ⟨by omega, by omega, fun q => by simp [us] at q⟩
    · simp [Nt.fs] at hy; subst hy; refine ⟨by omega, by omega, fun q => by simp [us] at q⟩
    · simp [Nt.fs] at hy; subst hy; refine ⟨by omega, by omega, fun q => rfl⟩
    · simp [Nt.fs] at hy
theorem ndC1 (S : Mr) (K : Bk) (t x : Int) : ndC S K ⟨1, t, x, 0⟩ = (S.put t x).1 := by
  unfold ndC
  rw [if_neg (by simp), if_neg (by simp), if_neg (by simp)]
  unfold Mr.app
  rw [if_pos rfl]
theorem ndK1 (K : Bk) (t x : Int) : ndK K ⟨1, t, x, 0⟩ = K := by
  unfold ndK
  rw [if_neg (by simp), if_neg (by simp), if_neg (by simp)]
theorem ndS1 (S : Mr) (t x : Int) : ndS S ⟨1, t, x, 0⟩ = (S.put t x).2 := by
  unfold ndS
  rw [if_neg (by simp), if_neg (by simp), if_neg (by simp)]
  unfold Mr.app
  rw [if_pos rfl]
theorem Pi.put {c : Ct} {k : Nat} (h : Pi c k) (hk : k ≤ 3000) (hn : c.S.ts.length ≤ 40) (E : Ev) (t x : Int) : Pi (c.put E t x).2 (k + 1) ∧ (c.put E t x).2.K = c.K ∧ (c.put E t x).2.J = c.J ∧ (c.put E t x).2.tk = c.tk ∧ ((c.put E t x).2.S = c.S ∨ (c.put E t x).2.S = (c.S.put t x).2) := by
  unfold Ct.put
  rw [if_neg (by rw [h.al]; simp)]
  by_cases ho : c.onP E x 0 = true
  · rw [if_pos ho]
    exact ⟨h.up (by omega), rfl, rfl, rfl, .inl rfl⟩
  · rw [if_neg ho]
    by_cases h0 : ndC c.S c.K ⟨1, t, x, 0⟩ = 0
    · have hok := (put_ok (n := 0) (es := []) hn (by rw [← ndC1 c.S c.K]; exact h0)).1
      obtain ⟨a1, a2, a3, a4⟩ := h.note hk hok
      obtain ⟨b1, b2, b3, b4, _⟩ := a4 h0
      exact ⟨a1, by rw [b2, ndK1], b3, b4, .inr (by rw [b1, ndS1])⟩
    · rw [note_no h0]
      exact ⟨h.up (by omega), rfl, rfl, rfl, .inl rfl⟩
theorem put_len (S : Mr) (t x : Int) : (S.put t x).2.ts.length = S.ts.length ∧ (S.put t x).2.ds = S.ds := by
  unfold Mr.put
  split
  · exact ⟨rfl, rfl⟩
  · split
    · exact ⟨rfl, rfl⟩
    · split
      · exact ⟨rfl, rfl⟩
      · exact ⟨by show (S.ts.set _ _).length = _; rw [List.length_set], rfl⟩
theorem opn_new {ns : List Nd} {es : List Ed} (hg : good ns es = true) {p : Int} (hp : 1 ≤ p ∧ p ≤ 1000) : ∃ T0 : Tp, opn ns es p Tp.nw [] [] = (0, T0, some (Mr.nw ns.length es, Bk.new)) ∧ T0.Free ∧ T0.now = [] := by
  obtain ⟨T', e1, e2, e3⟩ := rep_free free_nw (got := []) (r := []) (rds_all (ns := []) (fun n hn => by cases hn))
  refine ⟨T', ?_, e2, by simpa using e3⟩
  unfold opn
  rw [e1]
  rw [if_neg (by rw [hg]; simp), if_neg (by omega), if_neg (by simp)]
  rfl
theorem Pi.new {m : Nat} {T0 : Tp} {n : Nat} {es : List Ed} (h1 : T0.Free) (h2 : T0.now = []) : Pi (ct1 m T0 (Mr.nw n es) Bk.new) 0 := by
  refine ⟨⟨⟨fun t => by simp [ct1], fun _ => ⟨[], ?_, Nat.le_refl _, Nat.le_refl _, Nat.le_refl _⟩⟩, fun d => ?_, ?_⟩, rfl, h1, by show T0.now.length ≤ _; rw [h2]; simp⟩
  · show NRds T0.now [] []
    rw [h2]
    exact rds_all (ns := []) (fun n hn => by cases hn)
  · show 0 ≤ ((List.replicate (m + 1) (0 : Int))[d.toNat]?).getD 0 ∧ ((List.replicate (m + 1) (0 : Int))[d.toNat]?).getD 0 ≤ 1000
    rw [List.getElem?_replicate]
    split <;> simp
  · intro D hD
    have : D ∈ es.map mkD := hD
    obtain ⟨e, _, rfl⟩ := List.mem_map.1 this
    exact ⟨by simp [mkD], by simp [mkD]⟩
theorem Its.new2 {w0 w w' : World} {l : List It} {x y : It} (h : Its w0 l w) (hx : x.P w') (hy : y.P w') (fx : ∀ k, x.f k → w.heap.size ≤ k) (fy : ∀ k, y.f k → w.heap.size ≤ k) (hxy : ∀ k, x.f k → ¬ y.f k) (hb : Below w.heap.size w w') : Its w0 (x :: y :: l) w' := by
  have e : ∀ z, z ∈ [y] → z = y := fun z hz => by simpa using hz
  have hp : (It.grp [x, y]).P w' := by
    refine ⟨fun z hz => ?_, List.pairwise_cons.2 ⟨fun z hz k q => ?_, by simp⟩⟩
    · rcases List.mem_cons.1 hz with rfl | hz
      · exact hx
      · rw [e z hz]; exact hy
    · rw [e z hz]; exact hxy k q
  have h1 := h.new (x := .grp [x, y]) hp (fun k hk => by
    obtain ⟨z, hz, q⟩ := hk
    rcases List.mem_cons.1 hz with rfl | hz
    · exact fx k q
    · rw [e z hz] at q; exact fy k q) hb
  exact h1.opn
section
set_option maxRecDepth 100000
set_option maxHeartbeats 4000000
variable {w0 w : World} {l : List It} {B g n m : Nat} {E : Ev} {P : Kp} {c : Ct}
theorem ksize_any (h : (It.ctl w0.heap.size g E n m P c).P w) : Calls Tryz.prog 13 #[.pointer (some ⟨E.gt, 0, none⟩)] w fun e w' => e = .returned (.int .i64 (c.T.now.length : Int)) ∧ ∃ q, w' = w.drewN q := by
  have := sizeP (kt_t h)
  rw [(kt_f h).gq] at this
  exact this
theorem kown {a b : Option Addr} {c e : Nat} {ns : List Nd} {es : List Ed} {W : World} (hW : Its w0 l W) (hn : ns.length = n) (hm : es.length = m) (hn4 : n ≤ 1000) (hm4 : m ≤ 1000) (hv : ndE.Rd W (.slice a n c) ns) (hu : edE.Rd W (.slice b m e) es) :
    Calls Tryz.prog 9 #[.agg #[.slice a n c, .slice b m e]] W fun r w' => ∃ a1 c1 b1 e1, r = .returned (.agg #[.slice a1 n c1, .slice b1 m e1]) ∧ Its w0 (.row ndE w0.heap.size (.slice a1 n c1) ns :: .row edE w0.heap.size (.slice b1 m e1) es :: l) w' := by
  subst hn hm
  refine (copy_any a b c e ns es W hv hu hn4 hm4).mono ?_
  rintro r w' ⟨vN, vE, rfl, q1, q2, q3⟩
  obtain ⟨a1, c1, rfl⟩ := q1.rd.form
  obtain ⟨b1, e1, rfl⟩ := q2.rd.form
  refine ⟨a1, c1, b1, e1, rfl, hW.new2 (q1.mono hW.size) (q2.mono hW.size) (fun k hk => q1.ge k hk) (fun k hk => q2.ge k hk) (fun k h1 h2 => ?_) q3⟩
  obtain ⟨C1, z1⟩ := own_type q1 k h1
  obtain ⟨C2, z2⟩ := own_type q2 k h2
  rw [z1] at z2
  simp only [Option.some.injEq, Obj.cells.injEq] at z2
  exact absurd z2.2.1 (by decide)
theorem rows_lyt {a1 b1 : Option Addr} {c1 e1 : Nat} {ns : List Nd} {es : List Ed} {W : World} {x : It} (hn : ns.length = n) (hm : es.length = m) (hs : ∀ p ∈ ns, p.name.size ≤ maxLen) (h : Its w0 (x :: .row ndE w0.heap.size (.slice a1 n c1) ns :: .row edE w0.heap.size (.slice b1 m e1) es :: l) W) : Lyt W a1 b1 c1 e1 n m ns es :=
  ⟨hn, hm, h.two.rd, h.three.rd, by have := nd_cap h.three; omega, hs⟩
theorem small_any {a b : Option Addr} {c e : Nat} {ns : List Nd} {es : List Ed} {W : World} (hL : Lyt W a b c e n m ns es) :
    Calls Tryz.prog 6 #[.agg #[.slice a n c, .slice b m e]] W fun r w' => r = .returned (.bool (good ns es && (decide (n ≤ 14) && decide (m ≤ 40)))) ∧ Below W.heap.size W w' := by
  have hv := hL.hv
  have hu := hL.hu
  have hn := hL.hn
  have hm := hL.hm
  clear hL
  have bA : Below W.heap.size W (W.alloc (.cells #[.slice a n c, .slice b m e] 25)) := below_new _ _
  have hbx : (W.alloc (.cells #[.slice a n c, .slice b m e] 25)).heap[W.heap.size]? = some (.cells #[.slice a n c, .slice b m e] 25) := heap_new _ _
  have K55 : Hid (Calls Tryz.prog 22 #[.agg #[.slice a n c, .slice b m e]] (W.alloc (.cells #[.slice a n c, .slice b m e] 25)) fun r w' => r = .returned (.bool (good ns es)) ∧ Below W.heap.size W w' ∧ w'.cell? ⟨W.heap.size, 0, none⟩ = some (.slice a n c) ∧ w'.cell? ⟨W.heap.size, 1, none⟩ = some (.slice b m e)) := hide (by
    subst hn hm
    refine (rgood_any a b c e ns es _ (hv.keep bA) (hu.keep bA)).mono ?_
    rintro r w' ⟨rfl, q⟩
    have hb' := q.block W.heap.size (heap_lt hbx)
    rw [hbx] at hb'
    exact ⟨rfl, bA.trans (q.mono bA.size), (cells_at hb' 0).1, (cells_at hb' 1).1⟩)
  have b0 := (cells_at hbx 0).1
  have b1 := (cells_at hbx 1).1
  clear hbx bA hv hu hn hm
  generalize good ns es = gd at *
  cases gd with
  | false =>
    go_enter Tryz.func6, Tryz.ntmps6
    go_wp2_with (go_at_call 22; refine K55.out.mono ?_; rintro r w1 ⟨rfl, q1, q2, q3⟩; have HB := hide q1; clear q1)
    go_ret
    exact ⟨by simp, HB.out⟩
  | true =>
  by_cases h1 : n ≤ 14
  · have h1' : (n : Int) ≤ 14 := by omega
    by_cases h2 : m ≤ 40
    · have h2' : (m : Int) ≤ 40 := by omega
      go_enter Tryz.func6, Tryz.ntmps6
      go_wp2_with (go_at_call 22; refine K55.out.mono ?_; rintro r w1 ⟨rfl, q1, q2, q3⟩; have HB := hide q1; clear q1)
      go_ret
      exact ⟨by simp [h1, h2], HB.out⟩
    · have h2' : ¬ (m : Int) ≤ 40 := by omega
      go_enter Tryz.func6, Tryz.ntmps6
      go_wp2_with (go_at_call 22; refine K55.out.mono ?_; rintro r w1 ⟨rfl, q1, q2, q3⟩; have HB := hide q1; clear q1)
      go_ret
      exact ⟨by rw [decide_eq_true h1, decide_eq_false h2]; simp; try omega, HB.out⟩
  · have h1' : ¬ (n : Int) ≤ 14 := by omega
    go_enter Tryz.func6, Tryz.ntmps6
    go_wp2_with (go_at_call 22; refine K55.out.mono ?_; rintro r w1 ⟨rfl, q1, q2, q3⟩; have HB := hide q1; clear q1)
    go_ret
    exact ⟨by simp, HB.out⟩
end
end Go.Proofs.YtocmngpoemfpkabGreatDoor

namespace Go.Proofs.YtocmngpoemfpkabGreatDoor
open Go.RowKit
theorem pathF_head {E : Ev} {ms fs : List Int} {u x d : Int} {p : List Int} (h : pathF E ms u x fs = d :: p) : ∃ v : Int, (1 ≤ d ∧ d ≤ (E.es.length : Int)) ∧ E.es[(d - 1).toNat]? = some (u, v) ∧ (v = x ∨ v ∉ fs) ∧ 0 ≤ v ∧ v < (E.ns.length : Int) := by
  unfold pathF at h
  split at h
  · rename_i hr
    obtain ⟨hu, ht⟩ := hr
    obtain ⟨ku, rfl⟩ : ∃ ku : Nat, u = (ku : Int) := ⟨u.toNat, by omega⟩
    obtain ⟨kt, rfl⟩ : ∃ kt : Nat, x = (kt : Int) := ⟨x.toNat, by omega⟩
    rw [show ((kt : Int)).toNat = kt by omega, show ((ku : Int)).toNat = ku by omega] at h
    by_cases hG : ∃ l, Gr E.ns E.es (ms ++ shut E.es (kt : Int) fs) l kt E.ns.length
    · obtain ⟨l, g⟩ := hG
      rw [lenF_of g] at h
      split at h
      · cases h
      · rename_i h0
        obtain ⟨k, hk⟩ : ∃ k : Nat, va l ku = (k : Int) := ⟨(va l ku).toNat, by omega⟩
        rw [hk, show ((k : Int)).toNat = k by omega] at h
        cases k with
        | zero => cases h
        | succ k =>
          obtain ⟨i, v, h1, h2, h3, h4, h5, h6, h7, _⟩ := g.on hk
          have hd : d = ((i + 1 : Nat) : Int) := by
            unfold pth at h
            rw [h1] at h
            exact (List.cons.inj h).1.symm
          subst hd
          refine ⟨(v : Int), by omega, ?_, ?_, by omega, by omega⟩
          · rw [show (((i + 1 : Nat) : Int) - 1).toNat = i by omega]; exact h3
          · by_cases e : (v : Int) = (kt : Int)
            · exact .inl e
            · refine .inr fun q => h5 (List.mem_append.2 (.inr ?_))
              exact (dvs_mem _ _ _ _).2 ⟨i, _, h2, rfl, h3, e, q⟩
    · have e : lenF E (ms ++ shut E.es (kt : Int) fs) kt = [] := by
        unfold lenF
        rw [dif_neg hG]
      rw [e, if_pos (by simp [va])] at h
      cases h
  · cases h
theorem wayF_head {E : Ev} {c : Ct} {t x d : Int} {full p : List Int} (h : c.wayF E t x full = d :: p) : ∃ v : Int, (1 ≤ d ∧ d ≤ (E.es.length : Int)) ∧ E.es[(d - 1).toNat]? = some (c.S.whr t, v) ∧ v ∉ full ∧ 0 ≤ v ∧ v < (E.ns.length : Int) := by
  unfold Ct.wayF at h
  split at h
  · cases h
  · rename_i hx
    obtain ⟨v, h1, h2, h3, h4⟩ := pathF_head h
    refine ⟨v, h1, h2, ?_, h4⟩
    rcases h3 with rfl | h3
    · exact hx
    · exact h3
theorem near_from (E : Ev) (c : Ct) (t : Int) (k : Nat) : Ct.near E c t k = [] ∨ ∃ x, Ct.near E c t k = c.wayF E t x (c.fullL E t) := by
  induction k with
  | zero => exact .inl rfl
  | succ k ih =>
    rw [near_succ]
    unfold Ct.near1
    split
    · split
      · exact .inr ⟨_, rfl⟩
      · exact ih
    · exact ih
structure Hds (E : Ev) (c : Ct) : Prop where
  hd : ∀ (t d : Int) (p : List Int), c.J t = d :: p → (1 ≤ t ∧ t ≤ 30) ∧ c.S.isD d = true ∧ c.S.whr t ≠ -1 ∧ (c.S.dev d).fr = c.S.whr t ∧ (c.S.way t = false → c.S.tak (c.S.dev d).en = false)
  ap : ∀ (t d : Int) (p : List Int) (t' d' : Int) (p' : List Int), t ≠ t' → c.J t = d :: p → c.J t' = d' :: p' → (c.S.dev d).en ≠ (c.S.dev d').en
theorem Hds.nil {E : Ev} {c : Ct} (h : ∀ t, c.J t = []) : Hds E c := ⟨fun t d p q => absurd q (by rw [h t]; simp), fun t d p t' d' p' _ q => absurd q (by rw [h t]; simp)⟩
theorem Hds.of {E : Ev} {c c' : Ct} (h : Hds E c) (hS : c'.S = c.S) (hJ : c'.J = c.J) : Hds E c' := ⟨by rw [hS, hJ]; exact h.hd, by rw [hS, hJ]; exact h.ap⟩
theorem Hds.clear {E : Ev} {c : Ct} (h : Hds E c) (t : Int) : Hds E (c.setJ t []) := by
  have e : ∀ (x d : Int) (p : List Int), (c.setJ t []).J x = d :: p → c.J x = d :: p := fun x d p q => by
    have q' : (if x = t then [] else c.J x) = d :: p := q
    split at q'
    · cases q'
    · exact q'
  exact ⟨fun x d p q => h.hd x d p (e x d p q), fun x d p x' d' p' hn q q' => h.ap x d p x' d' p' hn (e x d p q) (e x' d' p' q')⟩
theorem dev_edge {E : Ev} {S : Mr} {n : Nat} (H : S.Ok n E.es) {d : Int} (hd : S.isD d = true) : Ct.onP.edN' E d = (S.dev d).en := by
  unfold Ct.onP.edN'
  rw [H.edge hd]; rfl
theorem Hds.way {E : Ev} {c : Ct} {n : Nat} (h : Hds E c) (H : c.S.Ok n E.es) (hn : E.ns.length = n) {t : Int} (ht : 1 ≤ t ∧ t ≤ 30) (hw : c.S.whr t ≠ -1) (x : Int) : Hds E (c.setJ t (c.wayF E t x (c.fullL E t))) := by
  generalize hp : c.wayF E t x (c.fullL E t) = pw
  cases pw with
  | nil => exact h.clear t
  | cons d0 p0 =>
    obtain ⟨v, h1, h2, h3, h4, h5⟩ := wayF_head hp
    have hlen := H.len
    have hd0 : c.S.isD d0 = true := Mr.isD_iff.2 (by omega)
    have he := H.edge hd0
    rw [h2] at he
    simp only [Option.some.injEq, Prod.mk.injEq] at he
    obtain ⟨e1, e2⟩ := he
    have hin := H.ins (Mr.dev_at hd0).2
    have hfb : c.fullB E t v = false := by
      cases q : c.fullB E t v with
      | false => rfl
      | true =>
        refine absurd ?_ h3
        unfold Ct.fullL
        refine List.mem_filter.2 ⟨List.mem_map.2 ⟨v.toNat, List.mem_range.2 (by omega), by omega⟩, q⟩
    have hne : c.S.whr t ≠ v := by rw [e1, e2]; exact hin.2.2
    unfold Ct.fullB at hfb
    simp only [Bool.or_eq_false_iff, Bool.and_eq_false_iff, decide_eq_false_iff_not] at hfb
    obtain ⟨f1, f2⟩ := hfb
    have htak : c.S.tak v = false := by
      rcases f1 with f1 | f1
      · exact f1
      · exact absurd hne f1
    have hap : ∀ (t' d' : Int) (p' : List Int), t' ≠ t → c.J t' = d' :: p' → (c.S.dev d').en ≠ v := fun t' d' p' hn' hj q => by
      obtain ⟨g1, g2, _⟩ := h.hd t' d' p' hj
      have : c.onP E v t = true := by
        unfold Ct.onP
        refine List.any_eq_true.2 ⟨t'.toNat, List.mem_range.2 (by omega), ?_⟩
        rw [show ((t'.toNat : Nat) : Int) = t' by omega, hj]
        simp only [Bool.and_eq_true, decide_eq_true_eq, List.any_cons, Bool.or_eq_true]
        exact ⟨hn', .inl (by rw [dev_edge H g2]; exact q)⟩
      rw [this] at f2
      cases f2
    have eJ : ∀ (y d : Int) (p : List Int), (c.setJ t (d0 :: p0)).J y = d :: p → (y = t ∧ d = d0) ∨ (y ≠ t ∧ c.J y = d :: p) := fun y d p q => by
      have q' : (if y = t then d0 :: p0 else c.J y) = d :: p := q
      split at q'
      · rename_i e; exact .inl ⟨e, (List.cons.inj q').1.symm⟩
      · rename_i e; exact .inr ⟨e, q'⟩
    refine ⟨fun y d p q => ?_, fun y d p y' d' p' hyy q q' => ?_⟩
    · rcases eJ y d p q with ⟨rfl, rfl⟩ | ⟨_, q⟩
      · exact ⟨ht, hd0, hw, e1.symm, fun _ => by show c.S.tak (c.S.dev d).en = false; rw [← e2]; exact htak⟩
      · exact h.hd y d p q
    · show (c.S.dev d).en ≠ (c.S.dev d').en
      rcases eJ y d p q with ⟨rfl, rfl⟩ | ⟨hy, q1⟩ <;> rcases eJ y' d' p' q' with ⟨rfl, rfl⟩ | ⟨hy', q2⟩
      · exact absurd rfl hyy
      · rw [← e2]; exact fun z => hap y' d' p' hy' q2 z.symm
      · rw [← e2]; exact hap y d p hy q1
      · exact h.ap y d p y' d' p' hyy q1 q2
theorem Hds.away1 {E : Ev} {c : Ct} {n : Nat} (h : Hds E c) (H : c.S.Ok n E.es) (hn : E.ns.length = n) {t : Int} (ht : 1 ≤ t ∧ t ≤ 30) : Hds E (Ct.away1 E c t) := by
  unfold Ct.away1
  split
  · exact h
  · rename_i h0
    split
    · exact h
    · have hr : c.rests t = true := by
        cases q : c.rests t with
        | true => rfl
        | false => exact absurd (by rw [q]; rfl) h0
      unfold Ct.rests at hr
      simp only [Bool.and_eq_true, decide_eq_true_eq] at hr
      rcases near_from E c t E.ns.length with q | ⟨x, q⟩
      · rw [q]; exact h.clear t
      · rw [q]; exact h.way H hn ht hr.1 x
theorem Hds.away {E : Ev} {c : Ct} {n : Nat} (h : Hds E c) (H : c.S.Ok n E.es) (hn : E.ns.length = n) (k : Nat) (hk : k ≤ 30) : Hds E (Ct.away E c k) := by
  induction k with
  | zero => exact h
  | succ k ih =>
    rw [away_succ]
    have := ih (by omega)
    exact this.away1 (by rw [(away_keep E c k).1]; exact H) hn (by omega)
theorem ndC4 (S : Mr) (K : Bk) (d t q : Int) : ndC S K ⟨4, d, t, q⟩ = (S.snd d t q).1 ∧ ndS S ⟨4, d, t, q⟩ = (S.snd d t q).2 ∧ ndK K ⟨4, d, t, q⟩ = K := by
  refine ⟨?_, ?_, ?_⟩
  · unfold ndC
    rw [if_neg (by simp), if_neg (by simp), if_neg (by simp)]
    unfold Mr.app
    rw [if_neg (by simp), if_pos rfl]
  · unfold ndS
    rw [if_neg (by simp), if_neg (by simp), if_neg (by simp)]
    unfold Mr.app
    rw [if_neg (by simp), if_pos rfl]
  · unfold ndK
    rw [if_neg (by simp), if_neg (by simp), if_neg (by simp)]
theorem snd_ok4 {S : Mr} {d t q : Int} (h1 : 1 ≤ d ∧ d ≤ 120) (h2 : 1 ≤ t ∧ t ≤ 30) (h3 : 0 ≤ q ∧ q ≤ 65535) : (⟨4, d, t, q⟩ : Nt).ok = true := by
  refine (ok_iff _).2 ⟨by show 0 < us 4; decide, fun i y hy => ?_, fun z => by simp at z⟩
  rcases i with _ | _ | _ | i
  · simp [Nt.fs] at hy; subst hy; refine ⟨by omega, by omega, fun z => by simp [us] at z⟩
  · simp [Nt.fs] at hy; subst hy; refine ⟨by omega, by omega, fun z => by simp [us] at z⟩
  · simp [Nt.fs] at hy; subst hy; refine ⟨by omega, by omega, fun z => by simp [us] at z⟩
  · simp [Nt.fs] at hy
theorem nextQ_in {c : Ct} (h : Sqo c.S) (d : Int) : 0 ≤ c.nextQ d ∧ c.nextQ d ≤ 65535 := by
  unfold Ct.nextQ
  split <;> omega
theorem any_false {l : List Dv} {p : Dv → Bool} (h : l.any p = false) : ∀ D ∈ l, p D = false := fun D hD => by
  cases q : p D with
  | false => rfl
  | true => rw [List.any_eq_true.2 ⟨D, hD, q⟩] at h; cases h
theorem snd_goes {E : Ev} {c : Ct} {n : Nat} (h : Hds E c) (H : c.S.Ok n E.es) (hq : Sqo c.S) {t d : Int} {p : List Int} (hj : c.J t = d :: p) (hw : c.S.way t = false) (hdn : (c.S.dev d).dn = false) : (c.S.snd d t (c.nextQ d)).1 = 0 := by
  obtain ⟨h1, h2, h3, h4, h5⟩ := h.hd t d p hj
  have hat := (whr_at (isT_iff.2 h1) h3).2
  have h0 : (c.S.dev d).tt = 0 := by
    by_cases z : (c.S.dev d).tt = 0
    · exact z
    · have := (H.td _ (Mr.dev_at h2).2 z).1
      rw [h4, hat] at this
      have := any_false hw _ (Mr.dev_at h2).2
      unfold takes at this
      simp only [decide_eq_false_iff_not] at this
      omega
  unfold Mr.snd
  have hQ : isQ (c.nextQ d) = true := isQ_iff.2 (nextQ_in hq d)
  rw [if_neg (by rw [h2, isT_iff.2 h1, hQ]; simp), if_neg (by rw [hdn, h0]; simp), if_neg (by rw [h4, hat, hw]; simp), if_neg (by rw [h5 hw]; simp)]
theorem dev_set {S : Mr} {d : Int} (hd : S.isD d = true) (D : Dv) (x : Int) (hx : S.isD x = true) : (S.setD d D).dev x = if x = d then D else S.dev x := by
  have h1 := Mr.isD_iff.1 hd
  have h2 := Mr.isD_iff.1 hx
  unfold Mr.dev Mr.setD
  simp only [List.getElem?_set]
  by_cases e : x = d
  · subst e
    rw [if_pos rfl, if_pos (by omega), if_pos rfl]; rfl
  · rw [if_neg (by omega), if_neg e]
theorem Hds.told {E : Ev} {c : Ct} {n : Nat} (h : Hds E c) (H : c.S.Ok n E.es) {t d : Int} {p : List Int} (hj : c.J t = d :: p) (q : Int) {c' : Ct} (hS : c'.S = c.S.setD d { c.S.dev d with tt := t, sq := q, ev := true }) (hJ : c'.J = c.J) : Hds E c' := by
  obtain ⟨h1, h2, h3, h4, h5⟩ := h.hd t d p hj
  have eD : ∀ x, c'.S.isD x = c.S.isD x := fun x => by rw [hS]; unfold Mr.isD Mr.setD; simp only [List.length_set]
  have eW : ∀ x, c'.S.whr x = c.S.whr x := fun x => by rw [hS]; rfl
  have eV : ∀ x, c.S.isD x = true → (c'.S.dev x).fr = (c.S.dev x).fr ∧ (c'.S.dev x).en = (c.S.dev x).en := fun x hx => by
    rw [hS, dev_set h2 _ x hx]
    split
    · rename_i e; subst e; exact ⟨rfl, rfl⟩
    · exact ⟨rfl, rfl⟩
  have hds : ∀ D ∈ c'.S.ds, D ∈ c.S.ds ∨ D = { c.S.dev d with tt := t, sq := q, ev := true } := fun D hD => by
    rw [hS] at hD
    exact List.mem_or_eq_of_mem_set hD
  refine ⟨fun y d' p' hy => ?_, fun y d1 p1 y' d2 p2 hn a b => ?_⟩
  · rw [hJ] at hy
    obtain ⟨g1, g2, g3, g4, g5⟩ := h.hd y d' p' hy
    obtain ⟨v1, v2⟩ := eV d' g2
    refine ⟨g1, by rw [eD]; exact g2, by rw [eW]; exact g3, by rw [v1, eW]; exact g4, fun hw => ?_⟩
    rw [v2]
    have hyt : y ≠ t := fun e => by
      subst e
      have hm : ({ c.S.dev d with tt := y, sq := q, ev := true } : Dv) ∈ c'.S.ds := by
        rw [hS]
        have hl := Mr.isD_iff.1 h2
        exact List.mem_of_getElem? (i := (d - 1).toNat) (by show (c.S.ds.set _ _)[_]? = _; rw [List.getElem?_set, if_pos rfl, if_pos (by omega)])
      have := any_false hw _ hm
      simp [takes] at this
    have hw0 : c.S.way y = false := by
      cases z : c.S.way y with
      | false => rfl
      | true =>
        obtain ⟨D, hD, hz⟩ := List.any_eq_true.1 z
        obtain ⟨i, hi⟩ := List.getElem?_of_mem hD
        by_cases e : i = (d - 1).toNat
        · -- the device itself: it was told nothing
          have hdv := (Mr.dev_at h2).1
          rw [← e, hi] at hdv
          have hDd : D = c.S.dev d := by simpa using hdv
          unfold takes at hz
          simp only [decide_eq_true_eq] at hz
          have htt : (c.S.dev d).tt ≠ 0 := by rw [← hDd, hz]; omega
          have ha := (H.td _ (Mr.dev_at h2).2 htt).1
          rw [h4, (whr_at (isT_iff.2 h1) h3).2, ← hDd, hz] at ha
          exact absurd ha.symm hyt
        · have hm : D ∈ c'.S.ds := by
            rw [hS]
            exact List.mem_of_getElem? (i := i) (by show (c.S.ds.set _ _)[_]? = _; rw [List.getElem?_set, if_neg (by omega)]; exact hi)
          have := any_false hw _ hm
          rw [hz] at this; cases this
    have ht0 := g5 hw0
    have hap := h.ap y d' p' t d p hyt hy hj
    cases z : c'.S.tak (c.S.dev d').en with
    | false => rfl
    | true =>
      unfold Mr.tak at z
      rw [Bool.or_eq_true] at z
      obtain ⟨z1, z2⟩ := tak_no ht0
      rcases z with z | z
      · simp only [decide_eq_true_eq] at z
        have : c'.S.att (c.S.dev d').en = c.S.att (c.S.dev d').en := by rw [hS]; rfl
        rw [this] at z
        exact absurd z1 z
      · obtain ⟨D, hD, hz⟩ := List.any_eq_true.1 z
        unfold comes at hz
        simp only [Bool.and_eq_true, decide_eq_true_eq] at hz
        rcases hds D hD with hD | rfl
        · exact absurd hz.2 (z2 D hD hz.1)
        · exact absurd hz.2.symm hap
  · rw [hJ] at a b
    obtain ⟨_, g2, _⟩ := h.hd y d1 p1 a
    obtain ⟨_, g2', _⟩ := h.hd y' d2 p2 b
    rw [(eV d1 g2).2, (eV d2 g2').2]
    exact h.ap y d1 p1 y' d2 p2 hn a b
end Go.Proofs.YtocmngpoemfpkabGreatDoor

namespace Go.Proofs.YtocmngpoemfpkabGreatDoor
open Go.RowKit
structure Snd (E : Ev) (n : Nat) (c : Ct) (k : Nat) : Prop where
  pi : Pi c k
  hs : Hds E c
  ok : c.S.Ok n E.es
  K : c.K = Bk.new
theorem Snd.up {E : Ev} {n : Nat} {c : Ct} {k j : Nat} (h : Snd E n c k) (hk : k ≤ j) : Snd E n c j := ⟨h.pi.up hk, h.hs, h.ok, h.K⟩
theorem Pi.setJ {c : Ct} {k : Nat} (h : Pi c k) (t : Int) {xs : List Int} (hx : xs.length ≤ 1000) : Pi (c.setJ t xs) k := ⟨h.fit.setJ t hx, h.al, h.fr, h.len⟩
theorem Pi.setK {c : Ct} {k : Nat} (h : Pi c k) (d : Int) {x : Int} (hx : 0 ≤ x ∧ x ≤ 1000) : Pi (c.setK d x) k := ⟨h.fit.setK d hx, h.al, h.fr, h.len⟩
def tol (S : Mr) (m : Nat) : List Int := ((List.range m).map (fun i : Nat => (i : Int) + 1)).filter (fun d => decide ((S.dev d).tt ≠ 0))
theorem tol_succ (S : Mr) (m : Nat) : tol S (m + 1) = tol S m ++ if (S.dev ((m : Int) + 1)).tt ≠ 0 then [(m : Int) + 1] else [] := by
  unfold tol
  rw [List.range_succ, List.map_append, List.filter_append]
  congr 1
  by_cases h : (S.dev ((m : Int) + 1)).tt ≠ 0
  · rw [if_pos h]; simp [h]
  · rw [if_neg h]
    simp only [ne_eq, Decidable.not_not] at h
    simp [h]
theorem tk_set {c : Ct} {d x : Int} (e : Int) (h : ∀ d, c.tkAt d = 0) (hx : x = 0) : (c.setK d x).tkAt e = 0 := by
  have h' := h e
  unfold Ct.tkAt at h' ⊢
  show ((c.tk.set d.toNat x)[e.toNat]?).getD 0 = 0
  rw [List.getElem?_set]
  split
  · split
    · exact hx
    · rfl
  · exact h'
structure Tld (E : Ev) (n : Nat) (c c' : Ct) (now : List Int) (k : Nat) : Prop where
  snd : Snd E n c' k
  lk : (c'.S = c.S ∧ c'.T = c.T ∧ c'.tk = c.tk ∧ now = []) ∨ c.T.now.length < c'.T.now.length
  nw : ∀ d, c.S.isD d = true → (c'.S.dev d).tt ≠ 0 → (c.S.dev d).tt ≠ 0 ∨ d ∈ now
  dl : c'.S.ds.length = c.S.ds.length
  z : (∀ d, c.tkAt d = 0) → ∀ d, c'.tkAt d = 0
theorem tell1_goes {E : Ev} {n k : Nat} {c : Ct} {p : Int × Ct × List Int} (h0 : p.1 = 0) (h : Tld E n c p.2.1 p.2.2 k) (hk : k ≤ 3000) (t : Int) : (Ct.tell1 p t).1 = 0 ∧ Tld E n c (Ct.tell1 p t).2.1 (Ct.tell1 p t).2.2 (k + 1) := by
  obtain ⟨code, c1, now⟩ := p
  dsimp only at h0 h
  subst h0
  by_cases q : c1.J t = [] ∨ c1.S.way t = true
  · have e : Ct.tell1 (0, c1, now) t = (0, c1, now) := by
      unfold Ct.tell1
      rw [if_neg (by simp), if_pos q]
    rw [e]
    exact ⟨rfl, h.snd.up (by omega), h.lk, h.nw, h.dl, h.z⟩
  have q0 := q
  rw [not_or] at q
  obtain ⟨d, pj, hj⟩ : ∃ d pj, c1.J t = d :: pj := by
    cases z : c1.J t with
    | nil => exact absurd z q.1
    | cons d pj => exact ⟨d, pj, rfl⟩
  have hw : c1.S.way t = false := by
    cases z : c1.S.way t with
    | false => rfl
    | true => exact absurd z q.2
  have e : Ct.tell1 (0, c1, now) t = if (c1.S.dev d).dn = true then (0, c1.setJ t [], now) else if (c1.note ⟨4, d, t, c1.nextQ d⟩).1 = 0 then (0, (c1.note ⟨4, d, t, c1.nextQ d⟩).2.setK d 0, now ++ [d]) else ((c1.note ⟨4, d, t, c1.nextQ d⟩).1, (c1.note ⟨4, d, t, c1.nextQ d⟩).2, now) := by
    unfold Ct.tell1
    rw [if_neg (by simp), if_neg q0]
    show (if (c1.S.dev ((c1.J t).headD 0)).dn = true then _ else _) = _
    rw [hj]
    rfl
  rw [e]
  clear e
  obtain ⟨h1, h2, h3, h4, h5⟩ := h.snd.hs.hd t d pj hj
  have hlen := h.snd.ok.len
  have hm := h.snd.ok.m120
  have hd' := Mr.isD_iff.1 h2
  by_cases hdn : (c1.S.dev d).dn = true
  · rw [if_pos hdn]
    refine ⟨rfl, ⟨(h.snd.pi.setJ t (xs := []) (by simp)).up (by omega), h.snd.hs.clear t, h.snd.ok, h.snd.K⟩, h.lk, h.nw, h.dl, h.z⟩
  rw [if_neg hdn]
  have hdn' : (c1.S.dev d).dn = false := by
    cases z : (c1.S.dev d).dn with
    | false => rfl
    | true => exact absurd z hdn
  have hgo := snd_goes h.snd.hs h.snd.ok h.snd.pi.fit.sq hj hw hdn'
  have hnok := snd_ok4 (S := c1.S) (d := d) (t := t) (q := c1.nextQ d) (by omega) h1 (nextQ_in h.snd.pi.fit.sq d)
  obtain ⟨e1, e2, e3⟩ := ndC4 c1.S c1.K d t (c1.nextQ d)
  obtain ⟨a1, a2, _, a4⟩ := h.snd.pi.note hk hnok
  obtain ⟨b1, b2, b3, b4, b5⟩ := a4 (by rw [e1]; exact hgo)
  rw [e2] at b1
  rw [e3] at b2
  have hcode : (c1.note ⟨4, d, t, c1.nextQ d⟩).1 = 0 := by rw [a2, e1]; exact hgo
  rw [if_pos hcode]
  rcases snd_cases c1.S d t (c1.nextQ d) with ⟨z, _⟩ | ⟨_, hs2, _⟩
  · exact absurd hgo z
  have hok' := h.snd.ok.snd d t (c1.nextQ d)
  generalize c1.note ⟨4, d, t, c1.nextQ d⟩ = np at *
  obtain ⟨nc, c2⟩ := np
  dsimp only at *
  have hS2 : c2.S = c1.S.setD d { c1.S.dev d with tt := t, sq := c1.nextQ d, ev := true } := b1.trans hs2
  refine ⟨rfl, ⟨a1.setK d (by decide), ?_, by show c2.S.Ok n E.es; rw [b1]; exact hok', b2.trans h.snd.K⟩, .inr ?_, fun x hx hxt => ?_, ?_, fun hz x => tk_set x (fun y => ?_) rfl⟩
  · exact (h.snd.hs.told h.snd.ok hj (c1.nextQ d) hS2 b3).of rfl rfl
  · show c.T.now.length < c2.T.now.length
    rcases h.lk with ⟨_, z, _⟩ | z
    · rw [← z]; exact b5
    · omega
  · have hxt' : (c2.S.dev x).tt ≠ 0 := hxt
    have hx1 : c1.S.isD x = true := Mr.isD_iff.2 (by have := Mr.isD_iff.1 hx; rw [h.dl]; exact this)
    rw [hS2, dev_set h2 _ x hx1] at hxt'
    by_cases e : x = d
    · exact .inr (by rw [e]; simp)
    · rw [if_neg e] at hxt'
      rcases h.nw x hx hxt' with z | z
      · exact .inl z
      · exact .inr (List.mem_append.2 (.inl z))
  · show c2.S.ds.length = _
    rw [hS2, ← h.dl]
    show (c1.S.ds.set _ _).length = _
    rw [List.length_set]
  · have := h.z hz y
    unfold Ct.tkAt at this ⊢
    rw [b4]; exact this
theorem tell_goes {E : Ev} {n k : Nat} {c : Ct} (h : Snd E n c k) (hk : k ≤ 2900) (j : Nat) (hj : j ≤ 31) : (Ct.tell c j).1 = 0 ∧ Tld E n c (Ct.tell c j).2.1 (Ct.tell c j).2.2 (k + j) := by
  induction j with
  | zero => exact ⟨rfl, h, .inl ⟨rfl, rfl, rfl, rfl⟩, fun d _ q => .inl q, rfl, fun z => z⟩
  | succ j ih =>
    obtain ⟨i1, i2⟩ := ih (by omega)
    rw [tell_succ]
    exact tell1_goes i1 i2 (by omega) _
theorem due_rest (pause : Int) (now : List Int) (c : Ct) (j : Nat) : (Ct.due pause now c j).1.T = c.T ∧ (Ct.due pause now c j).1.J = c.J := by
  induction j with
  | zero => exact ⟨rfl, rfl⟩
  | succ j ih =>
    rw [due_succ]
    generalize Ct.due pause now c j = p at *
    unfold Ct.due1
    split
    · exact ih
    · split
      · exact ih
      · split
        · exact ih
        · exact ih
theorem Snd.due {E : Ev} {n k : Nat} {c : Ct} (h : Snd E n c k) {pause : Int} (hp : pause ≤ 1000) (now : List Int) (j : Nat) : Snd E n (Ct.due pause now c j).1 k := by
  obtain ⟨a1, a2, a3⟩ := due_keep pause now c j
  obtain ⟨b1, b2⟩ := due_rest pause now c j
  exact ⟨⟨h.pi.fit.due hp j, a3.trans h.pi.al, by rw [b1]; exact h.pi.fr, by rw [b1]; exact h.pi.len⟩, h.hs.of a1 b2, by rw [a1]; exact h.ok, a2.trans h.K⟩
theorem due_first {pause : Int} {now : List Int} {c : Ct} {m : Nat} (h : ∀ d : Int, 1 ≤ d → d ≤ (m : Int) → (c.S.dev d).tt ≠ 0 → d ∈ now) (j : Nat) (hj : j ≤ m) : Ct.due pause now c j = (c, tol c.S j) := by
  induction j with
  | zero => rfl
  | succ j ih =>
    rw [due_succ, ih (by omega), tol_succ]
    unfold Ct.due1
    dsimp only
    by_cases q : (c.S.dev ((j : Int) + 1)).tt = 0
    · rw [if_pos q, if_neg (by simp [q])]; simp
    · rw [if_neg q, if_pos (h _ (by omega) (by omega) q), if_pos q]
theorem due_later {pause r : Int} {c : Ct} {m : Nat} (hl : c.tk.length = m + 1) (h : ∀ d : Int, 1 ≤ d → d ≤ (m : Int) → (c.S.dev d).tt ≠ 0 → c.tkAt d = r) (j : Nat) (hj : j ≤ m) :
    (Ct.due pause [] c j).2 = (if r + 1 < pause then [] else tol c.S j) ∧ (Ct.due pause [] c j).1.tk.length = m + 1 ∧
    (∀ d : Int, 1 ≤ d → d ≤ (m : Int) → (c.S.dev d).tt ≠ 0 → (Ct.due pause [] c j).1.tkAt d = if d ≤ (j : Int) then (if r + 1 < pause then r + 1 else 0) else r) := by
  obtain ⟨v, hv⟩ : ∃ v, (if r + 1 < pause then r + 1 else 0) = v := ⟨_, rfl⟩
  rw [hv]
  induction j with
  | zero => exact ⟨by simp [Ct.due, tol], hl, fun d h1 h2 h3 => by rw [if_neg (by omega)]; exact h d h1 h2 h3⟩
  | succ j ih =>
    obtain ⟨i1, i2, i3⟩ := ih (by omega)
    have hS := (due_keep pause [] c j).1
    rw [due_succ, tol_succ]
    generalize Ct.due pause [] c j = p at *
    obtain ⟨c1, out⟩ := p
    dsimp only at *
    unfold Ct.due1
    dsimp only
    rw [hS]
    by_cases q : (c.S.dev ((j : Int) + 1)).tt = 0
    · have e0 : (if (c.S.dev ((j : Int) + 1)).tt ≠ 0 then [(j : Int) + 1] else []) = ([] : List Int) := if_neg (by simp [q])
      rw [e0, if_pos q, List.append_nil]
      refine ⟨i1, i2, fun d h1 h2 h3 => ?_⟩
      rw [i3 d h1 h2 h3]
      by_cases e : d ≤ (j : Int)
      · rw [if_pos e, if_pos (by omega)]
      · rw [if_neg e, if_neg (by
          intro z
          have : d = (j : Int) + 1 := by omega
          subst this
          exact h3 q)]
    · have e0 : (if (c.S.dev ((j : Int) + 1)).tt ≠ 0 then [(j : Int) + 1] else []) = [(j : Int) + 1] := if_pos q
      rw [e0, if_neg q, if_neg (by simp)]
      have ht : c1.tkAt ((j : Int) + 1) = r := by
        have := i3 ((j : Int) + 1) (by omega) (by omega) q
        rwa [if_neg (by omega)] at this
      rw [ht]
      have hset : ∀ (x d : Int), 1 ≤ d → d ≤ (m : Int) → (c1.setK ((j : Int) + 1) x).tkAt d = if d = (j : Int) + 1 then x else c1.tkAt d := fun x d h1 h2 => by
        unfold Ct.tkAt
        show ((c1.tk.set ((j : Int) + 1).toNat x)[d.toNat]?).getD 0 = _
        rw [List.getElem?_set]
        by_cases e : d = (j : Int) + 1
        · rw [if_pos (by omega), if_pos (by omega), if_pos e]; rfl
        · rw [if_neg (by omega), if_neg e]
      by_cases hr : r + 1 < pause
      · rw [if_pos hr]
        rw [if_pos hr] at i1
        refine ⟨by rw [if_pos hr]; exact i1, by show (c1.tk.set _ _).length = _; rw [List.length_set]; exact i2, fun d h1 h2 h3 => ?_⟩
        show (c1.setK ((j : Int) + 1) (r + 1)).tkAt d = _
        rw [hset _ d h1 h2]
        have := i3 d h1 h2 h3
        by_cases e : d = (j : Int) + 1
        · rw [if_pos e, if_pos (by omega), ← hv, if_pos hr]
        · rw [if_neg e, this]
          by_cases g : d ≤ (j : Int)
          · rw [if_pos g, if_pos (by omega)]
          · rw [if_neg g, if_neg (by omega)]
      · rw [if_neg hr]
        rw [if_neg hr] at i1
        refine ⟨by rw [if_neg hr]; show out ++ [(j : Int) + 1] = _; rw [i1], by show (c1.tk.set _ _).length = _; rw [List.length_set]; exact i2, fun d h1 h2 h3 => ?_⟩
        show (c1.setK ((j : Int) + 1) 0).tkAt d = _
        rw [hset _ d h1 h2]
        have := i3 d h1 h2 h3
        by_cases e : d = (j : Int) + 1
        · rw [if_pos e, if_pos (by omega), ← hv, if_neg hr]
        · rw [if_neg e, this]
          by_cases g : d ≤ (j : Int)
          · rw [if_pos g, if_pos (by omega)]
          · rw [if_neg g, if_neg (by omega)]
theorem Snd.away {E : Ev} {n k : Nat} {c : Ct} (h : Snd E n c k) (hn : E.ns.length = n) (hn4 : n ≤ 1000) : Snd E n (Ct.away E c 30) k := by
  obtain ⟨a1, a2, a3, a4, a5⟩ := away_keep E c 30
  refine ⟨⟨⟨h.pi.fit.gd.away (by omega) 30, h.pi.fit.tk.of a5, by rw [a1]; exact h.pi.fit.sq⟩, a3.trans h.pi.al, by rw [a4]; exact h.pi.fr, by rw [a4]; exact h.pi.len⟩, h.hs.away h.ok hn 30 (by omega), by rw [a1]; exact h.ok, a2.trans h.K⟩
theorem tick_eq {E : Ev} {n k : Nat} {c : Ct} (h : Snd E n c k) (hk : k ≤ 2900) (hn : E.ns.length = n) (hn4 : n ≤ 1000) :
    ∃ ct now, Tld E n (Ct.away E c 30) ct now (k + 31) ∧ Ct.tick E c = (0, (Ct.due E.pause now ct E.es.length).1, (Ct.due E.pause now ct E.es.length).2) := by
  have ho : ops c.K.all = [] := by rw [h.K]; rfl
  obtain ⟨t1, t2⟩ := tell_goes (h.away hn hn4) hk 31 (Nat.le_refl _)
  refine ⟨_, _, t2, ?_⟩
  have hs : Ct.serve ((ops c.K.all).length + 1) c = (0, c) := serve_none (fun r hr => by rw [ho] at hr; cases hr)
  have hf : Ct.fetch E c = c := by unfold Ct.fetch; rw [ho]; rfl
  unfold Ct.tick
  rw [if_neg (by rw [h.pi.al]; simp), hs]
  dsimp only
  rw [if_neg (by simp), hf, if_neg (by rw [t1]; simp)]
theorem tick_first {E : Ev} {n k : Nat} {c : Ct} (h : Snd E n c k) (hk : k ≤ 2900) (hn : E.ns.length = n) (hn4 : n ≤ 1000) (hp : E.pause ≤ 1000) (h0 : ∀ D ∈ c.S.ds, D.tt = 0) (hz : ∀ d, c.tkAt d = 0) :
    ∃ c1, Ct.tick E c = (0, c1, tol c1.S E.es.length) ∧ Snd E n c1 (k + 31) ∧ ∀ d, c1.tkAt d = 0 := by
  obtain ⟨ct, now, ht, e⟩ := tick_eq h hk hn hn4
  obtain ⟨a1, a2, a3, a4, a5⟩ := away_keep E c 30
  have hd : ∀ d : Int, 1 ≤ d → d ≤ (E.es.length : Int) → (ct.S.dev d).tt ≠ 0 → d ∈ now := fun d h1 h2 h3 => by
    have hlen := h.ok.len
    have hD : c.S.isD d = true := Mr.isD_iff.2 (by omega)
    rcases ht.nw d (by rw [a1]; exact hD) h3 with z | z
    · rw [a1] at z
      exact absurd (h0 _ (Mr.dev_at hD).2) z
    · exact z
  have e2 := due_first (pause := E.pause) hd E.es.length (Nat.le_refl _)
  refine ⟨ct, by rw [e, e2], ht.snd, ht.z (fun d => ?_)⟩
  have := hz d
  unfold Ct.tkAt at this ⊢
  rw [a5]; exact this
theorem tick_later {E : Ev} {n k : Nat} {c : Ct} (h : Snd E n c k) (hk : k ≤ 2900) (hn : E.ns.length = n) (hn4 : n ≤ 1000) (hp : E.pause ≤ 1000) (hl : c.tk.length = E.es.length + 1) {r : Int} (hr : ∀ d : Int, 1 ≤ d → d ≤ (E.es.length : Int) → (c.S.dev d).tt ≠ 0 → c.tkAt d = r) :
    ∃ c1 out, Ct.tick E c = (0, c1, out) ∧ Snd E n c1 (k + 31) ∧ (c.T.now.length < c1.T.now.length ∨ (c1.T.now.length = c.T.now.length ∧ c1.S = c.S ∧ c1.tk.length = E.es.length + 1 ∧ out = (if r + 1 < E.pause then [] else tol c.S E.es.length) ∧ ∀ d : Int, 1 ≤ d → d ≤ (E.es.length : Int) → (c.S.dev d).tt ≠ 0 → c1.tkAt d = if r + 1 < E.pause then r + 1 else 0)) := by
  obtain ⟨ct, now, ht, e⟩ := tick_eq h hk hn hn4
  obtain ⟨a1, a2, a3, a4, a5⟩ := away_keep E c 30
  obtain ⟨b1, b2⟩ := due_rest E.pause now ct E.es.length
  refine ⟨_, _, e, ht.snd.due hp now _, ?_⟩
  rcases ht.lk with ⟨l1, l2, l3, rfl⟩ | l
  · refine .inr ?_
    have hS : ct.S = c.S := l1.trans a1
    have htk : ct.tk = c.tk := l3.trans a5
    obtain ⟨d1, d2, d3⟩ := due_later (pause := E.pause) (r := r) (c := ct) (m := E.es.length) (by rw [htk]; exact hl) (fun d h1 h2 h3 => by
      have := hr d h1 h2 (by rw [← hS]; exact h3)
      unfold Ct.tkAt at this ⊢
      rw [htk]; exact this) E.es.length (Nat.le_refl _)
    refine ⟨by rw [b1, l2, a4], (due_keep _ _ _ _).1.trans hS, d2, by rw [d1, hS], fun d h1 h2 h3 => ?_⟩
    rw [d3 d h1 h2 (by rw [hS]; exact h3), if_pos h2]
  · refine .inl ?_
    rw [b1]
    rw [a4] at l
    exact l
end Go.Proofs.YtocmngpoemfpkabGreatDoor

namespace Go.Proofs.YtocmngpoemfpkabGreatDoor
open Go.RowKit
theorem next_mod (p : Nat) (h : 1 ≤ p ∧ p ≤ 6) (i : Nat) (hi : 1 ≤ i) : ((i - 1) % p + 1 < p → i % p = (i - 1) % p + 1 ∧ i % p ≠ 0) ∧ (¬ (i - 1) % p + 1 < p → i % p = 0) := by
  have hp : p = 1 ∨ p = 2 ∨ p = 3 ∨ p = 4 ∨ p = 5 ∨ p = 6 := by omega
  rcases hp with rfl | rfl | rfl | rfl | rfl | rfl <;> omega
theorem measK {A k : Nat} (h : (k : Int) < (A : Int)) : A - ((k : Int) + 1).toNat < A - ((k : Int)).toNat := by omega
theorem meas3 {K i : Nat} (h : (i : Int) ≤ 3 * ((K : Int) + 1)) : 3 * (K + 1) + 1 - ((i : Int) + 1).toNat < 3 * (K + 1) + 1 - ((i : Int)).toNat := by omega
section
set_option maxRecDepth 100000
set_option maxHeartbeats 8000000
theorem sends_any {a b : Option Addr} {c e n m : Nat} {ns : List Nd} {es : List Ed} {aZ : Option Addr} {lZ cZ : Nat} {zs : List Ed} {x2 : Int} (w : World) (LD : Laid w) (L : Lyt w a b c e n m ns es) (hz : edE.Rd w (.slice aZ lZ cZ) zs) (hzl : zs.length = lZ) (hzi : ∀ z ∈ zs, I64 z.1) :
    Calls Tryz.prog 4 #[.agg #[.slice a n c, .slice b m e], .slice aZ lZ cZ, .int .i64 x2] w fun e w' => e = .returned (.bool true) ∧ Below w.heap.size w w' := by
  have I1 : Hid (Its w [.box w.heap.size #[.slice a n c, .slice b m e] 25] (w.alloc (.cells #[.slice a n c, .slice b m e] 25))) := hide ((Its.nil w).box1 #[.slice a n c, .slice b m e] 25)
  have h4 := LD.size
  have K9 : Hid (∀ W L, Its w L W → Calls Tryz.prog 5 #[] W fun e w' => e = .returned (.bool true) ∧ Its w L w') := hide (fun W L hW => by
    refine (awake_any W (LD.keep h4 hW.bel)).mono ?_
    rintro e w' ⟨rfl, q⟩
    exact ⟨rfl, hW.keep q⟩)
  obtain ⟨l0, hl0⟩ : ∃ l0 : List It, [.box w.heap.size #[.slice a n c, .slice b m e] 25] = l0 := ⟨_, rfl⟩
  have CC0 : Hid (∀ W, Its w l0 W → (W.cell? ⟨w.heap.size, 0, none⟩ = some (.slice a n c) ∧ W.cell? ⟨w.heap.size, 1, none⟩ = some (.slice b m e))) := hide (fun W hW => by
    subst hl0
    exact ⟨(cells_at hW.one 0).1, (cells_at hW.one 1).1⟩)
  have HLy : Hid (∀ W, Below w.heap.size w W → Lyt W a b c e n m ns es) := hide (fun W h => L.keep h)
  have HZs : Hid (∀ W, Below w.heap.size w W → edE.Rd W (.slice aZ lZ cZ) zs) := hide (fun W h => hz.keep h)
  have K17 : Hid (∀ W, Its w l0 W → Calls Tryz.prog 6 #[.agg #[.slice a n c, .slice b m e]] W fun e w' => e = .returned (.bool (good ns es && (decide (n ≤ 14) && decide (m ≤ 40)))) ∧ Its w l0 w') := hide (fun W hW => by
    refine (small_any (HLy.out W hW.bel)).mono ?_
    rintro e w' ⟨rfl, q⟩
    exact ⟨rfl, hW.keep q⟩)
  have I2 : Hid (Its w l0 (w.alloc (.cells #[.slice a n c, .slice b m e] 25))) := hide (by rw [← hl0]; exact I1.out)
  have HZL := hide hzl
  have HZI := hide hzi
  have HNM : Hid (ns.length = n ∧ es.length = m ∧ ∀ p ∈ ns, p.name.size ≤ maxLen) := hide ⟨L.hn, L.hm, L.hs⟩
  clear I1 LD L hz hzl hzi h4
  by_cases h40 : 40 < (lZ : Int)
  case pos =>
    go_enter Tryz.func4, Tryz.ntmps4
    go_wp2_with (first
      | (go_at_call 5; refine (K9.out _ _ I2.out).mono ?_; rintro e w1 ⟨rfl, q⟩; have I3 := hide q; clear q I2; have I2 := I3; clear I3)
      | fail)
    go_ret
    exact ⟨rfl, I2.out.bel⟩
  cases hsm : (good ns es && (decide (n ≤ 14) && decide (m ≤ 40))) with
  | false =>
    rw [hsm] at K17
    go_enter Tryz.func4, Tryz.ntmps4
    go_wp2_with (first
      | (go_at_call 5; refine (K9.out _ _ I2.out).mono ?_; rintro e w1 ⟨rfl, q⟩; have I3 := hide q; clear q; obtain ⟨y0, y1⟩ := CC0.out _ I3.out)
      | (go_at_call 6; refine (K17.out _ I3.out).mono ?_; rintro e w2 ⟨rfl, q⟩; have I4 := hide q; clear q)
      | fail)
    go_ret
    exact ⟨rfl, I4.out.bel⟩
  | true =>
  rw [hsm] at K17
  have hgd : good ns es = true ∧ n ≤ 14 ∧ m ≤ 40 := by
    simp only [Bool.and_eq_true, decide_eq_true_eq] at hsm
    exact ⟨hsm.1, hsm.2.1, hsm.2.2⟩
  clear hsm
  obtain ⟨kp, hkp, hk6⟩ := few x2 6 (by omega)
  have hy : ∃ y4, (IntKind.u64.wrap x2).tmod 6 = y4 := ⟨_, rfl⟩
  obtain ⟨y4, hy4⟩ := hy
  rw [hy4] at hkp
  have hkw : wrap64 ((kp : Int) + 1) = (kp : Int) + 1 := by unfold wrap64; omega
  obtain ⟨T0, hop, hT1, hT2⟩ := opn_new hgd.1 (p := (kp : Int) + 1) (by omega)
  have K11 : Hid (∀ W, Its w l0 W → Calls Tryz.prog 7 #[] W fun e w' => ∃ gt H, e = .returned (.pointer (some ⟨gt, 0, none⟩)) ∧ Its w (.tape w.heap.size gt H Tp.nw :: l0) w') := hide (fun W hW => newS hW)
  have K10 : Hid (∀ W x, Its w (x :: l0) W → Calls Tryz.prog 9 #[.agg #[.slice a n c, .slice b m e]] W fun e w' => ∃ a1 c1 b1 e1, e = .returned (.agg #[.slice a1 n c1, .slice b1 m e1]) ∧ Its w (x :: .row ndE w.heap.size (.slice a1 n c1) ns :: .row edE w.heap.size (.slice b1 m e1) es :: l0) w') := hide (fun W x hW => by
    have Ly := HLy.out W hW.bel
    refine (kown hW Ly.hn Ly.hm (by omega) (by omega) Ly.hv Ly.hu).mono ?_
    rintro e w' ⟨a1, c1, b1, e1, rfl, q⟩
    exact ⟨a1, c1, b1, e1, rfl, q.rot3⟩)
  have K12 : Hid (∀ W gt H a1 c1 b1 e1, Its w (.tape w.heap.size gt H Tp.nw :: .row ndE w.heap.size (.slice a1 n c1) ns :: .row edE w.heap.size (.slice b1 m e1) es :: l0) W → Calls Tryz.prog 8 #[.agg #[.slice a1 n c1, .slice b1 m e1], .int .i64 ((kp : Int) + 1), .pointer (some ⟨gt, 0, none⟩)] W fun e w' => ∃ g P, e = .returned (.tuple #[.pointer (some ⟨g, 0, none⟩), .int .i64 0]) ∧ (P.S = Mr.nw n es ∧ P.K = Bk.new) ∧ Its w (.ctl w.heap.size g ⟨ns, es, ((kp : Int) + 1), gt⟩ n m P (ct1 m T0 (Mr.nw n es) Bk.new) :: .row ndE w.heap.size (.slice a1 n c1) ns :: .row edE w.heap.size (.slice b1 m e1) es :: l0) w') := hide (fun W gt H a1 c1 b1 e1 hW => by
    have := kopenS hW (fun W x hW => rows_lyt HNM.out.1 HNM.out.2.1 HNM.out.2.2 hW) ((kp : Int) + 1) (rds_all (ns := []) (fun n hn => by cases hn)) (by simp) ⟨0, 0, .slice none 0 0, fun _ => none, []⟩
    rw [hop, HNM.out.1] at this
    refine this.mono ?_
    rintro e w' (⟨q, _⟩ | ⟨_, gc, P, S, K, q1, rfl, q2, q3⟩)
    · exact absurd rfl q
    · cases q1
      exact ⟨gc, P, rfl, q2, q3⟩)
  have HP0 : Hid (Pi (ct1 m T0 (Mr.nw n es) Bk.new) 0) := hide (Pi.new hT1 hT2)
  have HGD := hide hgd
  have HK6 : Hid (kp < 6) := hide (by omega)
  clear hop hT1 hT2 hgd hk6
  generalize hc0 : ct1 m T0 (Mr.nw n es) Bk.new = c0 at *
  have HC0 : Hid (c0.K = Bk.new ∧ c0.S = Mr.nw n es ∧ (∀ t, c0.J t = []) ∧ (∀ d, c0.tkAt d = 0) ∧ ∀ D ∈ c0.S.ds, D.tt = 0) := hide (by
    rw [← hc0]
    refine ⟨rfl, rfl, fun _ => rfl, fun d => ?_, fun D hD => ?_⟩
    · show ((List.replicate (m + 1) (0 : Int))[d.toNat]?).getD 0 = 0
      rw [List.getElem?_replicate]
      split <;> rfl
    · have : D ∈ es.map mkD := hD
      obtain ⟨x, _, rfl⟩ := List.mem_map.1 this
      rfl)
  clear hc0
  have z40 : (lZ : Int) ≤ 40 := by omega
  go_enter Tryz.func4, Tryz.ntmps4
  go_wp2_with (first
    | (go_at_call 5; refine (K9.out _ _ I2.out).mono ?_; rintro e w1 ⟨rfl, q⟩; have I3 := hide q; clear q; obtain ⟨x0, x1⟩ := CC0.out _ I3.out)
    | (go_at_call 6; refine (K17.out _ I3.out).mono ?_; rintro e w2 ⟨rfl, q⟩; have I4 := hide q; clear q)
    | (go_at_call 7; refine (K11.out _ I4.out).mono ?_; rintro e w3 ⟨gt, H, rfl, q⟩; have I5 := hide q; clear q; obtain ⟨y0, y1⟩ := CC0.out _ I5.out.tail)
    | (go_at_call 9; refine (K10.out _ _ I5.out).mono ?_; rintro e w4 ⟨a1, c1, b1, e1, rfl, q⟩; have I6 := hide q; clear q)
    | (go_at_call 8; refine (K12.out _ gt H a1 c1 b1 e1 I6.out).mono ?_; rintro e w5 ⟨g, P, rfl, q1, q2⟩; have HV := hide q1; have I7 := hide q2; clear q1 q2)
    | fail)
  obtain ⟨l1, hl1⟩ : ∃ l1 : List It, .row ndE w.heap.size (.slice a1 n c1) ns :: .row edE w.heap.size (.slice b1 m e1) es :: l0 = l1 := ⟨_, rfl⟩
  have I8 : Hid (Its w (.ctl w.heap.size g ⟨ns, es, ((kp : Int) + 1), gt⟩ n m P c0 :: l1) w5) := hide (by rw [← hl1]; exact I7.out)
  have CC1 : Hid (∀ W x, Its w (x :: l1) W → W.cell? ⟨w.heap.size, 0, none⟩ = some (.slice a n c) ∧ W.cell? ⟨w.heap.size, 1, none⟩ = some (.slice b m e)) := hide (fun W x hW => by
    subst hl1
    exact CC0.out W hW.tail.tail.tail)
  clear x0 x1 y0 y1 hl1 I2 I3 I4 I5 I6 I7 K9 K17 K11 K10 K12 h40 hkp hy4
  have HP1 : Hid (Pi c0 0 ∧ c0.K = Bk.new ∧ (∀ t, c0.J t = []) ∧ (∀ d, c0.tkAt d = 0) ∧ ∀ D ∈ c0.S.ds, D.tt = 0) := hide ⟨HP0.out, HC0.out.1, HC0.out.2.2⟩
  have HV1 : Hid (P.S = c0.S ∧ P.K = c0.K) := hide (by rw [HC0.out.1, HC0.out.2.1]; exact HV.out)
  go_loopw [58] (fun v58 wr => ∃ (k : Nat) (P' : Kp) (ck : Ct), v58 = .int .i64 k ∧ k ≤ lZ ∧ Hid (Pi ck k ∧ ck.K = Bk.new ∧ (∀ t, ck.J t = []) ∧ (∀ d, ck.tkAt d = 0) ∧ ∀ D ∈ ck.S.ds, D.tt = 0) ∧ Hid (P'.S = ck.S ∧ P'.K = ck.K) ∧ Hid (Its w (.ctl w.heap.size g ⟨ns, es, ((kp : Int) + 1), gt⟩ n m P' ck :: l1) wr)) (fun v58 _ => lZ - (intOf v58).toNat)
  case atStart => exact ⟨0, P, c0, rfl, Nat.zero_le _, HP1, HV1, hide (by first | exact I8.out | exact I8.out.hp rfl rfl rfl rfl)⟩
  case round =>
    as_aux_lemma =>
      obtain ⟨k, P', ck, rfl, hk, HP, HVk, HR⟩ := hrel
      by_cases hlt : k < lZ
      · obtain ⟨z, hzk⟩ : ∃ z, zs[k]? = some z := ⟨_, List.getElem?_eq_getElem (by rw [HZL.out]; exact hlt)⟩
        obtain ⟨bz, oz, rfl, d0, d1⟩ := ed_at (HZs.out _ HR.out.bel) k z hzk
        have j0 : (0 : Int) ≤ (k : Int) := by omega
        have j1 : (k : Int) < (lZ : Int) := by omega
        have j2 : wrap64 ((k : Int) + 1) = (k : Int) + 1 := by unfold wrap64; omega
        have hz64 := HZI.out z (List.mem_of_getElem? hzk)
        have hlen := (mr_len (kt_m HR.out.one)).1
        rw [HVk.out.1] at hlen
        have HPu := hide (HP.out.1.put (by omega) (by have := HGD.out.2.1; omega) ⟨ns, es, ((kp : Int) + 1), gt⟩ z.1 z.2)
        have HPl := hide (put_len ck.S z.1 z.2)
        have K37 : Hid (∀ W, Its w (.ctl w.heap.size g ⟨ns, es, ((kp : Int) + 1), gt⟩ n m P' ck :: l1) W → Calls Tryz.prog 16 #[.pointer (some ⟨g, 0, none⟩), .int .i64 z.1, .int .i64 z.2] W (CodeP w l1 g ⟨ns, es, ((kp : Int) + 1), gt⟩ n m (ck.put ⟨ns, es, ((kp : Int) + 1), gt⟩ z.1 z.2))) := hide (fun W hW => kputS hW (fun _ => HVk.out) HP.out.1.fit.gd (by omega) z.1 z.2 hz64)
        obtain ⟨zx, zy⟩ := z
        dsimp only at *
        generalize ck.put ⟨ns, es, ((kp : Int) + 1), gt⟩ zx zy = pp at *
        obtain ⟨pc, cp⟩ := pp
        dsimp only at *
        clear hzk hz64 hlen
        have HPn : Hid (Pi cp (k + 1) ∧ cp.K = Bk.new ∧ (∀ t, cp.J t = []) ∧ (∀ d, cp.tkAt d = 0) ∧ ∀ D ∈ cp.S.ds, D.tt = 0) := hide (by
          obtain ⟨q1, q2, q3, q4, q5⟩ := HPu.out
          refine ⟨q1, q2.trans HP.out.2.1, by rw [q3]; exact HP.out.2.2.1, fun d => ?_, ?_⟩
          · have := HP.out.2.2.2.1 d
            unfold Ct.tkAt at this ⊢
            rw [q4]; exact this
          · rcases q5 with q5 | q5
            · rw [q5]; exact HP.out.2.2.2.2
            · rw [q5, HPl.out.2]; exact HP.out.2.2.2.2)
        have HX := hide (HR.out.alloc (.cells #[.int .i64 zx, .int .i64 zy] 65))
        go_wp2_with (go_at_call 16; refine (K37.out _ HX.out).mono ?_; rintro e w6 ⟨rfl, P9, q1, q2⟩; have HV9 := hide (q1 HPu.out.1.al); have H9 := hide q2; clear q1 q2)
        go_roundw
        case rel => exact ⟨k + 1, P9, cp, by go_num, by omega, HPn, HV9, H9⟩
        case measure => simp [intOf]; omega
      · obtain rfl : k = lZ := by omega
        have j1 : ¬ (k : Int) < (k : Int) := by omega
        have hok := mr_fact (kt_m HR.out.one)
        rw [HVk.out.1] at hok
        have HS0 : Hid (Snd ⟨ns, es, ((kp : Int) + 1), gt⟩ n ck 40) := hide ⟨HP.out.1.up (by omega), Hds.nil HP.out.2.2.1, hok.1, HP.out.2.1⟩
        obtain ⟨c1, ht1, ht2, ht3⟩ := tick_first HS0.out (by omega) HNM.out.1 (by have := HGD.out.2.1; omega) (by have := HK6.out; show (kp : Int) + 1 ≤ 1000; omega) HP.out.2.2.2.2 HP.out.2.2.2.1
        have hem : es.length = m := HNM.out.2.1
        rw [hem] at ht1
        have K17 : Hid (∀ W, Its w (.ctl w.heap.size g ⟨ns, es, ((kp : Int) + 1), gt⟩ n m P' ck :: l1) W → Calls Tryz.prog 17 #[.pointer (some ⟨g, 0, none⟩)] W fun e w' => ∃ a2 q2 r2 svs P2, e = .returned (.tuple #[.slice a2 q2 r2, .int .i64 0]) ∧ (svs.length = q2 ∧ (tol c1.S m).length = q2) ∧ (P2.S = c1.S ∧ P2.K = c1.K ∧ c1.dead = false) ∧ Its w (.ctl w.heap.size g ⟨ns, es, ((kp : Int) + 1), gt⟩ n m P2 c1 :: .row slE w.heap.size (.slice a2 q2 r2) svs :: .bys w.heap.size svs ((tol c1.S m).map c1.movB) :: l1) w') := hide (fun W hW => by
          have := ktickS hW (fun _ => HVk.out) HS0.out.pi.fit (by omega)
          rw [ht1] at this
          refine this.mono ?_
          rintro e w' (⟨_, a2, q2, r2, svs, P2, rfl, z1, z2, z3, z4⟩ | ⟨z, _⟩)
          · exact ⟨a2, q2, r2, svs, P2, rfl, ⟨z1, z2⟩, z3, z4.rot3⟩
          · exact absurd rfl z)
        have HT1 : Hid (Snd ⟨ns, es, ((kp : Int) + 1), gt⟩ n c1 71 ∧ ∀ d, c1.tkAt d = 0) := hide ⟨ht2, ht3⟩
        clear ht1 ht2 ht3 hok
        go_upto_region 20 with (go_at_call 17; refine (K17.out _ HR.out).mono ?_; rintro e w7 ⟨a2, q2, r2, svs, P2, rfl, z1, z2, z3⟩; have HQ := hide z1; have HV2 := hide z2; have J0 := hide z3; clear z1 z2 z3)
        obtain ⟨ts1, hts1⟩ : ∃ ts1, (tol c1.S m).map c1.movB = ts1 := ⟨_, rfl⟩
        rw [hts1] at J0
        obtain ⟨l2, hl2⟩ : ∃ l2 : List It, It.row slE w.heap.size (.slice a2 q2 r2) svs :: .bys w.heap.size svs ts1 :: l1 = l2 := ⟨_, rfl⟩
        have J1 : Hid (Its w (.ctl w.heap.size g ⟨ns, es, ((kp : Int) + 1), gt⟩ n m P2 c1 :: l2) w7) := hide (by rw [← hl2]; exact J0.out)
        have CC2 : Hid (∀ W x, Its w (x :: l2) W → W.cell? ⟨w.heap.size, 0, none⟩ = some (.slice a n c) ∧ W.cell? ⟨w.heap.size, 1, none⟩ = some (.slice b m e)) := hide (fun W x hW => by
          subst hl2
          exact CC1.out W _ hW.tail.tail)
        have CV : Hid (∀ W x, Its w (x :: l2) W → ∀ (j : Nat) (tx : List Int), ts1[j]? = some tx → ∃ (bq oq : Nat) (s : Sv), a2 = some ⟨bq, oq, none⟩ ∧ W.cell? ⟨bq, oq + j, none⟩ = some (.slice s.a s.l s.c) ∧ ∀ q : Nat, (convert 54 9 (.slice s.a s.l s.c)).run Tryz.prog (W.drewN q) = .ok (.string (str tx)) (W.drewN q)) := hide (fun W x hW j tx hj => by
          subst hl2
          obtain ⟨s, hs⟩ : ∃ s : Sv, svs[j]? = some s := ⟨_, List.getElem?_eq_getElem (by rw [hW.three.1]; exact idx_lt hj)⟩
          obtain ⟨bq, oq, z1, z2⟩ := sl_at hW.two.rd j s hs
          exact ⟨bq, oq, s, z1, z2, fun q => conv_str ((hW.three.2 j s tx hs hj).rd.keep ⟨rfl, rfl, rfl, Nat.le_refl _, fun _ _ => rfl⟩)⟩)
        have HTS := hide hts1
        have HQ1 : Hid (ts1.length = q2) := hide (by rw [← hts1, List.length_map]; exact HQ.out.2)
        have hq2 : (q2 : Int) ≤ 40 := by
          have h1 : (tol c1.S m).length ≤ m := by
            unfold tol
            refine Nat.le_trans (List.length_filter_le _ _) ?_
            rw [List.length_map, List.length_range]; exact Nat.le_refl _
          have := HQ.out.2
          have := HGD.out.2.2
          omega
        clear hl2 hts1 J0 K17 I8 HP1 HV1 HP0 HC0 HV
        obtain ⟨x0, x1⟩ := CC2.out _ _ J1.out
        have K28 : Hid (∀ W, Its w (.ctl w.heap.size g ⟨ns, es, ((kp : Int) + 1), gt⟩ n m P2 c1 :: l2) W → ∀ d : Nat, 1 ≤ d → d ≤ m → ∃ ta tb, Calls Tryz.prog 18 #[.pointer (some ⟨g, 0, none⟩), .int .i64 (d : Int)] W fun e w' => e = .returned (.tuple #[.int .i64 ta, .int .i64 tb, .bool (decide ((c1.S.dev (d : Int)).tt ≠ 0))]) ∧ Its w (.ctl w.heap.size g ⟨ns, es, ((kp : Int) + 1), gt⟩ n m P2 c1 :: l2) w') := hide (fun W hW d h1 h2 => by
          have hlen := (mr_len (kt_m hW.one)).2.1
          rw [HV2.out.1] at hlen
          refine ⟨(c1.S.told (d : Int)).1, (c1.S.told (d : Int)).2.1, ?_⟩
          have := ktold_any hW.one (d : Int)
          rw [HV2.out.1] at this
          refine this.mono ?_
          rintro e w' ⟨rfl, q, rfl⟩
          refine ⟨?_, hW.drew q⟩
          have : (c1.S.told (d : Int)).2.2 = decide ((c1.S.dev (d : Int)).tt ≠ 0) := by
            unfold Mr.told
            by_cases z : (c1.S.dev (d : Int)).tt ≠ 0
            · rw [if_pos ⟨Mr.isD_iff.2 (by omega), z⟩, decide_eq_true z]
            · rw [if_neg (fun r => z r.2), decide_eq_false z]
          rw [this])
        have hm40 : (m : Int) ≤ 40 := by have := HGD.out.2.2; omega
        have HTL : Hid (∀ j, (tol c1.S j).length ≤ j) := hide (fun j => by
          unfold tol
          refine Nat.le_trans (List.length_filter_le _ _) ?_
          rw [List.length_map, List.length_range]; exact Nat.le_refl _)
        go_wp2_with fail
        go_loopw [13, 14] (fun v13 v14 wx => ∃ (d tc : Nat), v14 = .int .i64 d ∧ v13 = .int .i64 tc ∧ 1 ≤ d ∧ d ≤ m + 1 ∧ Hid ((tol c1.S (d - 1)).length = tc) ∧ Hid (Its w (.ctl w.heap.size g ⟨ns, es, ((kp : Int) + 1), gt⟩ n m P2 c1 :: l2) wx)) (fun _ v14 _ => m + 1 - (intOf v14).toNat)
        case atStart => exact ⟨1, 0, rfl, rfl, Nat.le_refl _, by omega, hide rfl, hide (by first | exact J1.out | exact J1.out.hp rfl rfl rfl rfl)⟩
        case round =>
          as_aux_lemma =>
            obtain ⟨d, tc, rfl, rfl, hd1, hd2, HTC, HR2⟩ := hrel
            obtain ⟨y0, y1⟩ := CC2.out _ _ HR2.out
            by_cases hdm : d ≤ m
            · have j3 : (d : Int) ≤ (m : Int) := by omega
              have j4 : wrap64 ((d : Int) + 1) = (d : Int) + 1 := by unfold wrap64; omega
              have htc : tc ≤ 40 := by have := HTL.out (d - 1); have := HTC.out; omega
              have j5 : wrap64 ((tc : Int) + 1) = (tc : Int) + 1 := by unfold wrap64; omega
              obtain ⟨ta, tb, K18⟩ := K28.out _ HR2.out d hd1 hdm
              have HK18 := hide K18
              have HSu := hide (tol_succ c1.S (d - 1))
              rw [show d - 1 + 1 = d by omega, show (((d - 1 : Nat) : Int) + 1) = (d : Int) by omega] at HSu
              clear K18
              by_cases ht : (c1.S.dev (d : Int)).tt ≠ 0
              · rw [decide_eq_true ht] at HK18
                have HT2 : Hid ((tol c1.S (d + 1 - 1)).length = tc + 1) := hide (by have := HSu.out; rw [if_pos ht] at this; show (tol c1.S d).length = _; rw [this, List.length_append, HTC.out]; rfl)
                clear ht HSu
                go_wp2_with (go_at_call 18; refine HK18.out.mono ?_; rintro e w8 ⟨rfl, q⟩; have J2 := hide q; clear q)
                go_roundw
                case rel => exact ⟨d + 1, tc + 1, by go_num, by go_num, by omega, by omega, HT2, J2⟩
                case measure => simp [intOf]; omega
              · rw [decide_eq_false ht] at HK18
                have HT2 : Hid ((tol c1.S (d + 1 - 1)).length = tc) := hide (by have := HSu.out; rw [if_neg ht, List.append_nil] at this; show (tol c1.S d).length = _; rw [this]; exact HTC.out)
                clear ht HSu
                go_wp2_with (go_at_call 18; refine HK18.out.mono ?_; rintro e w8 ⟨rfl, q⟩; have J2 := hide q; clear q)
                go_roundw
                case rel => exact ⟨d + 1, tc, by go_num, by go_num, by omega, by omega, HT2, J2⟩
                case measure => simp [intOf]; omega
            · obtain rfl : d = m + 1 := by omega
              have j3 : ¬ ((m + 1 : Nat) : Int) ≤ (m : Int) := by omega
              have j3' : ¬ (m : Int) + 1 ≤ (m : Int) := by omega
              obtain rfl : tc = q2 := by have h1 := HTC.out; have h2 := HQ.out.2; rw [show m + 1 - 1 = m by omega] at h1; omega
              have K38 : Hid (∀ W P3 c3, Its w (.ctl w.heap.size g ⟨ns, es, ((kp : Int) + 1), gt⟩ n m P3 c3 :: l2) W → Calls Tryz.prog 13 #[.pointer (some ⟨gt, 0, none⟩)] W fun e w' => e = .returned (.int .i64 (c3.T.now.length : Int)) ∧ Its w (.ctl w.heap.size g ⟨ns, es, ((kp : Int) + 1), gt⟩ n m P3 c3 :: l2) w') := hide (fun W P3 c3 hW => by
                refine (ksize_any hW.one).mono ?_
                rintro e w' ⟨rfl, q, rfl⟩
                exact ⟨rfl, hW.drew q⟩)
              obtain ⟨L1, hL1⟩ : ∃ L1, c1.T.now.length = L1 := ⟨_, rfl⟩
              have K38a : Hid (∀ W, Its w (.ctl w.heap.size g ⟨ns, es, ((kp : Int) + 1), gt⟩ n m P2 c1 :: l2) W → Calls Tryz.prog 13 #[.pointer (some ⟨gt, 0, none⟩)] W fun e w' => e = .returned (.int .i64 (L1 : Int)) ∧ Its w (.ctl w.heap.size g ⟨ns, es, ((kp : Int) + 1), gt⟩ n m P2 c1 :: l2) w') := hide (fun W hW => by have := K38.out W P2 c1 hW; rw [hL1] at this; exact this)
              have htkl := (kt_f HR2.out.one).tk
              have HI0 : Hid (Snd ⟨ns, es, ((kp : Int) + 1), gt⟩ n c1 (71 + 31 * (1 - 1)) ∧ c1.S = c1.S ∧ c1.T.now.length = L1 ∧ c1.tk.length = m + 1 ∧ ∀ d : Int, 1 ≤ d → d ≤ (m : Int) → (c1.S.dev d).tt ≠ 0 → c1.tkAt d = (((1 - 1) % (kp + 1) : Nat) : Int)) := hide ⟨HT1.out.1, rfl, hL1, htkl, fun d _ _ _ => by rw [HT1.out.2 d]; simp⟩
              have hk6 := HK6.out
              have k3 : wrap64 (3 * ((kp : Int) + 1)) = 3 * ((kp : Int) + 1) := by unfold wrap64; omega
              clear hL1 htkl hk6
              go_wp2_with (first
                | (go_at_call 13; refine (K38a.out _ HR2.out).mono ?_; rintro e w9 ⟨rfl, q⟩; have J3 := hide q; clear q)
                | fail)
              clear x0 x1 y0 y1
              go_loopw [19] (fun v19 wx => ∃ (i : Nat) (P3 : Kp) (ci : Ct), v19 = .int .i64 i ∧ 1 ≤ i ∧ i ≤ 3 * (kp + 1) + 1 ∧ Hid (Snd ⟨ns, es, ((kp : Int) + 1), gt⟩ n ci (71 + 31 * (i - 1)) ∧ ci.S = c1.S ∧ ci.T.now.length = L1 ∧ ci.tk.length = m + 1 ∧ ∀ d : Int, 1 ≤ d → d ≤ (m : Int) → (c1.S.dev d).tt ≠ 0 → ci.tkAt d = (((i - 1) % (kp + 1) : Nat) : Int)) ∧ Hid (P3.S = ci.S ∧ P3.K = ci.K) ∧ Hid (Its w (.ctl w.heap.size g ⟨ns, es, ((kp : Int) + 1), gt⟩ n m P3 ci :: l2) wx)) (fun v19 _ => 3 * (kp + 1) + 1 - (intOf v19).toNat)
              case atStart => exact ⟨1, P2, c1, rfl, Nat.le_refl _, by omega, hide ⟨HI0.out.1, rfl, HI0.out.2.2⟩, hide ⟨HV2.out.1, HV2.out.2.1⟩, hide (by first | exact J3.out | exact J3.out.hp rfl rfl rfl rfl)⟩
              case round =>
                as_aux_lemma =>
                  obtain ⟨i, P3, ci, rfl, hi1, hi2, HI, HV3, HR3⟩ := hrel
                  by_cases hil : i ≤ 3 * (kp + 1)
                  case neg =>
                    obtain rfl : i = 3 * (kp + 1) + 1 := by omega
                    have j6 : ¬ ((3 * (kp + 1) + 1 : Nat) : Int) ≤ 3 * ((kp : Int) + 1) := by omega
                    have j6' : ¬ 3 * ((kp : Int) + 1) + 1 ≤ 3 * ((kp : Int) + 1) := by omega
                    go_wp2_with fail
                    go_ret
                    exact ⟨rfl, HR3.out.bel⟩
                  case pos =>
                  have hk6 := HK6.out
                  have j6 : (i : Int) ≤ 3 * ((kp : Int) + 1) := by omega
                  have j7 : wrap64 ((i : Int) + 1) = (i : Int) + 1 := by unfold wrap64; omega
                  obtain ⟨c2, out, tk1, tk2, tk3⟩ := tick_later HI.out.1 (by omega) HNM.out.1 (by have := HGD.out.2.1; omega) (by show (kp : Int) + 1 ≤ 1000; omega) (by rw [hem]; exact HI.out.2.2.2.1) (r := (((i - 1) % (kp + 1) : Nat) : Int)) (fun d h1 h2 h3 => HI.out.2.2.2.2 d h1 (by rw [← hem]; exact h2) (by rw [← HI.out.2.1]; exact h3))
                  have K17 : Hid (∀ W, Its w (.ctl w.heap.size g ⟨ns, es, ((kp : Int) + 1), gt⟩ n m P3 ci :: l2) W → Calls Tryz.prog 17 #[.pointer (some ⟨g, 0, none⟩)] W fun e w' => ∃ a3 q3 r3 sv3 P4, e = .returned (.tuple #[.slice a3 q3 r3, .int .i64 0]) ∧ (sv3.length = q3 ∧ out.length = q3) ∧ (P4.S = c2.S ∧ P4.K = c2.K) ∧ Its w (.ctl w.heap.size g ⟨ns, es, ((kp : Int) + 1), gt⟩ n m P4 c2 :: .row slE w.heap.size (.slice a3 q3 r3) sv3 :: .bys w.heap.size sv3 (out.map c2.movB) :: l2) w') := hide (fun W hW => by
                    have := ktickS hW (fun _ => HV3.out) HI.out.1.pi.fit (by omega)
                    rw [tk1] at this
                    refine this.mono ?_
                    rintro e w' (⟨_, a3, q3, r3, sv3, P4, rfl, z1, z2, z3, z4⟩ | ⟨z, _⟩)
                    · exact ⟨a3, q3, r3, sv3, P4, rfl, ⟨z1, z2⟩, ⟨z3.1, z3.2.1⟩, z4.rot3⟩
                    · exact absurd rfl z)
                  have K38b : Hid (∀ W P4 y z, Its w (.ctl w.heap.size g ⟨ns, es, ((kp : Int) + 1), gt⟩ n m P4 c2 :: y :: z :: l2) W → Calls Tryz.prog 13 #[.pointer (some ⟨gt, 0, none⟩)] W fun e w' => e = .returned (.int .i64 (c2.T.now.length : Int)) ∧ Its w (.ctl w.heap.size g ⟨ns, es, ((kp : Int) + 1), gt⟩ n m P4 c2 :: y :: z :: l2) w') := hide (fun W P4 y z hW => by
                    refine (ksize_any hW.one).mono ?_
                    rintro e w' ⟨rfl, q, rfl⟩
                    exact ⟨rfl, hW.drew q⟩)
                  have HL1 := hide HI.out.2.2.1
                  rcases tk3 with tk3 | ⟨e1, e2, e3, e4, e5⟩
                  · -- somebody found a way
                    rw [HL1.out] at tk3
                    have hne : ((c2.T.now.length : Int) == (L1 : Int)) = false := beq_eq_false_iff_ne.2 (by omega)
                    have hne' : ¬ (c2.T.now.length : Int) = (L1 : Int) := by omega
                    clear tk1 tk2 tk3
                    generalize c2.T.now.length = L2 at *
                    go_wp2_with (first
                      | (go_at_call 17; refine (K17.out _ HR3.out).mono ?_; rintro e w10 ⟨a3, q3, r3, sv3, P4, rfl, z1, z2, z3⟩; have J4 := hide z3; clear z1 z2 z3)
                      | (go_at_call 13; refine (K38b.out _ _ _ _ J4.out).mono ?_; rintro e w11 ⟨rfl, q⟩; have J5 := hide q; clear q)
                      | fail)
                    go_ret
                    exact ⟨rfl, J5.out.bel⟩
                  · rw [HL1.out] at e1
                    rw [e1] at K38b
                    rw [hem, HI.out.2.1] at e4
                    have hS2 : c2.S = c1.S := e2.trans HI.out.2.1
                    have hmv : out.map c2.movB = out.map c1.movB := List.map_congr_left (fun d _ => by unfold Ct.movB Ct.movT; rw [hS2])
                    rw [hmv] at K17
                    obtain ⟨nm1, nm2⟩ := next_mod (kp + 1) (by omega) i hi1
                    have HI1 : Hid (Snd ⟨ns, es, ((kp : Int) + 1), gt⟩ n c2 (71 + 31 * (i + 1 - 1)) ∧ c2.S = c1.S ∧ c2.T.now.length = L1 ∧ c2.tk.length = m + 1 ∧ ∀ d : Int, 1 ≤ d → d ≤ (m : Int) → (c1.S.dev d).tt ≠ 0 → c2.tkAt d = (((i + 1 - 1) % (kp + 1) : Nat) : Int)) := hide (by
                      refine ⟨tk2.up (by omega), hS2, e1, by rw [← hem]; exact e3, fun d h1 h2 h3 => ?_⟩
                      have := e5 d h1 (by rw [hem]; exact h2) (by rw [HI.out.2.1]; exact h3)
                      rw [this]
                      show (if (((i - 1) % (kp + 1) : Nat) : Int) + 1 < (kp : Int) + 1 then _ else _) = _
                      rw [show i + 1 - 1 = i by omega]
                      by_cases z : (i - 1) % (kp + 1) + 1 < kp + 1
                      · rw [if_pos (by omega), (nm1 z).1]; omega
                      · rw [if_neg (by omega), nm2 z]; rfl)
                    have hout : (i % (kp + 1) ≠ 0 ∧ out = []) ∨ (i % (kp + 1) = 0 ∧ out = tol c1.S m) := by
                      by_cases z : (i - 1) % (kp + 1) + 1 < kp + 1
                      · refine .inl ⟨(nm1 z).2, ?_⟩
                        rw [e4]; exact if_pos (by show (((i - 1) % (kp + 1) : Nat) : Int) + 1 < (kp : Int) + 1; omega)
                      · refine .inr ⟨nm2 z, ?_⟩
                        rw [e4]; exact if_neg (by show ¬ (((i - 1) % (kp + 1) : Nat) : Int) + 1 < (kp : Int) + 1; omega)
                    have hrem : (i : Int).tmod ((kp : Int) + 1) = ((i % (kp + 1) : Nat) : Int) := by
                      rw [Int.tmod_eq_emod_of_nonneg (by omega)]
                      rw [show (kp : Int) + 1 = ((kp + 1 : Nat) : Int) by omega]
                      exact (Int.natCast_emod i (kp + 1)).symm
                    have hp0 : ¬ (kp : Int) + 1 = 0 := by omega
                    have hp0' : (((kp : Int) + 1) == 0) = false := beq_eq_false_iff_ne.2 hp0
                    clear tk1 tk2 e2 e3 e4 e5 hmv nm1 nm2 hS2 hk6
                    have heqL : ((L1 : Int) == (L1 : Int)) = true := by simp
                    generalize hrho : i % (kp + 1) = rho at *
                    rcases hout with ⟨o1, rfl⟩ | ⟨o1, rfl⟩
                    · have hr1 : ¬ (rho : Int) = 0 := by omega
                      have hr2 : ((rho : Int) == 0) = false := beq_eq_false_iff_ne.2 hr1
                      have K17z : Hid (∀ W, Its w (.ctl w.heap.size g ⟨ns, es, ((kp : Int) + 1), gt⟩ n m P3 ci :: l2) W → Calls Tryz.prog 17 #[.pointer (some ⟨g, 0, none⟩)] W fun e w' => ∃ a3 r3 sv3 P4, e = .returned (.tuple #[.slice a3 0 r3, .int .i64 0]) ∧ (P4.S = c2.S ∧ P4.K = c2.K) ∧ Its w (.ctl w.heap.size g ⟨ns, es, ((kp : Int) + 1), gt⟩ n m P4 c2 :: .row slE w.heap.size (.slice a3 0 r3) sv3 :: .bys w.heap.size sv3 [] :: l2) w') := hide (fun W hW => by
                        refine (K17.out W hW).mono ?_
                        rintro e w' ⟨a3, q3, r3, sv3, P4, rfl, ⟨_, z1⟩, z2, z3⟩
                        have : q3 = 0 := z1.symm
                        subst this
                        exact ⟨a3, r3, sv3, P4, rfl, z2, z3⟩)
                      clear K17 o1
                      go_wp2_with (first
                        | (go_at_call 17; refine (K17z.out _ HR3.out).mono ?_; rintro e w10 ⟨a3, r3, sv3, P4, rfl, z2, z3⟩; have HV4 := hide z2; have J4 := hide z3; clear z2 z3)
                        | (go_at_call 13; refine (K38b.out _ _ _ _ J4.out).mono ?_; rintro e w11 ⟨rfl, q⟩; have J5 := hide q; clear q)
                        | fail)
                      go_loopw [140] (fun v140 wy => v140 = .int .i64 0 ∧ Hid (Its w (.ctl w.heap.size g ⟨ns, es, ((kp : Int) + 1), gt⟩ n m P4 c2 :: l2) wy)) (fun _ _ => 0)
                      case atStart => exact ⟨rfl, hide ((J5.out.pick 0 rfl).swap.tail.swap.tail)⟩
                      case round =>
                        as_aux_lemma =>
                          obtain ⟨rfl, HR4⟩ := hrel
                          try clear hrem; try clear hrho; try clear hr1; try clear hr2; try clear htt; try clear hp0; try clear hp0'; try clear heqL; try clear hi1; try clear hi2; try clear k3; try clear j3; try clear j3'; try clear hd1; try clear hd2; try clear hdm; try clear e1; try clear hkw
                          go_wp2_with fail
                          go_roundw
                          case rel => exact ⟨i + 1, P4, c2, by go_num, Nat.succ_le_succ (Nat.zero_le i), Nat.succ_le_succ hil, HI1, HV4, HR4⟩
                          case measure => (rw [j7]; exact meas3 j6)
                    · have hr1 : (rho : Int) = 0 := by omega
                      have hr2 : ((rho : Int) == 0) = true := by simp [hr1]
                      have HTS2 := HTS.out
                      rw [HTS2] at K17
                      have K17z : Hid (∀ W, Its w (.ctl w.heap.size g ⟨ns, es, ((kp : Int) + 1), gt⟩ n m P3 ci :: l2) W → Calls Tryz.prog 17 #[.pointer (some ⟨g, 0, none⟩)] W fun e w' => ∃ a3 r3 sv3 P4, e = .returned (.tuple #[.slice a3 tc r3, .int .i64 0]) ∧ sv3.length = tc ∧ (P4.S = c2.S ∧ P4.K = c2.K) ∧ Its w (.ctl w.heap.size g ⟨ns, es, ((kp : Int) + 1), gt⟩ n m P4 c2 :: .row slE w.heap.size (.slice a3 tc r3) sv3 :: .bys w.heap.size sv3 ts1 :: l2) w') := hide (fun W hW => by
                        refine (K17.out W hW).mono ?_
                        rintro e w' ⟨a3, q3, r3, sv3, P4, rfl, ⟨z0, z1⟩, z2, z3⟩
                        have : q3 = tc := z1.symm.trans HQ.out.2
                        subst this
                        exact ⟨a3, r3, sv3, P4, rfl, z0, z2, z3⟩)
                      have htt : ((tc : Int) == (tc : Int)) = true := by simp
                      obtain rfl : rho = 0 := by omega
                      clear K17 o1 HTS2
                      go_wp2_with (first
                        | (go_at_call 17; refine (K17z.out _ HR3.out).mono ?_; rintro e w10 ⟨a3, r3, sv3, P4, rfl, z1, z2, z3⟩; have HS3 := hide z1; have HV4 := hide z2; have J4 := hide z3; clear z1 z2 z3)
                        | (go_at_call 13; refine (K38b.out _ _ _ _ J4.out).mono ?_; rintro e w11 ⟨rfl, q⟩; have J5 := hide q; clear q)
                        | fail)
                      go_loopw [140] (fun v140 wy => ∃ k2 : Nat, v140 = .int .i64 k2 ∧ k2 ≤ tc ∧ Hid (Its w (.ctl w.heap.size g ⟨ns, es, ((kp : Int) + 1), gt⟩ n m P4 c2 :: .row slE w.heap.size (.slice a3 tc r3) sv3 :: .bys w.heap.size sv3 ts1 :: l2) wy)) (fun v140 _ => tc - (intOf v140).toNat)
                      case atStart => exact ⟨0, rfl, Nat.zero_le _, hide (by first | exact J5.out | exact J5.out.hp rfl rfl rfl rfl)⟩
                      case round =>
                        as_aux_lemma =>
                          obtain ⟨k2, rfl, hk2, HR4⟩ := hrel
                          try clear hrem; try clear hrho; try clear hr1; try clear hr2; try clear htt; try clear hp0; try clear hp0'; try clear heqL; try clear hi1; try clear hi2; try clear k3; try clear j3; try clear j3'; try clear hd1; try clear hd2; try clear hdm; try clear e1; try clear hkw
                          by_cases hkl : k2 < tc
                          · obtain ⟨tx, htx⟩ : ∃ tx, ts1[k2]? = some tx := ⟨_, List.getElem?_eq_getElem (by rw [HQ1.out]; exact hkl)⟩
                            obtain ⟨s, hs⟩ : ∃ s : Sv, sv3[k2]? = some s := ⟨_, List.getElem?_eq_getElem (by rw [HS3.out]; exact hkl)⟩
                            obtain ⟨bq, oq, rfl, u1⟩ := sl_at HR4.out.two.rd k2 s hs
                            obtain ⟨bq', oq', s', rfl, u2, v2⟩ := CV.out _ _ (((HR4.out.swap.tail).swap.tail)) k2 tx htx
                            have v1 := (HR4.out.three.2 k2 s tx hs htx).rd
                            have v1' : ∀ q : Nat, (convert 54 9 (.slice s.a s.l s.c)).run Tryz.prog (wr.drewN q) = .ok (.string (str tx)) (wr.drewN q) := fun q => conv_str (v1.keep ⟨rfl, rfl, rfl, Nat.le_refl _, fun _ _ => rfl⟩)
                            have j8 : (0 : Int) ≤ (k2 : Int) := Int.natCast_nonneg _
                            have j9 : (k2 : Int) < (tc : Int) := Int.ofNat_lt.2 hkl
                            have j10 : wrap64 ((k2 : Int) + 1) = (k2 : Int) + 1 := by unfold wrap64; omega
                            clear htx hs v1
                            generalize str tx = sx at *
                            go_upto_region 43 with fail
                            go_quiet (fail)
                            have HR5 := hide (HR4.out.drew nq)
                            clear u1 u2 v1' v2 HR4
                            generalize wr.drewN nq = wq at *
                            go_wp2_with fail
                            go_roundw
                            case rel => exact ⟨k2 + 1, by go_num, hkl, HR5⟩
                            case measure => first | exact measK j9 | (rw [j10]; exact measK j9)
                          · obtain rfl : k2 = tc := Nat.le_antisymm hk2 (Nat.not_lt.1 hkl)
                            have j9 : ¬ (k2 : Int) < (k2 : Int) := Int.lt_irrefl _
                            go_wp2_with fail
                            go_roundw
                            case rel => exact ⟨i + 1, P4, c2, by go_num, Nat.succ_le_succ (Nat.zero_le i), Nat.succ_le_succ hil, HI1, HV4, hide (by first | exact (HR4.out.swap.tail).swap.tail | exact ((HR4.out.swap.tail).swap.tail).hp rfl rfl rfl rfl)⟩
                            case measure => (rw [j7]; exact meas3 j6)
end
end Go.Proofs.YtocmngpoemfpkabGreatDoor

namespace Go.Proofs.YtocmngpoemfpkabGreatDoor
open Go.ChangeShapes Go.WideShapes Go.ChangeAt Go.RowKit
section
variable {H : Type} {enc : TypeId × Value → H} {w : World} {base : Nat} {spare : Nat → Bool} {held : Bool} {fuel : Nat} {cs : List Value} {x : DataW H × List MemPlace}
set_option maxRecDepth 100000 in
theorem ed_of_trod2 (h : DataW.trod enc Tryz.prog w base spare held fuel 65 cs = some x) : ∃ y : Ed, cs = edE.enc y ∧ I64 y.1 := by
  obtain ⟨xs, n, _, _, hl, hn, hf⟩ := DataW.trod_array Tryz.underlying65 h
  have e3 : Tryz.prog.cellsOf 3 = 1 := by kernel_rfl
  rw [show Tryz.prog.cellsOf 65 = 2 by kernel_rfl] at hl
  have f0 := hf 0 (by omega)
  have f1 := hf 1 (by omega)
  rw [e3] at f0 f1
  match xs, hn, cs, hl with
  | [y0, y1], _, [c0, c1], _ =>
    obtain ⟨i1, e1, _, w1⟩ := DataW.trod_int Tryz.underlying3 (show DataW.trod enc Tryz.prog w base spare held n 3 _ = some y0 from f0)
    obtain ⟨i2, e2, _, _⟩ := DataW.trod_int Tryz.underlying3 (show DataW.trod enc Tryz.prog w base spare held n 3 _ = some y1 from f1)
    simp at e1 e2
    exact ⟨(i1, i2), by simp [e1, e2, edE], I64.of w1⟩
theorem eds_of_trod {a : Option Addr} {len cap : Nat} (h : DataW.trod enc Tryz.prog w base spare held fuel 23 cs = some x) (hcs : cs = [.slice a len cap]) : ∃ os : List Ed, os.length = len ∧ edE.Rd w (.slice a len cap) os ∧ ∀ y ∈ os, I64 y.1 :=
  rd_of_trod edE (fun y => I64 y.1) (by kernel_rfl) (fun n cs y hy => ed_of_trod2 hy) h hcs
end
end Go.Proofs.YtocmngpoemfpkabGreatDoor

namespace Go.Proofs.YtocmngpoemfpkabGreatDoor
open Go.ChangeShapes Go.WideShapes Go.ChangeAt Go.RowKit
theorem own : ownKnob Tryz.prog.godebug = none := by kernel_rfl
theorem gKind : Tryz.prog.globalNamed "stillage/layout.kindWords" = some 0 := by kernel_rfl
theorem tKind : (Tryz.prog.globals[0]?).map (·.type) = some 289 := by kernel_rfl
theorem c9 : Tryz.prog.cellsOf 9 = 1 := by kernel_rfl
theorem kinds_of {W : World} (h : Lib.VarReads Tryz.prog W "stillage/layout.kindWords" Rows.laid_stillage_layout_kindWords) :
    W.cell? ⟨0, 0, none⟩ = some (.string (strU [116, 114, 97, 99, 107])) ∧ W.cell? ⟨0, 1, none⟩ = some (.string (strU [115, 108, 111, 116])) ∧ W.cell? ⟨0, 2, none⟩ = some (.string (strU [115, 116, 97, 116, 105, 111, 110])) ∧ W.cell? ⟨0, 3, none⟩ = some (.string (strU [103, 97, 116, 101])) := by
  obtain ⟨g, t, cs, fuel, p, hg, ht, hv, hd⟩ := h
  obtain rfl := Option.some.inj (gKind.symm.trans hg)
  obtain rfl := Option.some.inj (tKind.symm.trans ht)
  obtain ⟨xs, m, _, ex, _, hl, hel⟩ := DataW.trod_array Tryz.underlying289 hd
  have e3 : xs.map (·.1) = [.lit (.string [116, 114, 97, 99, 107]), .lit (.string [115, 108, 111, 116]), .lit (.string [115, 116, 97, 116, 105, 111, 110]), .lit (.string [103, 97, 116, 101])] := (DataW.agg.inj (Prod.mk.inj ex).1).symm
  have step : ∀ (r : Nat) (l : List UInt8), r < 4 → (xs.map (·.1))[r]? = some (DataW.lit (.string l)) → W.cell? ⟨0, r, none⟩ = some (.string (strU l)) := by
    intro r l hr he
    have hE := hel r hr
    rw [c9, Nat.mul_one, List.getElem?_eq_getElem (by omega)] at hE
    obtain ⟨s, e1, e2, _⟩ := DataW.trod_string Tryz.underlying9 hE
    rw [List.getElem?_map, List.getElem?_eq_getElem (by omega : r < xs.length), e2] at he
    simp only [Option.map_some, Option.some.injEq, DataW.lit.injEq, Lit.string.injEq] at he
    have hs : s = strU l := by rw [← he, strU_of]
    rw [World.var?_cell hg hv r, ← hs]
    have h0 : ((cs.toList.drop r).take 1)[0]? = some (.string s) := by rw [e1]; rfl
    simpa using h0
  exact ⟨step 0 _ (by omega) (by rw [e3]; rfl), step 1 _ (by omega) (by rw [e3]; rfl), step 2 _ (by omega) (by rw [e3]; rfl), step 3 _ (by omega) (by rw [e3]; rfl)⟩
theorem tabs_of {W : World} (h3 : Lib.VarReads Tryz.prog W "unicode/utf8.first" Rows.laid_unicode_utf8_first) (h4 : Lib.VarReads Tryz.prog W "unicode/utf8.acceptRanges" Rows.laid_unicode_utf8_acceptRanges) : Lib.Utf8Tabs 2 3 W := by
  have e3 : (Rows.laid_unicode_utf8_first : DataW Unit) = Lib.firstData := Pinned.utf8First_eq
  have e4 : (Rows.laid_unicode_utf8_acceptRanges : DataW Unit) = Lib.acceptData := by kernel_rfl
  rw [e3] at h3
  rw [e4] at h4
  exact utf8Tabs_of_reads (ρ := Tryz.lays197_ren) { Tryz.lays197 with } ⟨by kernel_rfl, by kernel_rfl, by kernel_rfl, by kernel_rfl, by kernel_rfl, by kernel_rfl, by kernel_rfl⟩ h3 h4
theorem max_of {W : World} (h : W.ShapedOpen Tryz.prog) : ∃ m, W.cell? ⟨1, 0, none⟩ = some (.int .i64 m) :=
  cell_of_shapedOpen_int (P := Tryz.prog) (g := 1) (t := 3) (zero := #[.int .i64 0]) (k := .i64) h (of_decide_eq_true (by kernel_rfl)) (by kernel_rfl) rfl (by kernel_rfl) (by kernel_rfl) Tryz.underlying3
theorem laid_of {W : World} {l : List (String × DataW Unit)} (h : laidMet Tryz.prog l W) (hsh : W.ShapedOpen Tryz.prog) (hk : ("stillage/layout.kindWords", Rows.laid_stillage_layout_kindWords) ∈ l) (h3 : ("unicode/utf8.first", Rows.laid_unicode_utf8_first) ∈ l) (h4 : ("unicode/utf8.acceptRanges", Rows.laid_unicode_utf8_acceptRanges) ∈ l) : Laid W := by
  obtain ⟨a, b, c, d⟩ := kinds_of (Lib.laidMet.reads h hk)
  exact ⟨a, b, c, d, max_of hsh, tabs_of (Lib.laidMet.reads h h3) (Lib.laidMet.reads h h4)⟩
end Go.Proofs.YtocmngpoemfpkabGreatDoor
