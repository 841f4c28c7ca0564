/- ControlOrders: texts Kaw Own Kfr Kow Kag Lws. -/
import Derived.HandedShaped
import Derived.Lay
import Derived.Lib.LaidU8
import Derived.PinnedBridge
import Derived.Shelf.Vars
import Derived.Test.YtocmngpoemfpkaaGreatDoorControlOrdersAA
import Derived.Test.YtocmngpoemfpkaaGreatDoorControlOrdersAC
import Derived.Test.YtocmngpoemfpkaaGreatDoorControlOrdersAE
import Derived.Test.YtocmngpoemfpkaaGreatDoorControlOrdersAG
import Derived.Test.YtocmngpoemfpkaaGreatDoorControlOrdersAO
import Derived.Test.YtocmngpoemfpkaaGreatDoorControlOrdersAS
namespace Go.Proofs.YtocmngpoemfpkaaGreatDoor
open Go.RowKit
set_option linter.unusedVariables false
theorem Fit.put {c : Ct} {k : Nat} (h : Fit c k) (E : Ev) (t x : Int) : Fit (c.put E t x).2 (k + 1) := by
  unfold Ct.put
  split
  · exact h.up (by omega)
  · split
    · exact h.up (by omega)
    · exact h.note _
theorem aw_fit1 : Fit aw1 1 := aw_fit.put (awEv 0) 5 1
theorem aw_fit2 : Fit aw2 2 := aw_fit1.note ⟨2, 7, 2, 5⟩
theorem aw_deads : aw0.dead = false ∧ aw1.dead = false ∧ aw2.dead = false := ⟨by kernel_rfl, by kernel_rfl, by kernel_rfl⟩
theorem sl_at {w : World} {a : Option Addr} {n c : Nat} {svs : List Sv} (h : slE.Rd w (.slice a n c) svs) (i : Nat) (s : Sv) (hs : svs[i]? = some s) : ∃ b off, a = some ⟨b, off, none⟩ ∧ w.cell? ⟨b, off + i, none⟩ = some (.slice s.a s.l s.c) := by
  obtain ⟨b, off, h1, h2⟩ := h.at i s hs
  refine ⟨b, off, h1, ?_⟩
  have := h2 0 (by show 0 < 1; omega)
  simpa [slE] using this
set_option maxRecDepth 100000 in
set_option maxHeartbeats 4000000 in
theorem awake_any (w : World) (L : Laid w) : Calls Tryz.prog 9 #[] w fun e w' => e = .returned (.bool true) ∧ Below w.heap.size w w' := by
  have K41 : Hid (Calls Tryz.prog 41 #[.string awT] w fun e w' => ∃ aN cN aE cE, e = .returned (.tuple #[.agg #[.slice aN 3 cN, .slice aE 2 cE], .int .i64 0, .int .i64 0]) ∧ ndE.Own w' w.heap.size (.slice aN 3 cN) awN ∧ edE.Own w' w.heap.size (.slice aE 2 cE) awE ∧ Below w.heap.size w w') := hide (by
    have := lparse_any awT w L (by decide)
    rw [aw_parse] at this
    refine this.mono ?_
    rintro e w' ⟨vN, vE, rfl, hN, hE, hb⟩
    obtain ⟨aN, cN, rfl⟩ := hN.rd.form
    obtain ⟨aE, cE, rfl⟩ := hE.rd.form
    exact ⟨aN, cN, aE, cE, rfl, hN, hE, hb⟩)
  unfold awT at K41
  clear L
  go_enter Tryz.func9, Tryz.ntmps9
  go_upto_region 2 with (go_at_call 41; refine (K41.out).mono ?_; rintro e W1 ⟨aN, cN, aE, cE, rfl, hN, hE, hb⟩; have HN := hide hN; have HE := hide hE; have HB := hide hb; clear hN hE hb)
  obtain ⟨W2, hW2⟩ : ∃ W2, W1.alloc (.cells #[.slice aN 3 cN, .slice aE 2 cE] 25) = W2 := ⟨_, rfl⟩
  have b2 : Below W1.heap.size W1 W2 := by rw [← hW2]; exact (Below.refl _ _).alloc (Nat.le_refl _) _
  have hx : W2.heap[W1.heap.size]? = some (.cells #[.slice aN 3 cN, .slice aE 2 cE] 25) := by rw [← hW2]; exact heap_new _ _
  have HBW := hide (HB.out.trans (b2.mono HB.out.size))
  have HL : Hid (∀ W, Below W2.heap.size W2 W → Lyt W aN aE cN cE 3 2 awN awE) := hide (fun W h => by
    have h1 := b2.trans (h.mono b2.size)
    exact ⟨rfl, rfl, (HN.out.keep h1).rd, (HE.out.keep h1).rd, nd_cap HE.out, by decide +kernel⟩)
  have SB : Hid (∀ W, Below W2.heap.size W2 W → W.cell? ⟨W1.heap.size, 0, none⟩ = some (.slice aN 3 cN) ∧ W.cell? ⟨W1.heap.size, 1, none⟩ = some (.slice aE 2 cE)) := hide (fun W h => by
    have hx' : W.heap[W1.heap.size]? = some (.cells #[.slice aN 3 cN, .slice aE 2 cE] 25) := by rw [h.block _ (heap_lt hx)]; exact hx
    exact ⟨(cells_at hx' 0).1, (cells_at hx' 1).1⟩)
  try rw [hW2]
  clear b2 hx hW2
  have I0 := hide (Its.nil W2)
  have K11 : Hid (∀ W, Its W2 [] W → Calls Tryz.prog 11 #[] W fun e w' => ∃ g H, e = .returned (.pointer (some ⟨g, 0, none⟩)) ∧ Its W2 [.tape W2.heap.size g H Tp.nw] w') := hide (fun W hW => newS hW)
  have K12 : Hid (∀ W g H, Its W2 [.tape W2.heap.size g H Tp.nw] W → Calls Tryz.prog 12 #[.agg #[.slice aN 3 cN, .slice aE 2 cE], .int .i64 3, .pointer (some ⟨g, 0, none⟩)] W fun e w' => ∃ gc P, e = .returned (.tuple #[.pointer (some ⟨gc, 0, none⟩), .int .i64 0]) ∧ (P.S = aw0.S ∧ P.K = aw0.K) ∧ Its W2 [.ctl W2.heap.size gc (awEv g) 3 2 P aw0] w') := hide (fun W g H hW => by
    have := kopenS (l := []) hW (fun W x hW => HL.out W hW.bel) 3 (rds_all (ns := []) (fun n hn => by cases hn)) (by simp) ⟨0, 0, .slice none 0 0, fun _ => none, []⟩
    rw [aw_opn] at this
    refine this.mono ?_
    rintro e w' (⟨q, _⟩ | ⟨_, gc, P, S, K, q1, rfl, q2, q3⟩)
    · exact absurd rfl q
    · cases q1
      exact ⟨gc, P, rfl, q2, q3⟩)
  have K37 : Hid (∀ W gc g P, (P.S = aw0.S ∧ P.K = aw0.K) → Its W2 [.ctl W2.heap.size gc (awEv g) 3 2 P aw0] W → Calls Tryz.prog 37 #[.pointer (some ⟨gc, 0, none⟩), .int .i64 5, .int .i64 1] W fun e w' => e = .returned (.int .i64 0) ∧ ∃ P', (P'.S = aw1.S ∧ P'.K = aw1.K) ∧ Its W2 [.ctl W2.heap.size gc (awEv g) 3 2 P' aw1] w') := hide (fun W gc g P h1 hW => by
    have := kputS hW (fun _ => h1) aw_fit.gd (by omega) 5 1 (by unfold I64; omega)
    rw [aw_put'] at this
    refine this.mono ?_
    rintro e w' ⟨rfl, P', q1, q2⟩
    exact ⟨rfl, P', q1 aw_deads.2.1, q2⟩)
  have K29 : Hid (∀ W gc g P, (P.S = aw1.S ∧ P.K = aw1.K) → Its W2 [.ctl W2.heap.size gc (awEv g) 3 2 P aw1] W → Calls Tryz.prog 29 #[.pointer (some ⟨gc, 0, none⟩), .agg #[.int .i64 7, .int .i64 2, .int .i64 5]] W fun e w' => e = .returned (.tuple #[.bool true, .int .i64 0]) ∧ ∃ P', (P'.S = aw2.S ∧ P'.K = aw2.K) ∧ Its W2 [.ctl W2.heap.size gc (awEv g) 3 2 P' aw2] w') := hide (fun W gc g P h1 hW => by
    have := korderS hW (fun _ => h1) aw_fit1.gd (by omega) ⟨7, 2, 5⟩
    rw [aw_order'] at this
    refine this.mono ?_
    rintro e w' ⟨rfl, P', q1, q2⟩
    exact ⟨rfl, P', q1 aw_deads.2.2, q2⟩)
  have K42 : Hid (∀ W gc g P, (P.S = aw2.S ∧ P.K = aw2.K) → Its W2 [.ctl W2.heap.size gc (awEv g) 3 2 P aw2] W → Calls Tryz.prog 42 #[.pointer (some ⟨gc, 0, none⟩)] W fun e w' => ∃ (b off r : Nat) (s : Sv) (P' : Kp), e = .returned (.tuple #[.slice (some ⟨b, off, none⟩) 1 r, .int .i64 0]) ∧ P'.K.sta 7 = 1 ∧ Its W2 [.row slE W2.heap.size (.slice (some ⟨b, off, none⟩) 1 r) [s], .bys W2.heap.size [s] [enc ⟨1, 1, 0, 5, 0⟩], .ctl W2.heap.size gc (awEv g) 3 2 P' aw5] w') := hide (fun W gc g P h1 hW => by
    have := ktickS hW (fun _ => h1) aw_fit2 (by omega)
    rw [aw_tick'] at this
    refine this.mono ?_
    rintro e w' (⟨_, a, q, r, svs, P', rfl, q1, q2, q3, q4⟩ | ⟨q, _⟩)
    · have hq : q = 1 := q2.symm
      subst hq
      obtain ⟨s, rfl⟩ : ∃ s, svs = [s] := List.length_eq_one_iff.1 q1
      obtain ⟨b, off, rfl, _⟩ := sl_at q4.one.rd 0 s rfl
      refine ⟨b, off, r, s, P', rfl, by rw [q3.2.1]; exact aw_sta, ?_⟩
      have : [(1 : Int)].map aw5.movB = [enc ⟨1, 1, 0, 5, 0⟩] := by
        show [enc (aw5.movT 1)] = _
        rw [aw_mov]
      rw [← this]
      exact q4
    · exact absurd rfl q)
  have CV : Hid (∀ W b off r s x, Its W2 [.row slE W2.heap.size (.slice (some ⟨b, off, none⟩) 1 r) [s], .bys W2.heap.size [s] [enc ⟨1, 1, 0, 5, 0⟩], x] W → W.cell? ⟨b, off, none⟩ = some (.slice s.a s.l s.c) ∧ (convert 58 9 (.slice s.a s.l s.c)).run Tryz.prog W = .ok (.string (str (enc ⟨1, 1, 0, 5, 0⟩))) W) := hide (fun W b off r s x hW => by
    obtain ⟨b', off', z, q⟩ := sl_at hW.one.rd 0 s rfl
    simp only [Option.some.injEq, Addr.mk.injEq, and_true] at z
    obtain ⟨rfl, rfl⟩ := z
    exact ⟨q, conv_str ((hW.two.2 0 s _ rfl rfl).rd)⟩)
  have K35 : Hid (∀ W L, Its W2 L W → Calls Tryz.prog 35 #[.agg #[.int .u8 1, .int .u16 1, .int .u16 0, .int .u16 5, .int .u16 0]] W fun e w' => ∃ a5 n5 p5, e = .returned (.slice a5 n5 p5) ∧ (convert 58 9 (.slice a5 n5 p5)).run Tryz.prog w' = .ok (.string (str (enc ⟨1, 1, 0, 5, 0⟩))) w' ∧ Its W2 L w') := hide (fun W L hW => by
    refine (tl_bytes_any 1 1 0 5 0 W (by unfold Tl.In; decide)).mono ?_
    rintro e w' ⟨v, rfl, q1, q2⟩
    have q3 := ow_by q1
    obtain ⟨a5, p5, rfl⟩ := q3.rd.form
    exact ⟨a5, _, p5, rfl, conv_str q3.rd, hW.keep q2⟩)
  have K33 : Hid (∀ W gc g P x y, P.K.sta 7 = 1 → Its W2 [x, y, .ctl W2.heap.size gc (awEv g) 3 2 P aw5] W → Calls Tryz.prog 33 #[.pointer (some ⟨gc, 0, none⟩), .int .i64 7] W fun e w' => e = .returned (.int .i64 1) ∧ w' = W) := hide (fun W gc g P x y h1 hW => by
    have := kstate_any hW.three (x := 7) (by unfold I64; omega)
    rw [h1] at this
    exact this)
  generalize enc ⟨1, 1, 0, 5, 0⟩ = eb at *
  have S0 := SB.out W2 (Below.refl _ _)
  go_region_held3 (fun W => W.cell? ⟨W1.heap.size, 0, none⟩ = some (.slice aN 3 cN) ∧ W.cell? ⟨W1.heap.size, 1, none⟩ = some (.slice aE 2 cE)) (first | exact S0 | exact SB.out _ I2.out.bel | exact SB.out _ I1.out.bel | exact SB.out _ (Its.hp (w' := W2.drew) I0.out rfl rfl rfl rfl).bel | fail)
    (first
      | (go_at_call 11; refine (K11.out _ ?_).mono ?_; (first | exact I0.out | exact I0.out.hp rfl rfl rfl rfl); rintro e w1 ⟨gt, H1, rfl, q⟩; have I1 := hide q; clear q)
      | (go_at_call 12; refine (K12.out _ gt H1 ?_).mono ?_; (first | exact I1.out | exact I1.out.hp rfl rfl rfl rfl); rintro e w2 ⟨gc, P1, rfl, q1, q2⟩; have HV1 := hide q1; have I2 := hide q2; clear q1 q2)
      | fail)
  all_goals (
    go_upto_region 7 with (first
      | (go_at_call 37; refine (K37.out _ gc gt P1 HV1.out ?_).mono ?_; (first | exact I2.out | exact I2.out.hp rfl rfl rfl rfl); rintro e w3 ⟨rfl, P2, q1, q2⟩; have HV2 := hide q1; have I3 := hide q2; clear q1 q2)
      | (go_at_call 29; refine (K29.out _ gc gt P2 HV2.out ?_).mono ?_; (first | exact I3.out | exact I3.out.hp rfl rfl rfl rfl); rintro e w4 ⟨rfl, P3, q1, q2⟩; have HV3 := hide q1; have I4 := hide q2; clear q1 q2)
      | (go_at_call 42; refine (K42.out _ gc gt P3 HV3.out ?_).mono ?_; (first | exact I4.out | exact I4.out.hp rfl rfl rfl rfl); rintro e w5 ⟨b, off, r, s, P4, rfl, q1, q2⟩; have HV4 := hide q1; have I5 := hide q2; clear q1 q2))
    have S5 := CV.out _ _ _ _ _ _ I5.out
    refine wp_region_held_drew (S := (fun W => W.cell? ⟨b, off, none⟩ = some (.slice s.a s.l s.c) ∧ (convert 58 9 (.slice s.a s.l s.c)).run Tryz.prog W = .ok (.string (str eb)) W)) (by kernel_rfl) (by first | exact S5 | exact CV.out _ _ _ _ _ _ (Its.hp (w' := w5.drew) I5.out rfl rfl rfl rfl)) (fun hS => ?_)
    refine wpAnyH_take (i := 0) (v := .bool true) rfl (by kernel_rfl) (by kernel_rfl) (by kernel_rfl) (fun _ _ _ h => h) (Or.inl ⟨by kernel_rfl, fun W' hW => by obtain ⟨s0, s1⟩ := hW; go_simp⟩) hS ?_
    refine wpAnyH_take (i := 1) (v := .bool true) rfl (by kernel_rfl) (by kernel_rfl) (by kernel_rfl) (fun _ _ _ h => h) (Or.inl ⟨by kernel_rfl, fun W' hW => by obtain ⟨s0, s1⟩ := hW; go_simp⟩) hS ?_
    refine wpAnyH_take (i := 2) (v := .int .i64 0) rfl (by kernel_rfl) (by kernel_rfl) (by kernel_rfl) (fun _ _ _ h => h) (Or.inl ⟨by kernel_rfl, fun W' hW => by obtain ⟨s0, s1⟩ := hW; go_simp⟩) hS ?_
    refine wpAnyH_take (i := 3) (v := .bool true) rfl (by kernel_rfl) (by kernel_rfl) (by kernel_rfl) (fun _ _ _ h => h) (Or.inl ⟨by kernel_rfl, fun W' hW => by obtain ⟨s0, s1⟩ := hW; go_simp⟩) hS ?_
    refine wpAnyH_take (i := 4) (v := .bool true) rfl (by kernel_rfl) (by kernel_rfl) (by kernel_rfl) (fun _ _ _ h => h) (Or.inl ⟨by kernel_rfl, fun W' hW => by obtain ⟨s0, s1⟩ := hW; go_simp⟩) hS ?_
    refine wpAnyH_take (i := 5) (v := .bool true) rfl (by kernel_rfl) (by kernel_rfl) (by kernel_rfl) (fun _ _ _ h => h) (Or.inl ⟨by kernel_rfl, fun W' hW => by obtain ⟨s0, s1⟩ := hW; go_simp⟩) hS ?_
    refine wpAnyH_take (i := 6) (v := .int .i64 0) rfl (by kernel_rfl) (by kernel_rfl) (by kernel_rfl) (fun _ _ _ h => h) (Or.inl ⟨by kernel_rfl, fun W' hW => by obtain ⟨s0, s1⟩ := hW; go_simp⟩) hS ?_
    refine wpAnyH_take (i := 7) (v := .bool true) rfl (by kernel_rfl) (by kernel_rfl) (by kernel_rfl) (fun _ _ _ h => h) (Or.inl ⟨by kernel_rfl, fun W' hW => by obtain ⟨s0, s1⟩ := hW; go_simp⟩) hS ?_
    refine wpAnyH_take (i := 8) (v := .bool true) rfl (by kernel_rfl) (by kernel_rfl) (by kernel_rfl) (fun _ _ _ h => h) (Or.inl ⟨by kernel_rfl, fun W' hW => by obtain ⟨s0, s1⟩ := hW; go_simp⟩) hS ?_
    refine wpAnyH_take (i := 9) (v := .bool true) rfl (by kernel_rfl) (by kernel_rfl) (by kernel_rfl) (fun _ _ _ h => h) (Or.inl ⟨by kernel_rfl, fun W' hW => by obtain ⟨s0, s1⟩ := hW; go_simp⟩) hS ?_
    refine wpAnyH_take (i := 10) (v := .slice (some ⟨b, off, none⟩) 1 r) rfl (by kernel_rfl) (by kernel_rfl) (by kernel_rfl) (fun _ _ _ h => h) (Or.inl ⟨by kernel_rfl, fun W' hW => by obtain ⟨s0, s1⟩ := hW; go_simp⟩) hS ?_
    refine wpAnyH_take (i := 11) (v := .int .i64 1) rfl (by kernel_rfl) (by kernel_rfl) (by kernel_rfl) (fun _ _ _ h => h) (Or.inl ⟨by kernel_rfl, fun W' hW => by obtain ⟨s0, s1⟩ := hW; go_simp⟩) hS ?_
    refine wpAnyH_take (i := 12) (v := .bool true) rfl (by kernel_rfl) (by kernel_rfl) (by kernel_rfl) (fun _ _ _ h => h) (Or.inl ⟨by kernel_rfl, fun W' hW => by obtain ⟨s0, s1⟩ := hW; go_simp⟩) hS ?_
    refine wpAnyH_take (i := 13) (v := .bool true) rfl (by kernel_rfl) (by kernel_rfl) (by kernel_rfl) (fun _ _ _ h => h) (Or.inl ⟨by kernel_rfl, fun W' hW => by obtain ⟨s0, s1⟩ := hW; go_simp⟩) hS ?_
    refine wpAnyH_take (i := 14) (v := .bool true) rfl (by kernel_rfl) (by kernel_rfl) (by kernel_rfl) (fun _ _ _ h => h) (Or.inl ⟨by kernel_rfl, fun W' hW => by obtain ⟨s0, s1⟩ := hW; go_simp⟩) hS ?_
    refine wpAnyH_take (i := 15) (v := .slice (some ⟨b, off, none⟩) 1 r) rfl (by kernel_rfl) (by kernel_rfl) (by kernel_rfl) (fun _ _ _ h => h) (Or.inl ⟨by kernel_rfl, fun W' hW => by obtain ⟨s0, s1⟩ := hW; go_simp⟩) hS ?_
    refine wpAnyH_take (i := 16) (v := .pointer (some ⟨b, off, none⟩)) rfl (by kernel_rfl) (by kernel_rfl) (by kernel_rfl) (fun _ _ _ h => h) (Or.inl ⟨by kernel_rfl, fun W' hW => by obtain ⟨s0, s1⟩ := hW; go_simp⟩) hS ?_
    refine wpAnyH_take (i := 17) (v := .slice s.a s.l s.c) rfl (by kernel_rfl) (by kernel_rfl) (by kernel_rfl) (fun _ _ _ h => h) (Or.inl ⟨by kernel_rfl, fun W' hW => by obtain ⟨s0, s1⟩ := hW; go_simp⟩) hS ?_
    refine wpAnyH_take (i := 18) (v := .string (str eb)) rfl (by kernel_rfl) (by kernel_rfl) (by kernel_rfl) (fun _ _ _ h => h) (Or.inl ⟨by kernel_rfl, fun W' hW => by obtain ⟨s0, s1⟩ := hW; go_simp⟩) hS ?_
    refine wpAnyH_take (i := 19) (v := .agg #[.int .u8 1, .int .u16 1, .int .u16 0, .int .u16 5, .int .u16 0]) rfl (by kernel_rfl) (by kernel_rfl) (by kernel_rfl) (fun _ _ _ h => h) (Or.inl ⟨by kernel_rfl, fun W' hW => by obtain ⟨s0, s1⟩ := hW; go_simp⟩) hS ?_
    refine wpAnyH_ready (rs := [20]) (by kernel_rfl) (by simp) ?_
    refine AllReadyH.cons rfl (fun K hK => ?_) AllReadyH.nil
    go_simp
    go_at_call 35
    refine (K35.out _ [.row slE W2.heap.size (.slice (some ⟨b, off, none⟩) 1 r) [s], .bys W2.heap.size [s] [eb], .ctl W2.heap.size gc (awEv gt) 3 2 P4 aw5] ?_).mono ?_
    (first | exact I5.out | exact Its.hp (w' := w5.drew) I5.out rfl rfl rfl rfl)
    rintro e w6 ⟨a5, n5, p5, rfl, q1, q2⟩
    have I6 := hide q2
    have cv0 := q1
    clear q1 q2
    go_simp
    refine hK.out _ _ (CV.out _ _ _ _ _ _ I6.out) (fun _ => ?_)
    clear hK K
    refine wpAnyH_ready (rs := [21]) (by kernel_rfl) (by simp) ?_
    refine AllReadyH.cons rfl (fun K hK => ?_) AllReadyH.nil
    go_simp
    refine hK.out _ _ (CV.out _ _ _ _ _ _ I6.out) (fun _ => ?_)
    clear hK K
    refine wpAnyH_take (i := 22) (v := .bool true) rfl (by kernel_rfl) (by kernel_rfl) (by kernel_rfl) (fun _ _ _ h => h) (Or.inl ⟨by kernel_rfl, fun W' hW => by obtain ⟨s0, s1⟩ := hW; go_simp⟩) (CV.out _ _ _ _ _ _ I6.out) ?_
    refine wpAnyH_take (i := 23) (v := .bool true) rfl (by kernel_rfl) (by kernel_rfl) (by kernel_rfl) (fun _ _ _ h => h) (Or.inl ⟨by kernel_rfl, fun W' hW => by obtain ⟨s0, s1⟩ := hW; go_simp⟩) (CV.out _ _ _ _ _ _ I6.out) ?_
    refine wpAnyH_take (i := 24) (v := .bool true) rfl (by kernel_rfl) (by kernel_rfl) (by kernel_rfl) (fun _ _ _ h => h) (Or.inl ⟨by kernel_rfl, fun W' hW => by obtain ⟨s0, s1⟩ := hW; go_simp⟩) (CV.out _ _ _ _ _ _ I6.out) ?_
    refine wpAnyH_take (i := 25) (v := .pointer (some ⟨gc, 0, none⟩)) rfl (by kernel_rfl) (by kernel_rfl) (by kernel_rfl) (fun _ _ _ h => h) (Or.inl ⟨by kernel_rfl, fun W' hW => by obtain ⟨s0, s1⟩ := hW; go_simp⟩) (CV.out _ _ _ _ _ _ I6.out) ?_
    refine wpAnyH_ready (rs := [26]) (by kernel_rfl) (by simp) ?_
    refine AllReadyH.cons rfl (fun K hK => ?_) AllReadyH.nil
    go_simp
    go_at_call 33
    refine (K33.out _ gc gt P4 (.row slE W2.heap.size (.slice (some ⟨b, off, none⟩) 1 r) [s]) (.bys W2.heap.size [s] [eb]) HV4.out ?_).mono ?_
    (first | exact I6.out | exact I6.out.hp rfl rfl rfl rfl)
    rintro e w7 ⟨rfl, rfl⟩
    go_simp
    refine hK.out _ _ (CV.out _ _ _ _ _ _ I6.out) (fun _ => ?_)
    clear hK K
    refine wpAnyH_take (i := 27) (v := .bool true) rfl (by kernel_rfl) (by kernel_rfl) (by kernel_rfl) (fun _ _ _ h => h) (Or.inl ⟨by kernel_rfl, fun W' hW => by obtain ⟨s0, s1⟩ := hW; go_simp⟩) (CV.out _ _ _ _ _ _ I6.out) ?_
    refine wpAnyH_take (i := 28) (v := .bool true) rfl (by kernel_rfl) (by kernel_rfl) (by kernel_rfl) (fun _ _ _ h => h) (Or.inl ⟨by kernel_rfl, fun W' hW => by obtain ⟨s0, s1⟩ := hW; go_simp⟩) (CV.out _ _ _ _ _ _ I6.out) ?_
    refine wpAnyH_ready (rs := [29]) (by kernel_rfl) (by simp) ?_
    refine AllReadyH.cons rfl (fun K hK => ?_) AllReadyH.nil
    go_simp
    refine hK.out _ _ (CV.out _ _ _ _ _ _ I6.out) (fun _ => ?_)
    clear hK K
    refine wpAnyH_done (by kernel_rfl) ?_ _
    go_wp2_with fail
    first
      | (go_ret; exact ⟨rfl, HBW.out.trans (I6.out.bel.mono HBW.out.size)⟩)
      | (go_ret2; exact ⟨rfl, HBW.out.trans (I6.out.bel.mono HBW.out.size)⟩))
end Go.Proofs.YtocmngpoemfpkaaGreatDoor

namespace Go.Proofs.YtocmngpoemfpkaaGreatDoor
open Go.RowKit
set_option linter.unusedVariables false
theorem stepB {P : Program} {α : Type} (E : El P α) {B : Nat} {w : World} (hB : B ≤ w.heap.size) {ops : Array Oper} {o : Oper} {a : Act} {K : Act → World → Prop} {Q : Exit → Act → World → Prop} {F : Prop} (hgd : o.guard = none) (s x : Operand)
    (ho : o.op = .call { callee := .builtin .append, args := #[s, x], argTypes := #[E.t, E.t] }) (v u : Value) (hs : a.eval s = v) (hx : a.eval x = u)
    (xs ys : List α) (hown : E.Own w B v xs) (hu : E.Rd w u ys) (hn : xs.length + ys.length ≤ 1000000)
    (h : ∀ v' w', E.Own w' B v' (xs ++ ys) → w.grownBy w' v.ownBlock → K (a.put o.dst v') w') :
    if Region.wanted o (yielded ops a.tmps) = true then Oper.wp P o a w K Q else F := by
  have hw : Region.wanted o (yielded ops a.tmps) = true := by simp [Region.wanted, hgd]
  rw [if_pos hw]
  obtain ⟨v', w', hr, h2, h3, h4⟩ := E.run hown hB hu hn o.type
  unfold Oper.wp execOp
  simp only [ho, resolve, invoke, builtin, Sem.run_bind, Sem.run_pure, Result.andThen_ok, List.map_toArray, List.map_cons, List.map_nil, hs, hx, hr]
  exact h v' w' h2 h3
theorem own_other {α β : Type} {E : El Tryz.prog α} {F : El Tryz.prog β} {w w' : World} {B : Nat} {v u : Value} {xs : List α} {ys : List β} (hne : E.e ≠ F.e) (hE : E.Own w B v xs) (hF : F.Own w B u ys) (hg : w.grownBy w' v.ownBlock) : F.Own w' B u ys :=
  own_chg hF fun k cur hk hc => hg.block k (heap_lt hc) (fun e => by
    rcases hE.2 with ⟨hx, _⟩ | ⟨q', cap, cur', hx, h2, h3, _⟩
    · rw [hx] at e; cases e
    · rw [hx] at e
      simp [Value.ownBlock] at e
      subst e
      rw [hc] at h3
      simp only [Option.some.injEq, Obj.cells.injEq] at h3
      exact hne h3.2.1.symm)
theorem leaf_ok {w W0 W : World} {vN vE : Value} {ns : List Nd} {es : List Ed} (h0 : w.heap.size ≤ W0.heap.size) (hA : Below w.heap.size w W0) (hb : Below W0.heap.size W0 W) (hz : W.heap[w.heap.size + 1]? = some (.cells #[.slice none 0 0, .slice none 0 0] 25)) (hn : ndE.Own W W0.heap.size vN ns) (he : edE.Own W W0.heap.size vE es) :
    ((W.setCell ⟨w.heap.size + 1, 0, none⟩ vN).setCell ⟨w.heap.size + 1, 1, none⟩ vE).heap[w.heap.size + 1]? = some (.cells #[vN, vE] 25) ∧ ndE.Own ((W.setCell ⟨w.heap.size + 1, 0, none⟩ vN).setCell ⟨w.heap.size + 1, 1, none⟩ vE) w.heap.size vN ns ∧ edE.Own ((W.setCell ⟨w.heap.size + 1, 0, none⟩ vN).setCell ⟨w.heap.size + 1, 1, none⟩ vE) w.heap.size vE es ∧ Below w.heap.size w ((W.setCell ⟨w.heap.size + 1, 0, none⟩ vN).setCell ⟨w.heap.size + 1, 1, none⟩ vE) := by
  refine ⟨heap_put (heap_put hz vN) vE, (own_chg hn fun k cur _ hk => ?_).mono h0, (own_chg he fun k cur _ hk => ?_).mono h0, ((hA.trans (hb.mono h0)).setCell (p := ⟨w.heap.size + 1, 0, none⟩) (by simp) _).setCell (p := ⟨w.heap.size + 1, 1, none⟩) (by simp) _⟩
  · have ne : k ≠ w.heap.size + 1 := fun e => by subst e; rw [hz] at hk; simp only [Option.some.injEq, Obj.cells.injEq] at hk; exact absurd hk.2.1 (by decide)
    rw [Below.heap_setCell _ _ _ _ ne, Below.heap_setCell _ _ _ _ ne]
  · have ne : k ≠ w.heap.size + 1 := fun e => by subst e; rw [hz] at hk; simp only [Option.some.injEq, Obj.cells.injEq] at hk; exact absurd hk.2.1 (by decide)
    rw [Below.heap_setCell _ _ _ _ ne, Below.heap_setCell _ _ _ _ ne]
set_option maxRecDepth 100000 in
set_option maxHeartbeats 8000000 in
theorem copy_any (a a' : Option Addr) (c c' : Nat) (ns : List Nd) (es : List Ed) (w : World) (hv : ndE.Rd w (.slice a ns.length c) ns) (hu : edE.Rd w (.slice a' es.length c') es) (hl : ns.length ≤ 1000) (hl' : es.length ≤ 1000) :
    Calls Tryz.prog 10 #[.agg #[.slice a ns.length c, .slice a' es.length c']] w fun e w' => ∃ vN vE, e = .returned (.agg #[vN, vE]) ∧ ndE.Own w' w.heap.size vN ns ∧ edE.Own w' w.heap.size vE es ∧ Below w.heap.size w w' := by
  obtain ⟨n, hn⟩ : ∃ n, ns.length = n := ⟨_, rfl⟩
  obtain ⟨m, hm⟩ : ∃ m, es.length = m := ⟨_, rfl⟩
  rw [hn] at hv ⊢
  rw [hm] at hu ⊢
  obtain ⟨W0, hW0⟩ : ∃ W0, (w.alloc (.cells #[.slice a n c, .slice a' m c'] 25)).alloc (.cells #[.slice none 0 0, .slice none 0 0] 25) = W0 := ⟨_, rfl⟩
  have bA : Below w.heap.size w W0 := by rw [← hW0]; exact ((Below.refl _ _).alloc (Nat.le_refl _) _).alloc (by simp) _
  have x1 : W0.heap[w.heap.size]? = some (.cells #[.slice a n c, .slice a' m c'] 25) := by rw [← hW0, Below.heap_alloc _ _ _ (by simp)]; exact heap_new _ _
  have x2 : W0.heap[w.heap.size + 1]? = some (.cells #[.slice none 0 0, .slice none 0 0] 25) := by
    rw [← hW0]
    have := heap_new (w.alloc (.cells #[.slice a n c, .slice a' m c'] 25)) (.cells #[.slice none 0 0, .slice none 0 0] 25)
    rwa [show (w.alloc (.cells #[.slice a n c, .slice a' m c'] 25)).heap.size = w.heap.size + 1 by simp] at this
  have HA := hide bA
  have Hx2 := hide x2
  have HW0s : Hid (W0 = W0) := hide rfl
  have Hn := hide hn
  have Hm := hide hm
  have HRN : Hid (∀ W, Below W0.heap.size W0 W → ndE.Rd W (.slice a n c) ns) := hide (fun W h => (hv.keep bA).keep h)
  have HRE : Hid (∀ W, Below W0.heap.size W0 W → edE.Rd W (.slice a' m c') es) := hide (fun W h => (hu.keep bA).keep h)
  obtain ⟨SS, hSS⟩ : ∃ SS : World → Prop, SS = fun W' => Below W0.heap.size W0 W' := ⟨_, rfl⟩
  have s9 : Hid (∀ W', SS W' → Below W0.heap.size W0 W') := hide (fun W' h => by rw [hSS] at h; exact h)
  have s8 : Hid (∀ W', Below W0.heap.size W0 W' → SS W') := hide (fun W' h => by rw [hSS]; exact h)
  have s1 : ∀ W', SS W' → W'.cell? ⟨w.heap.size, 0, none⟩ = some (.slice a n c) := fun W' h => by rw [(s9.out W' h).cell (heap_lt x1)]; exact (cells_at x1 0).1
  have s2 : ∀ W', SS W' → W'.cell? ⟨w.heap.size, 1, none⟩ = some (.slice a' m c') := fun W' h => by rw [(s9.out W' h).cell (heap_lt x1)]; exact (cells_at x1 1).1
  have hS0 := s8.out W0.drew (Below.refl _ _).drew
  have HW0 := hide hW0
  clear hSS hn hm hv hu bA x1 x2 hW0
  go_enter Tryz.func10, Tryz.ntmps10
  go_upto_region 1 with fail
  rw [HW0.out]
  go_cut [] (fun wx => ∃ (vN vE : Value) (W : World), wx = W ∧ Hid (W.heap[w.heap.size + 1]? = some (.cells #[vN, vE] 25) ∧ ndE.Own W w.heap.size vN ns ∧ edE.Own W w.heap.size vE es ∧ Below w.heap.size w W))
  case first =>
    refine wp_region_E SS 9 (by kernel_rfl) ?_
    refine wpAnyE_take (i := 1) (v := .pointer (some ⟨w.heap.size, 0, none⟩)) rfl (by kernel_rfl) (by kernel_rfl) (by kernel_rfl) (by kernel_rfl) (fun _ _ _ h => h) (Or.inl ⟨by rfl, fun W' hW => by go_simp⟩) hS0 ?_
    refine wpAnyE_take (i := 2) (v := .slice a n c) rfl (by kernel_rfl) (by kernel_rfl) (by kernel_rfl) (by kernel_rfl) (fun _ _ _ h => h) (Or.inl ⟨by rfl, fun W' hW => by have x0 := s1 W' hW; go_simp⟩) hS0 ?_
    refine wpAnyE_take (i := 5) (v := .pointer (some ⟨w.heap.size, 1, none⟩)) rfl (by kernel_rfl) (by kernel_rfl) (by kernel_rfl) (by kernel_rfl) (fun _ _ _ h => h) (Or.inl ⟨by rfl, fun W' hW => by go_simp⟩) hS0 ?_
    refine wpAnyE_take (i := 6) (v := .slice a' m c') rfl (by kernel_rfl) (by kernel_rfl) (by kernel_rfl) (by kernel_rfl) (fun _ _ _ h => h) (Or.inl ⟨by rfl, fun W' hW => by have x0 := s2 W' hW; go_simp⟩) hS0 ?_
    refine wpAnyE_ready (rs := [0, 4]) (by kernel_rfl) (by simp) ?_
    refine AllReadyE.cons rfl (fun K hK => ?_) (AllReadyE.cons rfl (fun K hK => ?_) AllReadyE.nil)
    · go_simp
      have S1 := s8.out _ ((s9.out _ hS0).alloc (s9.out _ hS0).size (.cells #[] 53))
      have O1 : Hid (ndE.Own (W0.drew.alloc (.cells #[] 53)) W0.heap.size (.slice (some ⟨W0.heap.size, 0, none⟩) 0 0) []) := hide (El.Own.new ndE W0.drew _ (s9.out _ hS0).size #[] [] rfl (by simp) _ _ _ (by simp) rfl rfl)
      refine hK.out _ _ (fun _ => S1) ?_
      clear hK K
      refine wpAnyE_ready (rs := [3, 4]) (by kernel_rfl) (by simp) ?_
      refine AllReadyE.cons rfl (fun K hK => ?_) (AllReadyE.cons rfl (fun K hK => ?_) AllReadyE.nil)
      · refine stepB ndE (B := W0.heap.size) (s9.out _ S1).size rfl (.tmp 3) (.tmp 5) rfl (.slice (some ⟨W0.heap.size, 0, none⟩) 0 0) (.slice a n c) rfl rfl [] ns O1.out (HRN.out _ (s9.out _ S1)) (by simp; omega) ?_
        intro v2 W2 ho2 hg2
        rw [List.nil_append] at ho2
        have S2 := s8.out _ ((s9.out _ S1).grown hg2 (s9.out _ S1).size (fun q hq => O1.out.ge q hq))
        obtain ⟨a2, c2, hv2⟩ := ho2.rd.form
        rw [Hn.out] at hv2
        subst hv2
        have O2 := hide ho2
        clear ho2 hg2
        refine hK.out _ _ (fun _ => S2) ?_
        clear hK K
        refine wpAnyE_ready (rs := [4]) (by kernel_rfl) (by simp) ?_
        refine AllReadyE.cons rfl (fun K hK => ?_) AllReadyE.nil
        go_simp
        have S3 := s8.out _ ((s9.out _ S2).alloc (s9.out _ S2).size (.cells #[] 78))
        have O3 : Hid (edE.Own (W2.alloc (.cells #[] 78)) W0.heap.size (.slice (some ⟨W2.heap.size, 0, none⟩) 0 0) []) := hide (El.Own.new edE W2 _ (s9.out _ S2).size #[] [] rfl (by simp) _ _ _ (by simp) rfl rfl)
        have P3 : Hid (ndE.Own (W2.alloc (.cells #[] 78)) W0.heap.size (.slice a2 n c2) ns) := hide (World.ownsRow.alloc O2.out (.cells #[] 78))
        refine hK.out _ _ (fun _ => S3) ?_
        clear hK K
        refine wpAnyE_ready (rs := [7]) (by kernel_rfl) (by simp) ?_
        refine AllReadyE.cons rfl (fun K hK => ?_) AllReadyE.nil
        refine stepB edE (B := W0.heap.size) (s9.out _ S3).size rfl (.tmp 7) (.tmp 9) rfl (.slice (some ⟨W2.heap.size, 0, none⟩) 0 0) (.slice a' m c') rfl rfl [] es O3.out (HRE.out _ (s9.out _ S3)) (by simp; omega) ?_
        intro v4 W4 ho4 hg4
        rw [List.nil_append] at ho4
        have S4 := s8.out _ ((s9.out _ S3).grown hg4 (s9.out _ S3).size (fun q hq => O3.out.ge q hq))
        have P4 := hide (own_other (by decide) O3.out P3.out hg4)
        obtain ⟨a4, c4, hv4⟩ := ho4.rd.form
        rw [Hm.out] at hv4
        subst hv4
        have O4 := hide ho4
        clear ho4 hg4
        refine hK.out _ _ (fun _ => S4) ?_
        clear hK K
        refine wpAnyE_take (i := 8) (v := .agg #[.slice a2 n c2, .slice a4 m c4]) rfl (by kernel_rfl) (by kernel_rfl) (by kernel_rfl) (by kernel_rfl) (fun _ _ _ h => h) (Or.inl ⟨by rfl, fun W' hW => by go_simp⟩) S4 ?_
        refine wpAnyE_ready (rs := [9]) (by kernel_rfl) (by simp) ?_
        refine AllReadyE.cons rfl (fun K hK => ?_) AllReadyE.nil
        have z0 := (s9.out _ S4)
        have zb : W4.heap[w.heap.size + 1]? = some (.cells #[.slice none 0 0, .slice none 0 0] 25) := by rw [z0.block _ (heap_lt Hx2.out)]; exact Hx2.out
        have y0 := (cells_at zb 0).1
        have y1 := (cells_at zb 1).1
        have f0 := (cells_at zb 0).2
        have f1 := (cells_at zb 1).2
        simp at y0 y1
        have MT := leaf_ok (by rw [← HW0s.out]; exact HA.out.size) HA.out z0 zb P4.out O4.out
        have MTH := hide MT
        clear MT z0 zb
        go_simp
        refine hK.out _ _ (fun h => absurd rfl h) ?_
        clear hK K
        refine wpAnyE_done (by kernel_rfl) ?_ _
        go_wp2_with fail
        go_meet
        exact ⟨_, _, _, rfl, MTH⟩
      · go_simp
        have S5 := s8.out _ ((s9.out _ S1).alloc (s9.out _ S1).size (.cells #[] 78))
        have O5 : Hid (edE.Own ((W0.drew.alloc (.cells #[] 53)).alloc (.cells #[] 78)) W0.heap.size (.slice (some ⟨W0.heap.size + 1, 0, none⟩) 0 0) []) := hide (El.Own.new edE (W0.drew.alloc (.cells #[] 53)) _ (s9.out _ S1).size #[] [] rfl (by simp) _ _ _ (by simp) rfl rfl)
        have P5 : Hid (ndE.Own ((W0.drew.alloc (.cells #[] 53)).alloc (.cells #[] 78)) W0.heap.size (.slice (some ⟨W0.heap.size, 0, none⟩) 0 0) []) := hide (World.ownsRow.alloc O1.out (.cells #[] 78))
        refine hK.out _ _ (fun _ => S5) ?_
        clear hK K
        refine wpAnyE_ready (rs := [3]) (by kernel_rfl) (by simp) ?_
        refine AllReadyE.cons rfl (fun K hK => ?_) AllReadyE.nil
        refine stepB ndE (B := W0.heap.size) (s9.out _ S5).size rfl (.tmp 3) (.tmp 5) rfl (.slice (some ⟨W0.heap.size, 0, none⟩) 0 0) (.slice a n c) rfl rfl [] ns P5.out (HRN.out _ (s9.out _ S5)) (by simp; omega) ?_
        intro v6 W6 ho6 hg6
        rw [List.nil_append] at ho6
        have S6 := s8.out _ ((s9.out _ S5).grown hg6 (s9.out _ S5).size (fun q hq => P5.out.ge q hq))
        have P6 := hide (own_other (by decide) P5.out O5.out hg6)
        obtain ⟨a6, c6, hv6⟩ := ho6.rd.form
        rw [Hn.out] at hv6
        subst hv6
        have O6 := hide ho6
        clear ho6 hg6
        refine hK.out _ _ (fun _ => S6) ?_
        clear hK K
        refine wpAnyE_ready (rs := [7]) (by kernel_rfl) (by simp) ?_
        refine AllReadyE.cons rfl (fun K hK => ?_) AllReadyE.nil
        refine stepB edE (B := W0.heap.size) (s9.out _ S6).size rfl (.tmp 7) (.tmp 9) rfl (.slice (some ⟨W0.heap.size + 1, 0, none⟩) 0 0) (.slice a' m c') rfl rfl [] es P6.out (HRE.out _ (s9.out _ S6)) (by simp; omega) ?_
        intro v7 W7 ho7 hg7
        rw [List.nil_append] at ho7
        have S7 := s8.out _ ((s9.out _ S6).grown hg7 (s9.out _ S6).size (fun q hq => P6.out.ge q hq))
        have P7 := hide (own_other (by decide) P6.out O6.out hg7)
        obtain ⟨a7, c7, hv7⟩ := ho7.rd.form
        rw [Hm.out] at hv7
        subst hv7
        have O7 := hide ho7
        clear ho7 hg7
        refine hK.out _ _ (fun _ => S7) ?_
        clear hK K
        refine wpAnyE_take (i := 8) (v := .agg #[.slice a6 n c6, .slice a7 m c7]) rfl (by kernel_rfl) (by kernel_rfl) (by kernel_rfl) (by kernel_rfl) (fun _ _ _ h => h) (Or.inl ⟨by rfl, fun W' hW => by go_simp⟩) S7 ?_
        refine wpAnyE_ready (rs := [9]) (by kernel_rfl) (by simp) ?_
        refine AllReadyE.cons rfl (fun K hK => ?_) AllReadyE.nil
        have z0 := (s9.out _ S7)
        have zb : W7.heap[w.heap.size + 1]? = some (.cells #[.slice none 0 0, .slice none 0 0] 25) := by rw [z0.block _ (heap_lt Hx2.out)]; exact Hx2.out
        have y0 := (cells_at zb 0).1
        have y1 := (cells_at zb 1).1
        have f0 := (cells_at zb 0).2
        have f1 := (cells_at zb 1).2
        simp at y0 y1
        have MT := leaf_ok (by rw [← HW0s.out]; exact HA.out.size) HA.out z0 zb P7.out O7.out
        have MTH := hide MT
        clear MT z0 zb
        go_simp
        refine hK.out _ _ (fun h => absurd rfl h) ?_
        clear hK K
        refine wpAnyE_done (by kernel_rfl) ?_ _
        go_wp2_with fail
        go_meet
        exact ⟨_, _, _, rfl, MTH⟩
    · go_simp
      have S8 := s8.out _ ((s9.out _ hS0).alloc (s9.out _ hS0).size (.cells #[] 78))
      have O8 : Hid (edE.Own (W0.drew.alloc (.cells #[] 78)) W0.heap.size (.slice (some ⟨W0.heap.size, 0, none⟩) 0 0) []) := hide (El.Own.new edE W0.drew _ (s9.out _ hS0).size #[] [] rfl (by simp) _ _ _ (by simp) rfl rfl)
      refine hK.out _ _ (fun _ => S8) ?_
      clear hK K
      refine wpAnyE_ready (rs := [0]) (by kernel_rfl) (by simp) ?_
      refine AllReadyE.cons rfl (fun K hK => ?_) AllReadyE.nil
      go_simp
      have S9 := s8.out _ ((s9.out _ S8).alloc (s9.out _ S8).size (.cells #[] 53))
      have O9 : Hid (ndE.Own ((W0.drew.alloc (.cells #[] 78)).alloc (.cells #[] 53)) W0.heap.size (.slice (some ⟨W0.heap.size + 1, 0, none⟩) 0 0) []) := hide (El.Own.new ndE (W0.drew.alloc (.cells #[] 78)) _ (s9.out _ S8).size #[] [] rfl (by simp) _ _ _ (by simp) rfl rfl)
      have P9 : Hid (edE.Own ((W0.drew.alloc (.cells #[] 78)).alloc (.cells #[] 53)) W0.heap.size (.slice (some ⟨W0.heap.size, 0, none⟩) 0 0) []) := hide (World.ownsRow.alloc O8.out (.cells #[] 53))
      refine hK.out _ _ (fun _ => S9) ?_
      clear hK K
      refine wpAnyE_ready (rs := [3]) (by kernel_rfl) (by simp) ?_
      refine AllReadyE.cons rfl (fun K hK => ?_) AllReadyE.nil
      refine stepB ndE (B := W0.heap.size) (s9.out _ S9).size rfl (.tmp 3) (.tmp 5) rfl (.slice (some ⟨W0.heap.size + 1, 0, none⟩) 0 0) (.slice a n c) rfl rfl [] ns O9.out (HRN.out _ (s9.out _ S9)) (by simp; omega) ?_
      intro v10 W10 ho10 hg10
      rw [List.nil_append] at ho10
      have S10 := s8.out _ ((s9.out _ S9).grown hg10 (s9.out _ S9).size (fun q hq => O9.out.ge q hq))
      have P10 := hide (own_other (by decide) O9.out P9.out hg10)
      obtain ⟨a10, c10, hv10⟩ := ho10.rd.form
      rw [Hn.out] at hv10
      subst hv10
      have O10 := hide ho10
      clear ho10 hg10
      refine hK.out _ _ (fun _ => S10) ?_
      clear hK K
      refine wpAnyE_ready (rs := [7]) (by kernel_rfl) (by simp) ?_
      refine AllReadyE.cons rfl (fun K hK => ?_) AllReadyE.nil
      refine stepB edE (B := W0.heap.size) (s9.out _ S10).size rfl (.tmp 7) (.tmp 9) rfl (.slice (some ⟨W0.heap.size, 0, none⟩) 0 0) (.slice a' m c') rfl rfl [] es P10.out (HRE.out _ (s9.out _ S10)) (by simp; omega) ?_
      intro v11 W11 ho11 hg11
      rw [List.nil_append] at ho11
      have S11 := s8.out _ ((s9.out _ S10).grown hg11 (s9.out _ S10).size (fun q hq => P10.out.ge q hq))
      have P11 := hide (own_other (by decide) P10.out O10.out hg11)
      obtain ⟨a11, c11, hv11⟩ := ho11.rd.form
      rw [Hm.out] at hv11
      subst hv11
      have O11 := hide ho11
      clear ho11 hg11
      refine hK.out _ _ (fun _ => S11) ?_
      clear hK K
      refine wpAnyE_take (i := 8) (v := .agg #[.slice a10 n c10, .slice a11 m c11]) rfl (by kernel_rfl) (by kernel_rfl) (by kernel_rfl) (by kernel_rfl) (fun _ _ _ h => h) (Or.inl ⟨by rfl, fun W' hW => by go_simp⟩) S11 ?_
      refine wpAnyE_ready (rs := [9]) (by kernel_rfl) (by simp) ?_
      refine AllReadyE.cons rfl (fun K hK => ?_) AllReadyE.nil
      have z0 := (s9.out _ S11)
      have zb : W11.heap[w.heap.size + 1]? = some (.cells #[.slice none 0 0, .slice none 0 0] 25) := by rw [z0.block _ (heap_lt Hx2.out)]; exact Hx2.out
      have y0 := (cells_at zb 0).1
      have y1 := (cells_at zb 1).1
      have f0 := (cells_at zb 0).2
      have f1 := (cells_at zb 1).2
      simp at y0 y1
      have MT := leaf_ok (by rw [← HW0s.out]; exact HA.out.size) HA.out z0 zb P11.out O11.out
      have MTH := hide MT
      clear MT z0 zb
      go_simp
      refine hK.out _ _ (fun h => absurd rfl h) ?_
      clear hK K
      refine wpAnyE_done (by kernel_rfl) ?_ _
      go_wp2_with fail
      go_meet
      exact ⟨_, _, _, rfl, MTH⟩
  case rest =>
  obtain ⟨vN, vE, W, rfl, HH⟩ := hcut
  obtain ⟨aN, cN, hN⟩ := HH.out.2.1.rd.form
  obtain ⟨aE, cE, hE⟩ := HH.out.2.2.1.rd.form
  subst hN
  subst hE
  have q0 := (cells_at HH.out.1 0).1
  have q1 := (cells_at HH.out.1 1).1
  simp at q0 q1
  go_wp2_with fail
  refine bodyPost_ret (v := .agg #[.slice aN ns.length cN, .slice aE es.length cE]) (by simp [results, Tryz.results10, go_sem, q0, q1]) rfl ?_
  exact ⟨_, _, rfl, HH.out.2.1, HH.out.2.2.1, HH.out.2.2.2⟩
end Go.Proofs.YtocmngpoemfpkaaGreatDoor

namespace Go.Proofs.YtocmngpoemfpkaaGreatDoor
open Go.RowKit
set_option linter.unusedVariables false
structure Pi (c : Ct) (k : Nat) : Prop where
  fit : Fit c k
  al : c.dead = false
  fr : c.T.Free
  len : c.T.now.length ≤ 19 * k
theorem Pi.up {c : Ct} {k j : Nat} (h : Pi c k) (hk : k ≤ j) : Pi c j := ⟨h.fit.up hk, h.al, h.fr, by have := h.len; omega⟩
theorem Pi.note {c : Ct} {k : Nat} (h : Pi c k) (hk : k ≤ 3000) {x : Nt} (hx : x.ok = true) : Pi (c.note x).2 (k + 1) ∧
    ((c.note x).1 = ndC c.S c.K x) ∧ (ndC c.S c.K x ≠ 0 → (c.note x).2 = c) ∧
    (ndC c.S c.K x = 0 → (c.note x).2.S = ndS c.S x ∧ (c.note x).2.K = ndK c.K x ∧ (c.note x).2.J = c.J ∧ (c.note x).2.tk = c.tk ∧ c.T.now.length < (c.note x).2.T.now.length) := by
  have hfit := h.fit.note x
  have hl := h.len
  have hb := bts_len5 hx
  have ht : tot [x] = x.bts.length := by simp [tot]
  obtain ⟨T', e1, e2, e3⟩ := app_free h.fr (ns := [x]) (by simp [hx]) (by omega)
  have hw : c.wr x = (0, T') := e1
  have hn : c.note x = if ndC c.S c.K x ≠ 0 then (ndC c.S c.K x, c) else (0, ⟨ndS c.S x, ndK c.K x, T', c.J, c.tk, c.dead⟩) := by
    unfold Ct.note
    rw [hw]
    simp
  rw [hn] at hfit ⊢
  by_cases h0 : ndC c.S c.K x = 0
  · rw [if_neg (by simp [h0])] at hfit ⊢
    have hlen : T'.now.length = c.T.now.length + x.bts.length := by rw [e3]; simp
    refine ⟨⟨hfit, h.al, e2, by show T'.now.length ≤ _; omega⟩, h0.symm, fun q => absurd h0 q, fun _ => ⟨rfl, rfl, rfl, rfl, by show _ < T'.now.length; omega⟩⟩
  · rw [if_pos h0] at hfit ⊢
    exact ⟨h.up (by omega), rfl, fun _ => rfl, fun q => absurd q h0⟩
theorem put_ok {S : Mr} {n : Nat} {es : List (Int × Int)} (hn : S.ts.length ≤ 40) {t x : Int} (h : (S.put t x).1 = 0) : (⟨1, t, x, 0⟩ : Nt).ok = true ∧ (1 ≤ t ∧ t ≤ 30) ∧ 0 ≤ x ∧ x < S.ts.length := by
  unfold Mr.put at h
  by_cases h1 : (isT t && S.isN x) = false
  · rw [if_pos h1] at h; cases h
  · have h2 : isT t = true ∧ S.isN x = true := by
      cases a : isT t <;> cases b : S.isN x <;> simp_all
    have h3 := isT_iff.1 h2.1
    have h4 := Mr.isN_iff.1 h2.2
    refine ⟨(ok_iff _).2 ⟨by show 0 < us 1; decide, fun i y hy => ?_, fun q => by simp at q⟩, h3, h4⟩
    rcases i with _ | _ | _ | i
    · simp [Nt.fs] at hy; subst hy; refine ⟨by omega, by omega, fun q => by simp [us] at q⟩
    · simp [Nt.fs] at hy; subst hy; refine ⟨by omega, by omega, fun q => by simp [us] at q⟩
    · simp [Nt.fs] at hy; subst hy; refine ⟨by omega, by omega, fun q => rfl⟩
    · simp [Nt.fs] at hy
theorem ndC1 (S : Mr) (K : Bk) (t x : Int) : ndC S K ⟨1, t, x, 0⟩ = (S.put t x).1 := by
  unfold ndC
  rw [if_neg (by simp), if_neg (by simp), if_neg (by simp)]
  unfold Mr.app
  rw [if_pos rfl]
theorem ndK1 (K : Bk) (t x : Int) : ndK K ⟨1, t, x, 0⟩ = K := by
  unfold ndK
  rw [if_neg (by simp), if_neg (by simp), if_neg (by simp)]
theorem ndS1 (S : Mr) (t x : Int) : ndS S ⟨1, t, x, 0⟩ = (S.put t x).2 := by
  unfold ndS
  rw [if_neg (by simp), if_neg (by simp), if_neg (by simp)]
  unfold Mr.app
  rw [if_pos rfl]
theorem Pi.put {c : Ct} {k : Nat} (h : Pi c k) (hk : k ≤ 3000) (hn : c.S.ts.length ≤ 40) (E : Ev) (t x : Int) : Pi (c.put E t x).2 (k + 1) ∧ (c.put E t x).2.K = c.K ∧ (c.put E t x).2.J = c.J ∧ (c.put E t x).2.tk = c.tk ∧ ((c.put E t x).2.S = c.S ∨ (c.put E t x).2.S = (c.S.put t x).2) := by
  unfold Ct.put
  rw [if_neg (by rw [h.al]; simp)]
  by_cases ho : c.onP E x 0 = true
  · rw [if_pos ho]
    exact ⟨h.up (by omega), rfl, rfl, rfl, .inl rfl⟩
  · rw [if_neg ho]
    by_cases h0 : ndC c.S c.K ⟨1, t, x, 0⟩ = 0
    · have hok := (put_ok (n := 0) (es := []) hn (by rw [← ndC1 c.S c.K]; exact h0)).1
      obtain ⟨a1, a2, a3, a4⟩ := h.note hk hok
      obtain ⟨b1, b2, b3, b4, _⟩ := a4 h0
      exact ⟨a1, by rw [b2, ndK1], b3, b4, .inr (by rw [b1, ndS1])⟩
    · rw [note_no h0]
      exact ⟨h.up (by omega), rfl, rfl, rfl, .inl rfl⟩
theorem opn_new {ns : List Nd} {es : List Ed} (hg : good ns es = true) {p : Int} (hp : 1 ≤ p ∧ p ≤ 1000) : ∃ T0 : Tp, opn ns es p Tp.nw [] [] = (0, T0, some (Mr.nw ns.length es, Bk.new)) ∧ T0.Free ∧ T0.now = [] := by
  obtain ⟨T', e1, e2, e3⟩ := rep_free free_nw (got := []) (r := []) (rds_all (ns := []) (fun n hn => by cases hn))
  refine ⟨T', ?_, e2, by simpa using e3⟩
  unfold opn
  rw [e1]
  rw [if_neg (by rw [hg]; simp), if_neg (by omega), if_neg (by simp)]
  rfl
theorem Pi.new {m : Nat} {T0 : Tp} {n : Nat} {es : List Ed} (h1 : T0.Free) (h2 : T0.now = []) : Pi (ct1 m T0 (Mr.nw n es) Bk.new) 0 := by
  refine ⟨⟨⟨fun t => by simp [ct1], fun _ => ⟨[], ?_, Nat.le_refl _, Nat.le_refl _, Nat.le_refl _⟩⟩, fun d => ?_, ?_⟩, rfl, h1, by show T0.now.length ≤ _; rw [h2]; simp⟩
  · show NRds T0.now [] []
    rw [h2]
    exact rds_all (ns := []) (fun n hn => by cases hn)
  · show 0 ≤ ((List.replicate (m + 1) (0 : Int))[d.toNat]?).getD 0 ∧ ((List.replicate (m + 1) (0 : Int))[d.toNat]?).getD 0 ≤ 1000
    rw [List.getElem?_replicate]
    split <;> simp
  · intro D hD
    have : D ∈ es.map mkD := hD
    obtain ⟨e, _, rfl⟩ := List.mem_map.1 this
    exact ⟨by simp [mkD], by simp [mkD]⟩
theorem Its.new2 {w0 w w' : World} {l : List It} {x y : It} (h : Its w0 l w) (hx : x.P w') (hy : y.P w') (fx : ∀ k, x.f k → w.heap.size ≤ k) (fy : ∀ k, y.f k → w.heap.size ≤ k) (hxy : ∀ k, x.f k → ¬ y.f k) (hb : Below w.heap.size w w') : Its w0 (x :: y :: l) w' := by
  have e : ∀ z, z ∈ [y] → z = y := fun z hz => by simpa using hz
  have hp : (It.grp [x, y]).P w' := by
    refine ⟨fun z hz => ?_, List.pairwise_cons.2 ⟨fun z hz k q => ?_, by simp⟩⟩
    · rcases List.mem_cons.1 hz with rfl | hz
      · exact hx
      · rw [e z hz]; exact hy
    · rw [e z hz]; exact hxy k q
  have h1 := h.new (x := .grp [x, y]) hp (fun k hk => by
    obtain ⟨z, hz, q⟩ := hk
    rcases List.mem_cons.1 hz with rfl | hz
    · exact fx k q
    · rw [e z hz] at q; exact fy k q) hb
  exact h1.opn
section
set_option maxRecDepth 100000
set_option maxHeartbeats 4000000
variable {w0 w : World} {l : List It} {B g n m : Nat} {E : Ev} {P : Kp} {c : Ct}
theorem ksize_any (h : (It.ctl w0.heap.size g E n m P c).P w) : Calls Tryz.prog 38 #[.pointer (some ⟨E.gt, 0, none⟩)] w fun e w' => e = .returned (.int .i64 (c.T.now.length : Int)) ∧ ∃ q, w' = w.drewN q := by
  have := sizeP (kt_t h)
  rw [(kt_f h).gq] at this
  exact this
theorem kown {a b : Option Addr} {c e : Nat} {ns : List Nd} {es : List Ed} {W : World} (hW : Its w0 l W) (hn : ns.length = n) (hm : es.length = m) (hn4 : n ≤ 1000) (hm4 : m ≤ 1000) (hv : ndE.Rd W (.slice a n c) ns) (hu : edE.Rd W (.slice b m e) es) :
    Calls Tryz.prog 10 #[.agg #[.slice a n c, .slice b m e]] W fun r w' => ∃ a1 c1 b1 e1, r = .returned (.agg #[.slice a1 n c1, .slice b1 m e1]) ∧ Its w0 (.row ndE w0.heap.size (.slice a1 n c1) ns :: .row edE w0.heap.size (.slice b1 m e1) es :: l) w' := by
  subst hn hm
  refine (copy_any a b c e ns es W hv hu hn4 hm4).mono ?_
  rintro r w' ⟨vN, vE, rfl, q1, q2, q3⟩
  obtain ⟨a1, c1, rfl⟩ := q1.rd.form
  obtain ⟨b1, e1, rfl⟩ := q2.rd.form
  refine ⟨a1, c1, b1, e1, rfl, hW.new2 (q1.mono hW.size) (q2.mono hW.size) (fun k hk => q1.ge k hk) (fun k hk => q2.ge k hk) (fun k h1 h2 => ?_) q3⟩
  obtain ⟨C1, z1⟩ := own_type q1 k h1
  obtain ⟨C2, z2⟩ := own_type q2 k h2
  rw [z1] at z2
  simp only [Option.some.injEq, Obj.cells.injEq] at z2
  exact absurd z2.2.1 (by decide)
theorem rows_lyt {a1 b1 : Option Addr} {c1 e1 : Nat} {ns : List Nd} {es : List Ed} {W : World} {x : It} (hn : ns.length = n) (hm : es.length = m) (hs : ∀ p ∈ ns, p.name.size ≤ maxLen) (h : Its w0 (x :: .row ndE w0.heap.size (.slice a1 n c1) ns :: .row edE w0.heap.size (.slice b1 m e1) es :: l) W) : Lyt W a1 b1 c1 e1 n m ns es :=
  ⟨hn, hm, h.two.rd, h.three.rd, by have := nd_cap h.three; omega, hs⟩
theorem small_any {a b : Option Addr} {c e : Nat} {ns : List Nd} {es : List Ed} {W : World} (hL : Lyt W a b c e n m ns es) :
    Calls Tryz.prog 17 #[.agg #[.slice a n c, .slice b m e]] W fun r w' => r = .returned (.bool (good ns es && (decide (n ≤ 14) && decide (m ≤ 40)))) ∧ Below W.heap.size W w' := by
  have hv := hL.hv
  have hu := hL.hu
  have hn := hL.hn
  have hm := hL.hm
  clear hL
  have bA : Below W.heap.size W (W.alloc (.cells #[.slice a n c, .slice b m e] 25)) := below_new _ _
  have hbx : (W.alloc (.cells #[.slice a n c, .slice b m e] 25)).heap[W.heap.size]? = some (.cells #[.slice a n c, .slice b m e] 25) := heap_new _ _
  have K55 : Hid (Calls Tryz.prog 55 #[.agg #[.slice a n c, .slice b m e]] (W.alloc (.cells #[.slice a n c, .slice b m e] 25)) fun r w' => r = .returned (.bool (good ns es)) ∧ Below W.heap.size W w' ∧ w'.cell? ⟨W.heap.size, 0, none⟩ = some (.slice a n c) ∧ w'.cell? ⟨W.heap.size, 1, none⟩ = some (.slice b m e)) := hide (by
    subst hn hm
    refine (rgood_any a b c e ns es _ (hv.keep bA) (hu.keep bA)).mono ?_
    rintro r w' ⟨rfl, q⟩
    have hb' := q.block W.heap.size (heap_lt hbx)
    rw [hbx] at hb'
    exact ⟨rfl, bA.trans (q.mono bA.size), (cells_at hb' 0).1, (cells_at hb' 1).1⟩)
  have b0 := (cells_at hbx 0).1
  have b1 := (cells_at hbx 1).1
  clear hbx bA hv hu hn hm
  generalize good ns es = gd at *
  cases gd with
  | false =>
    go_enter Tryz.func17, Tryz.ntmps17
    go_wp2_with (go_at_call 55; refine K55.out.mono ?_; rintro r w1 ⟨rfl, q1, q2, q3⟩; have HB := hide q1; clear q1)
    go_ret
    exact ⟨by simp, HB.out⟩
  | true =>
  by_cases h1 : n ≤ 14
  · have h1' : (n : Int) ≤ 14 := by omega
    by_cases h2 : m ≤ 40
    · have h2' : (m : Int) ≤ 40 := by omega
      go_enter Tryz.func17, Tryz.ntmps17
      go_wp2_with (go_at_call 55; refine K55.out.mono ?_; rintro r w1 ⟨rfl, q1, q2, q3⟩; have HB := hide q1; clear q1)
      go_ret
      exact ⟨by simp [h1, h2], HB.out⟩
    · have h2' : ¬ (m : Int) ≤ 40 := by omega
      go_enter Tryz.func17, Tryz.ntmps17
      go_wp2_with (go_at_call 55; refine K55.out.mono ?_; rintro r w1 ⟨rfl, q1, q2, q3⟩; have HB := hide q1; clear q1)
      go_ret
      exact ⟨by rw [decide_eq_true h1, decide_eq_false h2]; simp; try omega, HB.out⟩
  · have h1' : ¬ (n : Int) ≤ 14 := by omega
    go_enter Tryz.func17, Tryz.ntmps17
    go_wp2_with (go_at_call 55; refine K55.out.mono ?_; rintro r w1 ⟨rfl, q1, q2, q3⟩; have HB := hide q1; clear q1)
    go_ret
    exact ⟨by simp, HB.out⟩
end
end Go.Proofs.YtocmngpoemfpkaaGreatDoor

namespace Go.Proofs.YtocmngpoemfpkaaGreatDoor
open Go.RowKit
set_option linter.unusedVariables false
theorem order_cases {c : Ct} {k n : Nat} (h : Pi c k) (hk : k ≤ 100) (hK : c.K = Bk.new) {E : Ev} (hE : E.ns.length = n) (hn : n ≤ 40) (hS : c.S.ts.length = n) (r : Rq) :
    ((r.id < 0 ∨ 2147483647 < r.id ∨ r.st < 0 ∨ (n : Int) ≤ r.st ∨ kindAt E.ns r.st ≠ 3) → c.order E r = (false, 1, c)) ∧
    (¬ (r.id < 0 ∨ 2147483647 < r.id ∨ r.st < 0 ∨ (n : Int) ≤ r.st ∨ kindAt E.ns r.st ≠ 3) →
      (c.S.whr r.tt = -1 → c.order E r = (false, 160, c)) ∧
      (c.S.whr r.tt ≠ -1 → va (frmF E (c.S.whr r.tt).toNat) r.st.toNat < 0 → c.order E r = (false, 161, c)) ∧
      (c.S.whr r.tt ≠ -1 → ¬ va (frmF E (c.S.whr r.tt).toNat) r.st.toNat < 0 → ∃ c', c.order E r = (true, 0, c') ∧ c.T.now.length < c'.T.now.length ∧ c'.K.sta r.id = 1 ∧ ops c'.K.all = [r] ∧ c'.dead = false)) := by
  have hsta : c.K.sta r.id = 0 := by rw [hK]; rfl
  have hd : ¬ c.dead = true := by rw [h.al]; simp
  have hst : stN E r.st = true ↔ (0 ≤ r.st ∧ r.st < (n : Int)) ∧ kindAt E.ns r.st = 3 := by
    unfold stN
    rw [hE]
    simp only [Bool.and_eq_true, decide_eq_true_eq]
  refine ⟨fun hb => ?_, fun hg => ?_⟩
  · unfold Ct.order
    rw [if_neg hd]
    by_cases h1 : r.id < 0 ∨ 2147483647 < r.id
    · rw [if_pos h1]
    · rw [if_neg h1, if_neg (by rw [hsta]; simp), if_pos (by
        cases q : stN E r.st with
        | false => rfl
        | true => obtain ⟨q1, q2⟩ := hst.1 q; omega)]
  · have hst1 : stN E r.st = true := hst.2 (by omega)
    have e0 : c.order E r = if c.S.whr r.tt = -1 then (false, 160, c) else if va (frmF E (c.S.whr r.tt).toNat) r.st.toNat < 0 then (false, 161, c) else
        (decide ((c.note ⟨2, r.id, r.st, r.tt⟩).1 = 0), (c.note ⟨2, r.id, r.st, r.tt⟩).1, (c.note ⟨2, r.id, r.st, r.tt⟩).2) := by
      unfold Ct.order
      rw [if_neg hd, if_neg (by omega), if_neg (by rw [hsta]; simp), if_neg (by rw [hst1]; simp)]
    rw [e0]
    refine ⟨fun q => by rw [if_pos q], fun q q2 => by rw [if_neg q, if_pos q2], fun q q2 => ?_⟩
    rw [if_neg q, if_neg q2]
    have htt : 1 ≤ r.tt ∧ r.tt ≤ 30 := by
      by_cases z : isT r.tt = true
      · exact isT_iff.1 z
      · exact absurd (by unfold Mr.whr; rw [if_neg z]) q
    have hok : (⟨2, r.id, r.st, r.tt⟩ : Nt).ok = true := by
      refine (ok_iff _).2 ⟨by show 0 < us 2; decide, fun i y hy => ?_, fun z => by simp at z⟩
      rcases i with _ | _ | _ | i
      · simp [Nt.fs] at hy; subst hy; refine ⟨by omega, by omega, fun z => by simp [us] at z⟩
      · simp [Nt.fs] at hy; subst hy; refine ⟨by omega, by omega, fun z => by simp [us] at z⟩
      · simp [Nt.fs] at hy; subst hy; refine ⟨by omega, by omega, fun z => by simp [us] at z⟩
      · simp [Nt.fs] at hy
    have hadC : c.K.adC r = 0 := by
      rw [hK]
      unfold Bk.adC
      rw [if_pos (by unfold rng; omega)]
      rfl
    have hnd : ndC c.S c.K ⟨2, r.id, r.st, r.tt⟩ = 0 := by
      unfold ndC
      rw [if_pos rfl]
      exact hadC
    obtain ⟨a1, a2, _, a4⟩ := h.note (by omega) hok
    obtain ⟨b1, b2, b3, b4, b5⟩ := a4 hnd
    have hK' : (c.note ⟨2, r.id, r.st, r.tt⟩).2.K = ⟨[⟨r, 1⟩], []⟩ := by
      rw [b2]
      unfold ndK
      rw [if_pos rfl]
      show c.K.ad r = _
      unfold Bk.ad
      rw [if_pos (by unfold Bk.adY; rw [hadC, hK]; rfl), hK]
      rfl
    refine ⟨_, by rw [a2, hnd]; rfl, b5, ?_, ?_, a1.al⟩
    · rw [hK']
      unfold Bk.sta fnd
      simp
    · rw [hK']
      rfl
section
set_option maxRecDepth 100000
set_option maxHeartbeats 8000000
theorem orders_any {a b : Option Addr} {c e n m : Nat} {ns : List Nd} {es : List Ed} {aZ : Option Addr} {lZ cZ : Nat} {zs : List Ed} {ri rs rt : Int} (w : World) (LD : Laid w) (L : Lyt w a b c e n m ns es) (hz : edE.Rd w (.slice aZ lZ cZ) zs) (hzl : zs.length = lZ) (hzi : ∀ z ∈ zs, I64 z.1) (hri : I64 ri) :
    Calls Tryz.prog 8 #[.agg #[.slice a n c, .slice b m e], .slice aZ lZ cZ, .agg #[.int .i64 ri, .int .i64 rs, .int .i64 rt]] w fun e w' => e = .returned (.bool true) ∧ Below w.heap.size w w' := by
  have I1 : Hid (Its w [.box (w.heap.size + 1) #[.int .i64 ri, .int .i64 rs, .int .i64 rt] 57, .box w.heap.size #[.slice a n c, .slice b m e] 25] ((w.alloc (.cells #[.slice a n c, .slice b m e] 25)).alloc (.cells #[.int .i64 ri, .int .i64 rs, .int .i64 rt] 57))) := hide (by
    have := ((Its.nil w).box1 #[.slice a n c, .slice b m e] 25).boxN #[.int .i64 ri, .int .i64 rs, .int .i64 rt] 57 rfl
    rwa [show (w.alloc (.cells #[.slice a n c, .slice b m e] 25)).heap.size = w.heap.size + 1 by simp] at this)
  have h4 := LD.size
  have K9 : Hid (∀ W L, Its w L W → Calls Tryz.prog 9 #[] W fun e w' => e = .returned (.bool true) ∧ Its w L w') := hide (fun W L hW => by
    refine (awake_any W (LD.keep h4 hW.bel)).mono ?_
    rintro e w' ⟨rfl, q⟩
    exact ⟨rfl, hW.keep q⟩)
  obtain ⟨l0, hl0⟩ : ∃ l0 : List It, [.box (w.heap.size + 1) #[.int .i64 ri, .int .i64 rs, .int .i64 rt] 57, .box w.heap.size #[.slice a n c, .slice b m e] 25] = l0 := ⟨_, rfl⟩
  have CC0 : Hid (∀ W, Its w l0 W → (W.cell? ⟨w.heap.size, 0, none⟩ = some (.slice a n c) ∧ W.cell? ⟨w.heap.size, 1, none⟩ = some (.slice b m e)) ∧ W.cell? ⟨w.heap.size + 1, 0, none⟩ = some (.int .i64 ri) ∧ W.cell? ⟨w.heap.size + 1, 1, none⟩ = some (.int .i64 rs) ∧ W.cell? ⟨w.heap.size + 1, 2, none⟩ = some (.int .i64 rt)) := hide (fun W hW => by
    subst hl0
    exact ⟨⟨(cells_at hW.two 0).1, (cells_at hW.two 1).1⟩, (cells_at hW.one 0).1, (cells_at hW.one 1).1, (cells_at hW.one 2).1⟩)
  have HLy : Hid (∀ W, Below w.heap.size w W → Lyt W a b c e n m ns es) := hide (fun W h => L.keep h)
  have HZs : Hid (∀ W, Below w.heap.size w W → edE.Rd W (.slice aZ lZ cZ) zs) := hide (fun W h => hz.keep h)
  have K17 : Hid (∀ W, Its w l0 W → Calls Tryz.prog 17 #[.agg #[.slice a n c, .slice b m e]] W fun e w' => e = .returned (.bool (good ns es && (decide (n ≤ 14) && decide (m ≤ 40)))) ∧ Its w l0 w') := hide (fun W hW => by
    refine (small_any (HLy.out W hW.bel)).mono ?_
    rintro e w' ⟨rfl, q⟩
    exact ⟨rfl, hW.keep q⟩)
  have I2 : Hid (Its w l0 ((w.alloc (.cells #[.slice a n c, .slice b m e] 25)).alloc (.cells #[.int .i64 ri, .int .i64 rs, .int .i64 rt] 57))) := hide (by rw [← hl0]; exact I1.out)
  have HZL := hide hzl
  have HZI := hide hzi
  have HRI := hide hri
  have HNM : Hid (ns.length = n ∧ es.length = m ∧ ∀ p ∈ ns, p.name.size ≤ maxLen) := hide ⟨L.hn, L.hm, L.hs⟩
  clear I1 LD L hz hzl hzi hri h4
  by_cases h40 : 40 < (lZ : Int)
  case pos =>
    go_enter Tryz.func8, Tryz.ntmps8
    go_wp2_with (first
      | (go_at_call 9; refine (K9.out _ _ I2.out).mono ?_; rintro e w1 ⟨rfl, q⟩; have I3 := hide q; clear q I2; have I2 := I3; clear I3)
      | fail)
    go_ret
    exact ⟨rfl, I2.out.bel⟩
  cases hsm : (good ns es && (decide (n ≤ 14) && decide (m ≤ 40))) with
  | false =>
    rw [hsm] at K17
    go_enter Tryz.func8, Tryz.ntmps8
    go_wp2_with (first
      | (go_at_call 9; refine (K9.out _ _ I2.out).mono ?_; rintro e w1 ⟨rfl, q⟩; have I3 := hide q; clear q; have C3 := CC0.out _ I3.out; obtain ⟨⟨x0, x1⟩, x2, x3, x4⟩ := C3)
      | (go_at_call 17; refine (K17.out _ I3.out).mono ?_; rintro e w2 ⟨rfl, q⟩; have I4 := hide q; clear q)
      | fail)
    go_ret
    exact ⟨rfl, I4.out.bel⟩
  | true =>
  rw [hsm] at K17
  have hgd : good ns es = true ∧ n ≤ 14 ∧ m ≤ 40 := by
    simp only [Bool.and_eq_true, decide_eq_true_eq] at hsm
    exact ⟨hsm.1, hsm.2.1, hsm.2.2⟩
  clear hsm
  obtain ⟨T0, hop, hT1, hT2⟩ := opn_new hgd.1 (p := 4) (by omega)
  have K11 : Hid (∀ W, Its w l0 W → Calls Tryz.prog 11 #[] W fun e w' => ∃ gt H, e = .returned (.pointer (some ⟨gt, 0, none⟩)) ∧ Its w (.tape w.heap.size gt H Tp.nw :: l0) w') := hide (fun W hW => newS hW)
  have K10 : Hid (∀ W x, Its w (x :: l0) W → Calls Tryz.prog 10 #[.agg #[.slice a n c, .slice b m e]] W fun e w' => ∃ a1 c1 b1 e1, e = .returned (.agg #[.slice a1 n c1, .slice b1 m e1]) ∧ Its w (x :: .row ndE w.heap.size (.slice a1 n c1) ns :: .row edE w.heap.size (.slice b1 m e1) es :: l0) w') := hide (fun W x hW => by
    have Ly := HLy.out W hW.bel
    refine (kown hW Ly.hn Ly.hm (by omega) (by omega) Ly.hv Ly.hu).mono ?_
    rintro e w' ⟨a1, c1, b1, e1, rfl, q⟩
    exact ⟨a1, c1, b1, e1, rfl, q.rot3⟩)
  have K12 : Hid (∀ W gt H a1 c1 b1 e1, Its w (.tape w.heap.size gt H Tp.nw :: .row ndE w.heap.size (.slice a1 n c1) ns :: .row edE w.heap.size (.slice b1 m e1) es :: l0) W → Calls Tryz.prog 12 #[.agg #[.slice a1 n c1, .slice b1 m e1], .int .i64 4, .pointer (some ⟨gt, 0, none⟩)] W fun e w' => ∃ g P, e = .returned (.tuple #[.pointer (some ⟨g, 0, none⟩), .int .i64 0]) ∧ (P.S = Mr.nw n es ∧ P.K = Bk.new) ∧ Its w (.ctl w.heap.size g ⟨ns, es, 4, gt⟩ n m P (ct1 m T0 (Mr.nw n es) Bk.new) :: .row ndE w.heap.size (.slice a1 n c1) ns :: .row edE w.heap.size (.slice b1 m e1) es :: l0) w') := hide (fun W gt H a1 c1 b1 e1 hW => by
    have := kopenS hW (fun W x hW => rows_lyt HNM.out.1 HNM.out.2.1 HNM.out.2.2 hW) 4 (rds_all (ns := []) (fun n hn => by cases hn)) (by simp) ⟨0, 0, .slice none 0 0, fun _ => none, []⟩
    rw [hop, HNM.out.1] at this
    refine this.mono ?_
    rintro e w' (⟨q, _⟩ | ⟨_, gc, P, S, K, q1, rfl, q2, q3⟩)
    · exact absurd rfl q
    · cases q1
      exact ⟨gc, P, rfl, q2, q3⟩)
  have HP0 : Hid (Pi (ct1 m T0 (Mr.nw n es) Bk.new) 0) := hide (Pi.new hT1 hT2)
  have HGD := hide hgd
  clear hop hT1 hT2 hgd
  generalize hc0 : ct1 m T0 (Mr.nw n es) Bk.new = c0 at *
  have HC0 : Hid (c0.K = Bk.new ∧ c0.S = Mr.nw n es) := hide (by rw [← hc0]; exact ⟨rfl, rfl⟩)
  clear hc0
  have z40 : (lZ : Int) ≤ 40 := by omega
  go_enter Tryz.func8, Tryz.ntmps8
  go_wp2_with (first
    | (go_at_call 9; refine (K9.out _ _ I2.out).mono ?_; rintro e w1 ⟨rfl, q⟩; have I3 := hide q; clear q; obtain ⟨⟨x0, x1⟩, x2, x3, x4⟩ := CC0.out _ I3.out)
    | (go_at_call 17; refine (K17.out _ I3.out).mono ?_; rintro e w2 ⟨rfl, q⟩; have I4 := hide q; clear q)
    | (go_at_call 11; refine (K11.out _ I4.out).mono ?_; rintro e w3 ⟨gt, H, rfl, q⟩; have I5 := hide q; clear q; obtain ⟨⟨y0, y1⟩, y2, y3, y4⟩ := CC0.out _ I5.out.tail)
    | (go_at_call 10; refine (K10.out _ _ I5.out).mono ?_; rintro e w4 ⟨a1, c1, b1, e1, rfl, q⟩; have I6 := hide q; clear q)
    | (go_at_call 12; refine (K12.out _ gt H a1 c1 b1 e1 I6.out).mono ?_; rintro e w5 ⟨g, P, rfl, q1, q2⟩; have HV := hide q1; have I7 := hide q2; clear q1 q2)
    | fail)
  obtain ⟨l1, hl1⟩ : ∃ l1 : List It, .row ndE w.heap.size (.slice a1 n c1) ns :: .row edE w.heap.size (.slice b1 m e1) es :: l0 = l1 := ⟨_, rfl⟩
  have I8 : Hid (Its w (.ctl w.heap.size g ⟨ns, es, 4, gt⟩ n m P c0 :: l1) w5) := hide (by rw [← hl1]; exact I7.out)
  have CC1 : Hid (∀ W x, Its w (x :: l1) W → (W.cell? ⟨w.heap.size, 0, none⟩ = some (.slice a n c) ∧ W.cell? ⟨w.heap.size, 1, none⟩ = some (.slice b m e)) ∧ W.cell? ⟨w.heap.size + 1, 0, none⟩ = some (.int .i64 ri) ∧ W.cell? ⟨w.heap.size + 1, 1, none⟩ = some (.int .i64 rs) ∧ W.cell? ⟨w.heap.size + 1, 2, none⟩ = some (.int .i64 rt)) := hide (fun W x hW => by
    subst hl1
    exact CC0.out W hW.tail.tail.tail)
  clear x0 x1 x2 x3 x4 y0 y1 y2 y3 y4 hl1 I2 I3 I4 I5 I6 I7 K9 K17 K11 K10 K12 h40
  have HP1 : Hid (Pi c0 0 ∧ c0.K = Bk.new) := hide ⟨HP0.out, HC0.out.1⟩
  have HV1 : Hid (P.S = c0.S ∧ P.K = c0.K) := hide (by rw [HC0.out.1, HC0.out.2]; exact HV.out)
  go_loopw [46] (fun v46 wr => ∃ (k : Nat) (P' : Kp) (ck : Ct), v46 = .int .i64 k ∧ k ≤ lZ ∧ Hid (Pi ck k ∧ ck.K = Bk.new) ∧ Hid (P'.S = ck.S ∧ P'.K = ck.K) ∧ Hid (Its w (.ctl w.heap.size g ⟨ns, es, 4, gt⟩ n m P' ck :: l1) wr)) (fun v46 _ => lZ - (intOf v46).toNat)
  case atStart => exact ⟨0, P, c0, rfl, Nat.zero_le _, HP1, HV1, hide (by first | exact I8.out | exact I8.out.hp rfl rfl rfl rfl)⟩
  case round =>
    obtain ⟨k, P', ck, rfl, hk, HP, HVk, HR⟩ := hrel
    by_cases hlt : k < lZ
    · obtain ⟨z, hzk⟩ : ∃ z, zs[k]? = some z := ⟨_, List.getElem?_eq_getElem (by rw [HZL.out]; exact hlt)⟩
      obtain ⟨bz, oz, rfl, d0, d1⟩ := ed_at (HZs.out _ HR.out.bel) k z hzk
      have j0 : (0 : Int) ≤ (k : Int) := by omega
      have j1 : (k : Int) < (lZ : Int) := by omega
      have j2 : wrap64 ((k : Int) + 1) = (k : Int) + 1 := by unfold wrap64; omega
      have hz64 := HZI.out z (List.mem_of_getElem? hzk)
      have hlen := (mr_len (kt_m HR.out.one)).1
      rw [HVk.out.1] at hlen
      have HPu := hide (HP.out.1.put (by omega) (by have := HGD.out.2.1; omega) ⟨ns, es, 4, gt⟩ z.1 z.2)
      have K37 : Hid (∀ W, Its w (.ctl w.heap.size g ⟨ns, es, 4, gt⟩ n m P' ck :: l1) W → Calls Tryz.prog 37 #[.pointer (some ⟨g, 0, none⟩), .int .i64 z.1, .int .i64 z.2] W (CodeP w l1 g ⟨ns, es, 4, gt⟩ n m (ck.put ⟨ns, es, 4, gt⟩ z.1 z.2))) := hide (fun W hW => kputS hW (fun _ => HVk.out) HP.out.1.fit.gd (by omega) z.1 z.2 hz64)
      obtain ⟨zx, zy⟩ := z
      dsimp only at *
      generalize ck.put ⟨ns, es, 4, gt⟩ zx zy = pp at *
      obtain ⟨pc, cp⟩ := pp
      dsimp only at *
      clear hzk hz64 hlen
      have HX := hide (HR.out.alloc (.cells #[.int .i64 zx, .int .i64 zy] 78))
      go_wp2_with (go_at_call 37; refine (K37.out _ HX.out).mono ?_; rintro e w6 ⟨rfl, P9, q1, q2⟩; have HV9 := hide (q1 HPu.out.1.al); have H9 := hide q2; clear q1 q2)
      go_roundw
      case rel => exact ⟨k + 1, P9, cp, by go_num, by omega, hide ⟨HPu.out.1, HPu.out.2.1.trans HP.out.2⟩, HV9, H9⟩
      case measure => simp [intOf]; omega
    · obtain rfl : k = lZ := by omega
      have j1 : ¬ (k : Int) < (k : Int) := by omega
      have hlen := (mr_len (kt_m HR.out.one)).1
      rw [HVk.out.1] at hlen
      have HOC := hide (order_cases HP.out.1 (by omega) HP.out.2 (E := ⟨ns, es, 4, gt⟩) HNM.out.1 (by have := HGD.out.2.1; omega) hlen ⟨ri, rs, rt⟩)
      have HWn : Hid (ck.S.whr rt ≠ -1 → 0 ≤ ck.S.whr rt ∧ ck.S.whr rt < (n : Int)) := hide (fun q => by
        have htt : 1 ≤ rt ∧ rt ≤ 30 := by
          by_cases z : isT rt = true
          · exact isT_iff.1 z
          · exact absurd (by unfold Mr.whr; rw [if_neg z]) q
        have := whr_in htt q
        rw [hlen] at this
        exact this)
      have K38 : Hid (∀ W P2 c2, Its w (.ctl w.heap.size g ⟨ns, es, 4, gt⟩ n m P2 c2 :: l1) W → Calls Tryz.prog 38 #[.pointer (some ⟨gt, 0, none⟩)] W fun e w' => e = .returned (.int .i64 (c2.T.now.length : Int)) ∧ Its w (.ctl w.heap.size g ⟨ns, es, 4, gt⟩ n m P2 c2 :: l1) w') := hide (fun W P2 c2 hW => by
        refine (ksize_any hW.one).mono ?_
        rintro e w' ⟨rfl, q, rfl⟩
        exact ⟨rfl, hW.drew q⟩)
      have K26 : Hid (∀ W, Its w (.ctl w.heap.size g ⟨ns, es, 4, gt⟩ n m P' ck :: l1) W → Calls Tryz.prog 26 #[.pointer (some ⟨g, 0, none⟩), .int .i64 rt] W fun e w' => e = .returned (.int .i64 (ck.S.whr rt)) ∧ Its w (.ctl w.heap.size g ⟨ns, es, 4, gt⟩ n m P' ck :: l1) w') := hide (fun W hW => by
        have := kwhere_any hW.one rt
        rw [HVk.out.1] at this
        refine this.mono ?_
        rintro e w' ⟨rfl, rfl⟩
        exact ⟨rfl, hW⟩)
      have K29 : Hid (∀ W, Its w (.ctl w.heap.size g ⟨ns, es, 4, gt⟩ n m P' ck :: l1) W → Calls Tryz.prog 29 #[.pointer (some ⟨g, 0, none⟩), .agg #[.int .i64 ri, .int .i64 rs, .int .i64 rt]] W (TwoP w l1 g ⟨ns, es, 4, gt⟩ n m (ck.order ⟨ns, es, 4, gt⟩ ⟨ri, rs, rt⟩))) := hide (fun W hW => korderS hW (fun _ => HVk.out) HP.out.1.fit.gd (by omega) ⟨ri, rs, rt⟩)
      have K39 : Hid (∀ (s j : Nat), s < n → j < n → ∀ W x, Its w (x :: l1) W → Calls Tryz.prog 39 #[.agg #[.slice a n c, .slice b m e], .slice none 0 0, .int .i64 (s : Int)] W fun e w' => ∃ gl, e = .returned (.tuple #[.slice (some ⟨gl, 0, none⟩) n n, .int .i64 0]) ∧ w'.cell? ⟨gl, j, none⟩ = some (.int .i64 (va (frmF ⟨ns, es, 4, gt⟩ s) j)) ∧ Its w (x :: l1) w') := hide (fun s j hs hj W x hW => by
        have Ly0 := HLy.out W hW.bel
        have hg := good_he HGD.out.1
        rw [HNM.out.1, HNM.out.2.1] at hg
        refine (from_ok _ _ _ _ _ _ n m 0 s ns es [] W ⟨Ly0.hn, Ly0.hm, Ly0.hv, Ly0.hu, by omega, by omega, fun e he => ⟨(hg.2.2 e he).1.1, (hg.2.2 e he).1.2, (hg.2.2 e he).2.1.1, (hg.2.2 e he).2.1.2⟩⟩ ⟨rfl, .inl ⟨rfl, rfl⟩, by omega⟩ hs).mono ?_
        rintro e w' ⟨⟨gl, LL, rfl, ho, hfar⟩, hb⟩
        have hfar' : Far (Eg es (clo es.length []) 0) (Tk ns) s ns.length LL := by rw [HNM.out.1, HNM.out.2.1]; exact hfar
        have hL := hfar.1
        have e1 := El.Own.at1 (Value.int .i64) (fun _ => rfl) rfl ho j (va LL j) (va_at LL j (by rw [hL]; exact hj))
        refine ⟨gl, rfl, ?_, hW.keep hb⟩
        rw [frmF_of (E := ⟨ns, es, 4, gt⟩) hfar']
        exact e1.1)
      have HNs : Hid (∀ W, Below w.heap.size w W → ∀ j : Nat, j < n → ∃ bn on, a = some ⟨bn, on, none⟩ ∧ W.cell? ⟨bn, on + j * 3 + 1, none⟩ = some (.int .i64 (kindAt ns (j : Int)))) := hide (fun W hb j hj => by
        have Ly0 := HLy.out W hb
        obtain ⟨p, hp⟩ : ∃ p, ns[j]? = some p := ⟨_, List.getElem?_eq_getElem (by rw [Ly0.hn]; exact hj)⟩
        obtain ⟨bn, on, q0, q1, q2, q3⟩ := nd_at Ly0.hv j p hp
        refine ⟨bn, on, q0, ?_⟩
        have : kindAt ns (j : Int) = p.kind := by unfold kindAt; rw [show ((j : Int)).toNat = j by omega, hp]; rfl
        rw [this]; exact q2)
      have K33 : Hid (∀ W P2 c2, Its w (.ctl w.heap.size g ⟨ns, es, 4, gt⟩ n m P2 c2 :: l1) W → Calls Tryz.prog 33 #[.pointer (some ⟨g, 0, none⟩), .int .i64 ri] W fun e w' => e = .returned (.int .i64 (P2.K.sta ri)) ∧ Its w (.ctl w.heap.size g ⟨ns, es, 4, gt⟩ n m P2 c2 :: l1) w') := hide (fun W P2 c2 hW => by
        refine (kstate_any hW.one HRI.out).mono ?_
        rintro e w' ⟨rfl, rfl⟩
        exact ⟨rfl, hW⟩)
      have K40 : Hid (∀ W P2 c2, Its w (.ctl w.heap.size g ⟨ns, es, 4, gt⟩ n m P2 c2 :: l1) W → ops P2.K.all = [⟨ri, rs, rt⟩] → Calls Tryz.prog 40 #[.pointer (some ⟨g, 0, none⟩)] W fun e w' => ∃ (bq oq cq : Nat), e = .returned (.slice (some ⟨bq, oq, none⟩) 1 cq) ∧ (w'.cell? ⟨bq, oq, none⟩ = some (.int .i64 ri) ∧ w'.cell? ⟨bq, oq + 1, none⟩ = some (.int .i64 rs) ∧ w'.cell? ⟨bq, oq + 2, none⟩ = some (.int .i64 rt)) ∧ Its w (.ctl w.heap.size g ⟨ns, es, 4, gt⟩ n m P2 c2 :: l1) w') := hide (fun W P2 c2 hW ho => by
        have := kreq_any hW.one
        rw [ho] at this
        refine this.mono ?_
        rintro e w' ⟨aq, cq, rfl, q1, q2⟩
        obtain ⟨bq, oq, rfl, z0, z1, z2⟩ := rq_at q1.rd 0 _ rfl
        exact ⟨bq, oq, cq, rfl, ⟨by simpa using z0, by simpa using z1, by simpa using z2⟩, hW.keep q2⟩)
      obtain ⟨⟨x0, x1⟩, x2, x3, x4⟩ := CC1.out _ _ HR.out
      have X4 := x4
      go_upto_region 16 with fail
      clear hlen HP1 HV1 I8
      go_region_held3 (fun W => W.cell? ⟨w.heap.size + 1, 2, none⟩ = some (.int .i64 rt)) (first | exact X4 | exact (CC1.out _ _ J2.out).2.2.2 | exact (CC1.out _ _ J1.out).2.2.2 | exact (CC1.out _ _ (Its.hp (w' := wr.drew) HR.out rfl rfl rfl rfl)).2.2.2 | fail)
        (first
          | (go_at_call 38; refine (K38.out _ P' ck ?_).mono ?_; (first | exact HR.out | exact Its.hp (w' := wr.drew) HR.out rfl rfl rfl rfl); rintro e w7 ⟨rfl, q⟩; have J1 := hide q; clear q)
          | (go_at_call 26; refine (K26.out _ ?_).mono ?_; exact J1.out; rintro e w8 ⟨rfl, q⟩; have J2 := hide q; clear q)
          | fail)
      all_goals (
        clear x0 x1 x2 x3 x4 X4
        obtain ⟨⟨x0, x1⟩, x2, x3, x4⟩ := CC1.out _ _ J2.out
        obtain ⟨od, hod⟩ : ∃ od, ck.order ⟨ns, es, 4, gt⟩ ⟨ri, rs, rt⟩ = od := ⟨_, rfl⟩
        rw [hod] at K29 HOC
        clear hod
        obtain ⟨yes, cd, c9⟩ := od
        unfold TwoP at K29
        dsimp only at *
        generalize ck.S.whr rt = wh at *
        go_upto_region 18 with (go_at_call 29; refine (K29.out _ J2.out).mono ?_; rintro e w9 ⟨rfl, P9, q1, q2⟩; have HV9 := hide q1; have J3 := hide q2; clear q1 q2)
        clear x0 x1 x2 x3 x4
        obtain ⟨⟨x0, x1⟩, x2, x3, x4⟩ := CC1.out _ _ J3.out
        by_cases p1 : ri < 0
        case pos =>
          have hO := HOC.out.1 (by omega)
          simp only [Prod.mk.injEq] at hO
          obtain ⟨rfl, rfl, rfl⟩ := hO
          go_wp2_with (first
            | (go_at_call 38; refine (K38.out _ P9 c9 ?_).mono ?_; (first | exact J3.out | exact J3.out.hp rfl rfl rfl rfl); rintro e w10 ⟨rfl, q⟩; have J4 := hide q; clear q)
            | fail)
          go_ret
          exact ⟨by simp, J4.out.bel⟩
        by_cases p2 : 2147483647 < ri
        case pos =>
          have hO := HOC.out.1 (by omega)
          simp only [Prod.mk.injEq] at hO
          obtain ⟨rfl, rfl, rfl⟩ := hO
          go_wp2_with (first
            | (go_at_call 38; refine (K38.out _ P9 c9 ?_).mono ?_; (first | exact J3.out | exact J3.out.hp rfl rfl rfl rfl); rintro e w10 ⟨rfl, q⟩; have J4 := hide q; clear q)
            | fail)
          go_ret
          exact ⟨by simp, J4.out.bel⟩
        by_cases p3 : rs < 0
        case pos =>
          have hO := HOC.out.1 (by omega)
          simp only [Prod.mk.injEq] at hO
          obtain ⟨rfl, rfl, rfl⟩ := hO
          go_wp2_with (first
            | (go_at_call 38; refine (K38.out _ P9 c9 ?_).mono ?_; (first | exact J3.out | exact J3.out.hp rfl rfl rfl rfl); rintro e w10 ⟨rfl, q⟩; have J4 := hide q; clear q)
            | fail)
          go_ret
          exact ⟨by simp, J4.out.bel⟩
        by_cases p4 : (n : Int) ≤ rs
        case pos =>
          have hO := HOC.out.1 (by omega)
          simp only [Prod.mk.injEq] at hO
          obtain ⟨rfl, rfl, rfl⟩ := hO
          go_wp2_with (first
            | (go_at_call 38; refine (K38.out _ P9 c9 ?_).mono ?_; (first | exact J3.out | exact J3.out.hp rfl rfl rfl rfl); rintro e w10 ⟨rfl, q⟩; have J4 := hide q; clear q)
            | fail)
          go_ret
          exact ⟨by simp, J4.out.bel⟩
        obtain ⟨sj, rfl⟩ : ∃ sj : Nat, rs = (sj : Int) := ⟨rs.toNat, by omega⟩
        have hsj : sj < n := by omega
        have p4' : ((sj : Nat) : Int) < (n : Int) := by omega
        have p3' : (0 : Int) ≤ (sj : Int) := by omega
        obtain ⟨bn, on, rfl, qk⟩ := HNs.out _ J3.out.bel sj hsj
        generalize hkd : kindAt ns (sj : Int) = kd at *
        by_cases p5 : kd = 3
        case neg =>
          have p5' : (kd == 3) = false := beq_eq_false_iff_ne.2 p5
          have hO := HOC.out.1 (by omega)
          simp only [Prod.mk.injEq] at hO
          obtain ⟨rfl, rfl, rfl⟩ := hO
          go_wp2_with (first
            | (go_at_call 38; refine (K38.out _ P9 c9 ?_).mono ?_; (first | exact J3.out | exact J3.out.hp rfl rfl rfl rfl); rintro e w10 ⟨rfl, q⟩; have J4 := hide q; clear q)
            | fail)
          go_ret
          exact ⟨by simp, J4.out.bel⟩
        subst p5
        have hG := HOC.out.2 (by omega)
        have HGG := hide hG
        clear HNs hG HOC
        by_cases p6 : wh < 0
        case pos =>
          have hwh : wh = -1 := by
            by_cases q : wh = -1
            · exact q
            · have := HWn.out q; omega
          have hO := HGG.out.1 hwh
          simp only [Prod.mk.injEq] at hO
          obtain ⟨rfl, rfl, rfl⟩ := hO
          clear hwh
          go_wp2_with (first
            | (go_at_call 38; refine (K38.out _ P9 c9 ?_).mono ?_; (first | exact J3.out | exact J3.out.hp rfl rfl rfl rfl); rintro e w10 ⟨rfl, q⟩; have J4 := hide q; clear q)
            | fail)
          go_ret
          exact ⟨by simp, J4.out.bel⟩
        have hwn := HWn.out (by omega)
        obtain ⟨wn, rfl⟩ : ∃ wn : Nat, wh = (wn : Int) := ⟨wh.toNat, by omega⟩
        have hG2 := HGG.out.2
        have hne : ¬ (wn : Int) = -1 := by omega
        have K39x := hide (K39.out wn sj (by omega) hsj)
        have hn0 : ¬ ((n : Int) ≠ (n : Int)) := by simp
        simp only [Int.toNat_natCast] at hG2
        generalize va (frmF ⟨ns, es, 4, gt⟩ wn) sj = dv at *
        have HG2 := hide hG2
        clear hG2 hwn HGG HWn
        go_upto_region 23 with (go_at_call 39; refine (K39x.out _ _ J3.out).mono ?_; rintro e w11 ⟨gl, rfl, q1, q2⟩; have gcell := q1; have J5 := hide q2; clear q1 q2)
        clear x0 x1 x2 x3 x4 qk
        obtain ⟨⟨x0, x1⟩, x2, x3, x4⟩ := CC1.out _ _ J5.out
        by_cases p7 : dv < 0
        case pos =>
          have hO := HG2.out.1 (by omega) (by omega)
          simp only [Prod.mk.injEq] at hO
          obtain ⟨rfl, rfl, rfl⟩ := hO
          go_wp2_with (first
            | (go_at_call 38; refine (K38.out _ P9 c9 ?_).mono ?_; (first | exact J5.out | exact J5.out.hp rfl rfl rfl rfl); rintro e w10 ⟨rfl, q⟩; have J4 := hide q; clear q)
            | fail)
          go_ret
          exact ⟨by simp, J4.out.bel⟩
        obtain ⟨c', hO, g1, g2, g3, g4⟩ := HG2.out.2 (by omega) (by omega)
        simp only [Prod.mk.injEq] at hO
        obtain ⟨rfl, rfl, rfl⟩ := hO
        have HVx := hide (HV9.out g4)
        have K33x : Hid (∀ W, Its w (.ctl w.heap.size g ⟨ns, es, 4, gt⟩ n m P9 c9 :: l1) W → Calls Tryz.prog 33 #[.pointer (some ⟨g, 0, none⟩), .int .i64 ri] W fun e w' => e = .returned (.int .i64 1) ∧ Its w (.ctl w.heap.size g ⟨ns, es, 4, gt⟩ n m P9 c9 :: l1) w') := hide (fun W hW => by
          have := K33.out W P9 c9 hW
          rw [HVx.out.2, g2] at this
          exact this)
        have K40x : Hid (∀ W, Its w (.ctl w.heap.size g ⟨ns, es, 4, gt⟩ n m P9 c9 :: l1) W → Calls Tryz.prog 40 #[.pointer (some ⟨g, 0, none⟩)] W fun e w' => ∃ (bq oq cq : Nat), e = .returned (.slice (some ⟨bq, oq, none⟩) 1 cq) ∧ (w'.cell? ⟨bq, oq, none⟩ = some (.int .i64 ri) ∧ w'.cell? ⟨bq, oq + 1, none⟩ = some (.int .i64 (sj : Int)) ∧ w'.cell? ⟨bq, oq + 2, none⟩ = some (.int .i64 rt)) ∧ Its w (.ctl w.heap.size g ⟨ns, es, 4, gt⟩ n m P9 c9 :: l1) w') := hide (fun W hW => K40.out W P9 c9 hW (by rw [HVx.out.2]; exact g3))
        have g1' : (ck.T.now.length : Int) < (c9.T.now.length : Int) := by omega
        have heq := fun W => rq_equal W (⟨ri, (sj : Int), rt⟩ : Rq) ⟨ri, (sj : Int), rt⟩
        simp only [decide_true] at heq
        clear g2 g3 K33 K40 HG2
        generalize ck.T.now.length = L0 at *
        generalize hL9 : c9.T.now.length = L9 at *
        have HL9 := hide hL9
        clear hL9
        have K38x : Hid (∀ W, Its w (.ctl w.heap.size g ⟨ns, es, 4, gt⟩ n m P9 c9 :: l1) W → Calls Tryz.prog 38 #[.pointer (some ⟨gt, 0, none⟩)] W fun e w' => e = .returned (.int .i64 (L9 : Int)) ∧ Its w (.ctl w.heap.size g ⟨ns, es, 4, gt⟩ n m P9 c9 :: l1) w') := hide (fun W hW => by
          have := K38.out W P9 c9 hW
          rw [HL9.out] at this
          exact this)
        go_upto_region 27 with fail
        clear x0 x1 x2 x3 x4 gcell
        refine wp_region_held_drew (S := (fun W => W.cell? ⟨w.heap.size + 1, 0, none⟩ = some (.int .i64 ri) ∧ W.cell? ⟨w.heap.size + 1, 1, none⟩ = some (.int .i64 (sj : Int)) ∧ W.cell? ⟨w.heap.size + 1, 2, none⟩ = some (.int .i64 rt))) (by kernel_rfl) (by first | exact (CC1.out _ _ J5.out).2 | exact (CC1.out _ _ (J5.out.hp rfl rfl rfl rfl)).2) (fun hS => ?_)
        refine wpAnyH_take (i := 0) (v := .bool true) rfl (by kernel_rfl) (by kernel_rfl) (by kernel_rfl) (fun _ _ _ h => h) (Or.inl ⟨by kernel_rfl, fun W' hW => by obtain ⟨s0, s1, s2⟩ := hW; go_simp⟩) hS ?_
        refine wpAnyH_take (i := 1) (v := .bool true) rfl (by kernel_rfl) (by kernel_rfl) (by kernel_rfl) (fun _ _ _ h => h) (Or.inl ⟨by kernel_rfl, fun W' hW => by obtain ⟨s0, s1, s2⟩ := hW; go_simp⟩) hS ?_
        refine wpAnyH_take (i := 2) (v := .int .i64 0) rfl (by kernel_rfl) (by kernel_rfl) (by kernel_rfl) (fun _ _ _ h => h) (Or.inl ⟨by kernel_rfl, fun W' hW => by obtain ⟨s0, s1, s2⟩ := hW; go_simp⟩) hS ?_
        refine wpAnyH_take (i := 3) (v := .bool true) rfl (by kernel_rfl) (by kernel_rfl) (by kernel_rfl) (fun _ _ _ h => h) (Or.inl ⟨by kernel_rfl, fun W' hW => by obtain ⟨s0, s1, s2⟩ := hW; go_simp⟩) hS ?_
        refine wpAnyH_take (i := 4) (v := .bool true) rfl (by kernel_rfl) (by kernel_rfl) (by kernel_rfl) (fun _ _ _ h => h) (Or.inl ⟨by kernel_rfl, fun W' hW => by obtain ⟨s0, s1, s2⟩ := hW; go_simp⟩) hS ?_
        refine wpAnyH_take (i := 5) (v := .bool true) rfl (by kernel_rfl) (by kernel_rfl) (by kernel_rfl) (fun _ _ _ h => h) (Or.inl ⟨by kernel_rfl, fun W' hW => by obtain ⟨s0, s1, s2⟩ := hW; go_simp⟩) hS ?_
        refine wpAnyH_take (i := 6) (v := .pointer (some ⟨gt, 0, none⟩)) rfl (by kernel_rfl) (by kernel_rfl) (by kernel_rfl) (fun _ _ _ h => h) (Or.inl ⟨by kernel_rfl, fun W' hW => by obtain ⟨s0, s1, s2⟩ := hW; go_simp⟩) hS ?_
        refine wpAnyH_take (i := 8) (v := .int .i64 (L0 : Int)) rfl (by kernel_rfl) (by kernel_rfl) (by kernel_rfl) (fun _ _ _ h => h) (Or.inl ⟨by kernel_rfl, fun W' hW => by obtain ⟨s0, s1, s2⟩ := hW; go_simp⟩) hS ?_
        refine wpAnyH_ready (rs := [7]) (by kernel_rfl) (by simp) ?_
        refine AllReadyH.cons rfl (fun K hK => ?_) AllReadyH.nil
        go_simp
        go_at_call 38
        refine (K38x.out _ ?_).mono ?_
        (first | exact J5.out | exact J5.out.hp rfl rfl rfl rfl)
        rintro e w12 ⟨rfl, q⟩
        have J6 := hide q
        clear q
        go_simp
        refine hK.out _ _ (CC1.out _ _ J6.out).2 (fun _ => ?_)
        clear hK K
        refine wpAnyH_take (i := 9) (v := .bool true) rfl (by kernel_rfl) (by kernel_rfl) (by kernel_rfl) (fun _ _ _ h => h) (Or.inl ⟨by kernel_rfl, fun W' hW => by obtain ⟨s0, s1, s2⟩ := hW; go_simp⟩) (CC1.out _ _ J6.out).2 ?_
        refine wpAnyH_take (i := 10) (v := .bool true) rfl (by kernel_rfl) (by kernel_rfl) (by kernel_rfl) (fun _ _ _ h => h) (Or.inl ⟨by kernel_rfl, fun W' hW => by obtain ⟨s0, s1, s2⟩ := hW; go_simp⟩) (CC1.out _ _ J6.out).2 ?_
        refine wpAnyH_take (i := 11) (v := .bool true) rfl (by kernel_rfl) (by kernel_rfl) (by kernel_rfl) (fun _ _ _ h => h) (Or.inl ⟨by kernel_rfl, fun W' hW => by obtain ⟨s0, s1, s2⟩ := hW; go_simp⟩) (CC1.out _ _ J6.out).2 ?_
        refine wpAnyH_take (i := 12) (v := .pointer (some ⟨g, 0, none⟩)) rfl (by kernel_rfl) (by kernel_rfl) (by kernel_rfl) (fun _ _ _ h => h) (Or.inl ⟨by kernel_rfl, fun W' hW => by obtain ⟨s0, s1, s2⟩ := hW; go_simp⟩) (CC1.out _ _ J6.out).2 ?_
        refine wpAnyH_take (i := 13) (v := .pointer (some ⟨w.heap.size + 1, 0, none⟩)) rfl (by kernel_rfl) (by kernel_rfl) (by kernel_rfl) (fun _ _ _ h => h) (Or.inl ⟨by kernel_rfl, fun W' hW => by obtain ⟨s0, s1, s2⟩ := hW; go_simp⟩) (CC1.out _ _ J6.out).2 ?_
        refine wpAnyH_take (i := 14) (v := .int .i64 ri) rfl (by kernel_rfl) (by kernel_rfl) (by kernel_rfl) (fun _ _ _ h => h) (Or.inl ⟨by kernel_rfl, fun W' hW => by obtain ⟨s0, s1, s2⟩ := hW; go_simp⟩) (CC1.out _ _ J6.out).2 ?_
        refine wpAnyH_ready (rs := [15]) (by kernel_rfl) (by simp) ?_
        refine AllReadyH.cons rfl (fun K hK => ?_) AllReadyH.nil
        go_simp
        go_at_call 33
        refine (K33x.out _ ?_).mono ?_
        (first | exact J6.out | exact J6.out.hp rfl rfl rfl rfl)
        rintro e w13 ⟨rfl, q⟩
        have J7 := hide q
        clear q
        go_simp
        refine hK.out _ _ (CC1.out _ _ J7.out).2 (fun _ => ?_)
        clear hK K
        refine wpAnyH_take (i := 16) (v := .bool true) rfl (by kernel_rfl) (by kernel_rfl) (by kernel_rfl) (fun _ _ _ h => h) (Or.inl ⟨by kernel_rfl, fun W' hW => by obtain ⟨s0, s1, s2⟩ := hW; go_simp⟩) (CC1.out _ _ J7.out).2 ?_
        refine wpAnyH_take (i := 17) (v := .bool true) rfl (by kernel_rfl) (by kernel_rfl) (by kernel_rfl) (fun _ _ _ h => h) (Or.inl ⟨by kernel_rfl, fun W' hW => by obtain ⟨s0, s1, s2⟩ := hW; go_simp⟩) (CC1.out _ _ J7.out).2 ?_
        refine wpAnyH_take (i := 18) (v := .bool true) rfl (by kernel_rfl) (by kernel_rfl) (by kernel_rfl) (fun _ _ _ h => h) (Or.inl ⟨by kernel_rfl, fun W' hW => by obtain ⟨s0, s1, s2⟩ := hW; go_simp⟩) (CC1.out _ _ J7.out).2 ?_
        refine wpAnyH_take (i := 19) (v := .pointer (some ⟨g, 0, none⟩)) rfl (by kernel_rfl) (by kernel_rfl) (by kernel_rfl) (fun _ _ _ h => h) (Or.inl ⟨by kernel_rfl, fun W' hW => by obtain ⟨s0, s1, s2⟩ := hW; go_simp⟩) (CC1.out _ _ J7.out).2 ?_
        refine wpAnyH_ready (rs := [20]) (by kernel_rfl) (by simp) ?_
        refine AllReadyH.cons rfl (fun K hK => ?_) AllReadyH.nil
        go_simp
        go_at_call 40
        refine (K40x.out _ ?_).mono ?_
        (first | exact J7.out | exact J7.out.hp rfl rfl rfl rfl)
        rintro e w14 ⟨bq, oq, cq, rfl, _, q⟩
        have J8 := hide q
        clear q
        go_simp
        refine hK.out _ _ (CC1.out _ _ J8.out).2 (fun _ => ?_)
        clear hK K
        refine wpAnyH_take (i := 21) (v := .int .i64 1) rfl (by kernel_rfl) (by kernel_rfl) (by kernel_rfl) (fun _ _ _ h => h) (Or.inl ⟨by kernel_rfl, fun W' hW => by obtain ⟨s0, s1, s2⟩ := hW; go_simp⟩) (CC1.out _ _ J8.out).2 ?_
        refine wpAnyH_take (i := 22) (v := .bool true) rfl (by kernel_rfl) (by kernel_rfl) (by kernel_rfl) (fun _ _ _ h => h) (Or.inl ⟨by kernel_rfl, fun W' hW => by obtain ⟨s0, s1, s2⟩ := hW; go_simp⟩) (CC1.out _ _ J8.out).2 ?_
        refine wpAnyH_take (i := 23) (v := .bool true) rfl (by kernel_rfl) (by kernel_rfl) (by kernel_rfl) (fun _ _ _ h => h) (Or.inl ⟨by kernel_rfl, fun W' hW => by obtain ⟨s0, s1, s2⟩ := hW; go_simp⟩) (CC1.out _ _ J8.out).2 ?_
        refine wpAnyH_take (i := 24) (v := .bool true) rfl (by kernel_rfl) (by kernel_rfl) (by kernel_rfl) (fun _ _ _ h => h) (Or.inl ⟨by kernel_rfl, fun W' hW => by obtain ⟨s0, s1, s2⟩ := hW; go_simp⟩) (CC1.out _ _ J8.out).2 ?_
        refine wpAnyH_take (i := 25) (v := .pointer (some ⟨g, 0, none⟩)) rfl (by kernel_rfl) (by kernel_rfl) (by kernel_rfl) (fun _ _ _ h => h) (Or.inl ⟨by kernel_rfl, fun W' hW => by obtain ⟨s0, s1, s2⟩ := hW; go_simp⟩) (CC1.out _ _ J8.out).2 ?_
        refine wpAnyH_take (i := 29) (v := .agg #[.int .i64 ri, .int .i64 (sj : Int), .int .i64 rt]) rfl (by kernel_rfl) (by kernel_rfl) (by kernel_rfl) (fun _ _ _ h => h) (Or.inl ⟨by kernel_rfl, fun W' hW => by obtain ⟨s0, s1, s2⟩ := hW; go_simp⟩) (CC1.out _ _ J8.out).2 ?_
        refine wpAnyH_ready (rs := [26]) (by kernel_rfl) (by simp) ?_
        refine AllReadyH.cons rfl (fun K hK => ?_) AllReadyH.nil
        go_simp
        go_at_call 40
        refine (K40x.out _ ?_).mono ?_
        (first | exact J8.out | exact J8.out.hp rfl rfl rfl rfl)
        rintro e w15 ⟨bp, op, cp, rfl, ⟨r0, r1, r2⟩, q⟩
        have J9 := hide q
        clear q
        go_simp
        refine hK.out _ _ (CC1.out _ _ J9.out).2 (fun _ => ?_)
        clear hK K
        refine wpAnyH_take (i := 27) (v := .pointer (some ⟨bp, op, none⟩)) rfl (by kernel_rfl) (by kernel_rfl) (by kernel_rfl) (fun _ _ _ h => h) (Or.inl ⟨by kernel_rfl, fun W' hW => by obtain ⟨s0, s1, s2⟩ := hW; go_simp⟩) (CC1.out _ _ J9.out).2 ?_
        refine wpAnyH_ready (rs := [28]) (by kernel_rfl) (by simp) ?_
        refine AllReadyH.cons rfl (fun K hK => ?_) AllReadyH.nil
        go_simp
        refine hK.out _ _ (CC1.out _ _ J9.out).2 (fun _ => ?_)
        clear hK K
        refine wpAnyH_take (i := 30) (v := .bool true) rfl (by kernel_rfl) (by kernel_rfl) (by kernel_rfl) (fun _ _ _ h => h) (Or.inl ⟨by kernel_rfl, fun W' hW => by obtain ⟨s0, s1, s2⟩ := hW; have hq := heq W'; go_simp⟩) (CC1.out _ _ J9.out).2 ?_
        refine wpAnyH_take (i := 31) (v := .bool true) rfl (by kernel_rfl) (by kernel_rfl) (by kernel_rfl) (fun _ _ _ h => h) (Or.inl ⟨by kernel_rfl, fun W' hW => by obtain ⟨s0, s1, s2⟩ := hW; go_simp⟩) (CC1.out _ _ J9.out).2 ?_
        refine wpAnyH_ready (rs := [32]) (by kernel_rfl) (by simp) ?_
        refine AllReadyH.cons rfl (fun K hK => ?_) AllReadyH.nil
        go_simp
        refine hK.out _ _ (CC1.out _ _ J9.out).2 (fun _ => ?_)
        clear hK K
        refine wpAnyH_done (by kernel_rfl) ?_ _
        go_wp2_with fail
        first
          | (go_ret; exact ⟨rfl, J9.out.bel⟩)
          | (go_ret; exact ⟨by simp, J9.out.bel⟩))
end
end Go.Proofs.YtocmngpoemfpkaaGreatDoor

namespace Go.Proofs.YtocmngpoemfpkaaGreatDoor
open Go.ChangeShapes Go.WideShapes Go.ChangeAt Go.RowKit
set_option linter.unusedVariables false
section
variable {H : Type} {enc : TypeId × Value → H} {w : World} {base : Nat} {spare : Nat → Bool} {held : Bool} {fuel : Nat} {cs : List Value} {x : DataW H × List MemPlace}
set_option maxRecDepth 100000 in
theorem ed_of_trod2 (h : DataW.trod enc Tryz.prog w base spare held fuel 78 cs = some x) : ∃ y : Ed, cs = edE.enc y ∧ I64 y.1 := by
  obtain ⟨xs, n, _, _, hl, hn, hf⟩ := DataW.trod_array Tryz.underlying78 h
  have e3 : Tryz.prog.cellsOf 3 = 1 := by kernel_rfl
  rw [show Tryz.prog.cellsOf 78 = 2 by kernel_rfl] at hl
  have f0 := hf 0 (by omega)
  have f1 := hf 1 (by omega)
  rw [e3] at f0 f1
  match xs, hn, cs, hl with
  | [y0, y1], _, [c0, c1], _ =>
    obtain ⟨i1, e1, _, w1⟩ := DataW.trod_int Tryz.underlying3 (show DataW.trod enc Tryz.prog w base spare held n 3 _ = some y0 from f0)
    obtain ⟨i2, e2, _, _⟩ := DataW.trod_int Tryz.underlying3 (show DataW.trod enc Tryz.prog w base spare held n 3 _ = some y1 from f1)
    simp at e1 e2
    exact ⟨(i1, i2), by simp [e1, e2, edE], I64.of w1⟩
theorem eds_of_trod {a : Option Addr} {len cap : Nat} (h : DataW.trod enc Tryz.prog w base spare held fuel 23 cs = some x) (hcs : cs = [.slice a len cap]) : ∃ os : List Ed, os.length = len ∧ edE.Rd w (.slice a len cap) os ∧ ∀ y ∈ os, I64 y.1 :=
  rd_of_trod edE (fun y => I64 y.1) (by kernel_rfl) (fun n cs y hy => ed_of_trod2 hy) h hcs
set_option maxRecDepth 100000 in
theorem rq_of_trod2 (h : DataW.trod enc Tryz.prog w base spare held fuel 57 cs = some x) : ∃ x0 x1 x2 : Int, cs = [.int .i64 x0, .int .i64 x1, .int .i64 x2] ∧ I64 x0 := by
  obtain ⟨xs, n, _, _, hl, hn, hf⟩ := DataW.trod_struct Tryz.underlying57 h
  rw [show Tryz.prog.cellsOf 57 = 3 by kernel_rfl] at hl
  have e3 : Tryz.prog.cellsOf 3 = 1 := by kernel_rfl
  have f0 : DataW.trod enc Tryz.prog w base spare held n 3 ((cs.drop 0).take (Tryz.prog.cellsOf 3)) = xs[0]? := hf 0 _ rfl
  have f1 : DataW.trod enc Tryz.prog w base spare held n 3 ((cs.drop 1).take (Tryz.prog.cellsOf 3)) = xs[1]? := hf 1 _ rfl
  have f2 : DataW.trod enc Tryz.prog w base spare held n 3 ((cs.drop 2).take (Tryz.prog.cellsOf 3)) = xs[2]? := hf 2 _ rfl
  rw [e3] at f0 f1 f2
  match xs, hn, cs, hl with
  | [y0, y1, y2], _, [c0, c1, c2], _ =>
    obtain ⟨i0, e0, _, w0⟩ := DataW.trod_int Tryz.underlying3 f0
    obtain ⟨i1, e1, _, _⟩ := DataW.trod_int Tryz.underlying3 f1
    obtain ⟨i2, e2, _, _⟩ := DataW.trod_int Tryz.underlying3 f2
    simp at e0 e1 e2
    exact ⟨i0, i1, i2, by simp [e0, e1, e2], I64.of w0⟩
end
end Go.Proofs.YtocmngpoemfpkaaGreatDoor

namespace Go.Proofs.YtocmngpoemfpkaaGreatDoor
open Go.ChangeShapes Go.WideShapes Go.ChangeAt Go.RowKit
set_option linter.unusedVariables false
theorem own : ownKnob Tryz.prog.godebug = none := by kernel_rfl
theorem gKind : Tryz.prog.globalNamed "stillage/layout.kindWords" = some 0 := by kernel_rfl
theorem tKind : (Tryz.prog.globals[0]?).map (·.type) = some 293 := by kernel_rfl
theorem c9 : Tryz.prog.cellsOf 9 = 1 := by kernel_rfl
theorem kinds_of {W : World} (h : Lib.VarReads Tryz.prog W "stillage/layout.kindWords" Rows.laid_stillage_layout_kindWords) :
    W.cell? ⟨0, 0, none⟩ = some (.string (strU [116, 114, 97, 99, 107])) ∧ W.cell? ⟨0, 1, none⟩ = some (.string (strU [115, 108, 111, 116])) ∧ W.cell? ⟨0, 2, none⟩ = some (.string (strU [115, 116, 97, 116, 105, 111, 110])) ∧ W.cell? ⟨0, 3, none⟩ = some (.string (strU [103, 97, 116, 101])) := by
  obtain ⟨g, t, cs, fuel, p, hg, ht, hv, hd⟩ := h
  obtain rfl := Option.some.inj (gKind.symm.trans hg)
  obtain rfl := Option.some.inj (tKind.symm.trans ht)
  obtain ⟨xs, m, _, ex, _, hl, hel⟩ := DataW.trod_array Tryz.underlying293 hd
  have e3 : xs.map (·.1) = [.lit (.string [116, 114, 97, 99, 107]), .lit (.string [115, 108, 111, 116]), .lit (.string [115, 116, 97, 116, 105, 111, 110]), .lit (.string [103, 97, 116, 101])] := (DataW.agg.inj (Prod.mk.inj ex).1).symm
  have step : ∀ (r : Nat) (l : List UInt8), r < 4 → (xs.map (·.1))[r]? = some (DataW.lit (.string l)) → W.cell? ⟨0, r, none⟩ = some (.string (strU l)) := by
    intro r l hr he
    have hE := hel r hr
    rw [c9, Nat.mul_one, List.getElem?_eq_getElem (by omega)] at hE
    obtain ⟨s, e1, e2, _⟩ := DataW.trod_string Tryz.underlying9 hE
    rw [List.getElem?_map, List.getElem?_eq_getElem (by omega : r < xs.length), e2] at he
    simp only [Option.map_some, Option.some.injEq, DataW.lit.injEq, Lit.string.injEq] at he
    have hs : s = strU l := by rw [← he, strU_of]
    rw [World.var?_cell hg hv r, ← hs]
    have h0 : ((cs.toList.drop r).take 1)[0]? = some (.string s) := by rw [e1]; rfl
    simpa using h0
  exact ⟨step 0 _ (by omega) (by rw [e3]; rfl), step 1 _ (by omega) (by rw [e3]; rfl), step 2 _ (by omega) (by rw [e3]; rfl), step 3 _ (by omega) (by rw [e3]; rfl)⟩
theorem tabs_of {W : World} (h3 : Lib.VarReads Tryz.prog W "unicode/utf8.first" Rows.laid_unicode_utf8_first) (h4 : Lib.VarReads Tryz.prog W "unicode/utf8.acceptRanges" Rows.laid_unicode_utf8_acceptRanges) : Lib.Utf8Tabs 2 3 W := by
  have e3 : (Rows.laid_unicode_utf8_first : DataW Unit) = Lib.firstData := Pinned.utf8First_eq
  have e4 : (Rows.laid_unicode_utf8_acceptRanges : DataW Unit) = Lib.acceptData := by kernel_rfl
  rw [e3] at h3
  rw [e4] at h4
  exact utf8Tabs_of_reads (ρ := Tryz.lays197_ren) { Tryz.lays197 with } ⟨by kernel_rfl, by kernel_rfl, by kernel_rfl, by kernel_rfl, by kernel_rfl, by kernel_rfl, by kernel_rfl⟩ h3 h4
theorem max_of {W : World} (h : W.ShapedOpen Tryz.prog) : ∃ m, W.cell? ⟨1, 0, none⟩ = some (.int .i64 m) :=
  cell_of_shapedOpen_int (P := Tryz.prog) (g := 1) (t := 3) (zero := #[.int .i64 0]) (k := .i64) h (of_decide_eq_true (by kernel_rfl)) (by kernel_rfl) rfl (by kernel_rfl) (by kernel_rfl) Tryz.underlying3
theorem laid_of {W : World} {l : List (String × DataW Unit)} (h : laidMet Tryz.prog l W) (hsh : W.ShapedOpen Tryz.prog) (hk : ("stillage/layout.kindWords", Rows.laid_stillage_layout_kindWords) ∈ l) (h3 : ("unicode/utf8.first", Rows.laid_unicode_utf8_first) ∈ l) (h4 : ("unicode/utf8.acceptRanges", Rows.laid_unicode_utf8_acceptRanges) ∈ l) : Laid W := by
  obtain ⟨a, b, c, d⟩ := kinds_of (Lib.laidMet.reads h hk)
  exact ⟨a, b, c, d, max_of hsh, tabs_of (Lib.laidMet.reads h h3) (Lib.laidMet.reads h h4)⟩
end Go.Proofs.YtocmngpoemfpkaaGreatDoor
