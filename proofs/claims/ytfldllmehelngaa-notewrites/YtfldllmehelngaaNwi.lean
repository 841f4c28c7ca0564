/- The walk of NoteWrites. -/
import Derived.Test.YtfldllmehelngaaNag
import Derived.Test.YtfldllmehelngaaNby
namespace Go.Proofs.Ytfldllmehelngaa.noteWrites
open Go.ChangeShapes Go.WideShapes Go.ChangeAt Go.RowKit
set_option linter.unusedVariables false

theorem cells4 {w0 w : World} {l : List It} {g : Nat} {x0 x1 x2 x3 : Value} (h : Its w0 (.box g #[x0, x1, x2, x3] 23 :: l) w) : w.cell? ⟨g, 0, none⟩ = some x0 ∧ w.cell? ⟨g, 1, none⟩ = some x1 ∧ w.cell? ⟨g, 2, none⟩ = some x2 ∧ w.cell? ⟨g, 3, none⟩ = some x3 := ⟨(cells_at h.one 0).1, (cells_at h.one 1).1, (cells_at h.one 2).1, (cells_at h.one 3).1⟩

set_option maxHeartbeats 2000000 in
theorem long (k a b c : Int) (aB : Option Addr) (n cB : Nat) (w : World) (hn : 5000 < n) : Calls Try.prog 3 #[.agg #[.int .i64 k, .int .i64 a, .int .i64 b, .int .i64 c], .slice aB n cB] w fun e w' => e = .returned (.bool true) ∧ Below w.heap.size w w' := by
  have K9 := hide awake_any
  have n1 : (5000 : Int) < (n : Int) := by omega
  have HB := hide (below_new w (.cells #[.int .i64 k, .int .i64 a, .int .i64 b, .int .i64 c] 23))
  go_enter Try.func3, Try.ntmps3
  go_wp2_with (go_at_call 9; refine (K9.out _).mono ?_; rintro e w1 ⟨rfl, hb1⟩; have HB := hide (HB.out.trans (hb1.mono HB.out.size)); clear hb1)
  go_ret
  exact ⟨rfl, HB.out⟩

set_option maxHeartbeats 2000000 in
theorem no (k a b c : Int) (aB : Option Addr) (n cB : Nat) (w : World) (hn : n ≤ 5000) (h : (Nt.mk k a b c).ok = false) : Calls Try.prog 3 #[.agg #[.int .i64 k, .int .i64 a, .int .i64 b, .int .i64 c], .slice aB n cB] w fun e w' => e = .returned (.bool true) ∧ Below w.heap.size w w' := by
  have K9 := hide awake_any
  have n1 : ¬ ((5000 : Int) < (n : Int)) := by omega
  have K10 := hide (fun W => encode_no k a b c W h)
  have k11 := good_any k a b c
  rw [h] at k11
  have K11 := hide k11
  have k12 := check_any k a b c
  rw [code_no h] at k12
  have K12 := hide k12
  have I := hide ((Its.nil w).box1 #[.int .i64 k, .int .i64 a, .int .i64 b, .int .i64 c] 23)
  clear k11 k12 h
  go_enter Try.func3, Try.ntmps3
  go_wp2_with (first
    | (go_at_call 9; refine (K9.out _).mono ?_; rintro e w1 ⟨rfl, hb1⟩; have I1 := hide (I.out.keep hb1); obtain ⟨p0, p1, p2, p3⟩ := cells4 I1.out)
    | (go_at_call 10; refine (K10.out _).mono ?_; rintro e w2 ⟨rfl, hb2⟩; have I2 := hide (I1.out.keep hb2); obtain ⟨q0, q1, q2, q3⟩ := cells4 I2.out)
    | (go_at_call 11; refine (K11.out _).mono ?_; rintro e w3 ⟨rfl, hb3⟩; have I3 := hide (I2.out.keep hb3); obtain ⟨r0, r1, r2, r3⟩ := cells4 I3.out)
    | (go_at_call 12; refine (K12.out _).mono ?_; rintro e w4 ⟨rfl, hb4⟩; have I4 := hide (I3.out.keep hb4)))
  go_ret
  exact ⟨rfl, I4.out.bel⟩

set_option maxHeartbeats 8000000 in
set_option maxRecDepth 100000 in
theorem yes (k a b c : Int) (aB : Option Addr) (n cB : Nat) (lb : List Int) (w : World) (hs : Sl w aB n cB lb) (hr : InB lb) (hn : n ≤ 5000) (h : (Nt.mk k a b c).ok = true) : Calls Try.prog 3 #[.agg #[.int .i64 k, .int .i64 a, .int .i64 b, .int .i64 c], .slice aB n cB] w fun e w' => e = .returned (.bool true) ∧ Below w.heap.size w w' := by
  have K9 := hide awake_any
  have n1 : ¬ ((5000 : Int) < (n : Int)) := by omega
  have K10 := hide (fun W => encode_yes k a b c W h)
  have K14 := hide (fun W => bytes_any k a b c W h)
  have k11 := good_any k a b c
  rw [h] at k11
  have K11 := hide k11
  have k12 := check_any k a b c
  rw [code_yes h] at k12
  have K12 := hide k12
  have I := hide ((Its.nil w).box1 #[.int .i64 k, .int .i64 a, .int .i64 b, .int .i64 c] 23)
  have Hs := hide hs
  have Hin : Hid (InB ((Nt.mk k a b c).bts ++ lb)) := hide ((bts_in h).append hr)
  have Hfst : Hid (Fst ((Nt.mk k a b c).bts ++ lb) ⟨k, a, b, c⟩) := hide ⟨h, lb, rfl⟩
  have Hl := hide hs.len
  have h5 := bts_len5 h
  clear k11 k12 h hs hr
  go_enter Try.func3, Try.ntmps3
  go_upto_region 6 with (first
    | (go_at_call 9; refine (K9.out _).mono ?_; rintro e w1 ⟨rfl, hb1⟩; have I1 := hide (I.out.keep hb1); obtain ⟨p0, p1, p2, p3⟩ := cells4 I1.out)
    | (go_at_call 10; refine (K10.out _).mono ?_; rintro e w2 ⟨v, rfl, ho2, hb2⟩; have I2 := hide (I1.out.keep hb2); obtain ⟨q0, q1, q2, q3⟩ := cells4 I2.out)
    | (go_at_call 11; refine (K11.out _).mono ?_; rintro e w3 ⟨rfl, hb3⟩))
  have I3 := hide ((I1.out.row1 ho2 hb2).keep hb3)
  obtain ⟨gB, capB, rfl, _, _⟩ := El.Own.some ho2 (bts_pos _)
  obtain ⟨L, hL⟩ : ∃ L, (Nt.mk k a b c).bts.length = L := ⟨_, rfl⟩
  rw [hL] at I3 h5 ⊢
  have HL := hide hL
  obtain ⟨L5, L19⟩ := h5
  generalize hbt : (Nt.mk k a b c).bts = bt at *
  have Hbt := hide hbt
  clear hbt
  clear p0 p1 p2 p3 q0 q1 q2 q3 hb1 hb2 hb3 ho2 I I1 I2 K9 K10 K11 hL
  have HLn : Hid ((bt ++ lb).length = L + n) := hide (by rw [List.length_append, HL.out, Hl.out])
  have I4 := hide (I3.out.row1 (E := byE) (El.Own.new byE w3 w3.heap.size (Nat.le_refl _) #[] [] rfl (by simp) w3.heap.size 0 0 rfl rfl rfl) (below_new _ _))
  clear I3
  go_upto_region 7 with (first
    | (go_at_call 13; refine K13.out.mono ?_; rintro e W6 ⟨mk, ma, mb, mc, s, ec, rfl, hdec, hb6⟩)
    | (at_builtin; refine byE.wp I5.out.bel (by rfl) _ _ rfl _ _ rfl rfl ([] ++ bt) lb I5.out.one (Hs.out.keep I5.out.bel).rd (by rw [List.nil_append, HL.out, Hl.out]; omega) ?_; intro v2 W5 ho5 hg5 hs5 hb5; have I6 := hide (I5.out.grow ho5 hg5 hs5); rw [List.nil_append] at I6; obtain ⟨aD, cD, eD, hsl⟩ := Sl.own I6.out.one; rw [HLn.out] at eD hsl; subst eD; have K13 := hide (decode_any hsl Hin.out (by omega)); clear ho5 hg5 hs5 hb5 hsl; refine Hid.out ?_; refine hide ?_)
    | (at_builtin; refine byE.wp I4.out.bel (by rfl) _ _ rfl _ _ rfl rfl [] bt I4.out.one I4.out.two.rd (by rw [HL.out]; simp; omega) ?_; intro v1 W4 ho4 hg4 hs4 hb4; have I5 := hide (I4.out.grow ho4 hg4 hs4); clear ho4 hg4 hs4 hb4; refine Hid.out ?_; refine hide ?_))
  rcases hdec with ⟨hf, rfl, rfl⟩ | ⟨hno, _⟩
  · have he := hf.uniq Hfst.out
    simp only [Nt.mk.injEq] at he
    obtain ⟨e1, e2, e3, e4⟩ := he
    have e1' := e1.symm
    have e2' := e2.symm
    have e3' := e3.symm
    have e4' := e4.symm
    subst e1' e2' e3' e4'
    rw [Hbt.out, HL.out]
    have I7 : Hid (Its w (.box W6.heap.size #[.int .i64 k, .int .i64 a, .int .i64 b, .int .i64 c] 23 :: .row byE w.heap.size (.slice (some ⟨gB, 0, none⟩) L capB) bt :: [.box w.heap.size #[.int .i64 k, .int .i64 a, .int .i64 b, .int .i64 c] 23]) (W6.alloc (.cells #[.int .i64 k, .int .i64 a, .int .i64 b, .int .i64 c] 23))) := hide ((I6.out.keep hb6).tail.box1 #[.int .i64 k, .int .i64 a, .int .i64 b, .int .i64 c] 23)
    generalize W6.alloc (.cells #[.int .i64 k, .int .i64 a, .int .i64 b, .int .i64 c] 23) = W7 at *
    generalize W6.heap.size = gM at *
    obtain ⟨gN, hgN⟩ : ∃ gN, w.heap.size = gN := ⟨_, rfl⟩
    have I8 : Hid (Its w (.box gM #[.int .i64 k, .int .i64 a, .int .i64 b, .int .i64 c] 23 :: .row byE w.heap.size (.slice (some ⟨gB, 0, none⟩) L capB) bt :: [.box gN #[.int .i64 k, .int .i64 a, .int .i64 b, .int .i64 c] 23]) W7) := hide (by rw [← hgN]; exact I7.out)
    rw [hgN]
    clear hgN I7 I6 I5 I4 hb6 hf K13 e1 e2 e3 e4
    obtain ⟨S0, hS0⟩ : ∃ Sx : World → Prop, Sx = fun W => Its w (.box gM #[.int .i64 k, .int .i64 a, .int .i64 b, .int .i64 c] 23 :: .row byE w.heap.size (.slice (some ⟨gB, 0, none⟩) L capB) bt :: [.box gN #[.int .i64 k, .int .i64 a, .int .i64 b, .int .i64 c] 23]) W := ⟨_, rfl⟩
    have SI : Hid (∀ W, Its w (.box gM #[.int .i64 k, .int .i64 a, .int .i64 b, .int .i64 c] 23 :: .row byE w.heap.size (.slice (some ⟨gB, 0, none⟩) L capB) bt :: [.box gN #[.int .i64 k, .int .i64 a, .int .i64 b, .int .i64 c] 23]) W → S0 W) := hide (fun W h => by rw [hS0]; exact h)
    have SO : Hid (∀ W, S0 W → Its w (.box gM #[.int .i64 k, .int .i64 a, .int .i64 b, .int .i64 c] 23 :: .row byE w.heap.size (.slice (some ⟨gB, 0, none⟩) L capB) bt :: [.box gN #[.int .i64 k, .int .i64 a, .int .i64 b, .int .i64 c] 23]) W) := hide (fun W h => by rw [hS0] at h; exact h)
    have SC : Hid (∀ W, S0 W → W.cell? ⟨gN, 0, none⟩ = some (.int .i64 k) ∧ W.cell? ⟨gN, 1, none⟩ = some (.int .i64 a) ∧ W.cell? ⟨gN, 2, none⟩ = some (.int .i64 b) ∧ W.cell? ⟨gN, 3, none⟩ = some (.int .i64 c) ∧ W.cell? ⟨gM, 0, none⟩ = some (.int .i64 k) ∧ W.cell? ⟨gM, 1, none⟩ = some (.int .i64 a) ∧ W.cell? ⟨gM, 2, none⟩ = some (.int .i64 b) ∧ W.cell? ⟨gM, 3, none⟩ = some (.int .i64 c)) := hide (fun W h => by
      have q := SO.out W h
      have x := cells4 q
      have y := cells4 q.tail.tail
      exact ⟨y.1, y.2.1, y.2.2.1, y.2.2.2, x.1, x.2.1, x.2.2.1, x.2.2.2⟩)
    have SV : Hid (∀ W, S0 W → (convert 24 9 (.slice (some ⟨gB, 0, none⟩) L capB)).run Try.prog W = .ok (.string (str bt)) W) := hide (fun W h => conv_str (SO.out W h).two.rd)
    have hSd := SI.out _ (I8.out.drew 1)
    clear hS0 I8
    refine wp_region_held_drew (S := S0) (by kernel_rfl) hSd (fun hS => ?_)
    refine wpAnyH_ready (rs := [0]) (by kernel_rfl) (by simp) ?_
    refine AllReadyH.cons rfl (fun K hK => ?_) AllReadyH.nil
    go_simp
    refine hK.out _ _ hS (fun _ => ?_)
    clear hK K
    refine wpAnyH_ready (rs := [1]) (by kernel_rfl) (by simp) ?_
    refine AllReadyH.cons rfl (fun K hK => ?_) AllReadyH.nil
    go_simp
    refine hK.out _ _ hS (fun _ => ?_)
    clear hK K
    refine wpAnyH_ready (rs := [2]) (by kernel_rfl) (by simp) ?_
    refine AllReadyH.cons rfl (fun K hK => ?_) AllReadyH.nil
    go_simp
    refine hK.out _ _ hS (fun _ => ?_)
    clear hK K
    refine wpAnyH_take (i := 3) (v := .agg #[.int .i64 k, .int .i64 a, .int .i64 b, .int .i64 c]) rfl (by kernel_rfl) (by kernel_rfl) (by kernel_rfl) (fun _ _ _ h => h) (Or.inl ⟨by kernel_rfl, fun W' hW => by have ⟨n0, n1, n2, n3, m0, m1, m2, m3⟩ := SC.out W' hW; go_simp⟩) hS ?_
    refine wpAnyH_ready (rs := [4]) (by kernel_rfl) (by simp) ?_
    refine AllReadyH.cons rfl (fun K hK => ?_) AllReadyH.nil
    go_simp
    go_at_call 12
    refine (K12.out _).mono ?_
    rintro e1 W11 ⟨rfl, hb11⟩
    have s11 := SI.out _ ((SO.out _ hS).keep hb11)
    clear hb11
    go_simp
    refine hK.out _ _ s11 (fun _ => ?_)
    clear hK K
    refine wpAnyH_ready (rs := [5]) (by kernel_rfl) (by simp) ?_
    refine AllReadyH.cons rfl (fun K hK => ?_) AllReadyH.nil
    go_simp
    refine hK.out _ _ s11 (fun _ => ?_)
    clear hK K
    refine wpAnyH_ready (rs := [6]) (by kernel_rfl) (by simp) ?_
    refine AllReadyH.cons rfl (fun K hK => ?_) AllReadyH.nil
    go_simp
    refine hK.out _ _ s11 (fun _ => ?_)
    clear hK K
    refine wpAnyH_ready (rs := [7]) (by kernel_rfl) (by simp) ?_
    refine AllReadyH.cons rfl (fun K hK => ?_) AllReadyH.nil
    go_simp
    refine hK.out _ _ s11 (fun _ => ?_)
    clear hK K
    refine wpAnyH_take (i := 8) (v := .slice (some ⟨gB, 0, none⟩) L capB) rfl (by kernel_rfl) (by kernel_rfl) (by kernel_rfl) (fun _ _ _ h => h) (Or.inl ⟨by kernel_rfl, fun W' hW => by go_simp⟩) s11 ?_
    refine wpAnyH_take (i := 9) (v := .string (str bt)) rfl (by kernel_rfl) (by kernel_rfl) (by kernel_rfl) (fun _ _ _ h => h) (Or.inl ⟨by kernel_rfl, fun W' hW => by have v1 := SV.out W' hW; go_simp⟩) s11 ?_
    refine wpAnyH_take (i := 10) (v := .agg #[.int .i64 k, .int .i64 a, .int .i64 b, .int .i64 c]) rfl (by kernel_rfl) (by kernel_rfl) (by kernel_rfl) (fun _ _ _ h => h) (Or.inl ⟨by kernel_rfl, fun W' hW => by have ⟨n0, n1, n2, n3, m0, m1, m2, m3⟩ := SC.out W' hW; go_simp⟩) s11 ?_
    refine wpAnyH_ready (rs := [11]) (by kernel_rfl) (by simp) ?_
    refine AllReadyH.cons rfl (fun K hK => ?_) AllReadyH.nil
    go_simp
    go_at_call 14
    refine (K14.out _).mono ?_
    rintro e1 W12 ⟨vC, rfl, hoC, hb12⟩
    have s12 := SI.out _ ((SO.out _ s11).keep hb12)
    have vcv := conv_str hoC.rd
    clear hb12 hoC
    go_simp
    refine hK.out _ _ s12 (fun _ => ?_)
    clear hK K
    refine wpAnyH_ready (rs := [12]) (by kernel_rfl) (by simp) ?_
    refine AllReadyH.cons rfl (fun K hK => ?_) AllReadyH.nil
    go_simp
    refine hK.out _ _ s12 (fun _ => ?_)
    clear hK K
    refine wpAnyH_ready (rs := [13]) (by kernel_rfl) (by simp) ?_
    refine AllReadyH.cons rfl (fun K hK => ?_) AllReadyH.nil
    go_simp
    refine hK.out _ _ s12 (fun _ => ?_)
    clear hK K
    refine wpAnyH_ready (rs := [14]) (by kernel_rfl) (by simp) ?_
    refine AllReadyH.cons rfl (fun K hK => ?_) AllReadyH.nil
    go_simp
    refine hK.out _ _ s12 (fun _ => ?_)
    clear hK K
    refine wpAnyH_ready (rs := [15]) (by kernel_rfl) (by simp) ?_
    refine AllReadyH.cons rfl (fun K hK => ?_) AllReadyH.nil
    go_simp
    refine hK.out _ _ s12 (fun _ => ?_)
    clear hK K
    refine wpAnyH_ready (rs := [16]) (by kernel_rfl) (by simp) ?_
    refine AllReadyH.cons rfl (fun K hK => ?_) AllReadyH.nil
    go_simp
    refine hK.out _ _ s12 (fun _ => ?_)
    clear hK K
    refine wpAnyH_ready (rs := [17]) (by kernel_rfl) (by simp) ?_
    refine AllReadyH.cons rfl (fun K hK => ?_) AllReadyH.nil
    go_simp
    refine hK.out _ _ s12 (fun _ => ?_)
    clear hK K
    refine wpAnyH_ready (rs := [18]) (by kernel_rfl) (by simp) ?_
    refine AllReadyH.cons rfl (fun K hK => ?_) AllReadyH.nil
    go_simp
    refine hK.out _ _ s12 (fun _ => ?_)
    clear hK K
    refine wpAnyH_ready (rs := [19]) (by kernel_rfl) (by simp) ?_
    refine AllReadyH.cons rfl (fun K hK => ?_) AllReadyH.nil
    go_simp
    refine hK.out _ _ s12 (fun _ => ?_)
    clear hK K
    refine wpAnyH_take (i := 20) (v := .agg #[.int .i64 k, .int .i64 a, .int .i64 b, .int .i64 c]) rfl (by kernel_rfl) (by kernel_rfl) (by kernel_rfl) (fun _ _ _ h => h) (Or.inl ⟨by kernel_rfl, fun W' hW => by have ⟨n0, n1, n2, n3, m0, m1, m2, m3⟩ := SC.out W' hW; go_simp⟩) s12 ?_
    refine wpAnyH_take (i := 21) (v := .agg #[.int .i64 k, .int .i64 a, .int .i64 b, .int .i64 c]) rfl (by kernel_rfl) (by kernel_rfl) (by kernel_rfl) (fun _ _ _ h => h) (Or.inl ⟨by kernel_rfl, fun W' hW => by have ⟨n0, n1, n2, n3, m0, m1, m2, m3⟩ := SC.out W' hW; go_simp⟩) s12 ?_
    refine wpAnyH_ready (rs := [22]) (by kernel_rfl) (by simp) ?_
    refine AllReadyH.cons rfl (fun K hK => ?_) AllReadyH.nil
    go_simp
    refine hK.out _ _ s12 (fun _ => ?_)
    clear hK K
    refine wpAnyH_ready (rs := [23]) (by kernel_rfl) (by simp) ?_
    refine AllReadyH.cons rfl (fun K hK => ?_) AllReadyH.nil
    go_simp
    refine hK.out _ _ s12 (fun _ => ?_)
    clear hK K
    refine wpAnyH_ready (rs := [24]) (by kernel_rfl) (by simp) ?_
    refine AllReadyH.cons rfl (fun K hK => ?_) AllReadyH.nil
    go_simp
    refine hK.out _ _ s12 (fun _ => ?_)
    clear hK K
    refine wpAnyH_take (i := 25) (v := .int .i64 (L : Int)) rfl (by kernel_rfl) (by kernel_rfl) (by kernel_rfl) (fun _ _ _ h => h) (Or.inl ⟨by kernel_rfl, fun W' hW => by go_simp⟩) s12 ?_
    refine wpAnyH_ready (rs := [26]) (by kernel_rfl) (by simp) ?_
    refine AllReadyH.cons rfl (fun K hK => ?_) AllReadyH.nil
    go_simp
    refine hK.out _ _ s12 (fun _ => ?_)
    clear hK K
    refine wpAnyH_ready (rs := [27]) (by kernel_rfl) (by simp) ?_
    refine AllReadyH.cons rfl (fun K hK => ?_) AllReadyH.nil
    go_simp
    refine hK.out _ _ s12 (fun _ => ?_)
    clear hK K
    refine wpAnyH_ready (rs := [28]) (by kernel_rfl) (by simp) ?_
    refine AllReadyH.cons rfl (fun K hK => ?_) AllReadyH.nil
    go_simp
    refine hK.out _ _ s12 (fun _ => ?_)
    clear hK K
    refine wpAnyH_ready (rs := [29]) (by kernel_rfl) (by simp) ?_
    refine AllReadyH.cons rfl (fun K hK => ?_) AllReadyH.nil
    go_simp
    refine hK.out _ _ s12 (fun _ => ?_)
    clear hK K
    refine wpAnyH_ready (rs := [30]) (by kernel_rfl) (by simp) ?_
    refine AllReadyH.cons rfl (fun K hK => ?_) AllReadyH.nil
    go_simp
    refine hK.out _ _ s12 (fun _ => ?_)
    clear hK K
    refine wpAnyH_done (by kernel_rfl) ?_ _
    go_wp2_with fail
    go_ret
    exact ⟨rfl, (SO.out _ s12).bel⟩
  · exact absurd Hfst.out (hno _)

theorem walk (t0 : Nt) (a1 : Option Addr) (len1 cap1 : Nat) (z1 : List Int) (w : World) (h0 : IsRow .u8 w a1 len1 cap1 z1) (h1 : cap1 * Try.prog.bytesOf 5 ≤ 140737488351232) : Calls Try.prog 3 #[.agg #[.int .i64 t0.kind, .int .i64 t0.a, .int .i64 t0.b, .int .i64 t0.c], .slice a1 len1 cap1] w fun e w' => e = .returned (.bool true) ∧ Below w.heap.size w w' := by
  obtain ⟨k, a, b, c⟩ := t0
  obtain ⟨l, hs, hr⟩ := sl_of_row h0
  rcases Nat.lt_or_ge 5000 len1 with q | q
  · exact long k a b c a1 len1 cap1 w q
  · cases h : (Nt.mk k a b c).ok with
    | true => exact yes k a b c a1 len1 cap1 l w hs hr q h
    | false => exact no k a b c a1 len1 cap1 w q h
end Go.Proofs.Ytfldllmehelngaa.noteWrites
