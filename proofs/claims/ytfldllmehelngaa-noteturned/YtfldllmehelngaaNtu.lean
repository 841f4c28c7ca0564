/- The walk of NoteTurned. -/
import Derived.Test.YtfldllmehelngaaNag
import Derived.Test.YtfldllmehelngaaNtm
import Derived.RegionTactic
namespace Go.Proofs.Ytfldllmehelngaa.noteTurned
open Go.ChangeShapes Go.WideShapes Go.ChangeAt Go.RowKit
set_option linter.unusedVariables false

theorem at_is (x : Int) (L : Nat) (hL : 5 ≤ L) (hL2 : L ≤ 19) : ∃ X : Nat, 8 + wrap64 ((IntKind.u64.wrap x).tmod (8 * (L : Int) - 8)) = (X : Int) ∧ 8 ≤ X ∧ X < 8 * L := by
  have h0 : 0 ≤ IntKind.u64.wrap x := by simp [IntKind.wrap, IntKind.bits, IntKind.signed]; omega
  rw [Int.tmod_eq_emod_of_nonneg h0]
  generalize IntKind.u64.wrap x = b at h0
  have h1 := Int.emod_nonneg b (show 8 * (L : Int) - 8 ≠ 0 by omega)
  have h2 := Int.emod_lt_of_pos b (show 0 < 8 * (L : Int) - 8 by omega)
  obtain ⟨k, hk⟩ := Int.eq_ofNat_of_zero_le h1
  refine ⟨8 + k, ?_, by omega, by omega⟩
  rw [hk]
  unfold wrap64
  omega

/-- the cells of two boxes -/
theorem cells3 {w0 w : World} {l : List It} {g : Nat} {x0 x1 x2 : Int} (h : Its w0 (.box g #[.int .i64 x0, .int .i64 x1, .int .i64 x2] 45 :: l) w) : w.cell? ⟨g, 0, none⟩ = some (.int .i64 x0) ∧ w.cell? ⟨g, 1, none⟩ = some (.int .i64 x1) ∧ w.cell? ⟨g, 2, none⟩ = some (.int .i64 x2) := ⟨(cells_at h.one 0).1, (cells_at h.one 1).1, (cells_at h.one 2).1⟩
theorem cells4 {w0 w : World} {l : List It} {g : Nat} {k a b c : Int} (h : Its w0 (.box g #[.int .i64 k, .int .i64 a, .int .i64 b, .int .i64 c] 23 :: l) w) : w.cell? ⟨g, 0, none⟩ = some (.int .i64 k) ∧ w.cell? ⟨g, 1, none⟩ = some (.int .i64 a) ∧ w.cell? ⟨g, 2, none⟩ = some (.int .i64 b) ∧ w.cell? ⟨g, 3, none⟩ = some (.int .i64 c) := ⟨(cells_at h.one 0).1, (cells_at h.one 1).1, (cells_at h.one 2).1, (cells_at h.one 3).1⟩
/-- a byte of a row is written -/
theorem setRow {w0 w : World} {l : List It} {g cap n : Nat} {xs : List Int} (h : Its w0 (.row byE w0.heap.size (.slice (some ⟨g, 0, none⟩) n cap) xs :: l) w) (i : Nat) (z : Int) : Its w0 (.row byE w0.heap.size (.slice (some ⟨g, 0, none⟩) n cap) (xs.set i z) :: l) (w.setCell ⟨g, i, none⟩ (.int .u8 z)) := by
  refine h.chg (x' := .row byE w0.heap.size (.slice (some ⟨g, 0, none⟩) n cap) (xs.set i z)) (El.Own.set (Value.int .u8) (fun _ => rfl) rfl h.one i z) (fun k hk => .inl hk) ?_
  exact (Frm.set w g i _).mono (fun k _ hk => by subst hk; rfl)

theorem drop4 {w0 w : World} {x y z t : It} (h : Its w0 [x, y, z, t] w) : Its w0 [x, y, z] w := h.rot4.tail

set_option maxHeartbeats 4000000 in
theorem no (k a b c x0 x1 x2 : Int) (w : World) (h : (Nt.mk k a b c).ok = false) : Calls Try.prog 6 #[.agg #[.int .i64 k, .int .i64 a, .int .i64 b, .int .i64 c], .agg #[.int .i64 x0, .int .i64 x1, .int .i64 x2]] w fun e w' => e = .returned (.bool true) ∧ Below w.heap.size w w' := by
  have K10 := hide (fun W => encode_no k a b c W h)
  have K9 := hide awake_any
  have HI := hide (((Its.nil w).box1 #[.int .i64 k, .int .i64 a, .int .i64 b, .int .i64 c] 23).box1 #[.int .i64 x0, .int .i64 x1, .int .i64 x2] 45)
  rw [show (w.alloc (.cells #[.int .i64 k, .int .i64 a, .int .i64 b, .int .i64 c] 23)).heap.size = w.heap.size + 1 by simp] at HI
  clear h
  go_enter Try.func6, Try.ntmps6
  go_wp2_with (first | (go_at_call 9; refine (K9.out _).mono ?_; rintro e w1 ⟨rfl, hb1⟩; have HI := hide (HI.out.keep hb1); obtain ⟨p0, p1, p2, p3⟩ := cells4 HI.out.swap) | (go_at_call 10; refine (K10.out _).mono ?_; rintro e w2 ⟨rfl, hb2⟩))
  go_ret
  exact ⟨rfl, (HI.out.keep hb2).bel⟩

set_option maxHeartbeats 8000000 in
set_option maxRecDepth 100000 in
theorem yes (k a b c x0 x1 x2 : Int) (w : World) (h : (Nt.mk k a b c).ok = true) : Calls Try.prog 6 #[.agg #[.int .i64 k, .int .i64 a, .int .i64 b, .int .i64 c], .agg #[.int .i64 x0, .int .i64 x1, .int .i64 x2]] w fun e w' => e = .returned (.bool true) ∧ Below w.heap.size w w' := by
  have K10 := hide (fun W => encode_yes k a b c W h)
  have K9 := hide awake_any
  have HI := hide (((Its.nil w).box1 #[.int .i64 k, .int .i64 a, .int .i64 b, .int .i64 c] 23).box1 #[.int .i64 x0, .int .i64 x1, .int .i64 x2] 45)
  rw [show (w.alloc (.cells #[.int .i64 k, .int .i64 a, .int .i64 b, .int .i64 c] 23)).heap.size = w.heap.size + 1 by simp] at HI
  have h5 := bts_len5 h
  have Ht1 : Hid (∀ i : Nat, 8 ≤ i ∧ i < 8 * (Nt.mk k a b c).bts.length → Trn (Nt.mk k a b c).bts (turn (Nt.mk k a b c).bts i)) := hide (fun i hi => trn1 h hi)
  have Ht2 : Hid (∀ i j : Nat, 8 ≤ i ∧ i < 8 * (Nt.mk k a b c).bts.length → 8 ≤ j ∧ j < 8 * (Nt.mk k a b c).bts.length → Trn (Nt.mk k a b c).bts (turn (turn (Nt.mk k a b c).bts i) j)) := hide (fun i j hi hj => trn2 h hi hj)
  have Ht3 : Hid (∀ i j q : Nat, 8 ≤ i ∧ i < 8 * (Nt.mk k a b c).bts.length → 8 ≤ j ∧ j < 8 * (Nt.mk k a b c).bts.length → 8 ≤ q ∧ q < 8 * (Nt.mk k a b c).bts.length → Trn (Nt.mk k a b c).bts (turn (turn (turn (Nt.mk k a b c).bts i) j) q)) := hide (fun i j q hi hj hq => trn3 h hi hj hq)
  have Hin := hide (bts_in h)
  have Hfst : Hid (Fst (Nt.mk k a b c).bts ⟨k, a, b, c⟩) := hide ⟨h, [], by simp⟩
  go_enter Try.func6, Try.ntmps6
  go_upto_region 6 with (first | (go_at_call 9; refine (K9.out _).mono ?_; rintro e w1 ⟨rfl, hb1⟩; have HI := hide (HI.out.keep hb1); obtain ⟨p0, p1, p2, p3⟩ := cells4 HI.out.swap) | (go_at_call 10; refine (K10.out _).mono ?_; rintro e w2 ⟨v, rfl, hown, hb2⟩))
  have HI2 := hide (HI.out.row1 hown hb2)
  obtain ⟨gB, capB, rfl, hc1, hc2⟩ := El.Own.some hown (bts_pos _)
  obtain ⟨L, hL⟩ : ∃ L, (Nt.mk k a b c).bts.length = L := ⟨_, rfl⟩
  rw [hL] at HI2 Ht1 Ht2 Ht3 h5 hc1 ⊢
  have HL := hide hL
  generalize (Nt.mk k a b c).bts = l at *
  generalize w.heap.size + 1 = gA at *
  obtain ⟨L5, L19⟩ := h5
  have l1 : ¬ ((L : Int) < 5) := by omega
  have l2 : (L : Int) ≤ 19 := by omega
  have HI3 := hide (HI2.out.row1 (E := byE) (El.Own.new byE w2 w2.heap.size (Nat.le_refl _) #[] [] rfl (by simp) w2.heap.size 0 0 rfl rfl rfl) (below_new _ _))
  clear hown hb1 hb2 HI HI2 K9 K10 h hL p0 p1 p2 p3
  obtain ⟨X0, hX0, X0a, X0b⟩ := at_is x0 L L5 L19
  obtain ⟨X1, hX1, X1a, X1b⟩ := at_is x1 L L5 L19
  obtain ⟨X2, hX2, X2a, X2b⟩ := at_is x2 L L5 L19
  have HX0 := hide hX0
  have HX1 := hide hX1
  have HX2 := hide hX2
  have T1 := hide (Ht1.out X0 ⟨X0a, X0b⟩)
  have T2 := hide (Ht2.out X0 X1 ⟨X0a, X0b⟩ ⟨X1a, X1b⟩)
  have T3 := hide (Ht3.out X0 X1 X2 ⟨X0a, X0b⟩ ⟨X1a, X1b⟩ ⟨X2a, X2b⟩)
  clear hX0 hX1 hX2 Ht1 Ht2 Ht3
  have HX := hide (And.intro (And.intro X0a X0b) (And.intro (And.intro X1a X1b) (And.intro X2a X2b)))
  clear X0a X0b X1a X1b X2a X2b
  go_wp2_with (at_builtin; refine byE.wp HI3.out.bel (by rfl) _ _ rfl _ _ rfl rfl [] l HI3.out.one HI3.out.two.rd (by rw [HL.out]; simp; omega) ?_; intro v1 w3 ho1 hg1 hs1 hb3; have HI4 := hide (HI3.out.grow ho1 hg1 hs1); clear hg1 hs1 hb3 ho1; refine Hid.out ?_)
  refine hide ?_
  rw [List.nil_append] at HI4
  clear HI3
  obtain ⟨gC, capC, rfl, hcC, _⟩ := El.Own.some HI4.out.one (by intro e; have := HL.out; rw [e] at this; simp at this; omega)
  rw [HL.out] at HI4 hcC ⊢
  go_wp2_with fail
  go_loopw [28] (fun i wr => Hid ((i = .int .i64 0 ∧ Its w (.row byE w.heap.size (.slice (some ⟨gC, 0, none⟩) L capC) l :: .row byE w.heap.size (.slice (some ⟨gB, 0, none⟩) L capB) l :: [.box gA #[.int .i64 x0, .int .i64 x1, .int .i64 x2] 45]) wr) ∨ (i = .int .i64 1 ∧ Its w (.row byE w.heap.size (.slice (some ⟨gC, 0, none⟩) L capC) (turn l X0) :: .row byE w.heap.size (.slice (some ⟨gB, 0, none⟩) L capB) l :: [.box gA #[.int .i64 x0, .int .i64 x1, .int .i64 x2] 45]) wr) ∨ (i = .int .i64 2 ∧ Its w (.row byE w.heap.size (.slice (some ⟨gC, 0, none⟩) L capC) (turn (turn l X0) X1) :: .row byE w.heap.size (.slice (some ⟨gB, 0, none⟩) L capB) l :: [.box gA #[.int .i64 x0, .int .i64 x1, .int .i64 x2] 45]) wr) ∨ (i = .int .i64 3 ∧ Below w.heap.size w wr))) (fun i _ => 3 - (intOf i).toNat)
  case atStart => exact hide (.inl ⟨rfl, drop4 HI4.out⟩)
  case round =>
    have hr := hrel.out
    clear hrel HI4
    rcases hr with ⟨rfl, hI⟩ | ⟨rfl, hI⟩ | ⟨rfl, hI⟩ | ⟨rfl, hb⟩
    · have HI := hide hI
      clear hI
      obtain ⟨q0, q1, q2⟩ := cells3 HI.out.tail.tail
      have HCl : Hid (l.length = L) := hide (HL.out)
      obtain ⟨Xa, Xb⟩ := HX.out.1
      go_upto_region 13 with fail
      rw [HX0.out, show wrap64 (X0 : Int) = (X0 : Int) by unfold wrap64; omega]
      have d0 : (0 : Int) ≤ (X0 : Int) := by omega
      have d1 : (X0 : Int) ≤ 32000 := by omega
      have d2 : (X0 : Int) / 8 < (L : Int) := by omega
      obtain ⟨z, hz⟩ : ∃ z, l[X0 / 8]? = some z := ⟨_, List.getElem?_eq_getElem (by rw [HCl.out]; omega)⟩
      obtain ⟨hc, hfr⟩ := El.Own.at1 (Value.int .u8) (fun _ => rfl) rfl HI.out.one (X0 / 8) z hz
      have HIS := hide (setRow HI.out (X0 / 8) (tb z (X0 % 8)))
      have hturn : l.set (X0 / 8) (tb z (X0 % 8)) = (turn l X0) := by
        show _ = List.set _ _ _
        rw [hz]
        rfl
      rw [hturn] at HIS
      clear hturn hz
      go_region
      go_upto_region 14 with fail
      have HIN : Hid (Its w (.row byE w.heap.size (.slice (some ⟨gC, 0, none⟩) L capC) (turn l X0) :: .row byE w.heap.size (.slice (some ⟨gB, 0, none⟩) L capB) l :: [.box gA #[.int .i64 x0, .int .i64 x1, .int .i64 x2] 45]) (wr.setCell ⟨gC, X0 / 8, none⟩ (.int .u8 (bits .xor .u8 z (128 / 2 ^ (X0 % 8))))).drew) := hide (HIS.out.keep ⟨rfl, rfl, rfl, Nat.le_refl _, fun _ _ => rfl⟩)
      generalize (wr.setCell ⟨gC, X0 / 8, none⟩ (.int .u8 (bits .xor .u8 z (128 / 2 ^ (X0 % 8))))).drew = W4 at *
      clear HIS hc hfr HI q0 q1 q2
      have HinN := hide (turn_in Hin.out X0)
      have K13 := hide (decode_any (⟨HIN.out.one.rd, by rw [turn_length]; exact HL.out, hcC⟩ : Sl W4 (some ⟨gC, 0, none⟩) L capC (turn l X0)) HinN.out (by omega))
      have HT := hide T1.out
      generalize hcl : (turn l X0) = cl at *
      have Hcl := hide hcl
      clear hcl
      rcases HT.out with he | ⟨hne, hno⟩
      · have He := hide he
        clear he
        go_upto_region 15 with (go_at_call 13; refine K13.out.mono ?_; rintro e W5 ⟨dk, da, db, dc, s, cc, rfl, hdec, hb5⟩)
        have hd0 : cc = 0 := by
          rcases hdec with ⟨_, _, h0⟩ | ⟨h0, _⟩
          · exact h0
          · exact absurd (by rw [He.out]; exact Hfst.out) (h0 ⟨k, a, b, c⟩)
        subst hd0
        clear hdec
        have HI5 := hide ((HIN.out.keep hb5).alloc (.cells #[.int .i64 dk, .int .i64 da, .int .i64 db, .int .i64 dc] 23))
        generalize W5.alloc (.cells #[.int .i64 dk, .int .i64 da, .int .i64 db, .int .i64 dc] 23) = W6 at *
        have v1 := conv_str HI5.out.one.rd
        have v2 := conv_str HI5.out.two.rd
        have v3 := str_eq He.out
        clear K13 hb5 HIN
        go_wp2_with fail
        go_roundw
        case rel => exact hide (.inr (.inl ⟨rfl, by rw [Hcl.out]; exact HI5.out⟩))
        case measure => simp [intOf]
      · have Hne := hide hne
        have Hno := hide hno
        clear hne hno
        go_upto_region 15 with (go_at_call 13; refine K13.out.mono ?_; rintro e W5 ⟨dk, da, db, dc, s, cc, rfl, hdec, hb5⟩)
        have hd0 : cc = 180 := by
          rcases hdec with ⟨h0, _⟩ | ⟨_, _, _, h0⟩
          · exact absurd h0 (Hno.out _)
          · exact h0
        subst hd0
        clear hdec
        have HI5 := hide ((HIN.out.keep hb5).alloc (.cells #[.int .i64 dk, .int .i64 da, .int .i64 db, .int .i64 dc] 23))
        generalize W5.alloc (.cells #[.int .i64 dk, .int .i64 da, .int .i64 db, .int .i64 dc] 23) = W6 at *
        have v1 := conv_str HI5.out.one.rd
        have v2 := conv_str HI5.out.two.rd
        have v3 := str_ne HinN.out Hin.out Hne.out
        clear K13 hb5 HIN
        go_wp2_with fail
        go_roundw
        case rel => exact hide (.inr (.inl ⟨rfl, by rw [Hcl.out]; exact HI5.out⟩))
        case measure => simp [intOf]
    · have HI := hide hI
      clear hI
      obtain ⟨q0, q1, q2⟩ := cells3 HI.out.tail.tail
      have HCl : Hid ((turn l X0).length = L) := hide (by rw [turn_length]; exact HL.out)
      obtain ⟨Xa, Xb⟩ := HX.out.2.1
      go_upto_region 13 with fail
      rw [HX1.out, show wrap64 (X1 : Int) = (X1 : Int) by unfold wrap64; omega]
      have d0 : (0 : Int) ≤ (X1 : Int) := by omega
      have d1 : (X1 : Int) ≤ 32000 := by omega
      have d2 : (X1 : Int) / 8 < (L : Int) := by omega
      obtain ⟨z, hz⟩ : ∃ z, (turn l X0)[X1 / 8]? = some z := ⟨_, List.getElem?_eq_getElem (by rw [HCl.out]; omega)⟩
      obtain ⟨hc, hfr⟩ := El.Own.at1 (Value.int .u8) (fun _ => rfl) rfl HI.out.one (X1 / 8) z hz
      have HIS := hide (setRow HI.out (X1 / 8) (tb z (X1 % 8)))
      have hturn : (turn l X0).set (X1 / 8) (tb z (X1 % 8)) = (turn (turn l X0) X1) := by
        show _ = List.set _ _ _
        rw [hz]
        rfl
      rw [hturn] at HIS
      clear hturn hz
      go_region
      go_upto_region 14 with fail
      have HIN : Hid (Its w (.row byE w.heap.size (.slice (some ⟨gC, 0, none⟩) L capC) (turn (turn l X0) X1) :: .row byE w.heap.size (.slice (some ⟨gB, 0, none⟩) L capB) l :: [.box gA #[.int .i64 x0, .int .i64 x1, .int .i64 x2] 45]) (wr.setCell ⟨gC, X1 / 8, none⟩ (.int .u8 (bits .xor .u8 z (128 / 2 ^ (X1 % 8))))).drew) := hide (HIS.out.keep ⟨rfl, rfl, rfl, Nat.le_refl _, fun _ _ => rfl⟩)
      generalize (wr.setCell ⟨gC, X1 / 8, none⟩ (.int .u8 (bits .xor .u8 z (128 / 2 ^ (X1 % 8))))).drew = W4 at *
      clear HIS hc hfr HI q0 q1 q2
      have HinN := hide (turn_in (turn_in Hin.out X0) X1)
      have K13 := hide (decode_any (⟨HIN.out.one.rd, by rw [turn_length, turn_length]; exact HL.out, hcC⟩ : Sl W4 (some ⟨gC, 0, none⟩) L capC (turn (turn l X0) X1)) HinN.out (by omega))
      have HT := hide T2.out
      generalize hcl : (turn (turn l X0) X1) = cl at *
      have Hcl := hide hcl
      clear hcl
      rcases HT.out with he | ⟨hne, hno⟩
      · have He := hide he
        clear he
        go_upto_region 15 with (go_at_call 13; refine K13.out.mono ?_; rintro e W5 ⟨dk, da, db, dc, s, cc, rfl, hdec, hb5⟩)
        have hd0 : cc = 0 := by
          rcases hdec with ⟨_, _, h0⟩ | ⟨h0, _⟩
          · exact h0
          · exact absurd (by rw [He.out]; exact Hfst.out) (h0 ⟨k, a, b, c⟩)
        subst hd0
        clear hdec
        have HI5 := hide ((HIN.out.keep hb5).alloc (.cells #[.int .i64 dk, .int .i64 da, .int .i64 db, .int .i64 dc] 23))
        generalize W5.alloc (.cells #[.int .i64 dk, .int .i64 da, .int .i64 db, .int .i64 dc] 23) = W6 at *
        have v1 := conv_str HI5.out.one.rd
        have v2 := conv_str HI5.out.two.rd
        have v3 := str_eq He.out
        clear K13 hb5 HIN
        go_wp2_with fail
        go_roundw
        case rel => exact hide (.inr (.inr (.inl ⟨rfl, by rw [Hcl.out]; exact HI5.out⟩)))
        case measure => simp [intOf]
      · have Hne := hide hne
        have Hno := hide hno
        clear hne hno
        go_upto_region 15 with (go_at_call 13; refine K13.out.mono ?_; rintro e W5 ⟨dk, da, db, dc, s, cc, rfl, hdec, hb5⟩)
        have hd0 : cc = 180 := by
          rcases hdec with ⟨h0, _⟩ | ⟨_, _, _, h0⟩
          · exact absurd h0 (Hno.out _)
          · exact h0
        subst hd0
        clear hdec
        have HI5 := hide ((HIN.out.keep hb5).alloc (.cells #[.int .i64 dk, .int .i64 da, .int .i64 db, .int .i64 dc] 23))
        generalize W5.alloc (.cells #[.int .i64 dk, .int .i64 da, .int .i64 db, .int .i64 dc] 23) = W6 at *
        have v1 := conv_str HI5.out.one.rd
        have v2 := conv_str HI5.out.two.rd
        have v3 := str_ne HinN.out Hin.out Hne.out
        clear K13 hb5 HIN
        go_wp2_with fail
        go_roundw
        case rel => exact hide (.inr (.inr (.inl ⟨rfl, by rw [Hcl.out]; exact HI5.out⟩)))
        case measure => simp [intOf]
    · have HI := hide hI
      clear hI
      obtain ⟨q0, q1, q2⟩ := cells3 HI.out.tail.tail
      have HCl : Hid ((turn (turn l X0) X1).length = L) := hide (by rw [turn_length, turn_length]; exact HL.out)
      obtain ⟨Xa, Xb⟩ := HX.out.2.2
      go_upto_region 13 with fail
      rw [HX2.out, show wrap64 (X2 : Int) = (X2 : Int) by unfold wrap64; omega]
      have d0 : (0 : Int) ≤ (X2 : Int) := by omega
      have d1 : (X2 : Int) ≤ 32000 := by omega
      have d2 : (X2 : Int) / 8 < (L : Int) := by omega
      obtain ⟨z, hz⟩ : ∃ z, (turn (turn l X0) X1)[X2 / 8]? = some z := ⟨_, List.getElem?_eq_getElem (by rw [HCl.out]; omega)⟩
      obtain ⟨hc, hfr⟩ := El.Own.at1 (Value.int .u8) (fun _ => rfl) rfl HI.out.one (X2 / 8) z hz
      have HIS := hide (setRow HI.out (X2 / 8) (tb z (X2 % 8)))
      have hturn : (turn (turn l X0) X1).set (X2 / 8) (tb z (X2 % 8)) = (turn (turn (turn l X0) X1) X2) := by
        show _ = List.set _ _ _
        rw [hz]
        rfl
      rw [hturn] at HIS
      clear hturn hz
      go_region
      go_upto_region 14 with fail
      have HIN : Hid (Its w (.row byE w.heap.size (.slice (some ⟨gC, 0, none⟩) L capC) (turn (turn (turn l X0) X1) X2) :: .row byE w.heap.size (.slice (some ⟨gB, 0, none⟩) L capB) l :: [.box gA #[.int .i64 x0, .int .i64 x1, .int .i64 x2] 45]) (wr.setCell ⟨gC, X2 / 8, none⟩ (.int .u8 (bits .xor .u8 z (128 / 2 ^ (X2 % 8))))).drew) := hide (HIS.out.keep ⟨rfl, rfl, rfl, Nat.le_refl _, fun _ _ => rfl⟩)
      generalize (wr.setCell ⟨gC, X2 / 8, none⟩ (.int .u8 (bits .xor .u8 z (128 / 2 ^ (X2 % 8))))).drew = W4 at *
      clear HIS hc hfr HI q0 q1 q2
      have HinN := hide (turn_in (turn_in (turn_in Hin.out X0) X1) X2)
      have K13 := hide (decode_any (⟨HIN.out.one.rd, by rw [turn_length, turn_length, turn_length]; exact HL.out, hcC⟩ : Sl W4 (some ⟨gC, 0, none⟩) L capC (turn (turn (turn l X0) X1) X2)) HinN.out (by omega))
      have HT := hide T3.out
      generalize hcl : (turn (turn (turn l X0) X1) X2) = cl at *
      have Hcl := hide hcl
      clear hcl
      rcases HT.out with he | ⟨hne, hno⟩
      · have He := hide he
        clear he
        go_upto_region 15 with (go_at_call 13; refine K13.out.mono ?_; rintro e W5 ⟨dk, da, db, dc, s, cc, rfl, hdec, hb5⟩)
        have hd0 : cc = 0 := by
          rcases hdec with ⟨_, _, h0⟩ | ⟨h0, _⟩
          · exact h0
          · exact absurd (by rw [He.out]; exact Hfst.out) (h0 ⟨k, a, b, c⟩)
        subst hd0
        clear hdec
        have HI5 := hide ((HIN.out.keep hb5).alloc (.cells #[.int .i64 dk, .int .i64 da, .int .i64 db, .int .i64 dc] 23))
        generalize W5.alloc (.cells #[.int .i64 dk, .int .i64 da, .int .i64 db, .int .i64 dc] 23) = W6 at *
        have v1 := conv_str HI5.out.one.rd
        have v2 := conv_str HI5.out.two.rd
        have v3 := str_eq He.out
        clear K13 hb5 HIN
        go_wp2_with fail
        go_roundw
        case rel => exact hide (.inr (.inr (.inr ⟨rfl, HI5.out.bel⟩)))
        case measure => simp [intOf]
      · have Hne := hide hne
        have Hno := hide hno
        clear hne hno
        go_upto_region 15 with (go_at_call 13; refine K13.out.mono ?_; rintro e W5 ⟨dk, da, db, dc, s, cc, rfl, hdec, hb5⟩)
        have hd0 : cc = 180 := by
          rcases hdec with ⟨h0, _⟩ | ⟨_, _, _, h0⟩
          · exact absurd h0 (Hno.out _)
          · exact h0
        subst hd0
        clear hdec
        have HI5 := hide ((HIN.out.keep hb5).alloc (.cells #[.int .i64 dk, .int .i64 da, .int .i64 db, .int .i64 dc] 23))
        generalize W5.alloc (.cells #[.int .i64 dk, .int .i64 da, .int .i64 db, .int .i64 dc] 23) = W6 at *
        have v1 := conv_str HI5.out.one.rd
        have v2 := conv_str HI5.out.two.rd
        have v3 := str_ne HinN.out Hin.out Hne.out
        clear K13 hb5 HIN
        go_wp2_with fail
        go_roundw
        case rel => exact hide (.inr (.inr (.inr ⟨rfl, HI5.out.bel⟩)))
        case measure => simp [intOf]
    · go_wp2_with fail
      go_ret
      exact ⟨rfl, hb⟩

theorem walk (t0 : Nt) (x10 x11 x12 : Int) (w : World) : Calls Try.prog 6 #[.agg #[.int .i64 t0.kind, .int .i64 t0.a, .int .i64 t0.b, .int .i64 t0.c], .agg #[.int .i64 x10, .int .i64 x11, .int .i64 x12]] w fun e w' => e = .returned (.bool true) ∧ Below w.heap.size w w' := by
  obtain ⟨k, a, b, c⟩ := t0
  cases h : (Nt.mk k a b c).ok with
  | true => exact yes k a b c x10 x11 x12 w h
  | false => exact no k a b c x10 x11 x12 w h
end Go.Proofs.Ytfldllmehelngaa.noteTurned
