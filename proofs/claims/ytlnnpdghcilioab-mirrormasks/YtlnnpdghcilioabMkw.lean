/- The walk of MirrorMasks. -/
import Derived.Test.YtlnnpdghcilioabMag
import Derived.Test.YtlnnpdghcilioabMmm
import Derived.Deep.CutBlock
namespace Go.Proofs.Ytlnnpdghcilioab
open Go.RowKit
set_option linter.unusedVariables false
theorem few200 (x : Int) (m : Nat) (hm : 1 ≤ m ∧ m ≤ 200) : ∃ k : Nat, wrap64 ((IntKind.u64.wrap x).tmod (m : Int)) = (k : Int) ∧ k < m := by
  have h0 : 0 ≤ IntKind.u64.wrap x := by simp [IntKind.wrap, IntKind.bits, IntKind.signed]; omega
  have e : (IntKind.u64.wrap x).tmod m = IntKind.u64.wrap x % m := Int.tmod_eq_emod_of_nonneg h0
  rw [e]
  generalize IntKind.u64.wrap x = b at h0
  have h1 := Int.emod_nonneg b (show (m : Int) ≠ 0 by omega)
  have h2 := Int.emod_lt_of_pos b (show 0 < (m : Int) by omega)
  obtain ⟨k, hk⟩ := Int.eq_ofNat_of_zero_le h1
  refine ⟨k, ?_, by omega⟩
  rw [hk]
  unfold wrap64
  omega

set_option maxRecDepth 100000 in
set_option maxHeartbeats 8000000 in
theorem masks_any (a b : Option Addr) (c e n m : Nat) (ns : List Nd) (es : List Ed) (an : Option Addr) (ln cn : Nat) (zn : List Nt) (dv : Int) (w : World) (L : Lyt w a b c e n m ns es) (hln : zn.length = ln) (hn : ntE.Rd w (.slice an ln cn) zn) :
    Calls Try.prog 3 #[.agg #[.slice a n c, .slice b m e], .slice an ln cn, .int .i64 dv] w fun e w' => e = .returned (.bool true) ∧ Below w.heap.size w w' := by
  have I1 : Hid (Its w [.box w.heap.size #[.slice a n c, .slice b m e] 25] (w.alloc (.cells #[.slice a n c, .slice b m e] 25))) := hide ((Its.nil w).box1 #[.slice a n c, .slice b m e] 25)
  have XL : Hid (∀ W, Its w [.box w.heap.size #[.slice a n c, .slice b m e] 25] W → W.cell? ⟨w.heap.size, 0, none⟩ = some (.slice a n c) ∧ W.cell? ⟨w.heap.size, 1, none⟩ = some (.slice b m e)) := hide (fun W h => h.lbox1)
  obtain ⟨u0, u1⟩ := XL.out _ I1.out
  have HL := hide L
  have Hln := hide hln
  have Hn := hide hn
  clear hln hn
  by_cases hfew : n ≤ 60 ∧ m ≤ 200
  case neg =>
    have hd : decide (n ≤ 60 ∧ m ≤ 200) = false := decide_eq_false hfew
    clear L hfew
    go_enter Try.func3, Try.ntmps3
    go_wp2_with (first
      | (go_at_call 4; refine (awake_any _).mono ?_; rintro e1 W4 ⟨rfl, q⟩; have I4 := hide (I3.out.keep q); clear q)
      | (go_at_call 5; refine few_any.mono ?_; rintro e1 W3 ⟨rfl, q⟩; have I3 := hide (I2.out.keep q); clear q; obtain ⟨y0, y1⟩ := XL.out _ I3.out)
      | (go_at_call 4; refine (awake_any _).mono ?_; rintro e1 W2 ⟨rfl, q⟩; have I2 := hide (I1.out.keep q); clear q; obtain ⟨u0, u1⟩ := XL.out _ I2.out))
    go_ret
    exact ⟨rfl, I4.out.bel⟩
  case pos =>
  have hd : decide (n ≤ 60 ∧ m ≤ 200) = true := decide_eq_true hfew
  clear hfew
  cases hg : good ns es with
  | false =>
    have KN : Hid (∀ W, Its w [.box w.heap.size #[.slice a n c, .slice b m e] 25] W → Calls Try.prog 6 #[.agg #[.slice a n c, .slice b m e]] W fun e w' => e = .returned (.tuple #[.pointer none, .int .i64 61]) ∧ Below W.heap.size W w') := hide (fun W h => new_no (h.keepL L) hg)
    clear L hg
    go_enter Try.func3, Try.ntmps3
    go_wp2_with (first
      | (go_at_call 6; refine (KN.out _ I3.out).mono ?_; rintro e1 W5 ⟨rfl, q⟩; have I5 := hide (I3.out.keep q); clear q)
      | (go_at_call 5; refine few_any.mono ?_; rintro e1 W3 ⟨rfl, q⟩; have I3 := hide (I2.out.keep q); clear q; obtain ⟨y0, y1⟩ := XL.out _ I3.out)
      | (go_at_call 4; refine (awake_any _).mono ?_; rintro e1 W2 ⟨rfl, q⟩; have I2 := hide (I1.out.keep q); clear q; obtain ⟨u0, u1⟩ := XL.out _ I2.out))
    go_ret
    exact ⟨rfl, I5.out.bel⟩
  | true =>
  have KN : Hid (∀ W, Its w [.box w.heap.size #[.slice a n c, .slice b m e] 25] W → Calls Try.prog 6 #[.agg #[.slice a n c, .slice b m e]] W fun e w' => NewP W n m es e w') := hide (fun W h => new_ok (h.keepL L) hg)
  obtain ⟨g1, g2, g3⟩ := good_he hg
  rw [L.hn] at g1
  rw [L.hm] at g2
  have i0 : (m : Int) ≤ 120 := by omega
  clear L hg g1 g3
  by_cases hm0 : m = 0
  · have zz : ((m : Int) == 0) = true := by rw [hm0]; rfl
    clear hm0
    go_enter Try.func3, Try.ntmps3
    go_wp2_with (first
      | (go_at_call 6; refine (KN.out _ I3.out).mono ?_; rintro e1 W5 ⟨g, H, rfl, q⟩; have I5 := hide (I3.out.addm q); clear q; obtain ⟨z0, z1⟩ := XL.out _ I5.out.tail)
      | (go_at_call 5; refine few_any.mono ?_; rintro e1 W3 ⟨rfl, q⟩; have I3 := hide (I2.out.keep q); clear q; obtain ⟨y0, y1⟩ := XL.out _ I3.out)
      | (go_at_call 4; refine (awake_any _).mono ?_; rintro e1 W2 ⟨rfl, q⟩; have I2 := hide (I1.out.keep q); clear q; obtain ⟨u0, u1⟩ := XL.out _ I2.out))
    go_ret
    exact ⟨rfl, I5.out.bel⟩
  obtain ⟨k, hk, hkm⟩ := few200 dv m (by omega)
  have hm1 : ¬ ((m : Int) = 0) := by omega
  have hm2 : ((m : Int) == 0) = false := beq_eq_false_iff_ne.2 hm1
  have hm3 : IntKind.u64.wrap (m : Int) = (m : Int) := by simp [IntKind.wrap, IntKind.bits, IntKind.signed]; omega
  have hm4 : ¬ (m = 0) := hm0
  have hk2 : wrap64 ((k : Int) + 1) = (k : Int) + 1 := by unfold wrap64; omega
  clear g2
  go_enter Try.func3, Try.ntmps3
  go_upto_block 0 with (first
    | (go_at_call 6; refine (KN.out _ I3.out).mono ?_; rintro e1 W5 ⟨g, H, rfl, q⟩; have I5 := hide (I3.out.addm q); clear q; obtain ⟨z0, z1⟩ := XL.out _ I5.out.tail)
    | (go_at_call 5; refine few_any.mono ?_; rintro e1 W3 ⟨rfl, q⟩; have I3 := hide (I2.out.keep q); clear q; obtain ⟨y0, y1⟩ := XL.out _ I3.out)
    | (go_at_call 4; refine (awake_any _).mono ?_; rintro e1 W2 ⟨rfl, q⟩; have I2 := hide (I1.out.keep q); clear q; obtain ⟨u0, u1⟩ := XL.out _ I2.out))
  clear KN I1 I2 I3 y0 y1 u0 u1 hk hk2 hm1 hm2 hm3 hm4 hd
  generalize Mr.nw n es = S9 at *
  go_cut [9] (fun v9 wx => ∃ S : Mr, Hid (Its w (.mir w.heap.size g H n m es S :: [.box w.heap.size #[.slice a n c, .slice b m e] 25]) wx))
  case first =>
    go_wp2_with fail
    go_loopw [9] (fun v9 wr => ∃ (i : Nat) (S : Mr), v9 = .int .i64 i ∧ i ≤ 100 ∧ Hid (Its w (.mir w.heap.size g H n m es S :: [.box w.heap.size #[.slice a n c, .slice b m e] 25]) wr)) (fun v9 _ => 100 - (intOf v9).toNat)
    case atStart => exact ⟨0, S9, rfl, by omega, I5⟩
    case round =>
      obtain ⟨i, S, rfl, hi, HR⟩ := hrel
      by_cases hil : i < ln
      case neg =>
        have q1 : ¬ (i : Int) < (ln : Int) := by omega
        go_wp2_with fail
        go_meet
        exact ⟨S, HR⟩
      case pos =>
      have q1 : (i : Int) < (ln : Int) := by omega
      by_cases hi5 : i < 100
      case neg =>
        have q2 : ¬ (i : Int) < 100 := by omega
        go_wp2_with fail
        go_meet
        exact ⟨S, HR⟩
      case pos =>
      have q2 : (i : Int) < 100 := by omega
      have q0 : (0 : Int) ≤ (i : Int) := by omega
      obtain ⟨p, hp⟩ : ∃ p, zn[i]? = some p := ⟨_, List.getElem?_eq_getElem (by rw [Hln.out]; exact hil)⟩
      obtain ⟨b0, o0, rfl, n0, n1, n2, n3⟩ := nt_at (Hn.out.keep HR.out.bel) i p hp
      have KA := hide (applyS HR.out p)
      clear hp
      go_wp2_with (go_at_call 7; refine KA.out.mono ?_; rintro e1 W7 ⟨rfl, q⟩; have I7 := hide q; clear q)
      go_roundw
      case rel => exact ⟨i + 1, _, by go_num, by omega, I7⟩
      case measure => simp [intOf]; omega
  case rest =>
  obtain ⟨S0, HR⟩ := hcut
  clear Hln Hn I5
  obtain ⟨wA, rfl⟩ : ∃ W, W = wc := ⟨_, rfl⟩
  have hlen := (mr_len HR.out.one).2.1
  have hD0 : S0.isD ((k : Int) + 1) = true := Mr.isD_iff.2 (by rw [hlen]; omega)
  have Hok0 := hide (mr_ok HR.out.one)
  obtain ⟨m1, m2⟩ := mk1 hD0 true
  obtain ⟨S1, hS1⟩ : ∃ S1, S0.setD ((k : Int) + 1) { S0.dev ((k : Int) + 1) with dn := true } = S1 := ⟨_, rfl⟩
  rw [hS1] at m2
  have hD1 : S1.isD ((k : Int) + 1) = true := by rw [← hS1, isD_setD]; exact hD0
  have hdev1 : S1.dev ((k : Int) + 1) = { S0.dev ((k : Int) + 1) with dn := true } := by rw [← hS1, dev_setD hD0 hD0, if_pos rfl]
  have htt1 : (S1.dev ((k : Int) + 1)).tt = (S0.dev ((k : Int) + 1)).tt := by rw [hdev1]
  have hen1 : (S1.dev ((k : Int) + 1)).en = (S0.dev ((k : Int) + 1)).en := by rw [hdev1]
  have m3 := mk2 hD1 (by rw [hdev1])
  have m4 : S1.told ((k : Int) + 1) = S0.told ((k : Int) + 1) := by rw [← hS1]; exact mk3 hD0 true
  have ok1 : S1.Ok n es := by have := Hok0.out.msk ((k : Int) + 1) true; rwa [m2] at this
  have hed := Hok0.out.edge hD0
  rw [show ((k : Int) + 1 - 1).toNat = k by omega] at hed
  have HEd := hide hed
  have HM : Hid ((S0.dev ((k : Int) + 1)).tt ≠ 0 → (S1.mov ((k : Int) + 1) (S0.dev ((k : Int) + 1)).tt).1 = 0 ∧ (S1.mov ((k : Int) + 1) (S0.dev ((k : Int) + 1)).tt).2.whr (S0.dev ((k : Int) + 1)).tt = (S0.dev ((k : Int) + 1)).en ∧ (S1.mov ((k : Int) + 1) (S0.dev ((k : Int) + 1)).tt).2.down = S1.down ∧ (S1.mov ((k : Int) + 1) (S0.dev ((k : Int) + 1)).tt).2.isD ((k : Int) + 1) = true) := hide (fun h => by
    have := mk4 ok1 hD1 (by rw [htt1]; exact h)
    rw [htt1, hen1] at this
    exact this)
  have H5 : Hid ((k : Int) + 1 ∈ S1.down) := hide (by rw [← hS1]; exact mk5 hD0)
  have H6 : Hid (∀ U : Mr, U.isD ((k : Int) + 1) = true → U.down = S1.down → U.ds.length = m → (U.msk ((k : Int) + 1) false).1 = 0 ∧ (U.msk ((k : Int) + 1) false).2.down = S0.down.filter (fun x => decide (x ≠ (k : Int) + 1))) := hide (fun U hU h1 h2 => by
    obtain ⟨p1, p2⟩ := mk1 hU false
    refine ⟨p1, ?_⟩
    rw [p2]
    exact mk6 hD0 hU (by rw [hS1]; exact h1) (by rw [h2, hlen]))
  have HT : Hid (((S0.dev ((k : Int) + 1)).tt = 0 ∧ S0.told ((k : Int) + 1) = (0, 0, false)) ∨ ((S0.dev ((k : Int) + 1)).tt ≠ 0 ∧ S0.told ((k : Int) + 1) = ((S0.dev ((k : Int) + 1)).tt, (S0.dev ((k : Int) + 1)).sq, true))) := hide (by
    by_cases z : (S0.dev ((k : Int) + 1)).tt = 0
    · exact .inl ⟨z, by unfold Mr.told; rw [if_neg (by rw [z]; simp)]⟩
    · exact .inr ⟨z, by unfold Mr.told; rw [if_pos ⟨hD0, z⟩]⟩)
  have HD1 := hide hD1
  clear hed hdev1 ok1 hlen hD1 htt1 hen1 hS1
  generalize (S0.dev ((k : Int) + 1)).tt = tt at *
  generalize (S0.dev ((k : Int) + 1)).en = en at *
  generalize (S0.dev ((k : Int) + 1)).fr = fr at *
  generalize (S0.dev ((k : Int) + 1)).sq = sq at *
  obtain ⟨⟨t0, s0, y0⟩, hT0⟩ : ∃ T, S0.told ((k : Int) + 1) = T := ⟨_, rfl⟩
  rw [hT0] at m4 HT
  have HK1 : Hid (∀ (W : World) (l : List It), Its w (.mir w.heap.size g H n m es S0 :: l) W → Calls Try.prog 9 #[.pointer (some ⟨g, 0, none⟩), .int .i64 ((k : Int) + 1)] W fun e w' => e = .returned (.tuple #[.int .i64 t0, .int .i64 s0, .bool y0]) ∧ Its w (.mir w.heap.size g H n m es S0 :: l) w') := hide (fun W l h => by have := toldS h ((k : Int) + 1); rwa [hT0] at this)
  have HK2 : Hid (∀ (W : World) (l : List It), Its w (.mir w.heap.size g H n m es S1 :: l) W → Calls Try.prog 9 #[.pointer (some ⟨g, 0, none⟩), .int .i64 ((k : Int) + 1)] W fun e w' => e = .returned (.tuple #[.int .i64 t0, .int .i64 s0, .bool y0]) ∧ Its w (.mir w.heap.size g H n m es S1 :: l) w') := hide (fun W l h => by have := toldS h ((k : Int) + 1); rwa [m4] at this)
  have HK3 : Hid (∀ (W : World) (l : List It), Its w (.mir w.heap.size g H n m es S0 :: l) W → Calls Try.prog 10 #[.pointer (some ⟨g, 0, none⟩), .int .i64 ((k : Int) + 1), .bool true] W fun e w' => e = .returned (.int .i64 0) ∧ Its w (.mir w.heap.size g H n m es S1 :: l) w') := hide (fun W l h => by have := maskS h ((k : Int) + 1) true; rwa [m1, m2] at this)
  have HK4 : Hid (∀ (W : World) (l : List It), Its w (.mir w.heap.size g H n m es S1 :: l) W → Calls Try.prog 11 #[.pointer (some ⟨g, 0, none⟩), .int .i64 ((k : Int) + 1), .int .i64 1, .int .i64 0] W fun e w' => e = .returned (.int .i64 140) ∧ Its w (.mir w.heap.size g H n m es S1 :: l) w') := hide (fun W l h => by have := sendS h ((k : Int) + 1) 1 0; rwa [m3] at this)
  have HTT : Hid ((y0 = false) ∨ (y0 = true ∧ t0 = tt ∧ tt ≠ 0)) := hide (by
    rcases HT.out with ⟨z1, z2⟩ | ⟨z1, z2⟩
    · simp only [Prod.mk.injEq] at z2; exact .inl z2.2.2
    · simp only [Prod.mk.injEq] at z2; exact .inr ⟨z2.2.2, z2.1, z1⟩)
  clear m1 m2 m3 m4 hT0 HT
  have hr1 : (t0 == t0) = true := by simp
  go_upto_region 18 with (first
    | (go_at_call 9; refine (HK2.out _ _ J5.out).mono ?_; rintro e1 W6 ⟨rfl, q⟩; have J6 := hide q; clear q)
    | (go_at_call 11; refine (HK4.out _ _ J4.out).mono ?_; rintro e1 W5 ⟨rfl, q⟩; have J5 := hide q; clear q)
    | (go_at_call 10; refine (HK3.out _ _ J3.out).mono ?_; rintro e1 W4 ⟨rfl, q⟩; have J4 := hide q; clear q)
    | (go_at_call 9; refine (HK1.out _ _ J2.out).mono ?_; rintro e1 W3 ⟨rfl, q⟩; have J3 := hide q; clear q)
    | (go_at_call 8; refine (downS HR.out).mono ?_; rintro e1 W2 ⟨a0, n0, c0, rfl, hn0, q⟩; have J2 := hide q.rot3'; have Hn0 := hide hn0; clear q hn0))
  clear HK1 HK2 HK3 HK4 J2 J3 J4 J5 hr1
  go_cut [132] (fun v132 wx => ∃ U : Mr, v132 = .bool false ∧ Hid (U.isD ((k : Int) + 1) = true ∧ U.down = S1.down) ∧ Hid (Its w (.mir w.heap.size g H n m es U :: .box w.heap.size #[.slice a n c, .slice b m e] 25 :: [.ints w.heap.size (.slice a0 n0 c0) (S0.down)]) wx))
  case first =>
    rcases HTT.out with hy | ⟨hy, ht, htt⟩
    · subst hy
      clear HTT
      go_quiet (fail)
      go_wp2_with fail
      go_meet
      exact ⟨S1, rfl, hide ⟨HD1.out, rfl⟩, hide (J6.out.drew _)⟩
    · subst hy
      subst ht
      clear HTT
      obtain ⟨p1, p2, p3, p4⟩ := HM.out htt
      have KM : Hid (∀ (W : World) (l : List It), Its w (.mir w.heap.size g H n m es S1 :: l) W → Calls Try.prog 12 #[.pointer (some ⟨g, 0, none⟩), .int .i64 ((k : Int) + 1), .int .i64 t0] W fun e w' => e = .returned (.int .i64 0) ∧ Its w (.mir w.heap.size g H n m es (S1.mov ((k : Int) + 1) t0).2 :: l) w') := hide (fun W l h => by have := movedS h ((k : Int) + 1) t0; rwa [p1] at this)
      have HP := hide p3
      have HP4 := hide p4
      generalize (S1.mov ((k : Int) + 1) t0).2 = U at *
      have KW : Hid (∀ (W : World) (l : List It), Its w (.mir w.heap.size g H n m es U :: l) W → Calls Try.prog 13 #[.pointer (some ⟨g, 0, none⟩), .int .i64 t0] W fun e w' => e = .returned (.int .i64 en) ∧ w' = W) := hide (fun W l h => by have := where_m h.one t0; rwa [p2] at this)
      have XE : Hid (∀ (W : World) (U : Mr), Its w (.mir w.heap.size g H n m es U :: .box w.heap.size #[.slice a n c, .slice b m e] 25 :: [.ints w.heap.size (.slice a0 n0 c0) (S0.down)]) W → W.cell? ⟨w.heap.size, 1, none⟩ = some (.slice b m e) ∧ ∃ be oe, b = some ⟨be, oe, none⟩ ∧ W.cell? ⟨be, oe + k * 2 + 1, none⟩ = some (.int .i64 en)) := hide (fun W U h => by
        refine ⟨h.lbox.2, ?_⟩
        obtain ⟨be, oe, q1, q2, q3⟩ := ed_at (h.keepL HL.out).hu k _ HEd.out
        exact ⟨be, oe, q1, q3⟩)
      clear p1 p2 p3 p4 htt HM
      have r1 : wrap64 ((k : Int) + 1 - 1) = (k : Int) := by unfold wrap64; omega
      have r1' : IntKind.i64.wrap ((k : Int) + 1 - 1) = (k : Int) := by rw [IntKind.wrap_i64]; omega
      have r4 : IntKind.i64.wrap (k : Int) = (k : Int) := by rw [IntKind.wrap_i64]; omega
      have r2 : (k : Int) < (m : Int) := by omega
      have r3 : (0 : Int) ≤ (k : Int) := by omega
      obtain ⟨_, be, oe, rfl, _⟩ := XE.out _ _ J6.out
      have XF : Hid (∀ (W : World), Its w (.mir w.heap.size g H n m es U :: .box w.heap.size #[.slice a n c, .slice (some ⟨be, oe, none⟩) m e] 25 :: [.ints w.heap.size (.slice a0 n0 c0) (S0.down)]) W → W.cell? ⟨w.heap.size, 1, none⟩ = some (.slice (some ⟨be, oe, none⟩) m e) ∧ W.cell? ⟨be, oe + k * 2 + 1, none⟩ = some (.int .i64 en)) := hide (fun W h => by
        obtain ⟨q1, b1, o1, q2, q3⟩ := XE.out W U h
        simp only [Option.some.injEq, Addr.mk.injEq] at q2
        obtain ⟨rfl, rfl, _⟩ := q2
        exact ⟨q1, q3⟩)
      clear XE
      have JD : Hid (Its w (.mir w.heap.size g H n m es S1 :: .box w.heap.size #[.slice a n c, .slice (some ⟨be, oe, none⟩) m e] 25 :: [.ints w.heap.size (.slice a0 n0 c0) S0.down]) W6.drew) := hide (J6.out.drew 1)
      go_region_with (first
        | (go_at_call 13; refine (KW.out _ _ J7.out).mono ?_; rintro e1 W8 ⟨rfl, rfl⟩)
        | (go_at_call 12; refine (KM.out _ _ JD.out).mono ?_; rintro e1 W7 ⟨rfl, q⟩; have J7 := hide q; clear q; obtain ⟨f0, f1⟩ := XF.out _ J7.out))
      all_goals go_wp2_with fail
      all_goals go_meet
      all_goals exact ⟨U, rfl, hide ⟨HP4.out, HP.out⟩, J7⟩
  case rest =>
  obtain ⟨U, rfl, HU, J7⟩ := hcut
  obtain ⟨wB, rfl⟩ : ∃ W, W = wc := ⟨_, rfl⟩
  have hin : (k : Int) + 1 ∈ U.down := by rw [HU.out.2]; exact H5.out
  have HIn := hide hin
  obtain ⟨f1, f2⟩ := H6.out U HU.out.1 HU.out.2 (mr_len J7.out.one).2.1
  have KM : Hid (∀ (W : World) (l : List It), Its w (.mir w.heap.size g H n m es U :: l) W → Calls Try.prog 10 #[.pointer (some ⟨g, 0, none⟩), .int .i64 ((k : Int) + 1), .bool false] W fun e w' => e = .returned (.int .i64 0) ∧ Its w (.mir w.heap.size g H n m es (U.msk ((k : Int) + 1) false).2 :: l) w') := hide (fun W l h => by have := maskS h ((k : Int) + 1) false; rwa [f1] at this)
  have HF := hide f2
  have lnD : Hid (U.down.length ≤ 120) := hide (by have h1 := downF_len 0 U.ds; have h2 := (mr_len J7.out.one).2; unfold Mr.down; omega)
  have ln0 : Hid (S0.down.length ≤ 120) := hide (by have h1 := downF_len 0 S0.ds; have h2 := (mr_len HR.out.one).2; unfold Mr.down; omega)
  clear hin f1 f2 HM H5 H6 HTT HU
  generalize (U.msk ((k : Int) + 1) false).2 = U2 at *
  go_wp2_with (go_at_call 8; refine (downS J7.out).mono ?_; rintro e1 W8 ⟨a1, n1, c1, rfl, hn1, q⟩; have J8 := hide q; have Hn1 := hide hn1; clear q hn1)
  clear HR J6 J7 HEd HD1 HL XL Hok0 hD0
  go_loopw [17, 136] (fun v17 v136 wr => ∃ (j : Nat) (f : Bool), v17 = .bool f ∧ v136 = .int .i64 j ∧ j ≤ n1 ∧ wr = W8 ∧ Hid (f = decide ((k : Int) + 1 ∈ U.down.take j))) (fun _ v136 _ => n1 - (intOf v136).toNat)
  case atStart => exact ⟨0, false, rfl, rfl, Nat.zero_le _, rfl, hide (by simp)⟩
  case round =>
    obtain ⟨j, f, rfl, rfl, hj, rfl, HFd⟩ := hrel
    have i4 : (n1 : Int) ≤ 120 := by have := lnD.out; have := Hn1.out; omega
    by_cases hjn : j < n1
    case pos =>
      obtain ⟨x, hx⟩ : ∃ x, U.down[j]? = some x := ⟨_, List.getElem?_eq_getElem (by rw [Hn1.out]; exact hjn)⟩
      obtain ⟨b1, o1, rfl, cx⟩ := int_at (show intE.Own wr w.heap.size (.slice a1 n1 c1) U.down from J8.out.one).rd j x hx
      have j0 : (0 : Int) ≤ (j : Int) := by omega
      have j1 : (j : Int) < (n1 : Int) := by omega
      have HT1 : Hid (decide ((k : Int) + 1 ∈ U.down.take (j + 1)) = (f || decide ((k : Int) + 1 = x))) := hide (by rw [take_one hx, HFd.out]; by_cases q1 : (k : Int) + 1 ∈ U.down.take j <;> by_cases q2 : (k : Int) + 1 = x <;> simp [q1, q2])
      clear hx
      cases f with
      | true =>
        go_wp2_with fail
        go_roundw
        case rel => exact ⟨j + 1, true, rfl, by go_num, by omega, trivial, hide (by rw [HT1.out]; rfl)⟩
        case measure => simp [intOf]; omega
      | false =>
        by_cases hxd : x = (k : Int) + 1
        · have hb : (x == (k : Int) + 1) = true := by rw [hxd]; simp
          have HXD := hide hxd
          clear hxd
          go_wp2_with fail
          go_roundw
          case rel => exact ⟨j + 1, true, rfl, by go_num, by omega, trivial, hide (by rw [HT1.out, decide_eq_true HXD.out.symm]; rfl)⟩
          case measure => simp [intOf]; omega
        · have hb : (x == (k : Int) + 1) = false := beq_eq_false_iff_ne.2 hxd
          have HXD := hide hxd
          clear hxd
          go_wp2_with fail
          go_roundw
          case rel => exact ⟨j + 1, false, rfl, by go_num, by omega, trivial, hide (by rw [HT1.out, decide_eq_false (fun q => HXD.out q.symm)]; rfl)⟩
          case measure => simp [intOf]; omega
    case neg =>
      have j1 : ¬ (j : Int) < (n1 : Int) := by omega
      have hf : f = true := by rw [HFd.out, List.take_of_length_le (by rw [Hn1.out]; omega)]; exact decide_eq_true HIn.out
      subst hf
      clear HFd
      go_wp2_with (go_at_call 10; refine (KM.out _ _ J8.out.tail).mono ?_; rintro e1 W9 ⟨rfl, q⟩; have J9 := hide q; clear q)
      clear J8 KM HIn lnD Hn1
      go_loopw [20, 157] (fun v20 v157 wr => ∃ (i cnt : Nat), v20 = .int .i64 cnt ∧ v157 = .int .i64 i ∧ i ≤ n0 ∧ wr = W9 ∧ Hid (((S0.down.take i).filter (fun x => decide (x ≠ (k : Int) + 1))).length = cnt)) (fun _ v157 _ => n0 - (intOf v157).toNat)
      case atStart => exact ⟨0, 0, rfl, rfl, Nat.zero_le _, rfl, hide (by simp)⟩
      case round =>
        obtain ⟨i, cnt, rfl, rfl, hi, rfl, HC⟩ := hrel
        have i5 : (n0 : Int) ≤ 120 := by have := ln0.out; have := Hn0.out; omega
        have i6 : (cnt : Int) ≤ 120 := by
          have h1 := HC.out
          have h2 := List.length_filter_le (fun x => decide (x ≠ (k : Int) + 1)) (S0.down.take i)
          rw [List.length_take] at h2
          have h3 := ln0.out
          omega
        by_cases hin : i < n0
        case pos =>
          obtain ⟨x, hx⟩ : ∃ x, S0.down[i]? = some x := ⟨_, List.getElem?_eq_getElem (by rw [Hn0.out]; exact hin)⟩
          obtain ⟨b1, o1, rfl, cx⟩ := int_at (show intE.Own wr w.heap.size (.slice a0 n0 c0) S0.down from J9.out.three).rd i x hx
          have j0 : (0 : Int) ≤ (i : Int) := by omega
          have j2 : (i : Int) < (n0 : Int) := by omega
          have HT1 : Hid (((S0.down.take (i + 1)).filter (fun x => decide (x ≠ (k : Int) + 1))).length = cnt + (if x = (k : Int) + 1 then 0 else 1)) := hide (by
            rw [take_one hx, List.filter_append, List.length_append, HC.out]
            by_cases q : x = (k : Int) + 1 <;> simp [q])
          clear hx
          by_cases hxd : x = (k : Int) + 1
          · have hb : (x == (k : Int) + 1) = true := by rw [hxd]; simp
            have HXD := hide hxd
            clear hxd
            go_wp2_with fail
            go_roundw
            case rel => exact ⟨i + 1, cnt, rfl, by go_num, by omega, trivial, hide (by rw [HT1.out, if_pos HXD.out]; rfl)⟩
            case measure => simp [intOf]; omega
          · have hb : (x == (k : Int) + 1) = false := beq_eq_false_iff_ne.2 hxd
            have HXD := hide hxd
            clear hxd
            go_wp2_with fail
            go_roundw
            case rel => exact ⟨i + 1, cnt + 1, by go_num, by go_num, by omega, trivial, hide (by rw [HT1.out, if_neg HXD.out])⟩
            case measure => simp [intOf]; omega
        case neg =>
          have j2 : ¬ (i : Int) < (n0 : Int) := by omega
          have hcnt : U2.down.length = cnt := by
            rw [HF.out, ← HC.out, List.take_of_length_le (by rw [Hn0.out]; omega)]
          have HCn := hide hcnt
          clear hcnt
          go_wp2_with (go_at_call 8; refine (downS J9.out).mono ?_; rintro e1 W10 ⟨a2, n2, c2, rfl, hn2, q⟩; have J10 := hide q; have hn3 := hn2.symm.trans HCn.out; clear q hn2; subst hn3)
          go_ret
          exact ⟨by simp, J10.out.bel⟩
end Go.Proofs.Ytlnnpdghcilioab
