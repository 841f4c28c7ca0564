/- The document's Compact. -/
import Derived.Test.YtgdoagmnhmfjkaaTdd
namespace Go.Proofs.Ytgdoagmnhmfjkaa
open Go.ChangeShapes Go.WideShapes Go.ChangeAt Go.RowKit
set_option linter.unusedVariables false

/-- how the rest of Compact goes, from a tape whose other area is empty -/
theorem cmp_rest {T T1 : Tp} (hcn : T1.cn = T.cn) (hnow : T1.now = T.now) (hoth : T1.oth = []) (hd : T1.dd = false) (hok : T1.Ok) (ns : List Nt) :
    (∃ T2, T1.can (ns.flatMap Nt.bts).length = false ∧ T.cmp3 (!T.cn) (T1.put (!T.cn) (ns.flatMap Nt.bts)) = (190, T2) ∧ dv T2 = .agg #[.string (str T.now), .string (str ((ns.flatMap Nt.bts).take T1.bd)), .int .i64 0, .bool true]) ∨
    (∃ T2 : Tp, T1.can (ns.flatMap Nt.bts).length = true ∧ bud T2 = bud (T1.use (ns.flatMap Nt.bts).length) ∧ T2.dd = false ∧ -1 ≤ bud T2 ∧ bud T2 ≤ 1099511627776 ∧
      ((∃ T3, T2.can 1 = false ∧ T.cmp3 (!T.cn) (T1.put (!T.cn) (ns.flatMap Nt.bts)) = (190, T3) ∧ dv T3 = .agg #[.string (str T.now), .string (str (ns.flatMap Nt.bts)), .int .i64 0, .bool true]) ∨
       (∃ T3, T2.can 1 = true ∧ T.cmp3 (!T.cn) (T1.put (!T.cn) (ns.flatMap Nt.bts)) = (0, T3) ∧ dv T3 = .agg #[.string (str (ns.flatMap Nt.bts)), .string (str T.now), .int .i64 (bud (T2.use 1)), .bool false]))) := by
  have hA : T1.A (!T.cn) = [] := by rw [← hcn]; exact hoth
  have hB : T1.A T.cn = T.now := by rw [← hcn]; exact hnow
  have hne : T.cn ≠ !T.cn := by cases T.cn <;> decide
  cases hc : T1.can (ns.flatMap Nt.bts).length with
  | false =>
    left
    obtain ⟨_, _, _, hlt, har⟩ := sm_no hc
    have e1 : T1.put (!T.cn) (ns.flatMap Nt.bts) = (190, ((T1.use T1.bd).setA (!T.cn) (T1.A (!T.cn) ++ (ns.flatMap Nt.bts).take T1.bd)).die) := by
      unfold Tp.put
      rw [if_neg (by rw [hc]; decide)]
    refine ⟨_, rfl, by unfold Tp.cmp3; rw [e1, if_neg (show ¬ ((190 : Int) = 0) by decide)], ?_⟩
    unfold dv
    have q1 : ((T1.use T1.bd).setA (!T.cn) (T1.A (!T.cn) ++ (ns.flatMap Nt.bts).take T1.bd)).die.now = T.now := by
      show (Tp.setA _ (!T.cn) _).A T1.cn = _
      rw [hcn, setA_off _ hne]; exact hB
    have q2 : ((T1.use T1.bd).setA (!T.cn) (T1.A (!T.cn) ++ (ns.flatMap Nt.bts).take T1.bd)).die.oth = (ns.flatMap Nt.bts).take T1.bd := by
      show (Tp.setA _ (!T.cn) _).A (!T1.cn) = _
      rw [hcn, setA_at, hA]; rfl
    have q3 : bud ((T1.use T1.bd).setA (!T.cn) (T1.A (!T.cn) ++ (ns.flatMap Nt.bts).take T1.bd)).die = 0 := by
      unfold bud Tp.die Tp.setA Tp.use
      simp only [har]
      simp
    rw [q1, q2, q3]
    rfl
  | true =>
    right
    have e1 := put_yes hc (!T.cn)
    have hok2 := hok.use (ns.flatMap Nt.bts).length
    refine ⟨(T1.use (ns.flatMap Nt.bts).length).setA (!T.cn) (T1.A (!T.cn) ++ ns.flatMap Nt.bts), rfl, rfl, hd, (bud_rng hok2).1, (bud_rng hok2).2, ?_⟩
    obtain ⟨T2, hT2⟩ : ∃ T2, (T1.use (ns.flatMap Nt.bts).length).setA (!T.cn) (T1.A (!T.cn) ++ ns.flatMap Nt.bts) = T2 := ⟨_, rfl⟩
    have e3 : T.cmp3 (!T.cn) (T1.put (!T.cn) (ns.flatMap Nt.bts)) = T2.turn (!T.cn) := by
      unfold Tp.cmp3
      rw [e1, if_pos rfl, hT2]
    have a1 : T2.A (!T.cn) = ns.flatMap Nt.bts := by rw [← hT2, setA_at, hA]; rfl
    have a2 : T2.A T.cn = T.now := by rw [← hT2, setA_off _ hne]; exact hB
    have a3 : T2.cn = T.cn := by rw [← hT2]; exact hcn
    have a4 : T2.dd = false := by rw [← hT2]; exact hd
    rw [hT2]
    cases hc2 : T2.can 1 with
    | false =>
      left
      refine ⟨T2.die, rfl, by rw [e3]; unfold Tp.turn; rw [if_neg (by rw [hc2]; decide)], ?_⟩
      rw [dv_die hc2]
      have q1 : T2.now = T.now := by show T2.A T2.cn = _; rw [a3, a2]
      have q2 : T2.oth = ns.flatMap Nt.bts := by show T2.A (!T2.cn) = _; rw [a3, a1]
      rw [q1, q2]
    | true =>
      right
      refine ⟨⟨T2.A, !T.cn, T2.ar, (T2.use 1).bd, T2.dd⟩, rfl, by rw [e3]; unfold Tp.turn; rw [if_pos hc2], ?_⟩
      unfold dv
      have q1 : (Tp.mk T2.A (!T.cn) T2.ar (T2.use 1).bd T2.dd).now = ns.flatMap Nt.bts := a1
      have q2 : (Tp.mk T2.A (!T.cn) T2.ar (T2.use 1).bd T2.dd).oth = T.now := by show T2.A (!(!T.cn)) = _; rw [Bool.not_not]; exact a2
      rw [q1, q2]
      show Value.agg #[.string _, .string _, .int .i64 _, .bool T2.dd] = _
      rw [a4]
      rfl

set_option maxRecDepth 100000 in
set_option maxHeartbeats 4000000 in
theorem rcompact_any {T : Tp} (hok : T.Ok) {a : Option Addr} {M c : Nat} {ns : List Nt} (w : World) (hn : ntE.Rd w (.slice a M c) ns) (hl : ns.length = M) (hM : M ≤ 3000) : Calls Try.prog 17 #[dv T, .slice a M c] w fun e w' => DvR w (T.cmp ns) e w' := by
  obtain ⟨N, hN⟩ : ∃ N, str T.now = N := ⟨_, rfl⟩
  obtain ⟨O, hO⟩ : ∃ O, str T.oth = O := ⟨_, rfl⟩
  obtain ⟨B, hB⟩ : ∃ B, bud T = B := ⟨_, rfl⟩
  obtain ⟨PR, hPR⟩ : ∃ PR, T.cmp ns = PR := ⟨_, rfl⟩
  cases hd : T.dd with
  | true =>
    have e : dv T = .agg #[.string N, .string O, .int .i64 B, .bool true] := by unfold dv; rw [hN, hO, hB, hd]
    have HV := hide e
    have HQ : Hid (T.cmp ns = (190, T)) := hide (cmp_dead hd _)
    rw [hPR] at HQ ⊢
    rw [e]
    have I1 := hide (two4 w N O B true)
    clear e hN hO hB hPR hn hl hM hd
    go_enter Try.func17, Try.ntmps17
    go_upto_region 1 with fail
    generalize ((w.alloc (.cells #[.string N, .string O, .int .i64 B, .bool true] 26)).alloc (.cells #[.string ⟨#[]⟩, .string ⟨#[]⟩, .int .i64 0, .bool false] 26)) = W1 at *
    obtain ⟨e0, e1, e2, e3, ef⟩ := Its.cells4 I1.out
    obtain ⟨c0, c1, c2, c3, cf⟩ := Its.cells4 I1.out.tail
    have HIe := hide (Its.out4 I1.out (.string N) (.string O) (.int .i64 B) (.bool true))
    go_wp2_with fail
    obtain ⟨y0, y1, y2, y3, _⟩ := Its.cells4 HIe.out
    exact bodyPost_ret (v := .tuple #[.agg #[.string N, .string O, .int .i64 B, .bool true], .int .i64 190]) (by simp [results, Try.results17, go_sem, y0, y1, y2, y3]) rfl (DvR.mk HQ.out HV.out.symm HIe.out.bel)
  | false =>
    have e : dv T = .agg #[.string N, .string O, .int .i64 B, .bool false] := by unfold dv; rw [hN, hO, hB, hd]
    have HV := hide e
    have I1 := hide (two4 w N O B false)
    have KW : Hid (∀ W, Below w.heap.size w W → Calls Try.prog 29 #[.slice a M c] W fun e w' => WrtR ns W e w') := hide (fun W hW => written_any (hn.keep hW) hl (by omega))
    have Hd := hide hd
    have hBr := bud_rng hok
    have hOs : O.size = T.oth.length := by rw [← hO]; exact str_size _
    rw [hB] at hBr
    have HP := hide hPR
    have HN := hide hN
    have HO := hide hO
    have HBB := hide hB
    have hnl : ns.length ≤ 3000 := by omega
    rw [hPR, e]
    clear e hN hO hB hPR hn hd
    go_enter Try.func17, Try.ntmps17
    go_upto_region 1 with fail
    generalize ((w.alloc (.cells #[.string N, .string O, .int .i64 B, .bool false] 26)).alloc (.cells #[.string ⟨#[]⟩, .string ⟨#[]⟩, .int .i64 0, .bool false] 26)) = W1 at *
    obtain ⟨e0, e1, e2, e3, ef⟩ := Its.cells4 I1.out
    obtain ⟨c0, c1, c2, c3, cf⟩ := Its.cells4 I1.out.tail
    go_upto_region 4 with (go_at_call 29; refine (KW.out _ I1.out.bel).mono ?_; rintro e w2 ⟨hwr, hb2⟩; rcases hwr with ⟨hk, rfl⟩ | ⟨hk, rfl⟩)
    · have I2 := hide (I1.out.keep hb2)
      clear e0 e1 e2 e3 ef c0 c1 c2 c3 cf
      obtain ⟨e0, e1, e2, e3, ef⟩ := Its.cells4 I2.out
      obtain ⟨c0, c1, c2, c3, cf⟩ := Its.cells4 I2.out.tail
      have hlen := flat_bts_len (List.all_eq_true.1 hk)
      obtain ⟨L, hL⟩ : ∃ L, (ns.flatMap Nt.bts).length = L := ⟨_, rfl⟩
      obtain ⟨sS, hS⟩ : ∃ sS, str (ns.flatMap Nt.bts) = sS := ⟨_, rfl⟩
      have hSs : sS.size = L := by rw [← hS, str_size, hL]
      have htL : tot ns = L := hL
      rw [hL] at hlen
      rw [hS]
      have HS := hide hS
      have HL := hide hL
      have HX : Hid (sS.extract 0 L = sS) := hide (by rw [← hS, str_ext, ← hL, List.take_length])
      obtain ⟨Z, hZ⟩ : ∃ Z, T.oth.length = Z := ⟨_, rfl⟩
      rw [hZ] at hOs
      by_cases h5 : 65536 < L
      · have j2 : (65536 : Int) < (L : Int) := by omega
        have HQ : Hid (PR = (5, T)) := hide (by rw [← HP.out]; exact cmp_full Hd.out hk (by omega))
        clear hk hb2 hS hL htL KW HP h5 hlen hZ
        go_upto_region 7 with fail
        have HIe := hide (Its.out4 I2.out (.string N) (.string O) (.int .i64 B) (.bool false))
        go_wp2_with fail
        obtain ⟨y0, y1, y2, y3, _⟩ := Its.cells4 HIe.out
        exact bodyPost_ret (v := .tuple #[.agg #[.string N, .string O, .int .i64 B, .bool false], .int .i64 5]) (by simp [results, Try.results17, go_sem, y0, y1, y2, y3]) rfl (DvR.mk HQ.out HV.out.symm HIe.out.bel)
      · have j2 : ¬ ((65536 : Int) < (L : Int)) := by omega
        have hPg : PR = T.cmp2 (!T.cn) ns (T.cut (!T.cn) 0) := by rw [← HP.out]; exact cmp_go Hd.out hk (by omega)
        have KS : Hid (∀ W Ox Bx n, -1 ≤ Bx ∧ Bx ≤ 1099511627776 → 0 ≤ n ∧ n ≤ 1099511627776 → Calls Try.prog 31 #[.agg #[.string N, .string Ox, .int .i64 Bx, .bool false], .int .i64 n] W fun e w' => e = .returned (.tuple #[.agg #[.string N, .string Ox, .int .i64 (smB Bx n), .bool (smD Bx n false)], .int .i64 (smN Bx n)]) ∧ Below W.heap.size W w') := hide (fun W Ox Bx n h1 h2 => rsome_any N Ox Bx false W n h1 h2)
        have l0 : (0 : Int) ≤ (L : Int) := by omega
        have hLr : (0 : Int) ≤ (L : Int) ∧ (L : Int) ≤ 1099511627776 := by omega
        clear hk hb2 hS hL htL KW HP h5
        by_cases hz : Z = 0
        · have z0 : ¬ ((0 : Int) < (Z : Int)) := by omega
          have z1 : ¬ (0 < Z) := by omega
          have hcut : T.cut (!T.cn) 0 = (0, T) := by unfold Tp.cut; rw [if_pos (show (T.A (!T.cn)).length = 0 by show T.oth.length = 0; omega)]
          have ho0 : T.oth = [] := List.eq_nil_of_length_eq_zero (by omega)
          have hO0 : O = ⟨#[]⟩ := by rw [← HO.out, ho0]; rfl
          rw [hcut] at hPg
          unfold Tp.cmp2 at hPg
          rw [if_pos rfl] at hPg
          simp only at hPg
          have hrest := cmp_rest (T := T) rfl rfl ho0 Hd.out hok ns
          rw [← hPg] at hrest
          have hBr1 := bud_rng hok
          obtain ⟨B1, hB1⟩ : ∃ B1, bud T = B1 := ⟨_, rfl⟩
          have eB : B1 = B := by rw [← hB1]; exact HBB.out
          subst eB
          rw [hB1] at hBr1
          have Hd1 := hide Hd.out
          subst hO0
          clear hcut ho0 hPg hZ hz hlen
          go_upto_region 13 with fail
          rcases hrest with ⟨T2, hc, hq, hv⟩ | ⟨T2, hc, hb2, hd2, hr1, hr2, hq⟩
          · obtain ⟨s1, s2, s3, s4, _⟩ := sm_no hc
            rw [hB1, Hd1.out, HL.out] at s2
            rw [hB1, HL.out] at s1 s3
            rw [HL.out] at s4
            obtain ⟨k, hk⟩ : ∃ k, T.bd = k := ⟨_, rfl⟩
            rw [hk] at s3 s4
            have K2 := hide (fun W => KS.out W ⟨#[]⟩ B1 (L : Int) hBr1 hLr)
            rw [s1, s2, s3] at K2
            have k0 : (0 : Int) ≤ (k : Int) := by omega
            have k1 : (k : Int) ≤ (L : Int) := by omega
            have HV2 : Hid (dv T2 = .agg #[.string N, .string (sS.extract 0 k), .int .i64 0, .bool true]) := hide (by rw [hv, HN.out, ← HS.out, str_ext, hk])
            have HQ := hide hq
            clear hv hq s1 s2 s3 s4 hk hc
            go_upto_region 14 with (go_at_call 31; refine (K2.out _).mono ?_; rintro e wa ⟨rfl, hbx⟩; have Ia := hide (I2.out.keep hbx); clear hbx; obtain ⟨te0, te1, te2, te3, tef⟩ := Its.cells4 Ia.out; obtain ⟨tc0, tc1, tc2, tc3, tcf⟩ := Its.cells4 Ia.out.tail)
            have Ib : Hid (Its w [.box (w.heap.size + 1) #[.string ⟨#[]⟩, .string ⟨#[]⟩, .int .i64 0, .bool false] 26, .box w.heap.size #[.string N, .string ⟨#[]⟩, .int .i64 0, .bool true] 26] ((((wa.setCell ⟨w.heap.size, 0, none⟩ (.string N)).setCell ⟨w.heap.size, 1, none⟩ (.string ⟨#[]⟩)).setCell ⟨w.heap.size, 2, none⟩ (.int .i64 0)).setCell ⟨w.heap.size, 3, none⟩ (.bool true))) := hide (Its.out4 Ia.out.swap (.string N) (.string ⟨#[]⟩) (.int .i64 0) (.bool true)).swap
            generalize ((((wa.setCell ⟨w.heap.size, 0, none⟩ (.string N)).setCell ⟨w.heap.size, 1, none⟩ (.string ⟨#[]⟩)).setCell ⟨w.heap.size, 2, none⟩ (.int .i64 0)).setCell ⟨w.heap.size, 3, none⟩ (.bool true)) = wb at *
            clear te0 te1 te2 te3 tef tc0 tc1 tc2 tc3 tcf
            clear e0 e1 e2 e3 ef c0 c1 c2 c3 cf
            obtain ⟨e0, e1, e2, e3, ef⟩ := Its.cells4 Ib.out
            obtain ⟨c0, c1, c2, c3, cf⟩ := Its.cells4 Ib.out.tail
            go_upto_region 15 with fail
            have Ic : Hid (Its w [.box (w.heap.size + 1) #[.string ⟨#[]⟩, .string ⟨#[]⟩, .int .i64 0, .bool false] 26, .box w.heap.size #[.string N, .string (sS.extract 0 k), .int .i64 0, .bool true] 26] (wb.setCell ⟨w.heap.size, 1, none⟩ (.string (sS.extract 0 k)))) := hide (Ib.out.swap.put 1 (.string (sS.extract 0 k))).swap
            generalize wb.setCell ⟨w.heap.size, 1, none⟩ (.string (sS.extract 0 k)) = wd at *
            generalize sS.extract 0 k = sY at *
            clear e0 e1 e2 e3 ef c0 c1 c2 c3 cf
            obtain ⟨e0, e1, e2, e3, ef⟩ := Its.cells4 Ic.out
            obtain ⟨c0, c1, c2, c3, cf⟩ := Its.cells4 Ic.out.tail
            go_upto_region 16 with fail
            have HIe := hide (Its.out4 Ic.out (.string N) (.string sY) (.int .i64 0) (.bool true))
            go_wp2_with fail
            obtain ⟨y0, y1, y2, y3, _⟩ := Its.cells4 HIe.out
            exact bodyPost_ret (v := .tuple #[.agg #[.string N, .string sY, .int .i64 0, .bool true], .int .i64 190]) (by simp [results, Try.results17, go_sem, y0, y1, y2, y3]) rfl (DvR.mk HQ.out HV2.out.symm HIe.out.bel)
          · obtain ⟨s1, s2, s3⟩ := sm_yes hc
            rw [hB1, Hd1.out, HL.out] at s2
            rw [hB1, HL.out] at s1 s3
            rw [HL.out] at hb2
            rw [← hb2] at s1
            obtain ⟨B2, hB2⟩ : ∃ B2, bud T2 = B2 := ⟨_, rfl⟩
            have hBr2 : -1 ≤ B2 ∧ B2 ≤ 1099511627776 := by rw [← hB2]; exact ⟨hr1, hr2⟩
            rw [hB2] at s1
            have K2 := hide (fun W => KS.out W ⟨#[]⟩ B1 (L : Int) hBr1 hLr)
            rw [s1, s2, s3] at K2
            have K3 := hide (fun W => KS.out W sS B2 1 hBr2 (by omega))
            have k1 : (L : Int) ≤ (L : Int) := Int.le_refl _
            clear s1 s2 s3 hc hb2 hr1 hr2
            have hex := HX.out
            go_upto_region 14 with (go_at_call 31; refine (K2.out _).mono ?_; rintro e wa ⟨rfl, hbx⟩; have Ia := hide (I2.out.keep hbx); clear hbx; obtain ⟨te0, te1, te2, te3, tef⟩ := Its.cells4 Ia.out; obtain ⟨tc0, tc1, tc2, tc3, tcf⟩ := Its.cells4 Ia.out.tail)
            have Ib : Hid (Its w [.box (w.heap.size + 1) #[.string ⟨#[]⟩, .string ⟨#[]⟩, .int .i64 0, .bool false] 26, .box w.heap.size #[.string N, .string ⟨#[]⟩, .int .i64 B2, .bool false] 26] ((((wa.setCell ⟨w.heap.size, 0, none⟩ (.string N)).setCell ⟨w.heap.size, 1, none⟩ (.string ⟨#[]⟩)).setCell ⟨w.heap.size, 2, none⟩ (.int .i64 B2)).setCell ⟨w.heap.size, 3, none⟩ (.bool false))) := hide (Its.out4 Ia.out.swap (.string N) (.string ⟨#[]⟩) (.int .i64 B2) (.bool false)).swap
            generalize ((((wa.setCell ⟨w.heap.size, 0, none⟩ (.string N)).setCell ⟨w.heap.size, 1, none⟩ (.string ⟨#[]⟩)).setCell ⟨w.heap.size, 2, none⟩ (.int .i64 B2)).setCell ⟨w.heap.size, 3, none⟩ (.bool false)) = wb at *
            clear te0 te1 te2 te3 tef tc0 tc1 tc2 tc3 tcf
            clear e0 e1 e2 e3 ef c0 c1 c2 c3 cf
            obtain ⟨e0, e1, e2, e3, ef⟩ := Its.cells4 Ib.out
            obtain ⟨c0, c1, c2, c3, cf⟩ := Its.cells4 Ib.out.tail
            go_upto_region 15 with fail
            have Ic : Hid (Its w [.box (w.heap.size + 1) #[.string ⟨#[]⟩, .string ⟨#[]⟩, .int .i64 0, .bool false] 26, .box w.heap.size #[.string N, .string sS, .int .i64 B2, .bool false] 26] (wb.setCell ⟨w.heap.size, 1, none⟩ (.string sS))) := hide (Ib.out.swap.put 1 (.string sS)).swap
            generalize wb.setCell ⟨w.heap.size, 1, none⟩ (.string sS) = wd at *
            clear e0 e1 e2 e3 ef c0 c1 c2 c3 cf hex
            obtain ⟨e0, e1, e2, e3, ef⟩ := Its.cells4 Ic.out
            obtain ⟨c0, c1, c2, c3, cf⟩ := Its.cells4 Ic.out.tail
            rcases hq with ⟨T3, hc3, hq, hv⟩ | ⟨T3, hc3, hq, hv⟩
            · obtain ⟨s1, s2, s3, _, _⟩ := sm_no hc3
              rw [hB2, hd2] at s2
              rw [hB2] at s1 s3
              rw [show (((1 : Nat) : Nat) : Int) = 1 from rfl] at s1 s2 s3
              rw [s1, s2, s3] at K3
              have A5 : Hid (PR = (190, T3)) := hide hq
              have A6 : Hid (dv T3 = .agg #[.string N, .string sS, .int .i64 0, .bool true]) := hide (by rw [hv, HN.out, HS.out])
              generalize (T2.bd : Int) = kk at *
              clear hq hv s1 s2 s3 hc3
              go_upto_region 18 with (go_at_call 31; refine (K3.out _).mono ?_; rintro e we ⟨rfl, hbx⟩; have Id := hide (Ic.out.keep hbx); clear hbx; obtain ⟨te0, te1, te2, te3, tef⟩ := Its.cells4 Id.out; obtain ⟨tc0, tc1, tc2, tc3, tcf⟩ := Its.cells4 Id.out.tail)
              have I6 : Hid (Its w [.box (w.heap.size + 1) #[.string ⟨#[]⟩, .string ⟨#[]⟩, .int .i64 0, .bool false] 26, .box w.heap.size #[.string N, .string sS, .int .i64 0, .bool true] 26] ((((we.setCell ⟨w.heap.size, 0, none⟩ (.string N)).setCell ⟨w.heap.size, 1, none⟩ (.string sS)).setCell ⟨w.heap.size, 2, none⟩ (.int .i64 0)).setCell ⟨w.heap.size, 3, none⟩ (.bool true))) := hide (Its.out4 Id.out.swap (.string N) (.string sS) (.int .i64 0) (.bool true)).swap
              generalize ((((we.setCell ⟨w.heap.size, 0, none⟩ (.string N)).setCell ⟨w.heap.size, 1, none⟩ (.string sS)).setCell ⟨w.heap.size, 2, none⟩ (.int .i64 0)).setCell ⟨w.heap.size, 3, none⟩ (.bool true)) = w6 at *
              clear te0 te1 te2 te3 tef tc0 tc1 tc2 tc3 tcf
              clear e0 e1 e2 e3 ef c0 c1 c2 c3 cf
              obtain ⟨e0, e1, e2, e3, ef⟩ := Its.cells4 I6.out
              obtain ⟨c0, c1, c2, c3, cf⟩ := Its.cells4 I6.out.tail
              go_upto_region 20 with fail
              clear e0 e1 e2 e3 ef c0 c1 c2 c3 cf
              obtain ⟨S2, hS2⟩ : ∃ S2 : World → Prop, S2 = fun W => W.heap[w.heap.size]? = some (.cells #[.string N, .string sS, .int .i64 0, .bool true] 26) := ⟨_, rfl⟩
              have s2 : ∀ W, S2 W → W.cell? ⟨w.heap.size, 0, none⟩ = some (.string N) ∧ W.cell? ⟨w.heap.size, 1, none⟩ = some (.string sS) ∧ W.cell? ⟨w.heap.size, 2, none⟩ = some (.int .i64 0) ∧ W.cell? ⟨w.heap.size, 3, none⟩ = some (.bool true) := fun W hW => by
                rw [hS2] at hW
                exact ⟨(cells_at hW 0).1, (cells_at hW 1).1, (cells_at hW 2).1, (cells_at hW 3).1⟩
              have hT0 : S2 w6.drew := by rw [hS2]; exact I6.out.two
              have K32 : Hid (∀ W, Calls Try.prog 32 #[.agg #[.string N, .string sS, .int .i64 0, .bool true]] W fun e w' => e = .returned (.int .i64 190) ∧ Below W.heap.size W w') := hide (fun W => by have h := rcode_any N sS 0 true W; rw [if_pos rfl] at h; exact h)
              have HI8 : Hid (∀ W, Below w6.heap.size w6.drew W → S2 W ∧ W.cell? ⟨w.heap.size + 1, 0, none⟩ = some (.string ⟨#[]⟩) ∧ W.cell? ⟨w.heap.size + 1, 1, none⟩ = some (.string ⟨#[]⟩) ∧ W.cell? ⟨w.heap.size + 1, 2, none⟩ = some (.int .i64 0) ∧ W.cell? ⟨w.heap.size + 1, 3, none⟩ = some (.bool false) ∧ (∀ i, W.frozen? ⟨w.heap.size + 1, i, none⟩ = false) ∧ Its w [.box (w.heap.size + 1) #[.string N, .string sS, .int .i64 0, .bool true] 26, .box w.heap.size #[.string N, .string sS, .int .i64 0, .bool true] 26] ((((W.setCell ⟨w.heap.size + 1, 0, none⟩ (.string N)).setCell ⟨w.heap.size + 1, 1, none⟩ (.string sS)).setCell ⟨w.heap.size + 1, 2, none⟩ (.int .i64 0)).setCell ⟨w.heap.size + 1, 3, none⟩ (.bool true))) := hide (fun W hW => by
                have I7 := (I6.out.drew 1).keep hW
                obtain ⟨q0, q1, q2, q3, qf⟩ := Its.cells4 I7
                exact ⟨by rw [hS2]; exact I7.two, q0, q1, q2, q3, qf, Its.out4 I7 _ _ _ _⟩)
              have HS8 : Hid (∀ W, Its w [.box (w.heap.size + 1) #[.string N, .string sS, .int .i64 0, .bool true] 26, .box w.heap.size #[.string N, .string sS, .int .i64 0, .bool true] 26] W → S2 W) := hide (fun W hW => by rw [hS2]; exact hW.two)
              clear hS2
              refine wp_region_held_drew (S := S2) (by kernel_rfl) hT0 (fun hS => ?_)
              refine wpAnyH_take (i := 0) (v := .agg #[.string N, .string sS, .int .i64 0, .bool true]) rfl (by kernel_rfl) (by kernel_rfl) (by kernel_rfl) (fun _ _ _ h => h) (Or.inl ⟨by kernel_rfl, fun W' hW => by obtain ⟨z0, z1, z2, z3⟩ := s2 W' hW; go_simp⟩) hS ?_
              refine wpAnyH_take (i := 1) (v := .agg #[.string N, .string sS, .int .i64 0, .bool true]) rfl (by kernel_rfl) (by kernel_rfl) (by kernel_rfl) (fun _ _ _ h => h) (Or.inl ⟨by kernel_rfl, fun W' hW => by obtain ⟨z0, z1, z2, z3⟩ := s2 W' hW; go_simp⟩) hS ?_
              refine wpAnyH_ready (rs := [2]) (by kernel_rfl) (by simp) ?_
              refine AllReadyH.cons rfl (fun K hK => ?_) AllReadyH.nil
              go_simp
              go_at_call 32
              refine (K32.out _).mono ?_
              rintro e w7 ⟨rfl, hb7⟩
              obtain ⟨hS7, q0, q1, q2, q3, qf, h8⟩ := HI8.out _ hb7
              have hS8 := HS8.out _ h8
              have H8 := hide h8
              clear h8
              go_simp
              refine hK.out _ _ hS7 (fun _ => ?_)
              clear hK K
              refine wpAnyH_ready (rs := [3]) (by kernel_rfl) (by simp) ?_
              refine AllReadyH.cons rfl (fun K hK => ?_) AllReadyH.nil
              go_simp
              refine hK.out _ _ hS8 (fun _ => ?_)
              clear hK K
              refine wpAnyH_ready (rs := [4]) (by kernel_rfl) (by simp) ?_
              refine AllReadyH.cons rfl (fun K hK => ?_) AllReadyH.nil
              go_simp
              refine hK.out _ _ hS8 (fun _ => ?_)
              clear hK K
              refine wpAnyH_done (by kernel_rfl) ?_ _
              go_wp2_with fail
              obtain ⟨y0, y1, y2, y3, _⟩ := Its.cells4 H8.out
              exact bodyPost_ret (v := .tuple #[.agg #[.string N, .string sS, .int .i64 0, .bool true], .int .i64 190]) (by simp [results, Try.results17, go_sem, y0, y1, y2, y3]) rfl (DvR.mk A5.out A6.out.symm H8.out.bel)
            · obtain ⟨s1, s2, s3⟩ := sm_yes hc3
              rw [hB2, hd2] at s2
              rw [hB2] at s1 s3
              rw [show (((1 : Nat) : Nat) : Int) = 1 from rfl] at s1 s2 s3
              obtain ⟨B3, hB3⟩ : ∃ B3, bud (T2.use 1) = B3 := ⟨_, rfl⟩
              rw [hB3] at s1
              rw [s1, s2, s3] at K3
              have A5 : Hid (PR = (0, T3)) := hide hq
              have A6 : Hid (dv T3 = .agg #[.string sS, .string N, .int .i64 B3, .bool false]) := hide (by rw [hv, HN.out, HS.out, hB3])
              clear hq hv s1 s2 s3 hc3 hB3
              go_upto_region 18 with (go_at_call 31; refine (K3.out _).mono ?_; rintro e we ⟨rfl, hbx⟩; have Id := hide (Ic.out.keep hbx); clear hbx; obtain ⟨te0, te1, te2, te3, tef⟩ := Its.cells4 Id.out; obtain ⟨tc0, tc1, tc2, tc3, tcf⟩ := Its.cells4 Id.out.tail)
              have Ie : Hid (Its w [.box (w.heap.size + 1) #[.string ⟨#[]⟩, .string ⟨#[]⟩, .int .i64 0, .bool false] 26, .box w.heap.size #[.string N, .string sS, .int .i64 B3, .bool false] 26] ((((we.setCell ⟨w.heap.size, 0, none⟩ (.string N)).setCell ⟨w.heap.size, 1, none⟩ (.string sS)).setCell ⟨w.heap.size, 2, none⟩ (.int .i64 B3)).setCell ⟨w.heap.size, 3, none⟩ (.bool false))) := hide (Its.out4 Id.out.swap (.string N) (.string sS) (.int .i64 B3) (.bool false)).swap
              generalize ((((we.setCell ⟨w.heap.size, 0, none⟩ (.string N)).setCell ⟨w.heap.size, 1, none⟩ (.string sS)).setCell ⟨w.heap.size, 2, none⟩ (.int .i64 B3)).setCell ⟨w.heap.size, 3, none⟩ (.bool false)) = wf at *
              clear te0 te1 te2 te3 tef tc0 tc1 tc2 tc3 tcf
              clear e0 e1 e2 e3 ef c0 c1 c2 c3 cf
              obtain ⟨e0, e1, e2, e3, ef⟩ := Its.cells4 Ie.out
              obtain ⟨c0, c1, c2, c3, cf⟩ := Its.cells4 Ie.out.tail
              go_upto_region 20 with fail
              have I6 : Hid (Its w [.box (w.heap.size + 1) #[.string ⟨#[]⟩, .string ⟨#[]⟩, .int .i64 0, .bool false] 26, .box w.heap.size #[.string sS, .string N, .int .i64 B3, .bool false] 26] ((wf.setCell ⟨w.heap.size, 0, none⟩ (.string sS)).setCell ⟨w.heap.size, 1, none⟩ (.string N))) := hide ((Ie.out.swap.put 0 (.string sS)).put 1 (.string N)).swap
              generalize (wf.setCell ⟨w.heap.size, 0, none⟩ (.string sS)).setCell ⟨w.heap.size, 1, none⟩ (.string N) = w6 at *
              clear e0 e1 e2 e3 ef c0 c1 c2 c3 cf
              obtain ⟨S2, hS2⟩ : ∃ S2 : World → Prop, S2 = fun W => W.heap[w.heap.size]? = some (.cells #[.string sS, .string N, .int .i64 B3, .bool false] 26) := ⟨_, rfl⟩
              have s2 : ∀ W, S2 W → W.cell? ⟨w.heap.size, 0, none⟩ = some (.string sS) ∧ W.cell? ⟨w.heap.size, 1, none⟩ = some (.string N) ∧ W.cell? ⟨w.heap.size, 2, none⟩ = some (.int .i64 B3) ∧ W.cell? ⟨w.heap.size, 3, none⟩ = some (.bool false) := fun W hW => by
                rw [hS2] at hW
                exact ⟨(cells_at hW 0).1, (cells_at hW 1).1, (cells_at hW 2).1, (cells_at hW 3).1⟩
              have hT0 : S2 w6.drew := by rw [hS2]; exact I6.out.two
              have K32 : Hid (∀ W, Calls Try.prog 32 #[.agg #[.string sS, .string N, .int .i64 B3, .bool false]] W fun e w' => e = .returned (.int .i64 0) ∧ Below W.heap.size W w') := hide (fun W => by have h := rcode_any sS N B3 false W; rw [if_neg (by decide)] at h; exact h)
              have HI8 : Hid (∀ W, Below w6.heap.size w6.drew W → S2 W ∧ W.cell? ⟨w.heap.size + 1, 0, none⟩ = some (.string ⟨#[]⟩) ∧ W.cell? ⟨w.heap.size + 1, 1, none⟩ = some (.string ⟨#[]⟩) ∧ W.cell? ⟨w.heap.size + 1, 2, none⟩ = some (.int .i64 0) ∧ W.cell? ⟨w.heap.size + 1, 3, none⟩ = some (.bool false) ∧ (∀ i, W.frozen? ⟨w.heap.size + 1, i, none⟩ = false) ∧ Its w [.box (w.heap.size + 1) #[.string sS, .string N, .int .i64 B3, .bool false] 26, .box w.heap.size #[.string sS, .string N, .int .i64 B3, .bool false] 26] ((((W.setCell ⟨w.heap.size + 1, 0, none⟩ (.string sS)).setCell ⟨w.heap.size + 1, 1, none⟩ (.string N)).setCell ⟨w.heap.size + 1, 2, none⟩ (.int .i64 B3)).setCell ⟨w.heap.size + 1, 3, none⟩ (.bool false))) := hide (fun W hW => by
                have I7 := (I6.out.drew 1).keep hW
                obtain ⟨q0, q1, q2, q3, qf⟩ := Its.cells4 I7
                exact ⟨by rw [hS2]; exact I7.two, q0, q1, q2, q3, qf, Its.out4 I7 _ _ _ _⟩)
              have HS8 : Hid (∀ W, Its w [.box (w.heap.size + 1) #[.string sS, .string N, .int .i64 B3, .bool false] 26, .box w.heap.size #[.string sS, .string N, .int .i64 B3, .bool false] 26] W → S2 W) := hide (fun W hW => by rw [hS2]; exact hW.two)
              clear hS2
              refine wp_region_held_drew (S := S2) (by kernel_rfl) hT0 (fun hS => ?_)
              refine wpAnyH_take (i := 0) (v := .agg #[.string sS, .string N, .int .i64 B3, .bool false]) rfl (by kernel_rfl) (by kernel_rfl) (by kernel_rfl) (fun _ _ _ h => h) (Or.inl ⟨by kernel_rfl, fun W' hW => by obtain ⟨z0, z1, z2, z3⟩ := s2 W' hW; go_simp⟩) hS ?_
              refine wpAnyH_take (i := 1) (v := .agg #[.string sS, .string N, .int .i64 B3, .bool false]) rfl (by kernel_rfl) (by kernel_rfl) (by kernel_rfl) (fun _ _ _ h => h) (Or.inl ⟨by kernel_rfl, fun W' hW => by obtain ⟨z0, z1, z2, z3⟩ := s2 W' hW; go_simp⟩) hS ?_
              refine wpAnyH_ready (rs := [2]) (by kernel_rfl) (by simp) ?_
              refine AllReadyH.cons rfl (fun K hK => ?_) AllReadyH.nil
              go_simp
              go_at_call 32
              refine (K32.out _).mono ?_
              rintro e w7 ⟨rfl, hb7⟩
              obtain ⟨hS7, q0, q1, q2, q3, qf, h8⟩ := HI8.out _ hb7
              have hS8 := HS8.out _ h8
              have H8 := hide h8
              clear h8
              go_simp
              refine hK.out _ _ hS7 (fun _ => ?_)
              clear hK K
              refine wpAnyH_ready (rs := [3]) (by kernel_rfl) (by simp) ?_
              refine AllReadyH.cons rfl (fun K hK => ?_) AllReadyH.nil
              go_simp
              refine hK.out _ _ hS8 (fun _ => ?_)
              clear hK K
              refine wpAnyH_ready (rs := [4]) (by kernel_rfl) (by simp) ?_
              refine AllReadyH.cons rfl (fun K hK => ?_) AllReadyH.nil
              go_simp
              refine hK.out _ _ hS8 (fun _ => ?_)
              clear hK K
              refine wpAnyH_done (by kernel_rfl) ?_ _
              go_wp2_with fail
              obtain ⟨y0, y1, y2, y3, _⟩ := Its.cells4 H8.out
              exact bodyPost_ret (v := .tuple #[.agg #[.string sS, .string N, .int .i64 B3, .bool false], .int .i64 0]) (by simp [results, Try.results17, go_sem, y0, y1, y2, y3]) rfl (DvR.mk A5.out A6.out.symm H8.out.bel)
        · have z0 : (0 : Int) < (Z : Int) := by omega
          have z1 : 0 < Z := by omega
          have hnz : ¬ ((T.A (!T.cn)).length = 0) := by show ¬ (T.oth.length = 0); omega
          cases hc1 : T.can 1 with
          | false =>
            have hcut : T.cut (!T.cn) 0 = (190, T.die) := by unfold Tp.cut; rw [if_neg hnz, if_neg (by rw [hc1]; decide)]
            rw [hcut] at hPg
            unfold Tp.cmp2 at hPg
            rw [if_neg (show ¬ ((190 : Int) = 0) by decide)] at hPg
            obtain ⟨s1, s2, s3, _, _⟩ := sm_no hc1
            rw [HBB.out, Hd.out] at s2
            rw [HBB.out] at s1 s3
            rw [show (((1 : Nat) : Nat) : Int) = 1 from rfl] at s1 s2 s3
            have K1 := hide (fun W => KS.out W O B 1 hBr (by omega))
            rw [s1, s2, s3] at K1
            have HV2 : Hid (dv T.die = .agg #[.string N, .string O, .int .i64 0, .bool true]) := hide (by rw [dv_die hc1, HN.out, HO.out])
            have HQ : Hid (PR = (190, T.die)) := hide hPg
            generalize (T.bd : Int) = kk at *
            clear hcut hPg hZ hz hnz s1 s2 s3 hc1 hlen hBr
            go_upto_region 10 with (go_at_call 31; refine (K1.out _).mono ?_; rintro e w3 ⟨rfl, hbx⟩; have I3 := hide (I2.out.keep hbx); clear hbx; obtain ⟨te0, te1, te2, te3, tef⟩ := Its.cells4 I3.out; obtain ⟨tc0, tc1, tc2, tc3, tcf⟩ := Its.cells4 I3.out.tail)
            have I4 : Hid (Its w [.box (w.heap.size + 1) #[.string ⟨#[]⟩, .string ⟨#[]⟩, .int .i64 0, .bool false] 26, .box w.heap.size #[.string N, .string O, .int .i64 0, .bool true] 26] ((((w3.setCell ⟨w.heap.size, 0, none⟩ (.string N)).setCell ⟨w.heap.size, 1, none⟩ (.string O)).setCell ⟨w.heap.size, 2, none⟩ (.int .i64 0)).setCell ⟨w.heap.size, 3, none⟩ (.bool true))) := hide (Its.out4 I3.out.swap (.string N) (.string O) (.int .i64 0) (.bool true)).swap
            generalize ((((w3.setCell ⟨w.heap.size, 0, none⟩ (.string N)).setCell ⟨w.heap.size, 1, none⟩ (.string O)).setCell ⟨w.heap.size, 2, none⟩ (.int .i64 0)).setCell ⟨w.heap.size, 3, none⟩ (.bool true)) = w4 at *
            clear te0 te1 te2 te3 tef tc0 tc1 tc2 tc3 tcf
            clear e0 e1 e2 e3 ef c0 c1 c2 c3 cf
            obtain ⟨e0, e1, e2, e3, ef⟩ := Its.cells4 I4.out
            obtain ⟨c0, c1, c2, c3, cf⟩ := Its.cells4 I4.out.tail
            go_upto_region 11 with fail
            have HIe := hide (Its.out4 I4.out (.string N) (.string O) (.int .i64 0) (.bool true))
            go_wp2_with fail
            obtain ⟨y0, y1, y2, y3, _⟩ := Its.cells4 HIe.out
            exact bodyPost_ret (v := .tuple #[.agg #[.string N, .string O, .int .i64 0, .bool true], .int .i64 190]) (by simp [results, Try.results17, go_sem, y0, y1, y2, y3]) rfl (DvR.mk HQ.out HV2.out.symm HIe.out.bel)
          | true =>
            have hcut : T.cut (!T.cn) 0 = (0, (T.use 1).setA (!T.cn) []) := by
              unfold Tp.cut
              rw [if_neg hnz, if_pos hc1]
              rfl
            rw [hcut] at hPg
            unfold Tp.cmp2 at hPg
            rw [if_pos rfl] at hPg
            simp only at hPg
            obtain ⟨s1, s2, s3⟩ := sm_yes hc1
            rw [HBB.out, Hd.out] at s2
            rw [HBB.out] at s1 s3
            rw [show (((1 : Nat) : Nat) : Int) = 1 from rfl] at s1 s2 s3
            have K1 := hide (fun W => KS.out W O B 1 hBr (by omega))
            rw [s1, s2, s3] at K1
            have hok1 : ((T.use 1).setA (!T.cn) []).Ok := (hok.use 1).setA _ InB.nil (by simp)
            have hrest := cmp_rest (T := T) (T1 := (T.use 1).setA (!T.cn) []) rfl (setA_off _ (show T.cn ≠ !T.cn by cases T.cn <;> decide) _) (setA_at _ _ _) Hd.out hok1 ns
            have hBr1 := bud_rng hok1
            rw [show bud ((T.use 1).setA (!T.cn) []) = bud (T.use 1) from rfl] at hBr1
            obtain ⟨B1, hB1⟩ : ∃ B1, bud (T.use 1) = B1 := ⟨_, rfl⟩
            have hB1' : bud ((T.use 1).setA (!T.cn) []) = B1 := hB1
            have Hd1 : Hid (((T.use 1).setA (!T.cn) []).dd = false) := hide Hd.out
            rw [← hPg] at hrest
            rw [hB1] at K1 hBr1
            generalize (T.use 1).setA (!T.cn) [] = T1 at *
            clear hcut hPg hZ hz hnz s1 s2 s3 hc1 hlen hB1 hBr
            go_upto_region 10 with (go_at_call 31; refine (K1.out _).mono ?_; rintro e w3 ⟨rfl, hbx⟩; have I3 := hide (I2.out.keep hbx); clear hbx; obtain ⟨te0, te1, te2, te3, tef⟩ := Its.cells4 I3.out; obtain ⟨tc0, tc1, tc2, tc3, tcf⟩ := Its.cells4 I3.out.tail)
            have I4 : Hid (Its w [.box (w.heap.size + 1) #[.string ⟨#[]⟩, .string ⟨#[]⟩, .int .i64 0, .bool false] 26, .box w.heap.size #[.string N, .string O, .int .i64 B1, .bool false] 26] ((((w3.setCell ⟨w.heap.size, 0, none⟩ (.string N)).setCell ⟨w.heap.size, 1, none⟩ (.string O)).setCell ⟨w.heap.size, 2, none⟩ (.int .i64 B1)).setCell ⟨w.heap.size, 3, none⟩ (.bool false))) := hide (Its.out4 I3.out.swap (.string N) (.string O) (.int .i64 B1) (.bool false)).swap
            generalize ((((w3.setCell ⟨w.heap.size, 0, none⟩ (.string N)).setCell ⟨w.heap.size, 1, none⟩ (.string O)).setCell ⟨w.heap.size, 2, none⟩ (.int .i64 B1)).setCell ⟨w.heap.size, 3, none⟩ (.bool false)) = w4 at *
            clear te0 te1 te2 te3 tef tc0 tc1 tc2 tc3 tcf
            clear e0 e1 e2 e3 ef c0 c1 c2 c3 cf
            obtain ⟨e0, e1, e2, e3, ef⟩ := Its.cells4 I4.out
            obtain ⟨c0, c1, c2, c3, cf⟩ := Its.cells4 I4.out.tail
            go_upto_region 13 with fail
            have I5 : Hid (Its w [.box (w.heap.size + 1) #[.string ⟨#[]⟩, .string ⟨#[]⟩, .int .i64 0, .bool false] 26, .box w.heap.size #[.string N, .string ⟨#[]⟩, .int .i64 B1, .bool false] 26] (w4.setCell ⟨w.heap.size, 1, none⟩ (.string ⟨#[]⟩))) := hide (I4.out.swap.put 1 (.string ⟨#[]⟩)).swap
            generalize w4.setCell ⟨w.heap.size, 1, none⟩ (.string ⟨#[]⟩) = w5 at *
            clear e0 e1 e2 e3 ef c0 c1 c2 c3 cf
            obtain ⟨e0, e1, e2, e3, ef⟩ := Its.cells4 I5.out
            obtain ⟨c0, c1, c2, c3, cf⟩ := Its.cells4 I5.out.tail
            rcases hrest with ⟨T2, hc, hq, hv⟩ | ⟨T2, hc, hb2, hd2, hr1, hr2, hq⟩
            · obtain ⟨s1, s2, s3, s4, _⟩ := sm_no hc
              rw [hB1', Hd1.out, HL.out] at s2
              rw [hB1', HL.out] at s1 s3
              rw [HL.out] at s4
              obtain ⟨k, hk⟩ : ∃ k, T1.bd = k := ⟨_, rfl⟩
              rw [hk] at s3 s4
              have K2 := hide (fun W => KS.out W ⟨#[]⟩ B1 (L : Int) hBr1 hLr)
              rw [s1, s2, s3] at K2
              have k0 : (0 : Int) ≤ (k : Int) := by omega
              have k1 : (k : Int) ≤ (L : Int) := by omega
              have HV2 : Hid (dv T2 = .agg #[.string N, .string (sS.extract 0 k), .int .i64 0, .bool true]) := hide (by rw [hv, HN.out, ← HS.out, str_ext, hk])
              have HQ := hide hq
              clear hv hq s1 s2 s3 s4 hk hc
              go_upto_region 14 with (go_at_call 31; refine (K2.out _).mono ?_; rintro e wa ⟨rfl, hbx⟩; have Ia := hide (I5.out.keep hbx); clear hbx; obtain ⟨te0, te1, te2, te3, tef⟩ := Its.cells4 Ia.out; obtain ⟨tc0, tc1, tc2, tc3, tcf⟩ := Its.cells4 Ia.out.tail)
              have Ib : Hid (Its w [.box (w.heap.size + 1) #[.string ⟨#[]⟩, .string ⟨#[]⟩, .int .i64 0, .bool false] 26, .box w.heap.size #[.string N, .string ⟨#[]⟩, .int .i64 0, .bool true] 26] ((((wa.setCell ⟨w.heap.size, 0, none⟩ (.string N)).setCell ⟨w.heap.size, 1, none⟩ (.string ⟨#[]⟩)).setCell ⟨w.heap.size, 2, none⟩ (.int .i64 0)).setCell ⟨w.heap.size, 3, none⟩ (.bool true))) := hide (Its.out4 Ia.out.swap (.string N) (.string ⟨#[]⟩) (.int .i64 0) (.bool true)).swap
              generalize ((((wa.setCell ⟨w.heap.size, 0, none⟩ (.string N)).setCell ⟨w.heap.size, 1, none⟩ (.string ⟨#[]⟩)).setCell ⟨w.heap.size, 2, none⟩ (.int .i64 0)).setCell ⟨w.heap.size, 3, none⟩ (.bool true)) = wb at *
              clear te0 te1 te2 te3 tef tc0 tc1 tc2 tc3 tcf
              clear e0 e1 e2 e3 ef c0 c1 c2 c3 cf
              obtain ⟨e0, e1, e2, e3, ef⟩ := Its.cells4 Ib.out
              obtain ⟨c0, c1, c2, c3, cf⟩ := Its.cells4 Ib.out.tail
              go_upto_region 15 with fail
              have Ic : Hid (Its w [.box (w.heap.size + 1) #[.string ⟨#[]⟩, .string ⟨#[]⟩, .int .i64 0, .bool false] 26, .box w.heap.size #[.string N, .string (sS.extract 0 k), .int .i64 0, .bool true] 26] (wb.setCell ⟨w.heap.size, 1, none⟩ (.string (sS.extract 0 k)))) := hide (Ib.out.swap.put 1 (.string (sS.extract 0 k))).swap
              generalize wb.setCell ⟨w.heap.size, 1, none⟩ (.string (sS.extract 0 k)) = wd at *
              generalize sS.extract 0 k = sY at *
              clear e0 e1 e2 e3 ef c0 c1 c2 c3 cf
              obtain ⟨e0, e1, e2, e3, ef⟩ := Its.cells4 Ic.out
              obtain ⟨c0, c1, c2, c3, cf⟩ := Its.cells4 Ic.out.tail
              go_upto_region 16 with fail
              have HIe := hide (Its.out4 Ic.out (.string N) (.string sY) (.int .i64 0) (.bool true))
              go_wp2_with fail
              obtain ⟨y0, y1, y2, y3, _⟩ := Its.cells4 HIe.out
              exact bodyPost_ret (v := .tuple #[.agg #[.string N, .string sY, .int .i64 0, .bool true], .int .i64 190]) (by simp [results, Try.results17, go_sem, y0, y1, y2, y3]) rfl (DvR.mk HQ.out HV2.out.symm HIe.out.bel)
            · obtain ⟨s1, s2, s3⟩ := sm_yes hc
              rw [hB1', Hd1.out, HL.out] at s2
              rw [hB1', HL.out] at s1 s3
              rw [HL.out] at hb2
              rw [← hb2] at s1
              obtain ⟨B2, hB2⟩ : ∃ B2, bud T2 = B2 := ⟨_, rfl⟩
              have hBr2 : -1 ≤ B2 ∧ B2 ≤ 1099511627776 := by rw [← hB2]; exact ⟨hr1, hr2⟩
              rw [hB2] at s1
              have K2 := hide (fun W => KS.out W ⟨#[]⟩ B1 (L : Int) hBr1 hLr)
              rw [s1, s2, s3] at K2
              have K3 := hide (fun W => KS.out W sS B2 1 hBr2 (by omega))
              have k1 : (L : Int) ≤ (L : Int) := Int.le_refl _
              clear s1 s2 s3 hc hb2 hr1 hr2
              have hex := HX.out
              go_upto_region 14 with (go_at_call 31; refine (K2.out _).mono ?_; rintro e wa ⟨rfl, hbx⟩; have Ia := hide (I5.out.keep hbx); clear hbx; obtain ⟨te0, te1, te2, te3, tef⟩ := Its.cells4 Ia.out; obtain ⟨tc0, tc1, tc2, tc3, tcf⟩ := Its.cells4 Ia.out.tail)
              have Ib : Hid (Its w [.box (w.heap.size + 1) #[.string ⟨#[]⟩, .string ⟨#[]⟩, .int .i64 0, .bool false] 26, .box w.heap.size #[.string N, .string ⟨#[]⟩, .int .i64 B2, .bool false] 26] ((((wa.setCell ⟨w.heap.size, 0, none⟩ (.string N)).setCell ⟨w.heap.size, 1, none⟩ (.string ⟨#[]⟩)).setCell ⟨w.heap.size, 2, none⟩ (.int .i64 B2)).setCell ⟨w.heap.size, 3, none⟩ (.bool false))) := hide (Its.out4 Ia.out.swap (.string N) (.string ⟨#[]⟩) (.int .i64 B2) (.bool false)).swap
              generalize ((((wa.setCell ⟨w.heap.size, 0, none⟩ (.string N)).setCell ⟨w.heap.size, 1, none⟩ (.string ⟨#[]⟩)).setCell ⟨w.heap.size, 2, none⟩ (.int .i64 B2)).setCell ⟨w.heap.size, 3, none⟩ (.bool false)) = wb at *
              clear te0 te1 te2 te3 tef tc0 tc1 tc2 tc3 tcf
              clear e0 e1 e2 e3 ef c0 c1 c2 c3 cf
              obtain ⟨e0, e1, e2, e3, ef⟩ := Its.cells4 Ib.out
              obtain ⟨c0, c1, c2, c3, cf⟩ := Its.cells4 Ib.out.tail
              go_upto_region 15 with fail
              have Ic : Hid (Its w [.box (w.heap.size + 1) #[.string ⟨#[]⟩, .string ⟨#[]⟩, .int .i64 0, .bool false] 26, .box w.heap.size #[.string N, .string sS, .int .i64 B2, .bool false] 26] (wb.setCell ⟨w.heap.size, 1, none⟩ (.string sS))) := hide (Ib.out.swap.put 1 (.string sS)).swap
              generalize wb.setCell ⟨w.heap.size, 1, none⟩ (.string sS) = wd at *
              clear e0 e1 e2 e3 ef c0 c1 c2 c3 cf hex
              obtain ⟨e0, e1, e2, e3, ef⟩ := Its.cells4 Ic.out
              obtain ⟨c0, c1, c2, c3, cf⟩ := Its.cells4 Ic.out.tail
              rcases hq with ⟨T3, hc3, hq, hv⟩ | ⟨T3, hc3, hq, hv⟩
              · obtain ⟨s1, s2, s3, _, _⟩ := sm_no hc3
                rw [hB2, hd2] at s2
                rw [hB2] at s1 s3
                rw [show (((1 : Nat) : Nat) : Int) = 1 from rfl] at s1 s2 s3
                rw [s1, s2, s3] at K3
                have A5 : Hid (PR = (190, T3)) := hide hq
                have A6 : Hid (dv T3 = .agg #[.string N, .string sS, .int .i64 0, .bool true]) := hide (by rw [hv, HN.out, HS.out])
                generalize (T2.bd : Int) = kk at *
                clear hq hv s1 s2 s3 hc3
                go_upto_region 18 with (go_at_call 31; refine (K3.out _).mono ?_; rintro e we ⟨rfl, hbx⟩; have Id := hide (Ic.out.keep hbx); clear hbx; obtain ⟨te0, te1, te2, te3, tef⟩ := Its.cells4 Id.out; obtain ⟨tc0, tc1, tc2, tc3, tcf⟩ := Its.cells4 Id.out.tail)
                have I6 : Hid (Its w [.box (w.heap.size + 1) #[.string ⟨#[]⟩, .string ⟨#[]⟩, .int .i64 0, .bool false] 26, .box w.heap.size #[.string N, .string sS, .int .i64 0, .bool true] 26] ((((we.setCell ⟨w.heap.size, 0, none⟩ (.string N)).setCell ⟨w.heap.size, 1, none⟩ (.string sS)).setCell ⟨w.heap.size, 2, none⟩ (.int .i64 0)).setCell ⟨w.heap.size, 3, none⟩ (.bool true))) := hide (Its.out4 Id.out.swap (.string N) (.string sS) (.int .i64 0) (.bool true)).swap
                generalize ((((we.setCell ⟨w.heap.size, 0, none⟩ (.string N)).setCell ⟨w.heap.size, 1, none⟩ (.string sS)).setCell ⟨w.heap.size, 2, none⟩ (.int .i64 0)).setCell ⟨w.heap.size, 3, none⟩ (.bool true)) = w6 at *
                clear te0 te1 te2 te3 tef tc0 tc1 tc2 tc3 tcf
                clear e0 e1 e2 e3 ef c0 c1 c2 c3 cf
                obtain ⟨e0, e1, e2, e3, ef⟩ := Its.cells4 I6.out
                obtain ⟨c0, c1, c2, c3, cf⟩ := Its.cells4 I6.out.tail
                go_upto_region 20 with fail
                clear e0 e1 e2 e3 ef c0 c1 c2 c3 cf
                obtain ⟨S2, hS2⟩ : ∃ S2 : World → Prop, S2 = fun W => W.heap[w.heap.size]? = some (.cells #[.string N, .string sS, .int .i64 0, .bool true] 26) := ⟨_, rfl⟩
                have s2 : ∀ W, S2 W → W.cell? ⟨w.heap.size, 0, none⟩ = some (.string N) ∧ W.cell? ⟨w.heap.size, 1, none⟩ = some (.string sS) ∧ W.cell? ⟨w.heap.size, 2, none⟩ = some (.int .i64 0) ∧ W.cell? ⟨w.heap.size, 3, none⟩ = some (.bool true) := fun W hW => by
                  rw [hS2] at hW
                  exact ⟨(cells_at hW 0).1, (cells_at hW 1).1, (cells_at hW 2).1, (cells_at hW 3).1⟩
                have hT0 : S2 w6.drew := by rw [hS2]; exact I6.out.two
                have K32 : Hid (∀ W, Calls Try.prog 32 #[.agg #[.string N, .string sS, .int .i64 0, .bool true]] W fun e w' => e = .returned (.int .i64 190) ∧ Below W.heap.size W w') := hide (fun W => by have h := rcode_any N sS 0 true W; rw [if_pos rfl] at h; exact h)
                have HI8 : Hid (∀ W, Below w6.heap.size w6.drew W → S2 W ∧ W.cell? ⟨w.heap.size + 1, 0, none⟩ = some (.string ⟨#[]⟩) ∧ W.cell? ⟨w.heap.size + 1, 1, none⟩ = some (.string ⟨#[]⟩) ∧ W.cell? ⟨w.heap.size + 1, 2, none⟩ = some (.int .i64 0) ∧ W.cell? ⟨w.heap.size + 1, 3, none⟩ = some (.bool false) ∧ (∀ i, W.frozen? ⟨w.heap.size + 1, i, none⟩ = false) ∧ Its w [.box (w.heap.size + 1) #[.string N, .string sS, .int .i64 0, .bool true] 26, .box w.heap.size #[.string N, .string sS, .int .i64 0, .bool true] 26] ((((W.setCell ⟨w.heap.size + 1, 0, none⟩ (.string N)).setCell ⟨w.heap.size + 1, 1, none⟩ (.string sS)).setCell ⟨w.heap.size + 1, 2, none⟩ (.int .i64 0)).setCell ⟨w.heap.size + 1, 3, none⟩ (.bool true))) := hide (fun W hW => by
                  have I7 := (I6.out.drew 1).keep hW
                  obtain ⟨q0, q1, q2, q3, qf⟩ := Its.cells4 I7
                  exact ⟨by rw [hS2]; exact I7.two, q0, q1, q2, q3, qf, Its.out4 I7 _ _ _ _⟩)
                have HS8 : Hid (∀ W, Its w [.box (w.heap.size + 1) #[.string N, .string sS, .int .i64 0, .bool true] 26, .box w.heap.size #[.string N, .string sS, .int .i64 0, .bool true] 26] W → S2 W) := hide (fun W hW => by rw [hS2]; exact hW.two)
                clear hS2
                refine wp_region_held_drew (S := S2) (by kernel_rfl) hT0 (fun hS => ?_)
                refine wpAnyH_take (i := 0) (v := .agg #[.string N, .string sS, .int .i64 0, .bool true]) rfl (by kernel_rfl) (by kernel_rfl) (by kernel_rfl) (fun _ _ _ h => h) (Or.inl ⟨by kernel_rfl, fun W' hW => by obtain ⟨z0, z1, z2, z3⟩ := s2 W' hW; go_simp⟩) hS ?_
                refine wpAnyH_take (i := 1) (v := .agg #[.string N, .string sS, .int .i64 0, .bool true]) rfl (by kernel_rfl) (by kernel_rfl) (by kernel_rfl) (fun _ _ _ h => h) (Or.inl ⟨by kernel_rfl, fun W' hW => by obtain ⟨z0, z1, z2, z3⟩ := s2 W' hW; go_simp⟩) hS ?_
                refine wpAnyH_ready (rs := [2]) (by kernel_rfl) (by simp) ?_
                refine AllReadyH.cons rfl (fun K hK => ?_) AllReadyH.nil
                go_simp
                go_at_call 32
                refine (K32.out _).mono ?_
                rintro e w7 ⟨rfl, hb7⟩
                obtain ⟨hS7, q0, q1, q2, q3, qf, h8⟩ := HI8.out _ hb7
                have hS8 := HS8.out _ h8
                have H8 := hide h8
                clear h8
                go_simp
                refine hK.out _ _ hS7 (fun _ => ?_)
                clear hK K
                refine wpAnyH_ready (rs := [3]) (by kernel_rfl) (by simp) ?_
                refine AllReadyH.cons rfl (fun K hK => ?_) AllReadyH.nil
                go_simp
                refine hK.out _ _ hS8 (fun _ => ?_)
                clear hK K
                refine wpAnyH_ready (rs := [4]) (by kernel_rfl) (by simp) ?_
                refine AllReadyH.cons rfl (fun K hK => ?_) AllReadyH.nil
                go_simp
                refine hK.out _ _ hS8 (fun _ => ?_)
                clear hK K
                refine wpAnyH_done (by kernel_rfl) ?_ _
                go_wp2_with fail
                obtain ⟨y0, y1, y2, y3, _⟩ := Its.cells4 H8.out
                exact bodyPost_ret (v := .tuple #[.agg #[.string N, .string sS, .int .i64 0, .bool true], .int .i64 190]) (by simp [results, Try.results17, go_sem, y0, y1, y2, y3]) rfl (DvR.mk A5.out A6.out.symm H8.out.bel)
              · obtain ⟨s1, s2, s3⟩ := sm_yes hc3
                rw [hB2, hd2] at s2
                rw [hB2] at s1 s3
                rw [show (((1 : Nat) : Nat) : Int) = 1 from rfl] at s1 s2 s3
                obtain ⟨B3, hB3⟩ : ∃ B3, bud (T2.use 1) = B3 := ⟨_, rfl⟩
                rw [hB3] at s1
                rw [s1, s2, s3] at K3
                have A5 : Hid (PR = (0, T3)) := hide hq
                have A6 : Hid (dv T3 = .agg #[.string sS, .string N, .int .i64 B3, .bool false]) := hide (by rw [hv, HN.out, HS.out, hB3])
                clear hq hv s1 s2 s3 hc3 hB3
                go_upto_region 18 with (go_at_call 31; refine (K3.out _).mono ?_; rintro e we ⟨rfl, hbx⟩; have Id := hide (Ic.out.keep hbx); clear hbx; obtain ⟨te0, te1, te2, te3, tef⟩ := Its.cells4 Id.out; obtain ⟨tc0, tc1, tc2, tc3, tcf⟩ := Its.cells4 Id.out.tail)
                have Ie : Hid (Its w [.box (w.heap.size + 1) #[.string ⟨#[]⟩, .string ⟨#[]⟩, .int .i64 0, .bool false] 26, .box w.heap.size #[.string N, .string sS, .int .i64 B3, .bool false] 26] ((((we.setCell ⟨w.heap.size, 0, none⟩ (.string N)).setCell ⟨w.heap.size, 1, none⟩ (.string sS)).setCell ⟨w.heap.size, 2, none⟩ (.int .i64 B3)).setCell ⟨w.heap.size, 3, none⟩ (.bool false))) := hide (Its.out4 Id.out.swap (.string N) (.string sS) (.int .i64 B3) (.bool false)).swap
                generalize ((((we.setCell ⟨w.heap.size, 0, none⟩ (.string N)).setCell ⟨w.heap.size, 1, none⟩ (.string sS)).setCell ⟨w.heap.size, 2, none⟩ (.int .i64 B3)).setCell ⟨w.heap.size, 3, none⟩ (.bool false)) = wf at *
                clear te0 te1 te2 te3 tef tc0 tc1 tc2 tc3 tcf
                clear e0 e1 e2 e3 ef c0 c1 c2 c3 cf
                obtain ⟨e0, e1, e2, e3, ef⟩ := Its.cells4 Ie.out
                obtain ⟨c0, c1, c2, c3, cf⟩ := Its.cells4 Ie.out.tail
                go_upto_region 20 with fail
                have I6 : Hid (Its w [.box (w.heap.size + 1) #[.string ⟨#[]⟩, .string ⟨#[]⟩, .int .i64 0, .bool false] 26, .box w.heap.size #[.string sS, .string N, .int .i64 B3, .bool false] 26] ((wf.setCell ⟨w.heap.size, 0, none⟩ (.string sS)).setCell ⟨w.heap.size, 1, none⟩ (.string N))) := hide ((Ie.out.swap.put 0 (.string sS)).put 1 (.string N)).swap
                generalize (wf.setCell ⟨w.heap.size, 0, none⟩ (.string sS)).setCell ⟨w.heap.size, 1, none⟩ (.string N) = w6 at *
                clear e0 e1 e2 e3 ef c0 c1 c2 c3 cf
                obtain ⟨S2, hS2⟩ : ∃ S2 : World → Prop, S2 = fun W => W.heap[w.heap.size]? = some (.cells #[.string sS, .string N, .int .i64 B3, .bool false] 26) := ⟨_, rfl⟩
                have s2 : ∀ W, S2 W → W.cell? ⟨w.heap.size, 0, none⟩ = some (.string sS) ∧ W.cell? ⟨w.heap.size, 1, none⟩ = some (.string N) ∧ W.cell? ⟨w.heap.size, 2, none⟩ = some (.int .i64 B3) ∧ W.cell? ⟨w.heap.size, 3, none⟩ = some (.bool false) := fun W hW => by
                  rw [hS2] at hW
                  exact ⟨(cells_at hW 0).1, (cells_at hW 1).1, (cells_at hW 2).1, (cells_at hW 3).1⟩
                have hT0 : S2 w6.drew := by rw [hS2]; exact I6.out.two
                have K32 : Hid (∀ W, Calls Try.prog 32 #[.agg #[.string sS, .string N, .int .i64 B3, .bool false]] W fun e w' => e = .returned (.int .i64 0) ∧ Below W.heap.size W w') := hide (fun W => by have h := rcode_any sS N B3 false W; rw [if_neg (by decide)] at h; exact h)
                have HI8 : Hid (∀ W, Below w6.heap.size w6.drew W → S2 W ∧ W.cell? ⟨w.heap.size + 1, 0, none⟩ = some (.string ⟨#[]⟩) ∧ W.cell? ⟨w.heap.size + 1, 1, none⟩ = some (.string ⟨#[]⟩) ∧ W.cell? ⟨w.heap.size + 1, 2, none⟩ = some (.int .i64 0) ∧ W.cell? ⟨w.heap.size + 1, 3, none⟩ = some (.bool false) ∧ (∀ i, W.frozen? ⟨w.heap.size + 1, i, none⟩ = false) ∧ Its w [.box (w.heap.size + 1) #[.string sS, .string N, .int .i64 B3, .bool false] 26, .box w.heap.size #[.string sS, .string N, .int .i64 B3, .bool false] 26] ((((W.setCell ⟨w.heap.size + 1, 0, none⟩ (.string sS)).setCell ⟨w.heap.size + 1, 1, none⟩ (.string N)).setCell ⟨w.heap.size + 1, 2, none⟩ (.int .i64 B3)).setCell ⟨w.heap.size + 1, 3, none⟩ (.bool false))) := hide (fun W hW => by
                  have I7 := (I6.out.drew 1).keep hW
                  obtain ⟨q0, q1, q2, q3, qf⟩ := Its.cells4 I7
                  exact ⟨by rw [hS2]; exact I7.two, q0, q1, q2, q3, qf, Its.out4 I7 _ _ _ _⟩)
                have HS8 : Hid (∀ W, Its w [.box (w.heap.size + 1) #[.string sS, .string N, .int .i64 B3, .bool false] 26, .box w.heap.size #[.string sS, .string N, .int .i64 B3, .bool false] 26] W → S2 W) := hide (fun W hW => by rw [hS2]; exact hW.two)
                clear hS2
                refine wp_region_held_drew (S := S2) (by kernel_rfl) hT0 (fun hS => ?_)
                refine wpAnyH_take (i := 0) (v := .agg #[.string sS, .string N, .int .i64 B3, .bool false]) rfl (by kernel_rfl) (by kernel_rfl) (by kernel_rfl) (fun _ _ _ h => h) (Or.inl ⟨by kernel_rfl, fun W' hW => by obtain ⟨z0, z1, z2, z3⟩ := s2 W' hW; go_simp⟩) hS ?_
                refine wpAnyH_take (i := 1) (v := .agg #[.string sS, .string N, .int .i64 B3, .bool false]) rfl (by kernel_rfl) (by kernel_rfl) (by kernel_rfl) (fun _ _ _ h => h) (Or.inl ⟨by kernel_rfl, fun W' hW => by obtain ⟨z0, z1, z2, z3⟩ := s2 W' hW; go_simp⟩) hS ?_
                refine wpAnyH_ready (rs := [2]) (by kernel_rfl) (by simp) ?_
                refine AllReadyH.cons rfl (fun K hK => ?_) AllReadyH.nil
                go_simp
                go_at_call 32
                refine (K32.out _).mono ?_
                rintro e w7 ⟨rfl, hb7⟩
                obtain ⟨hS7, q0, q1, q2, q3, qf, h8⟩ := HI8.out _ hb7
                have hS8 := HS8.out _ h8
                have H8 := hide h8
                clear h8
                go_simp
                refine hK.out _ _ hS7 (fun _ => ?_)
                clear hK K
                refine wpAnyH_ready (rs := [3]) (by kernel_rfl) (by simp) ?_
                refine AllReadyH.cons rfl (fun K hK => ?_) AllReadyH.nil
                go_simp
                refine hK.out _ _ hS8 (fun _ => ?_)
                clear hK K
                refine wpAnyH_ready (rs := [4]) (by kernel_rfl) (by simp) ?_
                refine AllReadyH.cons rfl (fun K hK => ?_) AllReadyH.nil
                go_simp
                refine hK.out _ _ hS8 (fun _ => ?_)
                clear hK K
                refine wpAnyH_done (by kernel_rfl) ?_ _
                go_wp2_with fail
                obtain ⟨y0, y1, y2, y3, _⟩ := Its.cells4 H8.out
                exact bodyPost_ret (v := .tuple #[.agg #[.string sS, .string N, .int .i64 B3, .bool false], .int .i64 0]) (by simp [results, Try.results17, go_sem, y0, y1, y2, y3]) rfl (DvR.mk A5.out A6.out.symm H8.out.bel)
    · have I2 := hide (I1.out.keep hb2)
      clear e0 e1 e2 e3 ef c0 c1 c2 c3 cf
      obtain ⟨e0, e1, e2, e3, ef⟩ := Its.cells4 I2.out
      obtain ⟨c0, c1, c2, c3, cf⟩ := Its.cells4 I2.out.tail
      have HQ : Hid (PR = (180, T)) := hide (by rw [← HP.out]; exact cmp_note Hd.out hk)
      clear hk hb2
      have HIe := hide (Its.out4 I2.out (.string N) (.string O) (.int .i64 B) (.bool false))
      go_wp2_with fail
      obtain ⟨y0, y1, y2, y3, _⟩ := Its.cells4 HIe.out
      exact bodyPost_ret (v := .tuple #[.agg #[.string N, .string O, .int .i64 B, .bool false], .int .i64 180]) (by simp [results, Try.results17, go_sem, y0, y1, y2, y3]) rfl (DvR.mk HQ.out HV.out.symm HIe.out.bel)
end Go.Proofs.Ytgdoagmnhmfjkaa
