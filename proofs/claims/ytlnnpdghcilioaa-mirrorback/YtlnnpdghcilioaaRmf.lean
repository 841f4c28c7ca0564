/- The document's Mask. -/
import Derived.Test.YtlnnpdghcilioaaRme
namespace Go.Proofs.Ytlnnpdghcilioaa
open Go.RowKit
set_option linter.unusedVariables false
def dwC (R : Rm) (d : Int) (b : Bool) (x : Int) : Bool := (decide (x = d) && b) || (decide (x ≠ d) && R.isDn x)
theorem dwF_succ (R : Rm) (j : Nat) (d : Int) (b : Bool) : R.dwF (j + 1) d b = R.dwF j d b ++ (if dwC R d b ((j : Int) + 1) = true then [(j : Int) + 1] else []) := by
  unfold Rm.dwF
  rw [List.range_succ, List.map_append, List.filter_append]
  congr 1
  rw [List.map_cons, List.map_nil, List.filter_cons, List.filter_nil]
  rfl
theorem dwF_len (R : Rm) (j : Nat) (d : Int) (b : Bool) : (R.dwF j d b).length ≤ j := by
  unfold Rm.dwF
  refine Nat.le_trans (List.length_filter_le _ _) ?_
  simp
section
variable {w0 w : World} {l : List It} {k : Nat} {V : Vm} {R : Rm} {a b : Option Addr} {c e n m : Nat} {ns : List Nd} {es : List Ed}
set_option maxRecDepth 100000 in
set_option maxHeartbeats 4000000 in
theorem rmaskS (h : Its w0 (.dm w0.heap.size V R k :: l) w) (hk : k + 1 ≤ 1000) (hes : es.length = m) (hm : m ≤ 120) (d : Int) (dn : Bool) : Calls Try.prog 35 #[.agg #[.slice a n c, .slice b m e, .slice V.aS V.nS V.cS, .slice V.aT V.nT V.cT, .slice V.aD V.nD V.cD, .slice V.aL V.nL V.cL], .int .i64 d, .bool dn] w fun r w' => RP w0 l a b c e n m (k + 1) (R.msk n es d dn) r w' := by
  have I1 := hide (h.two6 (a := a) (b := b) (c := c) (e := e) (n := n) (m := m))
  have KO : Hid (∀ W : World, Calls Try.prog 51 #[.agg #[.slice a n c, .slice b m e, .slice V.aS V.nS V.cS, .slice V.aT V.nT V.cT, .slice V.aD V.nD V.cD, .slice V.aL V.nL V.cL], .int .i64 1, .int .i64 0, .int .i64 d] W fun e w' => e = .returned (.bool (Rm.out n m 1 0 d)) ∧ Below W.heap.size W w') := hide (fun W => outside_any W V 1 0 d)
  have KF : Hid (∀ (W : World) (x : Int), (It.dm w0.heap.size V R k).P W → Calls Try.prog 52 #[.agg #[.slice a n c, .slice b m e, .slice V.aS V.nS V.cS, .slice V.aT V.nT V.cT, .slice V.aD V.nD V.cD, .slice V.aL V.nL V.cL], .int .i64 x] W fun e w' => e = .returned (.bool (R.isDn x)) ∧ Below W.heap.size W w') := hide (fun W x hW => rdown_any hW x)
  have HF := hide (dm_f h.one)
  have HS : Hid (∀ W, Its w0 (.box (w.heap.size + 1) #[.slice a n c, .slice b m e, .slice V.aS V.nS V.cS, .slice V.aT V.nT V.cT, .slice V.aD V.nD V.cD, .slice V.aL V.nL V.cL] 38 :: .box w.heap.size #[.slice a n c, .slice b m e, .slice V.aS V.nS V.cS, .slice V.aT V.nT V.cT, .slice V.aD V.nD V.cD, .slice V.aL V.nL V.cL] 38 :: .dm w0.heap.size V R k :: l) W → Its w0 (.dm w0.heap.size V R (k + 1) :: l) W) := hide (fun W hW => hW.tail.tail.dmono (by omega) hk)
  have eP : R.msk n es d dn = if Rm.out n es.length 1 0 d = true then (1, R) else (0, { R with dw := R.dwF es.length d dn }) := rfl
  rw [eP, hes]
  generalize Rm.out n m 1 0 d = ob at *
  have HDm : Hid (∀ W (al : Option Addr) (nl cl : Nat), (R.dwF m d dn).length = nl → Its w0 (.ints w0.heap.size (.slice al nl cl) (R.dwF m d dn) :: .box (w.heap.size + 1) #[.slice none 0 0, .slice none 0 0, .slice none 0 0, .slice none 0 0, .slice none 0 0, .slice none 0 0] 38 :: .box w.heap.size #[.slice a n c, .slice b m e, .slice V.aS V.nS V.cS, .slice V.aT V.nT V.cT, .slice V.aD V.nD V.cD, .slice V.aL V.nL V.cL] 38 :: .dm w0.heap.size V R k :: l) W → Its w0 (.box (w.heap.size + 1) #[.slice none 0 0, .slice none 0 0, .slice none 0 0, .slice none 0 0, .slice none 0 0, .slice none 0 0] 38 :: .box w.heap.size #[.slice a n c, .slice b m e, .slice V.aS V.nS V.cS, .slice V.aT V.nT V.cT, .slice al nl cl, .slice V.aL V.nL V.cL] 38 :: .dm w0.heap.size { V with aD := al, nD := nl, cD := cl } { R with dw := R.dwF m d dn } (k + 1) :: l) (W.setCell ⟨w.heap.size, 4, none⟩ (.slice al nl cl))) := hide (fun W al nl cl hl hW => by
    have q := ((hW.rot3.put1 4 (.slice al nl cl)).rot4.dopen.1.rot3.tail.fifth).rot3'
    exact (Its.dshut (V := { V with aD := al, nD := nl, cD := cl }) (R := { R with dw := R.dwF m d dn }) q ⟨HF.out.lS, HF.out.lT, hl, HF.out.lL, by have := HF.out.bS; simp only; omega, by have := HF.out.bT; simp only; omega, by rw [← hl]; exact Nat.le_trans (dwF_len _ _ _ _) hm, by have := HF.out.bL; simp only; omega, hk⟩).rot3'.swap)
  obtain ⟨P, hP⟩ : ∃ P : Int × Rm, (if ob = true then (1, R) else (0, { R with dw := R.dwF m d dn })) = P := ⟨_, rfl⟩
  rw [hP]
  have HPP := hide hP
  have i0 : (m : Int) ≤ 120 := by omega
  have Hdw : Hid (∀ j : Nat, j ≤ m → (R.dwF j d dn).length + [(j : Int) + 1].length ≤ 1000000) := hide (fun j hj => by have := dwF_len R j d dn; simp only [List.length_singleton]; omega)
  clear h hP eP hes hm
  obtain ⟨aS, nS, cS, aT, nT, cT, aD, nD, cD, aL, nL, cL⟩ := V
  dsimp only at *
  go_enter Try.func35, Try.ntmps35
  go_upto_region 1 with fail
  generalize (w.alloc (.cells #[.slice a n c, .slice b m e, .slice aS nS cS, .slice aT nT cT, .slice aD nD cD, .slice aL nL cL] 38)).alloc (.cells #[.slice none 0 0, .slice none 0 0, .slice none 0 0, .slice none 0 0, .slice none 0 0, .slice none 0 0] 38) = W1 at *
  obtain ⟨e0, e1, e2, e3, e4, e5, ef⟩ := Its.cells6 I1.out; obtain ⟨c0, c1, c2, c3, c4, c5, cf⟩ := Its.cells6 I1.out.tail
  cases ob with
  | true =>
    go_upto_region 2 with (go_at_call 51; refine (KO.out _).mono ?_; rintro e1 W2 ⟨rfl, q⟩; have I2 := hide (I1.out.keep q); clear q; obtain ⟨se0, se1, se2, se3, se4, se5, sef⟩ := Its.cells6 I2.out; obtain ⟨sc0, sc1, sc2, sc3, sc4, sc5, scf⟩ := Its.cells6 I2.out.tail)
    have HIe := hide (Its.out6 I2.out (.slice a n c) (.slice b m e) (.slice aS nS cS) (.slice aT nT cT) (.slice aD nD cD) (.slice aL nL cL))
    go_wp2_with fail
    obtain ⟨y0, y1, y2, y3, y4, y5, _⟩ := Its.cells6 HIe.out
    exact bodyPost_ret (v := .tuple #[.agg #[.slice a n c, .slice b m e, .slice aS nS cS, .slice aT nT cT, .slice aD nD cD, .slice aL nL cL], .int .i64 1]) (by simp [results, Try.results35, go_sem, y0, y1, y2, y3, y4, y5]) rfl (RP.mk2 (V := ⟨aS, nS, cS, aT, nT, cT, aD, nD, cD, aL, nL, cL⟩) (by rw [← HPP.out]; simp) (HS.out _ HIe.out))

  | false =>
    go_upto_region 4 with (go_at_call 51; refine (KO.out _).mono ?_; rintro e1 W2 ⟨rfl, q⟩; have I2 := hide (I1.out.keep q); clear q; obtain ⟨se0, se1, se2, se3, se4, se5, sef⟩ := Its.cells6 I2.out; obtain ⟨sc0, sc1, sc2, sc3, sc4, sc5, scf⟩ := Its.cells6 I2.out.tail)
    have J0 := hide (I2.out.empty intE)
    clear e0 e1 e2 e3 e4 e5 ef c0 c1 c2 c3 c4 c5 cf
    clear se0 se1 se2 se3 se4 se5 sef sc0 sc1 sc2 sc3 sc4 sc5 scf
    go_wp2_with fail
    go_loopw [8, 9] (fun v8 v9 wr => ∃ (j : Nat) (al : Option Addr) (nl cl : Nat), v8 = .slice al nl cl ∧ v9 = .int .i64 ((j : Int) + 1) ∧ j ≤ m ∧ Hid ((R.dwF j d dn).length = nl) ∧ Hid (Its w0 (.ints w0.heap.size (.slice al nl cl) (R.dwF j d dn) :: .box (w.heap.size + 1) #[.slice none 0 0, .slice none 0 0, .slice none 0 0, .slice none 0 0, .slice none 0 0, .slice none 0 0] 38 :: .box w.heap.size #[.slice a n c, .slice b m e, .slice aS nS cS, .slice aT nT cT, .slice aD nD cD, .slice aL nL cL] 38 :: .dm w0.heap.size ⟨aS, nS, cS, aT, nT, cT, aD, nD, cD, aL, nL, cL⟩ R k :: l) wr)) (fun _ v9 _ => m + 1 - (intOf v9).toNat)
    case atStart => exact ⟨0, none, 0, 0, rfl, rfl, by omega, hide rfl, J0⟩
    case round =>
      obtain ⟨j, al, nl, cl, rfl, rfl, hj, HN, HR⟩ := hrel
      obtain ⟨ge0, ge1, ge2, ge3, ge4, ge5, gef⟩ := Its.cells6 HR.out.tail
      obtain ⟨gc0, gc1, gc2, gc3, gc4, gc5, gcf⟩ := Its.cells6 HR.out.tail.tail
      by_cases hjm : j < m
      case pos =>
        have q3 : (j : Int) + 1 ≤ (m : Int) := by omega
        have HT := hide (dwF_succ R j d dn)
        have Hln := hide (Hdw.out j (by omega))
        have HX := hide (HR.out.alloc (.cells #[.int .i64 ((j : Int) + 1)] 3))
        have HSn : Hid (intE.Rd (wr.alloc (.cells #[.int .i64 ((j : Int) + 1)] 3)) (.slice (some ⟨wr.heap.size, 0, none⟩) 1 1) [(j : Int) + 1]) := hide (int_new _ _ _ rfl)
        generalize hdl : R.dwF j d dn = dl at *
        replace hdl := hide hdl
        by_cases hjd : (j : Int) + 1 = d
        · have hb : ((j : Int) + 1 == d) = true := by rw [hjd]; simp
          have hc : dwC R d dn ((j : Int) + 1) = dn := by unfold dwC; simp [hjd]
          rw [hc] at HT
          have HJ := hide hjd
          clear hjd hc
          cases dn with
          | true =>
            go_wp2_with (at_builtin; refine intE.wpB (B := w0.heap.size) HX.out.size (by rfl) _ _ rfl _ _ rfl rfl dl [(j : Int) + 1] HX.out.one HSn.out Hln.out ?_; intro v4 W4 ho hg hs; obtain ⟨a4, p4, hf4⟩ := ho.rd.form; obtain ⟨n4, hn4⟩ : ∃ n4, (dl ++ [(j : Int) + 1]).length = n4 := ⟨_, rfl⟩; rw [hn4] at hf4; subst hf4; have HI4 := hide (HX.out.grow ho hg hs); have Hn4 := hide hn4; clear ho hg hs hn4)
            go_roundw
            case rel => exact ⟨j + 1, a4, n4, p4, rfl, by first | rfl | (go_num) | simp, by omega, hide (by rw [HT.out]; first | (rw [if_pos rfl]; exact Hn4.out) | (rw [if_pos trivial]; exact Hn4.out)), hide (by rw [HT.out]; first | (rw [if_pos rfl]; exact HI4.out) | (rw [if_pos trivial]; exact HI4.out))⟩
            case measure => simp [intOf]; omega
          | false =>
            go_wp2_with fail
            go_roundw
            case rel => exact ⟨j + 1, al, nl, cl, rfl, by first | rfl | (go_num) | simp, by omega, hide (by rw [HT.out, if_neg (by simp), List.append_nil]; exact HN.out), hide (by rw [HT.out, if_neg (by simp), List.append_nil]; exact HR.out)⟩
            case measure => simp [intOf]; omega
        · have hb : ((j : Int) + 1 == d) = false := beq_eq_false_iff_ne.2 hjd
          have hc : dwC R d dn ((j : Int) + 1) = R.isDn ((j : Int) + 1) := by unfold dwC; simp [hjd]
          rw [hc] at HT
          have KD := hide (KF.out wr ((j : Int) + 1) HR.out.four)
          clear hc
          generalize R.isDn ((j : Int) + 1) = dj at *
          cases dj with
          | true =>
            go_wp2_with (first
              | (at_builtin; refine intE.wpB (B := w0.heap.size) HY.out.size (by rfl) _ _ rfl _ _ rfl rfl dl [(j : Int) + 1] HY.out.one HSy.out Hln.out ?_; intro v4 W4 ho hg hs; obtain ⟨a4, p4, hf4⟩ := ho.rd.form; obtain ⟨n4, hn4⟩ : ∃ n4, (dl ++ [(j : Int) + 1]).length = n4 := ⟨_, rfl⟩; rw [hn4] at hf4; subst hf4; have HI4 := hide (HY.out.grow ho hg hs); have Hn4 := hide hn4; clear ho hg hs hn4)
              | (go_at_call 52; refine KD.out.mono ?_; rintro e1 W3 ⟨rfl, q⟩; have HY := hide ((HR.out.keep q).alloc (.cells #[.int .i64 ((j : Int) + 1)] 3)); have HSy := hide (int_new W3 ((j : Int) + 1) W3.heap.size rfl); clear q))
            go_roundw
            case rel => exact ⟨j + 1, a4, n4, p4, rfl, by first | rfl | (go_num) | simp, by omega, hide (by rw [HT.out]; first | (rw [if_pos rfl]; exact Hn4.out) | (rw [if_pos trivial]; exact Hn4.out)), hide (by rw [HT.out]; first | (rw [if_pos rfl]; exact HI4.out) | (rw [if_pos trivial]; exact HI4.out))⟩
            case measure => simp [intOf]; omega
          | false =>
            go_wp2_with (go_at_call 52; refine KD.out.mono ?_; rintro e1 W3 ⟨rfl, q⟩; have HY := hide (HR.out.keep q); clear q)
            go_roundw
            case rel => exact ⟨j + 1, al, nl, cl, rfl, by first | rfl | (go_num) | simp, by omega, hide (by rw [HT.out, if_neg (by simp), List.append_nil]; exact HN.out), hide (by rw [HT.out, if_neg (by simp), List.append_nil]; exact HY.out)⟩
            case measure => simp [intOf]; omega
      case neg =>
        have hjm2 : j = m := by omega
        have q3 : ¬ (j : Int) + 1 ≤ (m : Int) := by omega
        rw [hjm2] at HN HR
        clear hjm2
        have I6 := hide (HDm.out _ al nl cl HN.out HR.out)
        go_upto_region 10 with fail
        generalize wr.setCell ⟨w.heap.size, 4, none⟩ (.slice al nl cl) = W6 at *
        obtain ⟨ve0, ve1, ve2, ve3, ve4, ve5, vef⟩ := Its.cells6 I6.out; obtain ⟨vc0, vc1, vc2, vc3, vc4, vc5, vcf⟩ := Its.cells6 I6.out.tail
        have HIe := hide (Its.out6 I6.out (.slice a n c) (.slice b m e) (.slice aS nS cS) (.slice aT nT cT) (.slice al nl cl) (.slice aL nL cL))
        go_wp2_with fail
        obtain ⟨y0, y1, y2, y3, y4, y5, _⟩ := Its.cells6 HIe.out
        exact bodyPost_ret (v := .tuple #[.agg #[.slice a n c, .slice b m e, .slice aS nS cS, .slice aT nT cT, .slice al nl cl, .slice aL nL cL], .int .i64 0]) (by simp [results, Try.results35, go_sem, y0, y1, y2, y3, y4, y5]) rfl (RP.mk2 (V := ⟨aS, nS, cS, aT, nT, cT, al, nl, cl, aL, nL, cL⟩) (by rw [← HPP.out]; simp) HIe.out.tail.tail)

end
end Go.Proofs.Ytlnnpdghcilioaa
