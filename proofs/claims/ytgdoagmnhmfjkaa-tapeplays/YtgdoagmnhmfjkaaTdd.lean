/- The document's Repair. -/
import Derived.Test.YtgdoagmnhmfjkaaTdc
namespace Go.Proofs.Ytgdoagmnhmfjkaa
open Go.ChangeShapes Go.WideShapes Go.ChangeAt Go.RowKit
set_option linter.unusedVariables false

def DvR3 (w : World) (P : Int × Int × Tp) (e : Ending) (w' : World) : Prop := e = .returned (.tuple #[dv P.2.2, .int .i64 P.1, .int .i64 P.2.1]) ∧ Below w.heap.size w w'
theorem DvR3.mk {w w' : World} {P : Int × Int × Tp} {g c : Int} {T : Tp} (hP : P = (g, c, T)) {v : Value} (hv : v = dv T) (hb : Below w.heap.size w w') : DvR3 w P (.returned (.tuple #[v, .int .i64 g, .int .i64 c])) w' := by
  subst hP hv
  exact ⟨rfl, hb⟩
theorem dv_die {T : Tp} (h : T.can 1 = false) : dv T.die = .agg #[.string (str T.now), .string (str T.oth), .int .i64 0, .bool true] := by
  obtain ⟨ha, hb⟩ := can_no h
  unfold dv
  have e : bud T.die = 0 := by
    unfold bud Tp.die
    simp only [ha, hb]
    rfl
  rw [e]
  rfl
theorem rep_cases {T : Tp} (hd : T.dd = false) {got : List Nt} {r : List Int} (hr : Rds T.now got r) : (r = [] ∧ T.rep r = (0, 0, T)) ∨ (r ≠ [] ∧ T.can 1 = true ∧ T.rep r = ((r.length : Int), 0, (T.use 1).setA T.cn (T.now.take (tot got))) ∧ dv ((T.use 1).setA T.cn (T.now.take (tot got))) = .agg #[.string (str (T.now.take (tot got))), .string (str T.oth), .int .i64 (bud (T.use 1)), .bool false]) ∨ (r ≠ [] ∧ T.can 1 = false ∧ T.rep r = (0, 190, T.die)) := by
  have hgl := rds_len hr
  have e0 : T.now.length - r.length = tot got := by omega
  have el : T.A T.cn = T.now := rfl
  unfold Tp.rep
  rw [if_neg (by rw [hd]; decide), e0]
  by_cases h0 : r = []
  · refine .inl ⟨h0, ?_⟩
    have e1 : T.cut T.cn (tot got) = (0, T) := by
      unfold Tp.cut
      rw [if_pos (by rw [el, hgl, h0]; simp)]
    rw [e1, if_pos rfl, h0]
    rfl
  · have hl : ¬ ((T.A T.cn).length = tot got) := by
      rw [el, hgl]
      have := List.length_pos_iff.2 h0
      omega
    cases hc : T.can 1 with
    | true =>
      have e1 : T.cut T.cn (tot got) = (0, (T.use 1).setA T.cn (T.now.take (tot got))) := by
        unfold Tp.cut
        rw [if_neg hl, if_pos hc]
        rfl
      refine .inr (.inl ⟨h0, rfl, by rw [e1, if_pos rfl], ?_⟩)
      unfold dv
      have e3 : ((T.use 1).setA T.cn (T.now.take (tot got))).now = T.now.take (tot got) := setA_at _ _ _
      have e4 : ((T.use 1).setA T.cn (T.now.take (tot got))).oth = T.oth := setA_off _ (show (!T.cn) ≠ T.cn by cases T.cn <;> decide) _
      rw [e3, e4]
      show Value.agg #[.string _, .string _, .int .i64 _, .bool T.dd] = _
      rw [hd]
      rfl
    | false =>
      have e1 : T.cut T.cn (tot got) = (190, T.die) := by
        unfold Tp.cut
        rw [if_neg hl, if_neg (by rw [hc]; decide)]
      refine .inr (.inr ⟨h0, rfl, ?_⟩)
      rw [e1, if_neg (show ¬ ((190 : Int) = 0) by decide)]

set_option maxRecDepth 100000 in
set_option maxHeartbeats 2000000 in
theorem rrepair_any {T : Tp} (hok : T.Ok) {got : List Nt} {r : List Int} (hr : Rds T.now got r) (w : World) : Calls Try.prog 19 #[dv T] w fun e w' => DvR3 w (T.rep r) e w' := by
  obtain ⟨N, hN⟩ : ∃ N, str T.now = N := ⟨_, rfl⟩
  obtain ⟨O, hO⟩ : ∃ O, str T.oth = O := ⟨_, rfl⟩
  obtain ⟨B, hB⟩ : ∃ B, bud T = B := ⟨_, rfl⟩
  obtain ⟨PR, hPR⟩ : ∃ PR, T.rep r = PR := ⟨_, rfl⟩
  cases hd : T.dd with
  | true =>
    have e : dv T = .agg #[.string N, .string O, .int .i64 B, .bool true] := by unfold dv; rw [hN, hO, hB, hd]
    have HV := hide e
    have HQ : Hid (T.rep r = (0, 190, T)) := hide (by unfold Tp.rep; rw [if_pos hd])
    rw [hPR] at HQ ⊢
    rw [e]
    have I1 := hide (two4 w N O B true)
    clear e hN hO hB hPR hr hd
    go_enter Try.func19, Try.ntmps19
    go_upto_region 1 with fail
    generalize ((w.alloc (.cells #[.string N, .string O, .int .i64 B, .bool true] 26)).alloc (.cells #[.string ⟨#[]⟩, .string ⟨#[]⟩, .int .i64 0, .bool false] 26)) = W1 at *
    obtain ⟨e0, e1, e2, e3, ef⟩ := Its.cells4 I1.out
    obtain ⟨c0, c1, c2, c3, cf⟩ := Its.cells4 I1.out.tail
    have HIe := hide (Its.out4 I1.out (.string N) (.string O) (.int .i64 B) (.bool true))
    go_wp2_with fail
    obtain ⟨y0, y1, y2, y3, _⟩ := Its.cells4 HIe.out
    exact bodyPost_ret (v := .tuple #[.agg #[.string N, .string O, .int .i64 B, .bool true], .int .i64 0, .int .i64 190]) (by simp [results, Try.results19, go_sem, y0, y1, y2, y3]) rfl (DvR3.mk HQ.out HV.out.symm HIe.out.bel)
  | false =>
    have e : dv T = .agg #[.string N, .string O, .int .i64 B, .bool false] := by unfold dv; rw [hN, hO, hB, hd]
    have HV := hide e
    have hcs := rep_cases hd hr
    rw [hPR] at hcs ⊢
    rw [e]
    have I1 := hide (two4 w N O B false)
    have KG : Hid (∀ W, Calls Try.prog 30 #[.agg #[.string N, .string O, .int .i64 B, .bool false]] W fun e w' => e = .returned (.int .i64 (tot got : Int)) ∧ Below W.heap.size W w') := hide (fun W => by rw [← hN]; exact rgood_any hr (hok.inb T.cn) (hok.len T.cn) O B false W)
    have hgl := rds_len hr
    have hnow : T.now.length ≤ 65536 := hok.len T.cn
    have hBr := bud_rng hok
    have hNs : N.size = T.now.length := by rw [← hN]; exact str_size _
    rw [hB] at hBr
    have K31 : Hid (∀ W, Calls Try.prog 31 #[.agg #[.string N, .string O, .int .i64 B, .bool false], .int .i64 1] W fun e w' => e = .returned (.tuple #[.agg #[.string N, .string O, .int .i64 (smB B 1), .bool (smD B 1 false)], .int .i64 (smN B 1)]) ∧ Below W.heap.size W w') := hide (fun W => rsome_any N O B false W 1 hBr (by omega))
    obtain ⟨G, hG⟩ : ∃ G, tot got = G := ⟨_, rfl⟩
    obtain ⟨Z, hZ⟩ : ∃ Z, T.now.length = Z := ⟨_, rfl⟩
    obtain ⟨R, hR⟩ : ∃ R, r.length = R := ⟨_, rfl⟩
    have hR0 : r = [] ↔ R = 0 := by rw [← hR]; exact List.length_eq_zero_iff.symm
    rw [hG] at KG
    rw [hG, hZ, hR] at hgl
    rw [hZ] at hNs hnow
    have J1 : Hid (wrap64 ((Z : Int) - (G : Int)) = (R : Int)) := hide (by unfold wrap64; omega)
    have j3 : (Z : Int) - (G : Int) = (R : Int) := by omega
    have J4 : Hid (wrap64 (R : Int) = (R : Int)) := hide (by unfold wrap64; omega)
    have g1 : (0 : Int) ≤ (G : Int) := by omega
    have g2 : (G : Int) ≤ (Z : Int) := by omega
    rcases hcs with ⟨h0, hq⟩ | ⟨h0, hc, hq, hv⟩ | ⟨h0, hc, hq⟩
    · have z0 : R = 0 := hR0.1 h0
      have j2 : ¬ ((0 : Int) < (R : Int)) := by omega
      have j5 : ¬ (0 < R) := by omega
      have j6 : ¬ (G < Z) := by omega
      have HQ : Hid (PR = ((R : Int), 0, T)) := hide (by rw [hq, z0]; rfl)
      clear e hN hO hB hPR hr hd h0 hq hG hZ hR hR0 z0 hgl hBr
      have j1 := J1.out
      have j4 := J4.out
      go_enter Try.func19, Try.ntmps19
      go_upto_region 1 with fail
      generalize ((w.alloc (.cells #[.string N, .string O, .int .i64 B, .bool false] 26)).alloc (.cells #[.string ⟨#[]⟩, .string ⟨#[]⟩, .int .i64 0, .bool false] 26)) = W1 at *
      obtain ⟨e0, e1, e2, e3, ef⟩ := Its.cells4 I1.out
      obtain ⟨c0, c1, c2, c3, cf⟩ := Its.cells4 I1.out.tail
      go_upto_region 4 with (go_at_call 30; refine (KG.out _).mono ?_; rintro e w2 ⟨rfl, hb2⟩)
      have I2 := hide (I1.out.keep hb2)
      clear e0 e1 e2 e3 ef c0 c1 c2 c3 cf hb2
      obtain ⟨e0, e1, e2, e3, ef⟩ := Its.cells4 I2.out
      obtain ⟨c0, c1, c2, c3, cf⟩ := Its.cells4 I2.out.tail
      have HIe := hide (Its.out4 I2.out (.string N) (.string O) (.int .i64 B) (.bool false))
      go_wp2_with fail
      obtain ⟨y0, y1, y2, y3, _⟩ := Its.cells4 HIe.out
      exact bodyPost_ret (v := .tuple #[.agg #[.string N, .string O, .int .i64 B, .bool false], .int .i64 (R : Int), .int .i64 0]) (by simp [results, Try.results19, go_sem, y0, y1, y2, y3]) rfl (DvR3.mk HQ.out HV.out.symm HIe.out.bel)
    · have z0 : R ≠ 0 := fun e => h0 (hR0.2 e)
      have j2 : (0 : Int) < (R : Int) := by omega
      have j5 : 0 < R := by omega
      have j6 : G < Z := by omega
      obtain ⟨s1, s2, s3⟩ := sm_yes hc
      rw [hB, hd] at s2
      rw [hB] at s1 s3
      rw [show (((1 : Nat) : Nat) : Int) = 1 from rfl] at s1 s2 s3
      rw [s1, s2, s3] at K31
      obtain ⟨B', hB'⟩ : ∃ B', bud (T.use 1) = B' := ⟨_, rfl⟩
      have HV2 : Hid (dv ((T.use 1).setA T.cn (T.now.take (tot got))) = .agg #[.string (N.extract 0 G), .string O, .int .i64 B', .bool false]) := hide (by rw [hv, ← hN, str_ext, hO, hB', hG])
      rw [hB'] at K31
      have HQ : Hid (PR = ((R : Int), 0, (T.use 1).setA T.cn (T.now.take (tot got)))) := hide (by rw [hq, hR])
      clear e hN hO hB hPR hr hd h0 hq hG hZ hR hR0 z0 hgl hBr hv hB' s1 s2 s3 hc
      have j1 := J1.out
      have j4 := J4.out
      go_enter Try.func19, Try.ntmps19
      go_upto_region 1 with fail
      generalize ((w.alloc (.cells #[.string N, .string O, .int .i64 B, .bool false] 26)).alloc (.cells #[.string ⟨#[]⟩, .string ⟨#[]⟩, .int .i64 0, .bool false] 26)) = W1 at *
      obtain ⟨e0, e1, e2, e3, ef⟩ := Its.cells4 I1.out
      obtain ⟨c0, c1, c2, c3, cf⟩ := Its.cells4 I1.out.tail
      go_upto_region 4 with (go_at_call 30; refine (KG.out _).mono ?_; rintro e w2 ⟨rfl, hb2⟩)
      have I2 := hide (I1.out.keep hb2)
      clear e0 e1 e2 e3 ef c0 c1 c2 c3 cf hb2
      obtain ⟨e0, e1, e2, e3, ef⟩ := Its.cells4 I2.out
      obtain ⟨c0, c1, c2, c3, cf⟩ := Its.cells4 I2.out.tail
      go_upto_region 7 with (go_at_call 31; refine (K31.out _).mono ?_; rintro e w4 ⟨rfl, hb4⟩; have I4 := hide (I2.out.keep hb4); obtain ⟨te0, te1, te2, te3, tef⟩ := Its.cells4 I4.out; obtain ⟨tc0, tc1, tc2, tc3, tcf⟩ := Its.cells4 I4.out.tail)
      have I5 : Hid (Its w [.box (w.heap.size + 1) #[.string ⟨#[]⟩, .string ⟨#[]⟩, .int .i64 0, .bool false] 26, .box w.heap.size #[.string N, .string O, .int .i64 B', .bool false] 26] ((((w4.setCell ⟨w.heap.size, 0, none⟩ (.string N)).setCell ⟨w.heap.size, 1, none⟩ (.string O)).setCell ⟨w.heap.size, 2, none⟩ (.int .i64 B')).setCell ⟨w.heap.size, 3, none⟩ (.bool false))) := hide (Its.out4 I4.out.swap (.string N) (.string O) (.int .i64 B') (.bool false)).swap
      generalize ((((w4.setCell ⟨w.heap.size, 0, none⟩ (.string N)).setCell ⟨w.heap.size, 1, none⟩ (.string O)).setCell ⟨w.heap.size, 2, none⟩ (.int .i64 B')).setCell ⟨w.heap.size, 3, none⟩ (.bool false)) = w5 at *
      clear te0 te1 te2 te3 tef tc0 tc1 tc2 tc3 tcf e0 e1 e2 e3 ef c0 c1 c2 c3 cf
      obtain ⟨e0, e1, e2, e3, ef⟩ := Its.cells4 I5.out
      obtain ⟨c0, c1, c2, c3, cf⟩ := Its.cells4 I5.out.tail
      go_upto_region 10 with fail
      have I6 : Hid (Its w [.box (w.heap.size + 1) #[.string ⟨#[]⟩, .string ⟨#[]⟩, .int .i64 0, .bool false] 26, .box w.heap.size #[.string (N.extract 0 G), .string O, .int .i64 B', .bool false] 26] (w5.setCell ⟨w.heap.size, 0, none⟩ (.string (N.extract 0 G)))) := hide (I5.out.swap.put 0 (.string (N.extract 0 G))).swap
      generalize w5.setCell ⟨w.heap.size, 0, none⟩ (.string (N.extract 0 G)) = w6 at *
      generalize N.extract 0 G = sY at *
      clear e0 e1 e2 e3 ef c0 c1 c2 c3 cf
      obtain ⟨e0, e1, e2, e3, ef⟩ := Its.cells4 I6.out
      obtain ⟨c0, c1, c2, c3, cf⟩ := Its.cells4 I6.out.tail
      have HIe := hide (Its.out4 I6.out (.string sY) (.string O) (.int .i64 B') (.bool false))
      go_wp2_with fail
      obtain ⟨y0, y1, y2, y3, _⟩ := Its.cells4 HIe.out
      exact bodyPost_ret (v := .tuple #[.agg #[.string sY, .string O, .int .i64 B', .bool false], .int .i64 (R : Int), .int .i64 0]) (by simp [results, Try.results19, go_sem, y0, y1, y2, y3]) rfl (DvR3.mk HQ.out HV2.out.symm HIe.out.bel)
    · have z0 : R ≠ 0 := fun e => h0 (hR0.2 e)
      have j2 : (0 : Int) < (R : Int) := by omega
      have j5 : 0 < R := by omega
      have j6 : G < Z := by omega
      obtain ⟨s1, s2, s3, _, _⟩ := sm_no hc
      rw [hB, hd] at s2
      rw [hB] at s1 s3
      rw [show (((1 : Nat) : Nat) : Int) = 1 from rfl] at s1 s2 s3
      rw [s1, s2, s3] at K31
      have HV2 : Hid (dv T.die = .agg #[.string N, .string O, .int .i64 0, .bool true]) := hide (by rw [dv_die hc, hN, hO])
      have HQ : Hid (PR = (0, 190, T.die)) := hide hq
      generalize (T.bd : Int) = kk at *
      clear e hN hO hB hPR hr hd h0 hq hG hZ hR hR0 z0 hgl hBr s1 s2 s3 hc
      have j1 := J1.out
      have j4 := J4.out
      go_enter Try.func19, Try.ntmps19
      go_upto_region 1 with fail
      generalize ((w.alloc (.cells #[.string N, .string O, .int .i64 B, .bool false] 26)).alloc (.cells #[.string ⟨#[]⟩, .string ⟨#[]⟩, .int .i64 0, .bool false] 26)) = W1 at *
      obtain ⟨e0, e1, e2, e3, ef⟩ := Its.cells4 I1.out
      obtain ⟨c0, c1, c2, c3, cf⟩ := Its.cells4 I1.out.tail
      go_upto_region 4 with (go_at_call 30; refine (KG.out _).mono ?_; rintro e w2 ⟨rfl, hb2⟩)
      have I2 := hide (I1.out.keep hb2)
      clear e0 e1 e2 e3 ef c0 c1 c2 c3 cf hb2
      obtain ⟨e0, e1, e2, e3, ef⟩ := Its.cells4 I2.out
      obtain ⟨c0, c1, c2, c3, cf⟩ := Its.cells4 I2.out.tail
      go_upto_region 7 with (go_at_call 31; refine (K31.out _).mono ?_; rintro e w4 ⟨rfl, hb4⟩; have I4 := hide (I2.out.keep hb4); obtain ⟨te0, te1, te2, te3, tef⟩ := Its.cells4 I4.out; obtain ⟨tc0, tc1, tc2, tc3, tcf⟩ := Its.cells4 I4.out.tail)
      have I5 : Hid (Its w [.box (w.heap.size + 1) #[.string ⟨#[]⟩, .string ⟨#[]⟩, .int .i64 0, .bool false] 26, .box w.heap.size #[.string N, .string O, .int .i64 0, .bool true] 26] ((((w4.setCell ⟨w.heap.size, 0, none⟩ (.string N)).setCell ⟨w.heap.size, 1, none⟩ (.string O)).setCell ⟨w.heap.size, 2, none⟩ (.int .i64 0)).setCell ⟨w.heap.size, 3, none⟩ (.bool true))) := hide (Its.out4 I4.out.swap (.string N) (.string O) (.int .i64 0) (.bool true)).swap
      generalize ((((w4.setCell ⟨w.heap.size, 0, none⟩ (.string N)).setCell ⟨w.heap.size, 1, none⟩ (.string O)).setCell ⟨w.heap.size, 2, none⟩ (.int .i64 0)).setCell ⟨w.heap.size, 3, none⟩ (.bool true)) = w5 at *
      clear te0 te1 te2 te3 tef tc0 tc1 tc2 tc3 tcf e0 e1 e2 e3 ef c0 c1 c2 c3 cf
      obtain ⟨e0, e1, e2, e3, ef⟩ := Its.cells4 I5.out
      obtain ⟨c0, c1, c2, c3, cf⟩ := Its.cells4 I5.out.tail
      have HIe := hide (Its.out4 I5.out (.string N) (.string O) (.int .i64 0) (.bool true))
      go_wp2_with fail
      obtain ⟨y0, y1, y2, y3, _⟩ := Its.cells4 HIe.out
      exact bodyPost_ret (v := .tuple #[.agg #[.string N, .string O, .int .i64 0, .bool true], .int .i64 0, .int .i64 190]) (by simp [results, Try.results19, go_sem, y0, y1, y2, y3]) rfl (DvR3.mk HQ.out HV2.out.symm HIe.out.bel)
end Go.Proofs.Ytgdoagmnhmfjkaa
