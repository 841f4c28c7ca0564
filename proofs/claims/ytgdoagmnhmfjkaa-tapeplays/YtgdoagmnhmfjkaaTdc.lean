/- The document's Append. -/
import Derived.Test.YtgdoagmnhmfjkaaTdb
namespace Go.Proofs.Ytgdoagmnhmfjkaa
open Go.ChangeShapes Go.WideShapes Go.ChangeAt Go.RowKit
set_option linter.unusedVariables false

theorem bud_rng {T : Tp} (h : T.Ok) : -1 ≤ bud T ∧ bud T ≤ 1099511627776 := by
  have := h.bud
  unfold bud
  split <;> omega
theorem sm_yes {T : Tp} {n : Nat} (h : T.can n = true) : smB (bud T) n = bud (T.use n) ∧ smD (bud T) n T.dd = T.dd ∧ smN (bud T) n = n := by
  obtain ⟨A, cn, ar, bd, dd⟩ := T
  unfold Tp.can at h
  unfold smB smD smN bud Tp.use
  cases ar
  · simp
  · simp at h
    simp only
    rw [if_pos trivial, if_pos trivial, if_pos trivial, if_neg (by omega), if_pos (by omega), if_neg (by omega), if_pos (by omega), if_neg (by omega), if_pos (by omega)]
    refine ⟨by omega, rfl, rfl⟩
theorem sm_no {T : Tp} {n : Nat} (h : T.can n = false) : smB (bud T) n = 0 ∧ smD (bud T) n T.dd = true ∧ smN (bud T) n = T.bd ∧ T.bd < n ∧ T.ar = true := by
  obtain ⟨A, cn, ar, bd, dd⟩ := T
  unfold Tp.can at h
  unfold smB smD smN bud
  cases ar
  · simp at h
  · simp at h
    simp only
    rw [if_pos trivial, if_neg (by omega), if_neg (by omega), if_neg (by omega), if_neg (by omega), if_neg (by omega), if_neg (by omega)]
    exact ⟨rfl, rfl, rfl, h, by first | rfl | trivial⟩
/-- what is handed back -/
def DvR (w : World) (P : Int × Tp) (e : Ending) (w' : World) : Prop := e = .returned (.tuple #[dv P.2, .int .i64 P.1]) ∧ Below w.heap.size w w'
theorem DvR.mk {w w' : World} {P : Int × Tp} {c : Int} {T : Tp} (hP : P = (c, T)) {v : Value} (hv : v = dv T) (hb : Below w.heap.size w w') : DvR w P (.returned (.tuple #[v, .int .i64 c])) w' := by
  subst hP hv
  exact ⟨rfl, hb⟩
/-- a call that ends with the code of the tape -/
theorem put_dv_yes {T : Tp} (h : T.dd = false) {bs : List Int} (hc : T.can bs.length = true) : T.put T.cn bs = (0, (T.use bs.length).setA T.cn (T.now ++ bs)) ∧ dv ((T.use bs.length).setA T.cn (T.now ++ bs)) = .agg #[.string (str (T.now ++ bs)), .string (str T.oth), .int .i64 (bud (T.use bs.length)), .bool false] := by
  refine ⟨put_yes hc _, ?_⟩
  unfold dv
  have e1 : ((T.use bs.length).setA T.cn (T.now ++ bs)).now = T.now ++ bs := setA_at _ _ _
  have e2 : ((T.use bs.length).setA T.cn (T.now ++ bs)).oth = T.oth := setA_off _ (show (!T.cn) ≠ T.cn by cases T.cn <;> decide) _
  rw [e1, e2]
  show Value.agg #[.string _, .string _, .int .i64 _, .bool T.dd] = _
  rw [h]
  rfl
theorem put_dv_no {T : Tp} {bs : List Int} (hc : T.can bs.length = false) : T.put T.cn bs = (190, ((T.use T.bd).setA T.cn (T.now ++ bs.take T.bd)).die) ∧ dv ((T.use T.bd).setA T.cn (T.now ++ bs.take T.bd)).die = .agg #[.string (str (T.now ++ bs.take T.bd)), .string (str T.oth), .int .i64 0, .bool true] := by
  constructor
  · unfold Tp.put
    rw [if_neg (by rw [hc]; decide)]
    rfl
  · unfold dv
    have e1 : ((T.use T.bd).setA T.cn (T.now ++ bs.take T.bd)).die.now = T.now ++ bs.take T.bd := setA_at _ _ _
    have e2 : ((T.use T.bd).setA T.cn (T.now ++ bs.take T.bd)).die.oth = T.oth := setA_off _ (show (!T.cn) ≠ T.cn by cases T.cn <;> decide) _
    rw [e1, e2]
    have e3 : bud ((T.use T.bd).setA T.cn (T.now ++ bs.take T.bd)).die = 0 := by
      have ha := (sm_no hc).2.2.2.2
      unfold bud Tp.die Tp.setA Tp.use
      simp only [ha]
      simp
    rw [e3]
    rfl

set_option maxRecDepth 100000 in
set_option maxHeartbeats 2000000 in
theorem rappend_any {T : Tp} (hok : T.Ok) {a : Option Addr} {M c : Nat} {ns : List Nt} {got : List Nt} {r : List Int} (hr : Rds T.now got r) (w : World) (hn : ntE.Rd w (.slice a M c) ns) (hl : ns.length = M) (hM : M ≤ 3000) : Calls Try.prog 15 #[dv T, .slice a M c] w fun e w' => DvR w (T.app r ns) e w' := by
  obtain ⟨N, hN⟩ : ∃ N, str T.now = N := ⟨_, rfl⟩
  obtain ⟨O, hO⟩ : ∃ O, str T.oth = O := ⟨_, rfl⟩
  obtain ⟨B, hB⟩ : ∃ B, bud T = B := ⟨_, rfl⟩
  obtain ⟨PR, hPR⟩ : ∃ PR, T.app r ns = PR := ⟨_, rfl⟩
  have HP := hide hPR
  rw [hPR]
  cases hd : T.dd with
  | true =>
    have e : dv T = .agg #[.string N, .string O, .int .i64 B, .bool true] := by unfold dv; rw [hN, hO, hB, hd]
    have HV := hide e
    rw [e]
    have I1 := hide (two4 w N O B true)
    have HQ : Hid (PR = (190, T)) := hide (by rw [← HP.out]; exact app_dead hd _ _)
    clear e hN hO hB hPR hn hl hM hr hd
    go_enter Try.func15, Try.ntmps15
    go_upto_region 1 with fail
    generalize ((w.alloc (.cells #[.string N, .string O, .int .i64 B, .bool true] 26)).alloc (.cells #[.string ⟨#[]⟩, .string ⟨#[]⟩, .int .i64 0, .bool false] 26)) = W1 at *
    obtain ⟨e0, e1, e2, e3, ef⟩ := Its.cells4 I1.out
    obtain ⟨c0, c1, c2, c3, cf⟩ := Its.cells4 I1.out.tail
    have HIe := hide (Its.out4 I1.out (.string N) (.string O) (.int .i64 B) (.bool true))
    go_wp2_with fail
    obtain ⟨y0, y1, y2, y3, _⟩ := Its.cells4 HIe.out
    exact bodyPost_ret (v := .tuple #[.agg #[.string N, .string O, .int .i64 B, .bool true], .int .i64 190]) (by simp [results, Try.results15, go_sem, y0, y1, y2, y3]) rfl (DvR.mk HQ.out HV.out.symm HIe.out.bel)
  | false =>
    have e : dv T = .agg #[.string N, .string O, .int .i64 B, .bool false] := by unfold dv; rw [hN, hO, hB, hd]
    have HV := hide e
    rw [e]
    have I1 := hide (two4 w N O B false)
    have KW : Hid (∀ W, Below w.heap.size w W → Calls Try.prog 29 #[.slice a M c] W fun e w' => WrtR ns W e w') := hide (fun W hW => written_any (hn.keep hW) hl (by omega))
    have KG : Hid (∀ W, Calls Try.prog 30 #[.agg #[.string N, .string O, .int .i64 B, .bool false]] W fun e w' => e = .returned (.int .i64 (tot got : Int)) ∧ Below W.heap.size W w') := hide (fun W => by rw [← hN]; exact rgood_any hr (hok.inb T.cn) (hok.len T.cn) O B false W)
    have Hd := hide hd
    have hgl := rds_len hr
    have hnow : T.now.length ≤ 65536 := hok.len T.cn
    have hBr := bud_rng hok
    have hNs : N.size = T.now.length := by rw [← hN]; exact str_size _
    rw [hB] at hBr
    have HN := hide hN
    have HO := hide hO
    have HBB := hide hB
    clear e hN hO hB hPR hn hr hd
    go_enter Try.func15, Try.ntmps15
    go_upto_region 1 with fail
    generalize ((w.alloc (.cells #[.string N, .string O, .int .i64 B, .bool false] 26)).alloc (.cells #[.string ⟨#[]⟩, .string ⟨#[]⟩, .int .i64 0, .bool false] 26)) = W1 at *
    obtain ⟨e0, e1, e2, e3, ef⟩ := Its.cells4 I1.out
    obtain ⟨c0, c1, c2, c3, cf⟩ := Its.cells4 I1.out.tail
    go_upto_region 4 with (go_at_call 29; refine (KW.out _ I1.out.bel).mono ?_; rintro e w2 ⟨hwr, hb2⟩; rcases hwr with ⟨hk, rfl⟩ | ⟨hk, rfl⟩)
    · have I2 := hide (I1.out.keep hb2)
      clear e0 e1 e2 e3 ef c0 c1 c2 c3 cf
      obtain ⟨e0, e1, e2, e3, ef⟩ := Its.cells4 I2.out
      obtain ⟨c0, c1, c2, c3, cf⟩ := Its.cells4 I2.out.tail
      have hk1 := List.all_eq_true.1 hk
      have hlen := flat_bts_len hk1
      obtain ⟨L, hL⟩ : ∃ L, (ns.flatMap Nt.bts).length = L := ⟨_, rfl⟩
      obtain ⟨sS, hS⟩ : ∃ sS, str (ns.flatMap Nt.bts) = sS := ⟨_, rfl⟩
      have hSs : sS.size = L := by rw [← hS, str_size, hL]
      have htL : tot ns = L := hL
      rw [hL] at hlen
      rw [hS]
      clear hk1
      have hpo : r ≠ [] → PR = (140, T) := fun h2 => by rw [← HP.out]; exact app_state Hd.out hk h2
      have hp5 : r = [] → 65536 < T.now.length + tot ns → PR = (5, T) := fun h2 h3 => by rw [← HP.out, h2]; exact app_full Hd.out hk h3
      have hpp : r = [] → ¬ 65536 < T.now.length + tot ns → PR = T.put T.cn (ns.flatMap Nt.bts) := fun h2 h3 => by rw [← HP.out, h2]; exact app_put Hd.out hk h3
      have Hpo := hide hpo
      have Hp5 := hide hp5
      have Hpp := hide hpp
      have HS := hide hS
      have HL := hide hL
      obtain ⟨G, hG⟩ : ∃ G, tot got = G := ⟨_, rfl⟩
      obtain ⟨Z, hZ⟩ : ∃ Z, T.now.length = Z := ⟨_, rfl⟩
      obtain ⟨R, hR⟩ : ∃ R, r.length = R := ⟨_, rfl⟩
      have HR : Hid (r = [] ↔ R = 0) := hide (by rw [← hR]; exact List.length_eq_zero_iff.symm)
      have HZ := hide hZ
      rw [htL, hZ] at Hp5 Hpp
      rw [hG] at KG
      rw [hG, hZ, hR] at hgl
      rw [hZ] at hNs hnow
      clear hpo hp5 hpp hk hb2 hS hL hG hZ hR htL KW HP
      obtain ⟨SS, hSS⟩ : ∃ SS : World → Prop, SS = fun W => W.heap[w.heap.size]? = some (.cells #[.string N, .string O, .int .i64 B, .bool false] 26) := ⟨_, rfl⟩
      have s0 : ∀ W, SS W → W.cell? ⟨w.heap.size, 0, none⟩ = some (.string N) ∧ W.cell? ⟨w.heap.size, 1, none⟩ = some (.string O) ∧ W.cell? ⟨w.heap.size, 2, none⟩ = some (.int .i64 B) ∧ W.cell? ⟨w.heap.size, 3, none⟩ = some (.bool false) := fun W hW => by
        rw [hSS] at hW
        exact ⟨(cells_at hW 0).1, (cells_at hW 1).1, (cells_at hW 2).1, (cells_at hW 3).1⟩
      have hS0 : SS w2.drew := by rw [hSS]; exact I2.out.two
      have HSK : Hid (∀ W, Below w2.heap.size w2.drew W → SS W) := hide (fun W hW => by rw [hSS]; exact ((I2.out.drew 1).keep hW).two)
      clear hSS
      by_cases hr0 : R = 0
      · have j0 : ¬ ((G : Int) < (Z : Int)) := by omega
        obtain ⟨x, hx⟩ : ∃ x : Int, (Z : Int) + (L : Int) = x := ⟨_, rfl⟩
        have j1 : wrap64 x = x := by unfold wrap64; omega
        have Hx := hide hx
        have Hj1 := hide j1
        by_cases h5 : 65536 < Z + L
        · have j2 : 65536 < x := by omega
          have HQ := hide (Hp5.out (HR.out.2 hr0) h5)
          clear h5 hr0 hgl hx j1
          go_upto_region 6 with fail
          refine wp_region_held_drew (S := SS) (by kernel_rfl) hS0 (fun hS => ?_)
          refine wpAnyH_take (i := 0) (v := .agg #[.string N, .string O, .int .i64 B, .bool false]) rfl (by kernel_rfl) (by kernel_rfl) (by kernel_rfl) (fun _ _ _ h => h) (Or.inl ⟨by kernel_rfl, fun W' hW => by obtain ⟨z0, z1, z2, z3⟩ := s0 W' hW; go_simp⟩) hS ?_
          refine wpAnyH_take (i := 2) (v := .pointer (some ⟨w.heap.size, 0, none⟩)) rfl (by kernel_rfl) (by kernel_rfl) (by kernel_rfl) (fun _ _ _ h => h) (Or.inl ⟨by kernel_rfl, fun W' hW => by go_simp⟩) hS ?_
          refine wpAnyH_take (i := 3) (v := .string N) rfl (by kernel_rfl) (by kernel_rfl) (by kernel_rfl) (fun _ _ _ h => h) (Or.inl ⟨by kernel_rfl, fun W' hW => by obtain ⟨z0, z1, z2, z3⟩ := s0 W' hW; go_simp⟩) hS ?_
          refine wpAnyH_take (i := 4) (v := .int .i64 (Z : Int)) rfl (by kernel_rfl) (by kernel_rfl) (by kernel_rfl) (fun _ _ _ h => h) (Or.inl ⟨by kernel_rfl, fun W' hW => by go_simp⟩) hS ?_
          refine wpAnyH_ready (rs := [1]) (by kernel_rfl) (by simp) ?_
          refine AllReadyH.cons rfl (fun K hK => ?_) AllReadyH.nil
          go_simp
          go_at_call 30
          refine (KG.out _).mono ?_
          rintro e w3 ⟨rfl, hb3⟩
          have hS1 := HSK.out _ hb3
          go_simp
          refine hK.out _ _ hS1 (fun _ => ?_)
          clear hK K
          refine wpAnyH_ready (rs := [5]) (by kernel_rfl) (by simp) ?_
          refine AllReadyH.cons rfl (fun K hK => ?_) AllReadyH.nil
          go_simp
          refine hK.out _ _ hS1 (fun _ => ?_)
          clear hK K
          refine wpAnyH_done (by kernel_rfl) ?_ _
          have I3 := hide ((I2.out.drew 1).keep hb3)
          clear e0 e1 e2 e3 ef c0 c1 c2 c3 cf
          obtain ⟨e0, e1, e2, e3, ef⟩ := Its.cells4 I3.out
          obtain ⟨c0, c1, c2, c3, cf⟩ := Its.cells4 I3.out.tail
          have hx := Hx.out
          have j1 := Hj1.out
          go_upto_region 9 with fail
          have HIe := hide (Its.out4 I3.out (.string N) (.string O) (.int .i64 B) (.bool false))
          go_wp2_with fail
          obtain ⟨y0, y1, y2, y3, _⟩ := Its.cells4 HIe.out
          exact bodyPost_ret (v := .tuple #[.agg #[.string N, .string O, .int .i64 B, .bool false], .int .i64 5]) (by simp [results, Try.results15, go_sem, y0, y1, y2, y3]) rfl (DvR.mk HQ.out HV.out.symm HIe.out.bel)
        · have j2 : ¬ (65536 < x) := by omega
          have HQ := hide (Hpp.out (HR.out.2 hr0) h5)
          have H5 := hide h5
          clear h5 hr0 hgl hx j1
          go_upto_region 6 with fail
          refine wp_region_held_drew (S := SS) (by kernel_rfl) hS0 (fun hS => ?_)
          refine wpAnyH_take (i := 0) (v := .agg #[.string N, .string O, .int .i64 B, .bool false]) rfl (by kernel_rfl) (by kernel_rfl) (by kernel_rfl) (fun _ _ _ h => h) (Or.inl ⟨by kernel_rfl, fun W' hW => by obtain ⟨z0, z1, z2, z3⟩ := s0 W' hW; go_simp⟩) hS ?_
          refine wpAnyH_take (i := 2) (v := .pointer (some ⟨w.heap.size, 0, none⟩)) rfl (by kernel_rfl) (by kernel_rfl) (by kernel_rfl) (fun _ _ _ h => h) (Or.inl ⟨by kernel_rfl, fun W' hW => by go_simp⟩) hS ?_
          refine wpAnyH_take (i := 3) (v := .string N) rfl (by kernel_rfl) (by kernel_rfl) (by kernel_rfl) (fun _ _ _ h => h) (Or.inl ⟨by kernel_rfl, fun W' hW => by obtain ⟨z0, z1, z2, z3⟩ := s0 W' hW; go_simp⟩) hS ?_
          refine wpAnyH_take (i := 4) (v := .int .i64 (Z : Int)) rfl (by kernel_rfl) (by kernel_rfl) (by kernel_rfl) (fun _ _ _ h => h) (Or.inl ⟨by kernel_rfl, fun W' hW => by go_simp⟩) hS ?_
          refine wpAnyH_ready (rs := [1]) (by kernel_rfl) (by simp) ?_
          refine AllReadyH.cons rfl (fun K hK => ?_) AllReadyH.nil
          go_simp
          go_at_call 30
          refine (KG.out _).mono ?_
          rintro e w3 ⟨rfl, hb3⟩
          have hS1 := HSK.out _ hb3
          go_simp
          refine hK.out _ _ hS1 (fun _ => ?_)
          clear hK K
          refine wpAnyH_ready (rs := [5]) (by kernel_rfl) (by simp) ?_
          refine AllReadyH.cons rfl (fun K hK => ?_) AllReadyH.nil
          go_simp
          refine hK.out _ _ hS1 (fun _ => ?_)
          clear hK K
          refine wpAnyH_done (by kernel_rfl) ?_ _
          have I3 := hide ((I2.out.drew 1).keep hb3)
          clear e0 e1 e2 e3 ef c0 c1 c2 c3 cf
          obtain ⟨e0, e1, e2, e3, ef⟩ := Its.cells4 I3.out
          obtain ⟨c0, c1, c2, c3, cf⟩ := Its.cells4 I3.out.tail
          have hx := Hx.out
          have j1 := Hj1.out
          have K31 : Hid (∀ W, Calls Try.prog 31 #[.agg #[.string N, .string O, .int .i64 B, .bool false], .int .i64 (L : Int)] W fun e w' => e = .returned (.tuple #[.agg #[.string N, .string O, .int .i64 (smB B L), .bool (smD B L false)], .int .i64 (smN B L)]) ∧ Below W.heap.size W w') := hide (fun W => rsome_any N O B false W L hBr (by omega))
          have hsm : ∃ (k : Nat) (D' : Bool) (cd : Int) (T' : Tp), smN B L = (k : Int) ∧ k ≤ L ∧ smD B L false = D' ∧ (if D' = true then (190 : Int) else 0) = cd ∧ PR = (cd, T') ∧ dv T' = .agg #[.string (N ++ sS.extract 0 k), .string O, .int .i64 (smB B L), .bool D'] := by
            rw [← HN.out, ← HS.out, ← HO.out, ← HBB.out, ← HL.out, HQ.out]
            cases hc : T.can (ns.flatMap Nt.bts).length with
            | true =>
              obtain ⟨q1, q2, q3⟩ := sm_yes hc
              obtain ⟨p1, p2⟩ := put_dv_yes Hd.out hc
              rw [Hd.out] at q2
              refine ⟨_, _, _, _, q3, Nat.le_refl _, q2, rfl, p1, ?_⟩
              rw [p2, q1, str_ext, str_app, List.take_length]
            | false =>
              obtain ⟨q1, q2, q3, q4, q5⟩ := sm_no hc
              obtain ⟨p1, p2⟩ := put_dv_no hc
              rw [Hd.out] at q2
              refine ⟨_, _, _, _, q3, Nat.le_of_lt q4, q2, rfl, p1, ?_⟩
              rw [p2, q1, str_ext, str_app]
          obtain ⟨k, D', cd, T', a1, a2, a3, a4, a5, a6⟩ := hsm
          rw [a1, a3] at K31
          obtain ⟨B', hB'⟩ : ∃ B', smB B L = B' := ⟨_, rfl⟩
          rw [hB'] at K31 a6
          have A5 := hide a5
          have A6 := hide a6
          have A4 := hide a4
          clear a1 a3 a4 a5 a6 hB' hBr
          go_upto_region 11 with (go_at_call 31; refine (K31.out _).mono ?_; rintro e w4 ⟨rfl, hb4⟩; have I4 := hide (I3.out.keep hb4); obtain ⟨te0, te1, te2, te3, tef⟩ := Its.cells4 I4.out; obtain ⟨tc0, tc1, tc2, tc3, tcf⟩ := Its.cells4 I4.out.tail)
          have I5 : Hid (Its w [.box (w.heap.size + 1) #[.string ⟨#[]⟩, .string ⟨#[]⟩, .int .i64 0, .bool false] 26, .box w.heap.size #[.string N, .string O, .int .i64 B', .bool D'] 26] ((((w4.setCell ⟨w.heap.size, 0, none⟩ (.string N)).setCell ⟨w.heap.size, 1, none⟩ (.string O)).setCell ⟨w.heap.size, 2, none⟩ (.int .i64 B')).setCell ⟨w.heap.size, 3, none⟩ (.bool D'))) := hide (Its.out4 I4.out.swap (.string N) (.string O) (.int .i64 B') (.bool D')).swap
          generalize (((w4.setCell ⟨w.heap.size, 0, none⟩ (.string N)).setCell ⟨w.heap.size, 1, none⟩ (.string O)).setCell ⟨w.heap.size, 2, none⟩ (.int .i64 B')).setCell ⟨w.heap.size, 3, none⟩ (.bool D') = w5 at *
          clear te0 te1 te2 te3 tef tc0 tc1 tc2 tc3 tcf e0 e1 e2 e3 ef c0 c1 c2 c3 cf
          obtain ⟨e0, e1, e2, e3, ef⟩ := Its.cells4 I5.out
          obtain ⟨c0, c1, c2, c3, cf⟩ := Its.cells4 I5.out.tail
          have k0 : (0 : Int) ≤ (k : Int) := by omega
          have k1 : (k : Int) ≤ (L : Int) := by omega
          have hadd : ∀ W, (Op.stringOp .add N (sS.extract 0 k)).run Try.prog W = .ok (.string (N ++ sS.extract 0 k)) W := fun W => run_string_add _ _ _ (by omega) (by
            have : (sS.extract 0 k).size ≤ sS.size := by rw [ByteArray.size_extract]; omega
            omega)
          go_region
          have I6 : Hid (Its w [.box (w.heap.size + 1) #[.string ⟨#[]⟩, .string ⟨#[]⟩, .int .i64 0, .bool false] 26, .box w.heap.size #[.string (N ++ sS.extract 0 k), .string O, .int .i64 B', .bool D'] 26] (w5.setCell ⟨w.heap.size, 0, none⟩ (.string (N ++ sS.extract 0 k))).drew) := hide ((I5.out.swap.put 0 (.string (N ++ sS.extract 0 k))).swap.drew 1)
          generalize (w5.setCell ⟨w.heap.size, 0, none⟩ (.string (N ++ sS.extract 0 k))).drew = w6 at *
          generalize N ++ sS.extract 0 k = sY at *
          clear e0 e1 e2 e3 ef c0 c1 c2 c3 cf hadd hS0 HSK s0
          go_upto_region 12 with fail
          obtain ⟨S2, hS2⟩ : ∃ S2 : World → Prop, S2 = fun W => W.heap[w.heap.size]? = some (.cells #[.string sY, .string O, .int .i64 B', .bool D'] 26) := ⟨_, rfl⟩
          have s2 : ∀ W, S2 W → W.cell? ⟨w.heap.size, 0, none⟩ = some (.string sY) ∧ W.cell? ⟨w.heap.size, 1, none⟩ = some (.string O) ∧ W.cell? ⟨w.heap.size, 2, none⟩ = some (.int .i64 B') ∧ W.cell? ⟨w.heap.size, 3, none⟩ = some (.bool D') := fun W hW => by
            rw [hS2] at hW
            exact ⟨(cells_at hW 0).1, (cells_at hW 1).1, (cells_at hW 2).1, (cells_at hW 3).1⟩
          have hT0 : S2 w6.drew := by rw [hS2]; exact I6.out.two
          have K32 := hide (fun W => rcode_any sY O B' D' W)
          rw [A4.out] at K32
          have HI8 : Hid (∀ W, Below w6.heap.size w6.drew W → S2 W ∧ W.cell? ⟨w.heap.size + 1, 0, none⟩ = some (.string ⟨#[]⟩) ∧ W.cell? ⟨w.heap.size + 1, 1, none⟩ = some (.string ⟨#[]⟩) ∧ W.cell? ⟨w.heap.size + 1, 2, none⟩ = some (.int .i64 0) ∧ W.cell? ⟨w.heap.size + 1, 3, none⟩ = some (.bool false) ∧ (∀ i, W.frozen? ⟨w.heap.size + 1, i, none⟩ = false) ∧ Its w [.box (w.heap.size + 1) #[.string sY, .string O, .int .i64 B', .bool D'] 26, .box w.heap.size #[.string sY, .string O, .int .i64 B', .bool D'] 26] ((((W.setCell ⟨w.heap.size + 1, 0, none⟩ (.string sY)).setCell ⟨w.heap.size + 1, 1, none⟩ (.string O)).setCell ⟨w.heap.size + 1, 2, none⟩ (.int .i64 B')).setCell ⟨w.heap.size + 1, 3, none⟩ (.bool D'))) := hide (fun W hW => by
            have I7 := (I6.out.drew 1).keep hW
            obtain ⟨q0, q1, q2, q3, qf⟩ := Its.cells4 I7
            exact ⟨by rw [hS2]; exact I7.two, q0, q1, q2, q3, qf, Its.out4 I7 _ _ _ _⟩)
          have HS8 : Hid (∀ W, Its w [.box (w.heap.size + 1) #[.string sY, .string O, .int .i64 B', .bool D'] 26, .box w.heap.size #[.string sY, .string O, .int .i64 B', .bool D'] 26] W → S2 W) := hide (fun W hW => by rw [hS2]; exact hW.two)
          clear hS2
          refine wp_region_held_drew (S := S2) (by kernel_rfl) hT0 (fun hS => ?_)
          refine wpAnyH_take (i := 0) (v := .agg #[.string sY, .string O, .int .i64 B', .bool D']) rfl (by kernel_rfl) (by kernel_rfl) (by kernel_rfl) (fun _ _ _ h => h) (Or.inl ⟨by kernel_rfl, fun W' hW => by obtain ⟨z0, z1, z2, z3⟩ := s2 W' hW; go_simp⟩) hS ?_
          refine wpAnyH_take (i := 1) (v := .agg #[.string sY, .string O, .int .i64 B', .bool D']) rfl (by kernel_rfl) (by kernel_rfl) (by kernel_rfl) (fun _ _ _ h => h) (Or.inl ⟨by kernel_rfl, fun W' hW => by obtain ⟨z0, z1, z2, z3⟩ := s2 W' hW; go_simp⟩) hS ?_
          refine wpAnyH_ready (rs := [2]) (by kernel_rfl) (by simp) ?_
          refine AllReadyH.cons rfl (fun K hK => ?_) AllReadyH.nil
          go_simp
          go_at_call 32
          refine (K32.out _).mono ?_
          rintro e w7 ⟨rfl, hb7⟩
          obtain ⟨hS7, q0, q1, q2, q3, qf, h8⟩ := HI8.out _ hb7
          have hS8 := HS8.out _ h8
          have H8 := hide h8
          clear h8
          go_simp
          refine hK.out _ _ hS7 (fun _ => ?_)
          clear hK K
          refine wpAnyH_ready (rs := [3]) (by kernel_rfl) (by simp) ?_
          refine AllReadyH.cons rfl (fun K hK => ?_) AllReadyH.nil
          go_simp
          refine hK.out _ _ hS8 (fun _ => ?_)
          clear hK K
          refine wpAnyH_ready (rs := [4]) (by kernel_rfl) (by simp) ?_
          refine AllReadyH.cons rfl (fun K hK => ?_) AllReadyH.nil
          go_simp
          refine hK.out _ _ hS8 (fun _ => ?_)
          clear hK K
          refine wpAnyH_done (by kernel_rfl) ?_ _
          go_wp2_with fail
          obtain ⟨y0, y1, y2, y3, _⟩ := Its.cells4 H8.out
          exact bodyPost_ret (v := .tuple #[.agg #[.string sY, .string O, .int .i64 B', .bool D'], .int .i64 cd]) (by simp [results, Try.results15, go_sem, y0, y1, y2, y3]) rfl (DvR.mk A5.out A6.out.symm H8.out.bel)
      · have j0 : (G : Int) < (Z : Int) := by omega
        have HQ := hide (Hpo.out (fun e => hr0 (HR.out.1 e)))
        clear hr0 hgl
        go_upto_region 6 with fail
        refine wp_region_held_drew (S := SS) (by kernel_rfl) hS0 (fun hS => ?_)
        refine wpAnyH_take (i := 0) (v := .agg #[.string N, .string O, .int .i64 B, .bool false]) rfl (by kernel_rfl) (by kernel_rfl) (by kernel_rfl) (fun _ _ _ h => h) (Or.inl ⟨by kernel_rfl, fun W' hW => by obtain ⟨z0, z1, z2, z3⟩ := s0 W' hW; go_simp⟩) hS ?_
        refine wpAnyH_take (i := 2) (v := .pointer (some ⟨w.heap.size, 0, none⟩)) rfl (by kernel_rfl) (by kernel_rfl) (by kernel_rfl) (fun _ _ _ h => h) (Or.inl ⟨by kernel_rfl, fun W' hW => by go_simp⟩) hS ?_
        refine wpAnyH_take (i := 3) (v := .string N) rfl (by kernel_rfl) (by kernel_rfl) (by kernel_rfl) (fun _ _ _ h => h) (Or.inl ⟨by kernel_rfl, fun W' hW => by obtain ⟨z0, z1, z2, z3⟩ := s0 W' hW; go_simp⟩) hS ?_
        refine wpAnyH_take (i := 4) (v := .int .i64 (Z : Int)) rfl (by kernel_rfl) (by kernel_rfl) (by kernel_rfl) (fun _ _ _ h => h) (Or.inl ⟨by kernel_rfl, fun W' hW => by go_simp⟩) hS ?_
        refine wpAnyH_ready (rs := [1]) (by kernel_rfl) (by simp) ?_
        refine AllReadyH.cons rfl (fun K hK => ?_) AllReadyH.nil
        go_simp
        go_at_call 30
        refine (KG.out _).mono ?_
        rintro e w3 ⟨rfl, hb3⟩
        have hS1 := HSK.out _ hb3
        go_simp
        refine hK.out _ _ hS1 (fun _ => ?_)
        clear hK K
        refine wpAnyH_ready (rs := [5]) (by kernel_rfl) (by simp) ?_
        refine AllReadyH.cons rfl (fun K hK => ?_) AllReadyH.nil
        go_simp
        refine hK.out _ _ hS1 (fun _ => ?_)
        clear hK K
        refine wpAnyH_done (by kernel_rfl) ?_ _
        have I3 := hide ((I2.out.drew 1).keep hb3)
        clear e0 e1 e2 e3 ef c0 c1 c2 c3 cf
        obtain ⟨e0, e1, e2, e3, ef⟩ := Its.cells4 I3.out
        obtain ⟨c0, c1, c2, c3, cf⟩ := Its.cells4 I3.out.tail
        go_upto_region 7 with fail
        have HIe := hide (Its.out4 I3.out (.string N) (.string O) (.int .i64 B) (.bool false))
        go_wp2_with fail
        obtain ⟨y0, y1, y2, y3, _⟩ := Its.cells4 HIe.out
        exact bodyPost_ret (v := .tuple #[.agg #[.string N, .string O, .int .i64 B, .bool false], .int .i64 140]) (by simp [results, Try.results15, go_sem, y0, y1, y2, y3]) rfl (DvR.mk HQ.out HV.out.symm HIe.out.bel)
    · have I2 := hide (I1.out.keep hb2)
      clear e0 e1 e2 e3 ef c0 c1 c2 c3 cf
      obtain ⟨e0, e1, e2, e3, ef⟩ := Its.cells4 I2.out
      obtain ⟨c0, c1, c2, c3, cf⟩ := Its.cells4 I2.out.tail
      have HQ : Hid (PR = (180, T)) := hide (by rw [← HP.out]; exact app_note Hd.out _ hk)
      clear hk hb2
      have HIe := hide (Its.out4 I2.out (.string N) (.string O) (.int .i64 B) (.bool false))
      go_wp2_with fail
      obtain ⟨y0, y1, y2, y3, _⟩ := Its.cells4 HIe.out
      exact bodyPost_ret (v := .tuple #[.agg #[.string N, .string O, .int .i64 B, .bool false], .int .i64 180]) (by simp [results, Try.results15, go_sem, y0, y1, y2, y3]) rfl (DvR.mk HQ.out HV.out.symm HIe.out.bel)
end Go.Proofs.Ytgdoagmnhmfjkaa
