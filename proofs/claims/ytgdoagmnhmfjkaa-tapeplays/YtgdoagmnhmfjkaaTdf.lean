/- Tells. -/
import Derived.Test.YtgdoagmnhmfjkaaTdb
namespace Go.Proofs.Ytgdoagmnhmfjkaa
open Go.ChangeShapes Go.WideShapes Go.ChangeAt Go.RowKit
set_option linter.unusedVariables false

set_option maxHeartbeats 2000000 in
theorem same_big {w : World} {v u : Value} {ts : List Nt} (hv : ntE.Rd w v ts) (hu : ntE.Rd w u ts) (hm : ts.length ≤ 100000) :
    Calls Try.prog 23 #[v, u] w fun e w' => e = .returned (.bool true) ∧ ∃ n, w' = w.drewN n := by
  obtain ⟨a, ca, rfl⟩ := hv.form
  obtain ⟨a', cb, rfl⟩ := hu.form
  have Hv := hide hv
  have Hu := hide hu
  clear hv hu
  obtain ⟨n, hn⟩ : ∃ n, ts.length = n := ⟨_, rfl⟩
  rw [hn] at hm Hv Hu ⊢
  have Hn := hide hn
  clear hn
  have i0 : (n : Int) ≤ 100000 := by omega
  go_enter Try.func23, Try.ntmps23
  go_wp2_with fail
  go_loopw [13] (fun i wr => ∃ k q : Nat, k ≤ n ∧ i = .int .i64 k ∧ wr = w.drewN q) (fun i _ => n - (intOf i).toNat)
  case atStart => exact ⟨0, 0, by omega, rfl, rfl⟩
  case round =>
    obtain ⟨k, q, hk, rfl, rfl⟩ := hrel
    by_cases hlt : k < n
    · obtain ⟨t, ht⟩ : ∃ t, ts[k]? = some t := ⟨_, List.getElem?_eq_getElem (by rw [Hn.out]; exact hlt)⟩
      obtain ⟨b1, o1, rfl, x0, x1, x2, x3⟩ := nt_at Hv.out k t ht
      obtain ⟨b2, o2, rfl, y0, y1, y2, y3⟩ := nt_at Hu.out k t ht
      obtain ⟨tk, ta, tb, tc⟩ := t
      have j0 : (0 : Int) ≤ (k : Int) := by omega
      have j1 : (k : Int) < (n : Int) := by omega
      clear ht
      go_wp2_with fail
      go_quiet (fail)
      go_wp2_with fail
      go_roundw
      case rel => exact ⟨k + 1, _, by omega, by go_num, rfl⟩
      case measure => simp [intOf]; omega
    · have : k = n := by omega
      subst this
      go_wp2_with fail
      go_ret
      exact ⟨rfl, _, rfl⟩

set_option maxRecDepth 100000 in
set_option maxHeartbeats 2000000 in
theorem tellsS {w0 w : World} {g : Nat} {H : Bool → Value} {T : Tp} {l : List It} (h : Its w0 (.tape w0.heap.size g H T :: l) w) : Calls Try.prog 22 #[.pointer (some ⟨g, 0, none⟩), dv T] w fun e w' => e = .returned (.bool true) ∧ Its w0 (.tape w0.heap.size g H T :: l) w' := by
  have hok := tp_ok h.one
  obtain ⟨got, r, hr⟩ := rds_ex T.now
  have hin : InB T.now := hok.inb T.cn
  have hlen : T.now.length ≤ 65536 := hok.len T.cn
  have hcount : got.length ≤ 65536 := by
    have h1 := rds_len hr
    have h2 : got.length ≤ tot got := by
      have hk := hr.ok
      unfold tot
      clear h1 hr
      induction got with
      | nil => simp
      | cons n ns ih =>
        have h1 := ih (fun m hm => hk m (by simp [hm]))
        have h2 := bts_len5 (hk n (by simp))
        rw [List.flatMap_cons, List.length_append, List.length_cons]
        omega
    omega
  have Hcn : Hid (got.length ≤ 100000) := hide (by omega)
  have e : dv T = .agg #[.string (str T.now), .string (str T.oth), .int .i64 (bud T), .bool T.dd] := rfl
  rw [e]
  clear e
  have Hr := hide hr
  have Hin := hide hin
  have Hlen := hide hlen
  have I1 := hide (h.box1 #[.string (str T.now), .string (str T.oth), .int .i64 (bud T), .bool T.dd] 26).swap
  have hsz : (str T.now).size = T.now.length := str_size _
  obtain ⟨Zn, hZ⟩ : ∃ Zn, T.now.length = Zn := ⟨_, rfl⟩
  have KZ : Hid (∀ W l', Its w0 (.tape w0.heap.size g H T :: l') W → Calls Try.prog 25 #[.pointer (some ⟨g, 0, none⟩)] W fun e w' => e = .returned (.int .i64 (Zn : Int)) ∧ Its w0 (.tape w0.heap.size g H T :: l') w') := hide (fun W l' hW => by rw [← hZ]; exact sizeS hW)
  have KR : Hid (∀ W l', Its w0 (.tape w0.heap.size g H T :: l') W → Calls Try.prog 24 #[.pointer (some ⟨g, 0, none⟩)] W fun e w' => ∃ v, e = .returned v ∧ Its w0 (.tape w0.heap.size g H T :: .row ntE w0.heap.size v got :: l') w') := hide (fun W l' hW => (readS hW hr).mono (by rintro e w' ⟨v, rfl, q⟩; exact ⟨v, rfl, q.swap⟩))
  have KS : Hid (∀ W l' v u, Its w0 (.tape w0.heap.size g H T :: .row ntE w0.heap.size v got :: .row ntE w0.heap.size u got :: l') W → Calls Try.prog 23 #[v, u] W fun e w' => e = .returned (.bool true) ∧ Its w0 (.tape w0.heap.size g H T :: l') w') := hide (fun W l' v u hW => (same_big (El.Own.rd hW.two) (El.Own.rd hW.three) Hcn.out).mono (by
    rintro e w' ⟨rfl, q, rfl⟩
    exact ⟨rfl, (hW.drew q).drop2⟩))
  rw [hZ] at hsz
  clear h hok hr hin hlen hZ hcount
  go_enter Try.func22, Try.ntmps22
  go_upto_region 1 with fail
  generalize w.alloc (.cells #[.string (str T.now), .string (str T.oth), .int .i64 (bud T), .bool T.dd] 26) = W1 at *
  generalize w.heap.size = p3 at *
  obtain ⟨c0, c1, c2, c3, cf⟩ := Its.cells4 I1.out.swap
  obtain ⟨w2, cap, hcv, hsl, hb2⟩ := conv_by W1 T.now Hin.out
  have K37 := hide (rread_any hsl Hin.out (by have := Hlen.out; omega))
  have I2 := hide (I1.out.keep hb2)
  obtain ⟨n, hn⟩ : ∃ n, T.now.length = n := ⟨_, rfl⟩
  rw [hn] at hcv K37
  clear hsl hb2 hn
  generalize W1.heap.size = g1 at *
  have HE := hide hcv
  go_upto_region 2 with (go_at_call 37; refine K37.out.mono ?_; rintro e w3 ⟨u, ns, r', rfl, hr3, ho, hb⟩)
  obtain ⟨e1, e2⟩ := Hr.out.uniq hr3
  rw [← e1] at ho ⊢
  have I3 := hide (I2.out.fresh ho hb)
  clear c0 c1 c2 c3 cf hcv HE hr3 ho hb e1 e2 I1 I2 K37
  have I4 := hide I3.out.swap
  obtain ⟨sN, hsN⟩ : ∃ sN, str T.now = sN := ⟨_, rfl⟩
  rw [hsN] at hsz
  obtain ⟨SS, hSS⟩ : ∃ SS : World → Prop, SS = fun W => W.cell? ⟨p3, 0, none⟩ = some (.string sN) := ⟨_, rfl⟩
  have s0 : ∀ W, SS W → W.cell? ⟨p3, 0, none⟩ = some (.string sN) := fun W hW => by rw [hSS] at hW; exact hW
  have HSB : Hid (∀ W l', Its w0 (.box p3 #[.string (str T.now), .string (str T.oth), .int .i64 (bud T), .bool T.dd] 26 :: l') W → SS W) := hide (fun W l' hW => by rw [hSS, ← hsN]; exact (cells_at hW.one 0).1)
  have I5 : Hid (Its w0 (.tape w0.heap.size g H T :: .row ntE w0.heap.size u got :: .box p3 #[.string (str T.now), .string (str T.oth), .int .i64 (bud T), .bool T.dd] 26 :: l) w3.drew) := hide (I4.out.drew 1)
  have hS0 : SS w3.drew := HSB.out _ _ I5.out.rot3
  clear hSS
  refine wp_region_held_drew (S := SS) (by kernel_rfl) hS0 (fun hS => ?_)
  refine wpAnyH_take (i := 2) (v := .pointer (some ⟨p3, 0, none⟩)) rfl (by kernel_rfl) (by kernel_rfl) (by kernel_rfl) (fun _ _ _ h => h) (Or.inl ⟨by kernel_rfl, fun W' hW => by go_simp⟩) hS ?_
  refine wpAnyH_take (i := 3) (v := .string sN) rfl (by kernel_rfl) (by kernel_rfl) (by kernel_rfl) (fun _ _ _ h => h) (Or.inl ⟨by kernel_rfl, fun W' hW => by have z0 := s0 W' hW; go_simp⟩) hS ?_
  refine wpAnyH_take (i := 4) (v := .int .i64 (Zn : Int)) rfl (by kernel_rfl) (by kernel_rfl) (by kernel_rfl) (fun _ _ _ h => h) (Or.inl ⟨by kernel_rfl, fun W' hW => by go_simp⟩) hS ?_
  refine wpAnyH_ready (rs := [0]) (by kernel_rfl) (by simp) ?_
  refine AllReadyH.cons rfl (fun K hK => ?_) AllReadyH.nil
  go_simp
  refine hK.out _ _ hS (fun _ => ?_)
  clear hK K
  refine wpAnyH_ready (rs := [1]) (by kernel_rfl) (by simp) ?_
  refine AllReadyH.cons rfl (fun K hK => ?_) AllReadyH.nil
  go_simp
  go_at_call 25
  refine (KZ.out _ _ I5.out).mono ?_
  rintro e w5 ⟨rfl, h5⟩
  have hS5 := HSB.out _ _ h5.rot3
  go_simp
  refine hK.out _ _ hS5 (fun _ => ?_)
  clear hK K
  refine wpAnyH_ready (rs := [5]) (by kernel_rfl) (by simp) ?_
  refine AllReadyH.cons rfl (fun K hK => ?_) AllReadyH.nil
  go_simp
  refine hK.out _ _ hS5 (fun _ => ?_)
  clear hK K
  refine wpAnyH_ready (rs := [6]) (by kernel_rfl) (by simp) ?_
  refine AllReadyH.cons rfl (fun K hK => ?_) AllReadyH.nil
  go_simp
  refine hK.out _ _ hS5 (fun _ => ?_)
  clear hK K
  refine wpAnyH_take (i := 9) (v := u) rfl (by kernel_rfl) (by kernel_rfl) (by kernel_rfl) (fun _ _ _ h => h) (Or.inl ⟨by kernel_rfl, fun W' hW => by go_simp⟩) hS5 ?_
  refine wpAnyH_ready (rs := [7]) (by kernel_rfl) (by simp) ?_
  refine AllReadyH.cons rfl (fun K hK => ?_) AllReadyH.nil
  go_simp
  refine hK.out _ _ hS5 (fun _ => ?_)
  clear hK K
  refine wpAnyH_ready (rs := [8]) (by kernel_rfl) (by simp) ?_
  refine AllReadyH.cons rfl (fun K hK => ?_) AllReadyH.nil
  go_simp
  go_at_call 24
  refine (KR.out _ _ h5).mono ?_
  rintro e w6 ⟨v6, rfl, h6⟩
  have hS6 := HSB.out _ _ h6.rot4
  go_simp
  refine hK.out _ _ hS6 (fun _ => ?_)
  clear hK K
  refine wpAnyH_ready (rs := [10]) (by kernel_rfl) (by simp) ?_
  refine AllReadyH.cons rfl (fun K hK => ?_) AllReadyH.nil
  go_simp
  go_at_call 23
  refine (KS.out _ _ _ _ h6).mono ?_
  rintro e w7 ⟨rfl, h7⟩
  have hS7 := HSB.out _ _ h7.swap
  have H9 := hide h7.swap.tail
  go_simp
  refine hK.out _ _ hS7 (fun _ => ?_)
  clear hK K
  refine wpAnyH_ready (rs := [11]) (by kernel_rfl) (by simp) ?_
  refine AllReadyH.cons rfl (fun K hK => ?_) AllReadyH.nil
  go_simp
  refine hK.out _ _ hS7 (fun _ => ?_)
  clear hK K
  refine wpAnyH_ready (rs := [12]) (by kernel_rfl) (by simp) ?_
  refine AllReadyH.cons rfl (fun K hK => ?_) AllReadyH.nil
  go_simp
  refine hK.out _ _ hS7 (fun _ => ?_)
  clear hK K
  refine wpAnyH_done (by kernel_rfl) ?_ _
  go_wp2_with fail
  go_ret
  exact ⟨rfl, H9.out⟩
end Go.Proofs.Ytgdoagmnhmfjkaa
