/- Hear. -/
import Derived.Test.YthcdfclhenmleaaPrd
namespace Go.Proofs.Ythcdfclhenmleaa
open Go.RowKit
set_option linter.unusedVariables false

section
variable {w0 w : World} {l : List It} {B g n m : Nat} {H : Nat × Nat} {es : List (Int × Int)} {S : Pl}
set_option maxRecDepth 100000 in
set_option maxHeartbeats 2000000 in
theorem hearS (h : Its w0 (.pla B g H n m es S :: l) w) (t : Tl) (ht : t.In) (hv : S.mv ≤ 1000000) : Calls Try.prog 17 #[.pointer (some ⟨g, 0, none⟩), tv t] w fun e w' => HP w0 l B g n m H es (S.hear t) e w' := by
  have I1 := hide (h.two5 t (.int .u8 0) (.int .u16 0) (.int .u16 0) (.int .u16 0) (.int .u16 0))
  have h3 := I1.out.three
  have KW := hide (works_m h3 t.d)
  have I0 := hide I1.out
  obtain ⟨P, hP⟩ : ∃ P, S.hear t = P := ⟨_, rfl⟩
  rw [hP]
  unfold Pl.hear at hP
  obtain ⟨wk, hwk⟩ : ∃ wk, S.wrk t.d = wk := ⟨_, rfl⟩
  rw [hwk] at hP KW
  have hr := ht.2.1
  have rd : IntKind.i64.wrap t.d = t.d := by rw [IntKind.wrap_i64]; omega
  cases wk with
  | false =>
    rw [if_pos rfl] at hP
    have HPP := hide hP
    obtain ⟨tk, td, ts, ta, tb⟩ := t
    dsimp only at *
    unfold tv
    dsimp only
    clear h h3 hP hwk hv ht I0 hr
    go_enter Try.func17, Try.ntmps17
    go_upto_region 1 with fail
    generalize (w.alloc (.cells #[.int .u8 tk, .int .u16 td, .int .u16 ts, .int .u16 ta, .int .u16 tb] 45)).alloc (.cells #[.int .u8 0, .int .u16 0, .int .u16 0, .int .u16 0, .int .u16 0] 45) = W1 at *
    obtain ⟨e0, e1, e2, e3, e4, ef⟩ := Its.cells5 I1.out
    obtain ⟨t0, t1, t2, t3, t4, tf⟩ := Its.cells5 I1.out.tail
    have IE := hide (Its.out5 I1.out (.int .u8 0) (.int .u16 0) (.int .u16 0) (.int .u16 0) (.int .u16 0))
    go_wp2_with (go_at_call 26; refine KW.out.mono ?_; rintro e W2 ⟨rfl, rfl⟩)
    obtain ⟨y0, y1, y2, y3, y4, _⟩ := Its.cells5 IE.out
    exact bodyPost_ret (v := .tuple #[tv tz, .bool false]) (by simp [tv, tz, results, Try.results17, go_sem, y0, y1, y2, y3, y4]) rfl (by rw [← HPP.out]; exact ⟨rfl, IE.out.tail.tail⟩)
  | true =>
  have hD : S.isD t.d = true := Pl.wrk_isD hwk
  rw [if_neg (by simp)] at hP
  obtain ⟨k, hd, hk, hk', hp⟩ := dev_k h3 hD
  have KD := hide (device_m h3 k hk)
  rw [← hd] at KD
  by_cases k1 : t.k = 1
  case pos =>
    rw [if_pos k1] at hP
    subst hP
    have KM0 := movS I0.out.rot3 t ht hD hv
    generalize S.mov t = P at *
    obtain ⟨⟨⟨ak, ad, az, aa, ab⟩, ob⟩, S'⟩ := P
    obtain ⟨tk, td, ts, ta, tb⟩ := t
    dsimp only at *
    have KM : Hid (Calls Try.prog 33 #[.pointer (some ⟨g, 0, none⟩), .agg #[.int .u8 tk, .int .u16 td, .int .u16 ts, .int .u16 ta, .int .u16 tb]] ((w.alloc (.cells #[.int .u8 tk, .int .u16 td, .int .u16 ts, .int .u16 ta, .int .u16 tb] 45)).alloc (.cells #[.int .u8 0, .int .u16 0, .int .u16 0, .int .u16 0, .int .u16 0] 45)) fun e w' => e = .returned (.tuple #[.agg #[.int .u8 ak, .int .u16 ad, .int .u16 az, .int .u16 aa, .int .u16 ab], .bool ob]) ∧ Its w0 (.pla B g H n m es S' :: .box (w.heap.size + 1) #[.int .u8 0, .int .u16 0, .int .u16 0, .int .u16 0, .int .u16 0] 45 :: .box w.heap.size #[.int .u8 tk, .int .u16 td, .int .u16 ts, .int .u16 ta, .int .u16 tb] 45 :: l) w') := hide KM0
    unfold tv
    dsimp only
    subst k1
    clear h h3 hwk hv ht I0 hr KM0 KD hD hd hk' hp
    go_enter Try.func17, Try.ntmps17
    go_upto_region 1 with fail
    generalize (w.alloc (.cells #[.int .u8 1, .int .u16 td, .int .u16 ts, .int .u16 ta, .int .u16 tb] 45)).alloc (.cells #[.int .u8 0, .int .u16 0, .int .u16 0, .int .u16 0, .int .u16 0] 45) = W1 at *
    obtain ⟨e0, e1, e2, e3, e4, ef⟩ := Its.cells5 I1.out
    obtain ⟨t0, t1, t2, t3, t4, tf⟩ := Its.cells5 I1.out.tail
    go_wp2_with (first
      | (go_at_call 33; refine KM.out.mono ?_; rintro e W3 ⟨rfl, q⟩; have I3 := hide q.rot3'; clear q; clear e0 e1 e2 e3 e4 ef; obtain ⟨e0, e1, e2, e3, e4, ef⟩ := Its.cells5 I3.out)
      | (go_at_call 26; refine KW.out.mono ?_; rintro e W2 ⟨rfl, rfl⟩))
    have IE := hide (Its.out5 I3.out (.int .u8 ak) (.int .u16 ad) (.int .u16 az) (.int .u16 aa) (.int .u16 ab))
    obtain ⟨y0, y1, y2, y3, y4, _⟩ := Its.cells5 IE.out
    exact bodyPost_ret (v := .tuple #[tv ⟨ak, ad, az, aa, ab⟩, .bool ob]) (by simp [tv, results, Try.results17, go_sem, y0, y1, y2, y3, y4]) rfl ⟨rfl, IE.out.tail.tail⟩
  case neg =>
  rw [if_neg k1] at hP
  have k1' : (t.k == 1) = false := beq_eq_false_iff_ne.2 k1
  by_cases k6 : t.k = 6
  case pos =>
    rw [if_pos k6] at hP
    have HPP := hide hP
    obtain ⟨d0, d1, d2, d3, d4⟩ := pl_d h3 hp
    have hdr := (pl_ok h3).dr _ (Pl.dev_at hD).2
    have rt : IntKind.u16.wrap (S.dev t.d).tt = (S.dev t.d).tt := by simp [IntKind.wrap, IntKind.bits, IntKind.signed]; omega
    obtain ⟨Dd, hDd⟩ : ∃ Dd, S.dev t.d = Dd := ⟨_, rfl⟩
    have HPQ : Hid (((⟨7, t.d, t.s, Dd.sq, Dd.tt⟩, true), S) = P) := hide (by rw [← hDd]; exact hP)
    rw [hDd] at d0 d1 d2 d3 d4 rt
    obtain ⟨tk, td, ts, ta, tb⟩ := t
    dsimp only at *
    subst k6
    unfold tv
    dsimp only
    clear h h3 hP hwk hv ht I0 hr HPP hD hd hk' hp hDd hdr k1 k1'
    go_enter Try.func17, Try.ntmps17
    go_upto_region 1 with fail
    generalize (w.alloc (.cells #[.int .u8 6, .int .u16 td, .int .u16 ts, .int .u16 ta, .int .u16 tb] 45)).alloc (.cells #[.int .u8 0, .int .u16 0, .int .u16 0, .int .u16 0, .int .u16 0] 45) = W1 at *
    obtain ⟨e0, e1, e2, e3, e4, ef⟩ := Its.cells5 I1.out
    obtain ⟨t0, t1, t2, t3, t4, tf⟩ := Its.cells5 I1.out.tail
    go_upto_region 8 with (first
      | (go_at_call 34; refine KD.out.mono ?_; rintro e W3 ⟨rfl, rfl⟩)
      | (go_at_call 26; refine KW.out.mono ?_; rintro e W2 ⟨rfl, rfl⟩))
    go_region
    have IE : Hid (Its w0 _ (((((W3.setCell ⟨w.heap.size + 1, 0, none⟩ (.int .u8 7)).setCell ⟨w.heap.size + 1, 1, none⟩ (.int .u16 td)).setCell ⟨w.heap.size + 1, 2, none⟩ (.int .u16 ts)).setCell ⟨w.heap.size + 1, 3, none⟩ (.int .u16 Dd.sq)).setCell ⟨w.heap.size + 1, 4, none⟩ (.int .u16 Dd.tt)).drew) := hide ((Its.out5 I1.out (.int .u8 7) (.int .u16 td) (.int .u16 ts) (.int .u16 Dd.sq) (.int .u16 Dd.tt)).drew 1)
    clear e0 e1 e2 e3 e4 ef t0 t1 t2 t3 t4 tf d0 d1 d2 d3 d4 KW KD
    generalize (((((W3.setCell ⟨w.heap.size + 1, 0, none⟩ (.int .u8 7)).setCell ⟨w.heap.size + 1, 1, none⟩ (.int .u16 td)).setCell ⟨w.heap.size + 1, 2, none⟩ (.int .u16 ts)).setCell ⟨w.heap.size + 1, 3, none⟩ (.int .u16 Dd.sq)).setCell ⟨w.heap.size + 1, 4, none⟩ (.int .u16 Dd.tt)).drew = WE at *
    go_wp2_with fail
    obtain ⟨y0, y1, y2, y3, y4, _⟩ := Its.cells5 IE.out
    exact bodyPost_ret (v := .tuple #[tv ⟨7, td, ts, Dd.sq, Dd.tt⟩, .bool true]) (by simp [tv, results, Try.results17, go_sem, y0, y1, y2, y3, y4]) rfl (by rw [← HPQ.out]; exact ⟨rfl, IE.out.tail.tail⟩)
  case neg =>
    rw [if_neg k6] at hP
    have k6' : (t.k == 6) = false := beq_eq_false_iff_ne.2 k6
    have HPP := hide hP
    obtain ⟨tk, td, ts, ta, tb⟩ := t
    dsimp only at *
    unfold tv
    dsimp only
    clear h h3 hP hwk hv ht I0 hr KD hD hd hk' hp
    go_enter Try.func17, Try.ntmps17
    go_upto_region 1 with fail
    generalize (w.alloc (.cells #[.int .u8 tk, .int .u16 td, .int .u16 ts, .int .u16 ta, .int .u16 tb] 45)).alloc (.cells #[.int .u8 0, .int .u16 0, .int .u16 0, .int .u16 0, .int .u16 0] 45) = W1 at *
    obtain ⟨e0, e1, e2, e3, e4, ef⟩ := Its.cells5 I1.out
    obtain ⟨t0, t1, t2, t3, t4, tf⟩ := Its.cells5 I1.out.tail
    have IE := hide (Its.out5 I1.out (.int .u8 0) (.int .u16 0) (.int .u16 0) (.int .u16 0) (.int .u16 0))
    go_wp2_with (go_at_call 26; refine KW.out.mono ?_; rintro e W2 ⟨rfl, rfl⟩)
    obtain ⟨y0, y1, y2, y3, y4, _⟩ := Its.cells5 IE.out
    exact bodyPost_ret (v := .tuple #[tv tz, .bool false]) (by simp [tv, tz, results, Try.results17, go_sem, y0, y1, y2, y3, y4]) rfl (by rw [← HPP.out]; exact ⟨rfl, IE.out.tail.tail⟩)
end
end Go.Proofs.Ythcdfclhenmleaa

