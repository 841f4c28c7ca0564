/- The document's shuttle: Moved, Handled, Reset, Assign, New, Load. -/
import Derived.Test.YtjmmkkjabpcihaaSrf
namespace Go.Proofs.Ytjmmkkjabpcihaa
open Go.RowKit
set_option linter.unusedVariables false

set_option maxRecDepth 100000 in
set_option maxHeartbeats 1000000 in
theorem rmv_any (S : Sh) (p : Int) (w : World) : Calls Try.prog 16 #[.agg #[.int .i64 S.n, .int .i64 S.pt, .int .i64 S.pl, .int .i64 S.st, .int .i64 S.was, .int .i64 S.tk, .int .i64 S.jt, .int .i64 S.jf, .int .i64 S.jo, .int .i64 S.dn], .int .i64 p] w fun e w' => e = .returned (.tuple #[.agg #[.int .i64 (S.mv p).n, .int .i64 (S.mv p).pt, .int .i64 (S.mv p).pl, .int .i64 (S.mv p).st, .int .i64 (S.mv p).was, .int .i64 (S.mv p).tk, .int .i64 (S.mv p).jt, .int .i64 (S.mv p).jf, .int .i64 (S.mv p).jo, .int .i64 (S.mv p).dn], .int .i64 (S.mvC p)]) ∧ Below w.heap.size w w' := by
  obtain ⟨n, pt, pl, st, was, tk, jt, jf, jo, dn⟩ := S
  obtain ⟨h, hh⟩ : ∃ h, w.heap.size = h := ⟨_, rfl⟩
  have HD : Hid (Db w ((w.alloc (.cells #[.int .i64 n, .int .i64 pt, .int .i64 pl, .int .i64 st, .int .i64 was, .int .i64 tk, .int .i64 jt, .int .i64 jf, .int .i64 jo, .int .i64 dn] 33)).alloc (.cells #[.int .i64 0, .int .i64 0, .int .i64 0, .int .i64 0, .int .i64 0, .int .i64 0, .int .i64 0, .int .i64 0, .int .i64 0, .int .i64 0] 33)) h (h + 1) ⟨n, pt, pl, st, was, tk, jt, jf, jo, dn⟩ ⟨0, 0, 0, 0, 0, 0, 0, 0, 0, 0⟩) := hide (Db.new w ⟨n, pt, pl, st, was, tk, jt, jf, jo, dn⟩ h hh)
  have Hh := hide hh
  clear hh
  by_cases h1 : p < 0
  · have e1 : Sh.mvC ⟨n, pt, pl, st, was, tk, jt, jf, jo, dn⟩ p = 1 := if_pos (decide_eq_false (by omega))
    have e2 : Sh.mv ⟨n, pt, pl, st, was, tk, jt, jf, jo, dn⟩ p = ⟨n, pt, pl, st, was, tk, jt, jf, jo, dn⟩ := if_neg (by rw [e1]; decide)
    rw [e1, e2]
    clear e1 e2
    go_enter Try.func16, Try.ntmps16
    go_upto_region 1 with fail
    rw [Hh.out]
    generalize (w.alloc (.cells #[.int .i64 n, .int .i64 pt, .int .i64 pl, .int .i64 st, .int .i64 was, .int .i64 tk, .int .i64 jt, .int .i64 jf, .int .i64 jo, .int .i64 dn] 33)).alloc (.cells #[.int .i64 0, .int .i64 0, .int .i64 0, .int .i64 0, .int .i64 0, .int .i64 0, .int .i64 0, .int .i64 0, .int .i64 0, .int .i64 0] 33) = W at *
    obtain ⟨c0, c1, c2, c3, c4, c5, c6, c7, c8, c9, cf⟩ := cells10 HD.out.b1
    clear cf
    obtain ⟨d0, d1, d2, d3, d4, d5, d6, d7, d8, d9, df⟩ := cells10 HD.out.b2
    have HX := hide (HD.out.out ⟨n, pt, pl, st, was, tk, jt, jf, jo, dn⟩)
    go_wp2_with fail
    refine bodyPost_ret (v := .tuple #[.agg #[.int .i64 n, .int .i64 pt, .int .i64 pl, .int .i64 st, .int .i64 was, .int .i64 tk, .int .i64 jt, .int .i64 jf, .int .i64 jo, .int .i64 dn], .int .i64 1]) (by have x := cells10 HX.out.b2; simp [results, Try.results16, go_sem, x.1, x.2.1, x.2.2.1, x.2.2.2.1, x.2.2.2.2.1, x.2.2.2.2.2.1, x.2.2.2.2.2.2.1, x.2.2.2.2.2.2.2.1, x.2.2.2.2.2.2.2.2.1, x.2.2.2.2.2.2.2.2.2.1]) rfl ⟨rfl, HX.out.bel⟩
  by_cases h2 : p ≥ n
  · have e1 : Sh.mvC ⟨n, pt, pl, st, was, tk, jt, jf, jo, dn⟩ p = 1 := if_pos (decide_eq_false (by show ¬ (0 ≤ p ∧ p < n); omega))
    have e2 : Sh.mv ⟨n, pt, pl, st, was, tk, jt, jf, jo, dn⟩ p = ⟨n, pt, pl, st, was, tk, jt, jf, jo, dn⟩ := if_neg (by rw [e1]; decide)
    rw [e1, e2]
    clear e1 e2
    go_enter Try.func16, Try.ntmps16
    go_upto_region 1 with fail
    rw [Hh.out]
    generalize (w.alloc (.cells #[.int .i64 n, .int .i64 pt, .int .i64 pl, .int .i64 st, .int .i64 was, .int .i64 tk, .int .i64 jt, .int .i64 jf, .int .i64 jo, .int .i64 dn] 33)).alloc (.cells #[.int .i64 0, .int .i64 0, .int .i64 0, .int .i64 0, .int .i64 0, .int .i64 0, .int .i64 0, .int .i64 0, .int .i64 0, .int .i64 0] 33) = W at *
    obtain ⟨c0, c1, c2, c3, c4, c5, c6, c7, c8, c9, cf⟩ := cells10 HD.out.b1
    clear cf
    obtain ⟨d0, d1, d2, d3, d4, d5, d6, d7, d8, d9, df⟩ := cells10 HD.out.b2
    have HX := hide (HD.out.out ⟨n, pt, pl, st, was, tk, jt, jf, jo, dn⟩)
    go_wp2_with fail
    refine bodyPost_ret (v := .tuple #[.agg #[.int .i64 n, .int .i64 pt, .int .i64 pl, .int .i64 st, .int .i64 was, .int .i64 tk, .int .i64 jt, .int .i64 jf, .int .i64 jo, .int .i64 dn], .int .i64 1]) (by have x := cells10 HX.out.b2; simp [results, Try.results16, go_sem, x.1, x.2.1, x.2.2.1, x.2.2.2.1, x.2.2.2.2.1, x.2.2.2.2.2.1, x.2.2.2.2.2.2.1, x.2.2.2.2.2.2.2.1, x.2.2.2.2.2.2.2.2.1, x.2.2.2.2.2.2.2.2.2.1]) rfl ⟨rfl, HX.out.bel⟩
  have hp : ¬ Sh.has ⟨n, pt, pl, st, was, tk, jt, jf, jo, dn⟩ p = false := by rw [(Sh.has_iff ⟨n, pt, pl, st, was, tk, jt, jf, jo, dn⟩ p).2 ⟨by omega, by show p < n; omega⟩]; decide
  by_cases hs : st ≠ 1 ∧ st ≠ 3
  · have e1 : Sh.mvC ⟨n, pt, pl, st, was, tk, jt, jf, jo, dn⟩ p = 140 := (if_neg hp).trans (if_pos hs)
    have e2 : Sh.mv ⟨n, pt, pl, st, was, tk, jt, jf, jo, dn⟩ p = ⟨n, pt, pl, st, was, tk, jt, jf, jo, dn⟩ := if_neg (by rw [e1]; decide)
    rw [e1, e2]
    have b1 : (st != 1) = true := bne_iff_ne.2 hs.1
    have b3 : (st != 3) = true := bne_iff_ne.2 hs.2
    clear e1 e2 hp hs
    go_enter Try.func16, Try.ntmps16
    go_upto_region 1 with fail
    rw [Hh.out]
    generalize (w.alloc (.cells #[.int .i64 n, .int .i64 pt, .int .i64 pl, .int .i64 st, .int .i64 was, .int .i64 tk, .int .i64 jt, .int .i64 jf, .int .i64 jo, .int .i64 dn] 33)).alloc (.cells #[.int .i64 0, .int .i64 0, .int .i64 0, .int .i64 0, .int .i64 0, .int .i64 0, .int .i64 0, .int .i64 0, .int .i64 0, .int .i64 0] 33) = W at *
    obtain ⟨c0, c1, c2, c3, c4, c5, c6, c7, c8, c9, cf⟩ := cells10 HD.out.b1
    clear cf
    obtain ⟨d0, d1, d2, d3, d4, d5, d6, d7, d8, d9, df⟩ := cells10 HD.out.b2
    have HX := hide (HD.out.out ⟨n, pt, pl, st, was, tk, jt, jf, jo, dn⟩)
    go_wp2_with fail
    refine bodyPost_ret (v := .tuple #[.agg #[.int .i64 n, .int .i64 pt, .int .i64 pl, .int .i64 st, .int .i64 was, .int .i64 tk, .int .i64 jt, .int .i64 jf, .int .i64 jo, .int .i64 dn], .int .i64 140]) (by have x := cells10 HX.out.b2; simp [results, Try.results16, go_sem, x.1, x.2.1, x.2.2.1, x.2.2.2.1, x.2.2.2.2.1, x.2.2.2.2.2.1, x.2.2.2.2.2.2.1, x.2.2.2.2.2.2.2.1, x.2.2.2.2.2.2.2.2.1, x.2.2.2.2.2.2.2.2.2.1]) rfl ⟨rfl, HX.out.bel⟩
  have e1 : Sh.mvC ⟨n, pt, pl, st, was, tk, jt, jf, jo, dn⟩ p = 0 := (if_neg hp).trans (if_neg hs)
  have e2 : Sh.mv ⟨n, pt, pl, st, was, tk, jt, jf, jo, dn⟩ p = Sh.on ⟨n, pt, p, st, was, tk, jt, jf, jo, dn⟩ st := if_pos e1
  rw [e1, e2]
  have hs' : st = 1 ∨ st = 3 := by omega
  clear e1 e2 hp hs
  rcases hs' with rfl | rfl
  · have K30 : Hid (∀ W, Calls Try.prog 30 #[.agg #[.int .i64 n, .int .i64 pt, .int .i64 p, .int .i64 1, .int .i64 was, .int .i64 tk, .int .i64 jt, .int .i64 jf, .int .i64 jo, .int .i64 dn], .int .i64 1] W fun e w' => e = .returned (.agg #[.int .i64 (Sh.on ⟨n, pt, p, 1, was, tk, jt, jf, jo, dn⟩ 1).n, .int .i64 (Sh.on ⟨n, pt, p, 1, was, tk, jt, jf, jo, dn⟩ 1).pt, .int .i64 (Sh.on ⟨n, pt, p, 1, was, tk, jt, jf, jo, dn⟩ 1).pl, .int .i64 (Sh.on ⟨n, pt, p, 1, was, tk, jt, jf, jo, dn⟩ 1).st, .int .i64 (Sh.on ⟨n, pt, p, 1, was, tk, jt, jf, jo, dn⟩ 1).was, .int .i64 (Sh.on ⟨n, pt, p, 1, was, tk, jt, jf, jo, dn⟩ 1).tk, .int .i64 (Sh.on ⟨n, pt, p, 1, was, tk, jt, jf, jo, dn⟩ 1).jt, .int .i64 (Sh.on ⟨n, pt, p, 1, was, tk, jt, jf, jo, dn⟩ 1).jf, .int .i64 (Sh.on ⟨n, pt, p, 1, was, tk, jt, jf, jo, dn⟩ 1).jo, .int .i64 (Sh.on ⟨n, pt, p, 1, was, tk, jt, jf, jo, dn⟩ 1).dn]) ∧ Below W.heap.size W w') := hide (fun W => ron_any ⟨n, pt, p, 1, was, tk, jt, jf, jo, dn⟩ 1 W)
    generalize Sh.on ⟨n, pt, p, 1, was, tk, jt, jf, jo, dn⟩ 1 = R at *
    go_enter Try.func16, Try.ntmps16
    go_upto_region 1 with fail
    rw [Hh.out]
    generalize (w.alloc (.cells #[.int .i64 n, .int .i64 pt, .int .i64 pl, .int .i64 1, .int .i64 was, .int .i64 tk, .int .i64 jt, .int .i64 jf, .int .i64 jo, .int .i64 dn] 33)).alloc (.cells #[.int .i64 0, .int .i64 0, .int .i64 0, .int .i64 0, .int .i64 0, .int .i64 0, .int .i64 0, .int .i64 0, .int .i64 0, .int .i64 0] 33) = W at *
    obtain ⟨c0, c1, c2, c3, c4, c5, c6, c7, c8, c9, cf⟩ := cells10 HD.out.b1
    clear cf
    have cf := (cells10 HD.out.b1).2.2.2.2.2.2.2.2.2.2
    have f2 := cf 2
    clear cf
    have HD1 : Hid (Db w (W.setCell ⟨h, 2, none⟩ (.int .i64 p)) h (h + 1) ⟨n, pt, p, 1, was, tk, jt, jf, jo, dn⟩ ⟨0, 0, 0, 0, 0, 0, 0, 0, 0, 0⟩) := hide (HD.out.put 2 (.int .i64 p) (S2 := ⟨n, pt, p, 1, was, tk, jt, jf, jo, dn⟩) rfl)
    go_upto_region 6 with fail
    clear HD c0 c1 c2 c3 c4 c5 c6 c7 c8 c9 f2
    generalize (W.setCell ⟨h, 2, none⟩ (.int .i64 p)) = W1 at *
    obtain ⟨c0, c1, c2, c3, c4, c5, c6, c7, c8, c9, cf⟩ := cells10 HD1.out.b1
    clear cf
    go_wp2_with (go_at_call 30; refine (K30.out _).mono ?_; rintro e W3 ⟨rfl, hb⟩; have HD3 := hide (HD1.out.keep hb); clear hb; obtain ⟨d0, d1, d2, d3, d4, d5, d6, d7, d8, d9, df⟩ := cells10 HD3.out.b2)
    have HX := hide (HD3.out.out R)
    refine bodyPost_ret (v := .tuple #[.agg #[.int .i64 R.n, .int .i64 R.pt, .int .i64 R.pl, .int .i64 R.st, .int .i64 R.was, .int .i64 R.tk, .int .i64 R.jt, .int .i64 R.jf, .int .i64 R.jo, .int .i64 R.dn], .int .i64 0]) (by have x := cells10 HX.out.b2; simp [results, Try.results16, go_sem, x.1, x.2.1, x.2.2.1, x.2.2.2.1, x.2.2.2.2.1, x.2.2.2.2.2.1, x.2.2.2.2.2.2.1, x.2.2.2.2.2.2.2.1, x.2.2.2.2.2.2.2.2.1, x.2.2.2.2.2.2.2.2.2.1]) rfl ⟨rfl, HX.out.bel⟩
  · have K30 : Hid (∀ W, Calls Try.prog 30 #[.agg #[.int .i64 n, .int .i64 pt, .int .i64 p, .int .i64 3, .int .i64 was, .int .i64 tk, .int .i64 jt, .int .i64 jf, .int .i64 jo, .int .i64 dn], .int .i64 3] W fun e w' => e = .returned (.agg #[.int .i64 (Sh.on ⟨n, pt, p, 3, was, tk, jt, jf, jo, dn⟩ 3).n, .int .i64 (Sh.on ⟨n, pt, p, 3, was, tk, jt, jf, jo, dn⟩ 3).pt, .int .i64 (Sh.on ⟨n, pt, p, 3, was, tk, jt, jf, jo, dn⟩ 3).pl, .int .i64 (Sh.on ⟨n, pt, p, 3, was, tk, jt, jf, jo, dn⟩ 3).st, .int .i64 (Sh.on ⟨n, pt, p, 3, was, tk, jt, jf, jo, dn⟩ 3).was, .int .i64 (Sh.on ⟨n, pt, p, 3, was, tk, jt, jf, jo, dn⟩ 3).tk, .int .i64 (Sh.on ⟨n, pt, p, 3, was, tk, jt, jf, jo, dn⟩ 3).jt, .int .i64 (Sh.on ⟨n, pt, p, 3, was, tk, jt, jf, jo, dn⟩ 3).jf, .int .i64 (Sh.on ⟨n, pt, p, 3, was, tk, jt, jf, jo, dn⟩ 3).jo, .int .i64 (Sh.on ⟨n, pt, p, 3, was, tk, jt, jf, jo, dn⟩ 3).dn]) ∧ Below W.heap.size W w') := hide (fun W => ron_any ⟨n, pt, p, 3, was, tk, jt, jf, jo, dn⟩ 3 W)
    generalize Sh.on ⟨n, pt, p, 3, was, tk, jt, jf, jo, dn⟩ 3 = R at *
    go_enter Try.func16, Try.ntmps16
    go_upto_region 1 with fail
    rw [Hh.out]
    generalize (w.alloc (.cells #[.int .i64 n, .int .i64 pt, .int .i64 pl, .int .i64 3, .int .i64 was, .int .i64 tk, .int .i64 jt, .int .i64 jf, .int .i64 jo, .int .i64 dn] 33)).alloc (.cells #[.int .i64 0, .int .i64 0, .int .i64 0, .int .i64 0, .int .i64 0, .int .i64 0, .int .i64 0, .int .i64 0, .int .i64 0, .int .i64 0] 33) = W at *
    obtain ⟨c0, c1, c2, c3, c4, c5, c6, c7, c8, c9, cf⟩ := cells10 HD.out.b1
    clear cf
    have cf := (cells10 HD.out.b1).2.2.2.2.2.2.2.2.2.2
    have f2 := cf 2
    clear cf
    have HD1 : Hid (Db w (W.setCell ⟨h, 2, none⟩ (.int .i64 p)) h (h + 1) ⟨n, pt, p, 3, was, tk, jt, jf, jo, dn⟩ ⟨0, 0, 0, 0, 0, 0, 0, 0, 0, 0⟩) := hide (HD.out.put 2 (.int .i64 p) (S2 := ⟨n, pt, p, 3, was, tk, jt, jf, jo, dn⟩) rfl)
    go_upto_region 6 with fail
    clear HD c0 c1 c2 c3 c4 c5 c6 c7 c8 c9 f2
    generalize (W.setCell ⟨h, 2, none⟩ (.int .i64 p)) = W1 at *
    obtain ⟨c0, c1, c2, c3, c4, c5, c6, c7, c8, c9, cf⟩ := cells10 HD1.out.b1
    clear cf
    go_wp2_with (go_at_call 30; refine (K30.out _).mono ?_; rintro e W3 ⟨rfl, hb⟩; have HD3 := hide (HD1.out.keep hb); clear hb; obtain ⟨d0, d1, d2, d3, d4, d5, d6, d7, d8, d9, df⟩ := cells10 HD3.out.b2)
    have HX := hide (HD3.out.out R)
    refine bodyPost_ret (v := .tuple #[.agg #[.int .i64 R.n, .int .i64 R.pt, .int .i64 R.pl, .int .i64 R.st, .int .i64 R.was, .int .i64 R.tk, .int .i64 R.jt, .int .i64 R.jf, .int .i64 R.jo, .int .i64 R.dn], .int .i64 0]) (by have x := cells10 HX.out.b2; simp [results, Try.results16, go_sem, x.1, x.2.1, x.2.2.1, x.2.2.2.1, x.2.2.2.2.1, x.2.2.2.2.2.1, x.2.2.2.2.2.2.1, x.2.2.2.2.2.2.2.1, x.2.2.2.2.2.2.2.2.1, x.2.2.2.2.2.2.2.2.2.1]) rfl ⟨rfl, HX.out.bel⟩
set_option maxRecDepth 100000 in
set_option maxHeartbeats 1000000 in
theorem rpk_any (S : Sh) (t : Int) (w : World) (hd : 0 ≤ S.dn ∧ S.dn ≤ 1000000) : Calls Try.prog 18 #[.agg #[.int .i64 S.n, .int .i64 S.pt, .int .i64 S.pl, .int .i64 S.st, .int .i64 S.was, .int .i64 S.tk, .int .i64 S.jt, .int .i64 S.jf, .int .i64 S.jo, .int .i64 S.dn], .int .i64 2, .int .i64 t] w fun e w' => e = .returned (.tuple #[.agg #[.int .i64 (S.pk t).n, .int .i64 (S.pk t).pt, .int .i64 (S.pk t).pl, .int .i64 (S.pk t).st, .int .i64 (S.pk t).was, .int .i64 (S.pk t).tk, .int .i64 (S.pk t).jt, .int .i64 (S.pk t).jf, .int .i64 (S.pk t).jo, .int .i64 (S.pk t).dn], .int .i64 (S.hdC 2 t)]) ∧ Below w.heap.size w w' := by
  obtain ⟨n, pt, pl, st, was, tk, jt, jf, jo, dn⟩ := S
  have hd1 : 0 ≤ dn := hd.1
  have hd2 : dn ≤ 1000000 := hd.2
  clear hd
  obtain ⟨h, hh⟩ : ∃ h, w.heap.size = h := ⟨_, rfl⟩
  have HD : Hid (Db w ((w.alloc (.cells #[.int .i64 n, .int .i64 pt, .int .i64 pl, .int .i64 st, .int .i64 was, .int .i64 tk, .int .i64 jt, .int .i64 jf, .int .i64 jo, .int .i64 dn] 33)).alloc (.cells #[.int .i64 0, .int .i64 0, .int .i64 0, .int .i64 0, .int .i64 0, .int .i64 0, .int .i64 0, .int .i64 0, .int .i64 0, .int .i64 0] 33)) h (h + 1) ⟨n, pt, pl, st, was, tk, jt, jf, jo, dn⟩ ⟨0, 0, 0, 0, 0, 0, 0, 0, 0, 0⟩) := hide (Db.new w ⟨n, pt, pl, st, was, tk, jt, jf, jo, dn⟩ h hh)
  have Hh := hide hh
  clear hh
  by_cases h1 : st = 2
  case neg =>
    have e1 : Sh.hdC ⟨n, pt, pl, st, was, tk, jt, jf, jo, dn⟩ 2 t = 140 := if_pos h1
    have e2 : Sh.pk ⟨n, pt, pl, st, was, tk, jt, jf, jo, dn⟩ t = ⟨n, pt, pl, st, was, tk, jt, jf, jo, dn⟩ := if_neg (by rw [e1]; decide)
    rw [e1, e2]
    have b1 : (st != 2) = true := bne_iff_ne.2 h1
    clear e1 e2 h1
    go_enter Try.func18, Try.ntmps18
    go_upto_region 1 with fail
    rw [Hh.out]
    generalize (w.alloc (.cells #[.int .i64 n, .int .i64 pt, .int .i64 pl, .int .i64 st, .int .i64 was, .int .i64 tk, .int .i64 jt, .int .i64 jf, .int .i64 jo, .int .i64 dn] 33)).alloc (.cells #[.int .i64 0, .int .i64 0, .int .i64 0, .int .i64 0, .int .i64 0, .int .i64 0, .int .i64 0, .int .i64 0, .int .i64 0, .int .i64 0] 33) = W at *
    obtain ⟨c0, c1, c2, c3, c4, c5, c6, c7, c8, c9, cf⟩ := cells10 HD.out.b1
    clear cf
    obtain ⟨d0, d1, d2, d3, d4, d5, d6, d7, d8, d9, df⟩ := cells10 HD.out.b2
    have HX := hide (HD.out.out ⟨n, pt, pl, st, was, tk, jt, jf, jo, dn⟩)
    go_wp2_with fail
    refine bodyPost_ret (v := .tuple #[.agg #[.int .i64 n, .int .i64 pt, .int .i64 pl, .int .i64 st, .int .i64 was, .int .i64 tk, .int .i64 jt, .int .i64 jf, .int .i64 jo, .int .i64 dn], .int .i64 140]) (by have x := cells10 HX.out.b2; simp [results, Try.results18, go_sem, x.1, x.2.1, x.2.2.1, x.2.2.2.1, x.2.2.2.2.1, x.2.2.2.2.2.1, x.2.2.2.2.2.2.1, x.2.2.2.2.2.2.2.1, x.2.2.2.2.2.2.2.2.1, x.2.2.2.2.2.2.2.2.2.1]) rfl ⟨rfl, HX.out.bel⟩
  subst h1
  by_cases h2 : t = jt
  case neg =>
    have e1 : Sh.hdC ⟨n, pt, pl, 2, was, tk, jt, jf, jo, dn⟩ 2 t = 160 := (if_neg (Decidable.not_not.2 rfl)).trans (if_pos h2)
    have e2 : Sh.pk ⟨n, pt, pl, 2, was, tk, jt, jf, jo, dn⟩ t = ⟨n, pt, pl, 2, was, tk, jt, jf, jo, dn⟩ := if_neg (by rw [e1]; decide)
    rw [e1, e2]
    have b2 : (jt != t) = true := bne_iff_ne.2 (fun e => h2 e.symm)
    clear e1 e2 h2
    go_enter Try.func18, Try.ntmps18
    go_upto_region 1 with fail
    rw [Hh.out]
    generalize (w.alloc (.cells #[.int .i64 n, .int .i64 pt, .int .i64 pl, .int .i64 2, .int .i64 was, .int .i64 tk, .int .i64 jt, .int .i64 jf, .int .i64 jo, .int .i64 dn] 33)).alloc (.cells #[.int .i64 0, .int .i64 0, .int .i64 0, .int .i64 0, .int .i64 0, .int .i64 0, .int .i64 0, .int .i64 0, .int .i64 0, .int .i64 0] 33) = W at *
    obtain ⟨c0, c1, c2, c3, c4, c5, c6, c7, c8, c9, cf⟩ := cells10 HD.out.b1
    clear cf
    obtain ⟨d0, d1, d2, d3, d4, d5, d6, d7, d8, d9, df⟩ := cells10 HD.out.b2
    have HX := hide (HD.out.out ⟨n, pt, pl, 2, was, tk, jt, jf, jo, dn⟩)
    go_wp2_with fail
    refine bodyPost_ret (v := .tuple #[.agg #[.int .i64 n, .int .i64 pt, .int .i64 pl, .int .i64 2, .int .i64 was, .int .i64 tk, .int .i64 jt, .int .i64 jf, .int .i64 jo, .int .i64 dn], .int .i64 160]) (by have x := cells10 HX.out.b2; simp [results, Try.results18, go_sem, x.1, x.2.1, x.2.2.1, x.2.2.2.1, x.2.2.2.2.1, x.2.2.2.2.2.1, x.2.2.2.2.2.2.1, x.2.2.2.2.2.2.2.1, x.2.2.2.2.2.2.2.2.1, x.2.2.2.2.2.2.2.2.2.1]) rfl ⟨rfl, HX.out.bel⟩
  subst h2
  have e1 : Sh.hdC ⟨n, pt, pl, 2, was, tk, t, jf, jo, dn⟩ 2 t = 0 := (if_neg (Decidable.not_not.2 rfl)).trans (if_neg (Decidable.not_not.2 rfl))
  have e2 : Sh.pk ⟨n, pt, pl, 2, was, tk, t, jf, jo, dn⟩ t = Sh.on ⟨n, pt, pl, 2, was, tk, t, jf, jo, dn⟩ 3 := if_pos e1
  rw [e1, e2]
  have b2 : (t != t) = false := bne_self_eq_false _
  clear e1 e2
  have K30 : Hid (∀ W, Calls Try.prog 30 #[.agg #[.int .i64 n, .int .i64 pt, .int .i64 pl, .int .i64 2, .int .i64 was, .int .i64 tk, .int .i64 t, .int .i64 jf, .int .i64 jo, .int .i64 dn], .int .i64 3] W fun e w' => e = .returned (.agg #[.int .i64 (Sh.on ⟨n, pt, pl, 2, was, tk, t, jf, jo, dn⟩ 3).n, .int .i64 (Sh.on ⟨n, pt, pl, 2, was, tk, t, jf, jo, dn⟩ 3).pt, .int .i64 (Sh.on ⟨n, pt, pl, 2, was, tk, t, jf, jo, dn⟩ 3).pl, .int .i64 (Sh.on ⟨n, pt, pl, 2, was, tk, t, jf, jo, dn⟩ 3).st, .int .i64 (Sh.on ⟨n, pt, pl, 2, was, tk, t, jf, jo, dn⟩ 3).was, .int .i64 (Sh.on ⟨n, pt, pl, 2, was, tk, t, jf, jo, dn⟩ 3).tk, .int .i64 (Sh.on ⟨n, pt, pl, 2, was, tk, t, jf, jo, dn⟩ 3).jt, .int .i64 (Sh.on ⟨n, pt, pl, 2, was, tk, t, jf, jo, dn⟩ 3).jf, .int .i64 (Sh.on ⟨n, pt, pl, 2, was, tk, t, jf, jo, dn⟩ 3).jo, .int .i64 (Sh.on ⟨n, pt, pl, 2, was, tk, t, jf, jo, dn⟩ 3).dn]) ∧ Below W.heap.size W w') := hide (fun W => ron_any ⟨n, pt, pl, 2, was, tk, t, jf, jo, dn⟩ 3 W)
  generalize Sh.on ⟨n, pt, pl, 2, was, tk, t, jf, jo, dn⟩ 3 = R at *
  go_enter Try.func18, Try.ntmps18
  go_upto_region 1 with fail
  rw [Hh.out]
  generalize (w.alloc (.cells #[.int .i64 n, .int .i64 pt, .int .i64 pl, .int .i64 2, .int .i64 was, .int .i64 tk, .int .i64 t, .int .i64 jf, .int .i64 jo, .int .i64 dn] 33)).alloc (.cells #[.int .i64 0, .int .i64 0, .int .i64 0, .int .i64 0, .int .i64 0, .int .i64 0, .int .i64 0, .int .i64 0, .int .i64 0, .int .i64 0] 33) = W at *
  obtain ⟨c0, c1, c2, c3, c4, c5, c6, c7, c8, c9, cf⟩ := cells10 HD.out.b1
  clear cf
  have cf := (cells10 HD.out.b1).2.2.2.2.2.2.2.2.2.2
  clear cf
  go_wp2_with (go_at_call 30; refine (K30.out _).mono ?_; rintro e W3 ⟨rfl, hb⟩; have HD3 := hide (HD.out.keep hb); clear hb; obtain ⟨d0, d1, d2, d3, d4, d5, d6, d7, d8, d9, df⟩ := cells10 HD3.out.b2)
  have HX := hide (HD3.out.out R)
  refine bodyPost_ret (v := .tuple #[.agg #[.int .i64 R.n, .int .i64 R.pt, .int .i64 R.pl, .int .i64 R.st, .int .i64 R.was, .int .i64 R.tk, .int .i64 R.jt, .int .i64 R.jf, .int .i64 R.jo, .int .i64 R.dn], .int .i64 0]) (by have x := cells10 HX.out.b2; simp [results, Try.results18, go_sem, x.1, x.2.1, x.2.2.1, x.2.2.2.1, x.2.2.2.2.1, x.2.2.2.2.2.1, x.2.2.2.2.2.2.1, x.2.2.2.2.2.2.2.1, x.2.2.2.2.2.2.2.2.1, x.2.2.2.2.2.2.2.2.2.1]) rfl ⟨rfl, HX.out.bel⟩
set_option maxRecDepth 100000 in
set_option maxHeartbeats 1000000 in
theorem rdp_any (S : Sh) (t : Int) (w : World) (hd : 0 ≤ S.dn ∧ S.dn ≤ 1000000) : Calls Try.prog 18 #[.agg #[.int .i64 S.n, .int .i64 S.pt, .int .i64 S.pl, .int .i64 S.st, .int .i64 S.was, .int .i64 S.tk, .int .i64 S.jt, .int .i64 S.jf, .int .i64 S.jo, .int .i64 S.dn], .int .i64 4, .int .i64 t] w fun e w' => e = .returned (.tuple #[.agg #[.int .i64 (S.dp t).n, .int .i64 (S.dp t).pt, .int .i64 (S.dp t).pl, .int .i64 (S.dp t).st, .int .i64 (S.dp t).was, .int .i64 (S.dp t).tk, .int .i64 (S.dp t).jt, .int .i64 (S.dp t).jf, .int .i64 (S.dp t).jo, .int .i64 (S.dp t).dn], .int .i64 (S.hdC 4 t)]) ∧ Below w.heap.size w w' := by
  obtain ⟨n, pt, pl, st, was, tk, jt, jf, jo, dn⟩ := S
  have hd1 : 0 ≤ dn := hd.1
  have hd2 : dn ≤ 1000000 := hd.2
  clear hd
  obtain ⟨h, hh⟩ : ∃ h, w.heap.size = h := ⟨_, rfl⟩
  have HD : Hid (Db w ((w.alloc (.cells #[.int .i64 n, .int .i64 pt, .int .i64 pl, .int .i64 st, .int .i64 was, .int .i64 tk, .int .i64 jt, .int .i64 jf, .int .i64 jo, .int .i64 dn] 33)).alloc (.cells #[.int .i64 0, .int .i64 0, .int .i64 0, .int .i64 0, .int .i64 0, .int .i64 0, .int .i64 0, .int .i64 0, .int .i64 0, .int .i64 0] 33)) h (h + 1) ⟨n, pt, pl, st, was, tk, jt, jf, jo, dn⟩ ⟨0, 0, 0, 0, 0, 0, 0, 0, 0, 0⟩) := hide (Db.new w ⟨n, pt, pl, st, was, tk, jt, jf, jo, dn⟩ h hh)
  have Hh := hide hh
  clear hh
  by_cases h1 : st = 4
  case neg =>
    have e1 : Sh.hdC ⟨n, pt, pl, st, was, tk, jt, jf, jo, dn⟩ 4 t = 140 := if_pos h1
    have e2 : Sh.dp ⟨n, pt, pl, st, was, tk, jt, jf, jo, dn⟩ t = ⟨n, pt, pl, st, was, tk, jt, jf, jo, dn⟩ := if_neg (by rw [e1]; decide)
    rw [e1, e2]
    have b1 : (st != 4) = true := bne_iff_ne.2 h1
    clear e1 e2 h1
    go_enter Try.func18, Try.ntmps18
    go_upto_region 1 with fail
    rw [Hh.out]
    generalize (w.alloc (.cells #[.int .i64 n, .int .i64 pt, .int .i64 pl, .int .i64 st, .int .i64 was, .int .i64 tk, .int .i64 jt, .int .i64 jf, .int .i64 jo, .int .i64 dn] 33)).alloc (.cells #[.int .i64 0, .int .i64 0, .int .i64 0, .int .i64 0, .int .i64 0, .int .i64 0, .int .i64 0, .int .i64 0, .int .i64 0, .int .i64 0] 33) = W at *
    obtain ⟨c0, c1, c2, c3, c4, c5, c6, c7, c8, c9, cf⟩ := cells10 HD.out.b1
    clear cf
    obtain ⟨d0, d1, d2, d3, d4, d5, d6, d7, d8, d9, df⟩ := cells10 HD.out.b2
    have HX := hide (HD.out.out ⟨n, pt, pl, st, was, tk, jt, jf, jo, dn⟩)
    go_wp2_with fail
    refine bodyPost_ret (v := .tuple #[.agg #[.int .i64 n, .int .i64 pt, .int .i64 pl, .int .i64 st, .int .i64 was, .int .i64 tk, .int .i64 jt, .int .i64 jf, .int .i64 jo, .int .i64 dn], .int .i64 140]) (by have x := cells10 HX.out.b2; simp [results, Try.results18, go_sem, x.1, x.2.1, x.2.2.1, x.2.2.2.1, x.2.2.2.2.1, x.2.2.2.2.2.1, x.2.2.2.2.2.2.1, x.2.2.2.2.2.2.2.1, x.2.2.2.2.2.2.2.2.1, x.2.2.2.2.2.2.2.2.2.1]) rfl ⟨rfl, HX.out.bel⟩
  subst h1
  by_cases h2 : t = jt
  case neg =>
    have e1 : Sh.hdC ⟨n, pt, pl, 4, was, tk, jt, jf, jo, dn⟩ 4 t = 160 := (if_neg (Decidable.not_not.2 rfl)).trans (if_pos h2)
    have e2 : Sh.dp ⟨n, pt, pl, 4, was, tk, jt, jf, jo, dn⟩ t = ⟨n, pt, pl, 4, was, tk, jt, jf, jo, dn⟩ := if_neg (by rw [e1]; decide)
    rw [e1, e2]
    have b2 : (jt != t) = true := bne_iff_ne.2 (fun e => h2 e.symm)
    clear e1 e2 h2
    go_enter Try.func18, Try.ntmps18
    go_upto_region 1 with fail
    rw [Hh.out]
    generalize (w.alloc (.cells #[.int .i64 n, .int .i64 pt, .int .i64 pl, .int .i64 4, .int .i64 was, .int .i64 tk, .int .i64 jt, .int .i64 jf, .int .i64 jo, .int .i64 dn] 33)).alloc (.cells #[.int .i64 0, .int .i64 0, .int .i64 0, .int .i64 0, .int .i64 0, .int .i64 0, .int .i64 0, .int .i64 0, .int .i64 0, .int .i64 0] 33) = W at *
    obtain ⟨c0, c1, c2, c3, c4, c5, c6, c7, c8, c9, cf⟩ := cells10 HD.out.b1
    clear cf
    obtain ⟨d0, d1, d2, d3, d4, d5, d6, d7, d8, d9, df⟩ := cells10 HD.out.b2
    have HX := hide (HD.out.out ⟨n, pt, pl, 4, was, tk, jt, jf, jo, dn⟩)
    go_wp2_with fail
    refine bodyPost_ret (v := .tuple #[.agg #[.int .i64 n, .int .i64 pt, .int .i64 pl, .int .i64 4, .int .i64 was, .int .i64 tk, .int .i64 jt, .int .i64 jf, .int .i64 jo, .int .i64 dn], .int .i64 160]) (by have x := cells10 HX.out.b2; simp [results, Try.results18, go_sem, x.1, x.2.1, x.2.2.1, x.2.2.2.1, x.2.2.2.2.1, x.2.2.2.2.2.1, x.2.2.2.2.2.2.1, x.2.2.2.2.2.2.2.1, x.2.2.2.2.2.2.2.2.1, x.2.2.2.2.2.2.2.2.2.1]) rfl ⟨rfl, HX.out.bel⟩
  subst h2
  have e1 : Sh.hdC ⟨n, pt, pl, 4, was, tk, t, jf, jo, dn⟩ 4 t = 0 := (if_neg (Decidable.not_not.2 rfl)).trans (if_neg (Decidable.not_not.2 rfl))
  have e2 : Sh.dp ⟨n, pt, pl, 4, was, tk, t, jf, jo, dn⟩ t = Sh.on ⟨n, pt, pl, 4, was, tk, t, jf, jo, dn + 1⟩ 0 := if_pos e1
  rw [e1, e2]
  have b2 : (t != t) = false := bne_self_eq_false _
  clear e1 e2
  have K30 : Hid (∀ W, Calls Try.prog 30 #[.agg #[.int .i64 n, .int .i64 pt, .int .i64 pl, .int .i64 4, .int .i64 was, .int .i64 tk, .int .i64 t, .int .i64 jf, .int .i64 jo, .int .i64 (dn + 1)], .int .i64 0] W fun e w' => e = .returned (.agg #[.int .i64 (Sh.on ⟨n, pt, pl, 4, was, tk, t, jf, jo, dn + 1⟩ 0).n, .int .i64 (Sh.on ⟨n, pt, pl, 4, was, tk, t, jf, jo, dn + 1⟩ 0).pt, .int .i64 (Sh.on ⟨n, pt, pl, 4, was, tk, t, jf, jo, dn + 1⟩ 0).pl, .int .i64 (Sh.on ⟨n, pt, pl, 4, was, tk, t, jf, jo, dn + 1⟩ 0).st, .int .i64 (Sh.on ⟨n, pt, pl, 4, was, tk, t, jf, jo, dn + 1⟩ 0).was, .int .i64 (Sh.on ⟨n, pt, pl, 4, was, tk, t, jf, jo, dn + 1⟩ 0).tk, .int .i64 (Sh.on ⟨n, pt, pl, 4, was, tk, t, jf, jo, dn + 1⟩ 0).jt, .int .i64 (Sh.on ⟨n, pt, pl, 4, was, tk, t, jf, jo, dn + 1⟩ 0).jf, .int .i64 (Sh.on ⟨n, pt, pl, 4, was, tk, t, jf, jo, dn + 1⟩ 0).jo, .int .i64 (Sh.on ⟨n, pt, pl, 4, was, tk, t, jf, jo, dn + 1⟩ 0).dn]) ∧ Below W.heap.size W w') := hide (fun W => ron_any ⟨n, pt, pl, 4, was, tk, t, jf, jo, dn + 1⟩ 0 W)
  generalize Sh.on ⟨n, pt, pl, 4, was, tk, t, jf, jo, dn + 1⟩ 0 = R at *
  go_enter Try.func18, Try.ntmps18
  go_upto_region 1 with fail
  rw [Hh.out]
  generalize (w.alloc (.cells #[.int .i64 n, .int .i64 pt, .int .i64 pl, .int .i64 4, .int .i64 was, .int .i64 tk, .int .i64 t, .int .i64 jf, .int .i64 jo, .int .i64 dn] 33)).alloc (.cells #[.int .i64 0, .int .i64 0, .int .i64 0, .int .i64 0, .int .i64 0, .int .i64 0, .int .i64 0, .int .i64 0, .int .i64 0, .int .i64 0] 33) = W at *
  obtain ⟨c0, c1, c2, c3, c4, c5, c6, c7, c8, c9, cf⟩ := cells10 HD.out.b1
  clear cf
  have cf := (cells10 HD.out.b1).2.2.2.2.2.2.2.2.2.2
  have f9 := cf 9
  clear cf
  have HD1 : Hid (Db w (W.setCell ⟨h, 9, none⟩ (.int .i64 (dn + 1))) h (h + 1) ⟨n, pt, pl, 4, was, tk, t, jf, jo, dn + 1⟩ ⟨0, 0, 0, 0, 0, 0, 0, 0, 0, 0⟩) := hide (HD.out.put 9 (.int .i64 (dn + 1)) (S2 := ⟨n, pt, pl, 4, was, tk, t, jf, jo, dn + 1⟩) rfl)
  go_upto_region 7 with fail
  clear HD c0 c1 c2 c3 c4 c5 c6 c7 c8 c9 f9
  generalize (W.setCell ⟨h, 9, none⟩ (.int .i64 (dn + 1))) = W1 at *
  obtain ⟨c0, c1, c2, c3, c4, c5, c6, c7, c8, c9, cf⟩ := cells10 HD1.out.b1
  clear cf
  go_wp2_with (go_at_call 30; refine (K30.out _).mono ?_; rintro e W3 ⟨rfl, hb⟩; have HD3 := hide (HD1.out.keep hb); clear hb; obtain ⟨d0, d1, d2, d3, d4, d5, d6, d7, d8, d9, df⟩ := cells10 HD3.out.b2)
  have HX := hide (HD3.out.out R)
  refine bodyPost_ret (v := .tuple #[.agg #[.int .i64 R.n, .int .i64 R.pt, .int .i64 R.pl, .int .i64 R.st, .int .i64 R.was, .int .i64 R.tk, .int .i64 R.jt, .int .i64 R.jf, .int .i64 R.jo, .int .i64 R.dn], .int .i64 0]) (by have x := cells10 HX.out.b2; simp [results, Try.results18, go_sem, x.1, x.2.1, x.2.2.1, x.2.2.2.1, x.2.2.2.2.1, x.2.2.2.2.2.1, x.2.2.2.2.2.2.1, x.2.2.2.2.2.2.2.1, x.2.2.2.2.2.2.2.2.1, x.2.2.2.2.2.2.2.2.2.1]) rfl ⟨rfl, HX.out.bel⟩
set_option maxRecDepth 100000 in
set_option maxHeartbeats 1000000 in
theorem rrs_any (S : Sh) (w : World) : Calls Try.prog 21 #[.agg #[.int .i64 S.n, .int .i64 S.pt, .int .i64 S.pl, .int .i64 S.st, .int .i64 S.was, .int .i64 S.tk, .int .i64 S.jt, .int .i64 S.jf, .int .i64 S.jo, .int .i64 S.dn]] w fun e w' => e = .returned (.tuple #[.agg #[.int .i64 S.rs.n, .int .i64 S.rs.pt, .int .i64 S.rs.pl, .int .i64 S.rs.st, .int .i64 S.rs.was, .int .i64 S.rs.tk, .int .i64 S.rs.jt, .int .i64 S.rs.jf, .int .i64 S.rs.jo, .int .i64 S.rs.dn], .int .i64 S.rsC]) ∧ Below w.heap.size w w' := by
  obtain ⟨n, pt, pl, st, was, tk, jt, jf, jo, dn⟩ := S
  obtain ⟨h, hh⟩ : ∃ h, w.heap.size = h := ⟨_, rfl⟩
  have HD : Hid (Db w ((w.alloc (.cells #[.int .i64 n, .int .i64 pt, .int .i64 pl, .int .i64 st, .int .i64 was, .int .i64 tk, .int .i64 jt, .int .i64 jf, .int .i64 jo, .int .i64 dn] 33)).alloc (.cells #[.int .i64 0, .int .i64 0, .int .i64 0, .int .i64 0, .int .i64 0, .int .i64 0, .int .i64 0, .int .i64 0, .int .i64 0, .int .i64 0] 33)) h (h + 1) ⟨n, pt, pl, st, was, tk, jt, jf, jo, dn⟩ ⟨0, 0, 0, 0, 0, 0, 0, 0, 0, 0⟩) := hide (Db.new w ⟨n, pt, pl, st, was, tk, jt, jf, jo, dn⟩ h hh)
  have Hh := hide hh
  clear hh
  by_cases h1 : st = 5
  case neg =>
    have e1 : Sh.rsC ⟨n, pt, pl, st, was, tk, jt, jf, jo, dn⟩ = 140 := if_pos h1
    have e2 : Sh.rs ⟨n, pt, pl, st, was, tk, jt, jf, jo, dn⟩ = ⟨n, pt, pl, st, was, tk, jt, jf, jo, dn⟩ := if_neg (by rw [e1]; decide)
    rw [e1, e2]
    have b1 : (st != 5) = true := bne_iff_ne.2 h1
    clear e1 e2 h1
    go_enter Try.func21, Try.ntmps21
    go_upto_region 1 with fail
    rw [Hh.out]
    generalize (w.alloc (.cells #[.int .i64 n, .int .i64 pt, .int .i64 pl, .int .i64 st, .int .i64 was, .int .i64 tk, .int .i64 jt, .int .i64 jf, .int .i64 jo, .int .i64 dn] 33)).alloc (.cells #[.int .i64 0, .int .i64 0, .int .i64 0, .int .i64 0, .int .i64 0, .int .i64 0, .int .i64 0, .int .i64 0, .int .i64 0, .int .i64 0] 33) = W at *
    obtain ⟨c0, c1, c2, c3, c4, c5, c6, c7, c8, c9, cf⟩ := cells10 HD.out.b1
    clear cf
    obtain ⟨d0, d1, d2, d3, d4, d5, d6, d7, d8, d9, df⟩ := cells10 HD.out.b2
    have HX := hide (HD.out.out ⟨n, pt, pl, st, was, tk, jt, jf, jo, dn⟩)
    go_wp2_with fail
    refine bodyPost_ret (v := .tuple #[.agg #[.int .i64 n, .int .i64 pt, .int .i64 pl, .int .i64 st, .int .i64 was, .int .i64 tk, .int .i64 jt, .int .i64 jf, .int .i64 jo, .int .i64 dn], .int .i64 140]) (by have x := cells10 HX.out.b2; simp [results, Try.results21, go_sem, x.1, x.2.1, x.2.2.1, x.2.2.2.1, x.2.2.2.2.1, x.2.2.2.2.2.1, x.2.2.2.2.2.2.1, x.2.2.2.2.2.2.2.1, x.2.2.2.2.2.2.2.2.1, x.2.2.2.2.2.2.2.2.2.1]) rfl ⟨rfl, HX.out.bel⟩
  subst h1
  have e1 : Sh.rsC ⟨n, pt, pl, 5, was, tk, jt, jf, jo, dn⟩ = 0 := rfl
  have e2 : Sh.rs ⟨n, pt, pl, 5, was, tk, jt, jf, jo, dn⟩ = Sh.on ⟨n, pt, pl, 5, was, tk, jt, jf, jo, dn⟩ was := if_pos e1
  rw [e1, e2]
  clear e1 e2
  have K30 : Hid (∀ W, Calls Try.prog 30 #[.agg #[.int .i64 n, .int .i64 pt, .int .i64 pl, .int .i64 5, .int .i64 was, .int .i64 tk, .int .i64 jt, .int .i64 jf, .int .i64 jo, .int .i64 dn], .int .i64 was] W fun e w' => e = .returned (.agg #[.int .i64 (Sh.on ⟨n, pt, pl, 5, was, tk, jt, jf, jo, dn⟩ was).n, .int .i64 (Sh.on ⟨n, pt, pl, 5, was, tk, jt, jf, jo, dn⟩ was).pt, .int .i64 (Sh.on ⟨n, pt, pl, 5, was, tk, jt, jf, jo, dn⟩ was).pl, .int .i64 (Sh.on ⟨n, pt, pl, 5, was, tk, jt, jf, jo, dn⟩ was).st, .int .i64 (Sh.on ⟨n, pt, pl, 5, was, tk, jt, jf, jo, dn⟩ was).was, .int .i64 (Sh.on ⟨n, pt, pl, 5, was, tk, jt, jf, jo, dn⟩ was).tk, .int .i64 (Sh.on ⟨n, pt, pl, 5, was, tk, jt, jf, jo, dn⟩ was).jt, .int .i64 (Sh.on ⟨n, pt, pl, 5, was, tk, jt, jf, jo, dn⟩ was).jf, .int .i64 (Sh.on ⟨n, pt, pl, 5, was, tk, jt, jf, jo, dn⟩ was).jo, .int .i64 (Sh.on ⟨n, pt, pl, 5, was, tk, jt, jf, jo, dn⟩ was).dn]) ∧ Below W.heap.size W w') := hide (fun W => ron_any ⟨n, pt, pl, 5, was, tk, jt, jf, jo, dn⟩ was W)
  generalize Sh.on ⟨n, pt, pl, 5, was, tk, jt, jf, jo, dn⟩ was = R at *
  go_enter Try.func21, Try.ntmps21
  go_upto_region 1 with fail
  rw [Hh.out]
  generalize (w.alloc (.cells #[.int .i64 n, .int .i64 pt, .int .i64 pl, .int .i64 5, .int .i64 was, .int .i64 tk, .int .i64 jt, .int .i64 jf, .int .i64 jo, .int .i64 dn] 33)).alloc (.cells #[.int .i64 0, .int .i64 0, .int .i64 0, .int .i64 0, .int .i64 0, .int .i64 0, .int .i64 0, .int .i64 0, .int .i64 0, .int .i64 0] 33) = W at *
  obtain ⟨c0, c1, c2, c3, c4, c5, c6, c7, c8, c9, cf⟩ := cells10 HD.out.b1
  clear cf
  have cf := (cells10 HD.out.b1).2.2.2.2.2.2.2.2.2.2
  clear cf
  go_wp2_with (go_at_call 30; refine (K30.out _).mono ?_; rintro e W3 ⟨rfl, hb⟩; have HD3 := hide (HD.out.keep hb); clear hb; obtain ⟨d0, d1, d2, d3, d4, d5, d6, d7, d8, d9, df⟩ := cells10 HD3.out.b2)
  have HX := hide (HD3.out.out R)
  refine bodyPost_ret (v := .tuple #[.agg #[.int .i64 R.n, .int .i64 R.pt, .int .i64 R.pl, .int .i64 R.st, .int .i64 R.was, .int .i64 R.tk, .int .i64 R.jt, .int .i64 R.jf, .int .i64 R.jo, .int .i64 R.dn], .int .i64 0]) (by have x := cells10 HX.out.b2; simp [results, Try.results21, go_sem, x.1, x.2.1, x.2.2.1, x.2.2.2.1, x.2.2.2.2.1, x.2.2.2.2.2.1, x.2.2.2.2.2.2.1, x.2.2.2.2.2.2.2.1, x.2.2.2.2.2.2.2.2.1, x.2.2.2.2.2.2.2.2.2.1]) rfl ⟨rfl, HX.out.bel⟩
set_option maxRecDepth 100000 in
set_option maxHeartbeats 1000000 in
theorem rload_any (S : Sh) (w : World) : Calls Try.prog 33 #[.agg #[.int .i64 S.n, .int .i64 S.pt, .int .i64 S.pl, .int .i64 S.st, .int .i64 S.was, .int .i64 S.tk, .int .i64 S.jt, .int .i64 S.jf, .int .i64 S.jo, .int .i64 S.dn]] w fun e w' => e = .returned (.int .i64 S.load) ∧ Below w.heap.size w w' := by
  obtain ⟨n, pt, pl, st, was, tk, jt, jf, jo, dn⟩ := S
  obtain ⟨h, hh⟩ : ∃ h, w.heap.size = h := ⟨_, rfl⟩
  have HB : Hid (Below w.heap.size w (w.alloc (.cells #[.int .i64 n, .int .i64 pt, .int .i64 pl, .int .i64 st, .int .i64 was, .int .i64 tk, .int .i64 jt, .int .i64 jf, .int .i64 jo, .int .i64 dn] 33))) := hide ((Below.refl _ _).alloc (Nat.le_refl _) _)
  have HX : Hid ((w.alloc (.cells #[.int .i64 n, .int .i64 pt, .int .i64 pl, .int .i64 st, .int .i64 was, .int .i64 tk, .int .i64 jt, .int .i64 jf, .int .i64 jo, .int .i64 dn] 33)).heap[h]? = some (.cells (shC ⟨n, pt, pl, st, was, tk, jt, jf, jo, dn⟩) 33)) := hide (by rw [← hh]; exact heap_new _ _)
  have Hh := hide hh
  clear hh
  by_cases h5 : st = 5
  · subst h5
    have e : Sh.load ⟨n, pt, pl, 5, was, tk, jt, jf, jo, dn⟩ = if was = 3 ∨ was = 4 then jt else 0 := rfl
    rw [e]
    clear e
    by_cases h3 : was = 3
    · subst h3
      go_enter Try.func33, Try.ntmps33
      go_upto_region 1 with fail
      rw [Hh.out]
      generalize w.alloc (.cells #[.int .i64 n, .int .i64 pt, .int .i64 pl, .int .i64 5, .int .i64 3, .int .i64 tk, .int .i64 jt, .int .i64 jf, .int .i64 jo, .int .i64 dn] 33) = W at *
      obtain ⟨c0, c1, c2, c3, c4, c5, c6, c7, c8, c9, cf⟩ := cells10 HX.out
      clear cf
      go_wp2_with fail
      go_ret
      exact ⟨rfl, HB.out⟩
    have b3 : (was == 3) = false := beq_eq_false_iff_ne.2 h3
    by_cases h4 : was = 4
    · subst h4
      clear h3
      go_enter Try.func33, Try.ntmps33
      go_upto_region 1 with fail
      rw [Hh.out]
      generalize w.alloc (.cells #[.int .i64 n, .int .i64 pt, .int .i64 pl, .int .i64 5, .int .i64 4, .int .i64 tk, .int .i64 jt, .int .i64 jf, .int .i64 jo, .int .i64 dn] 33) = W at *
      obtain ⟨c0, c1, c2, c3, c4, c5, c6, c7, c8, c9, cf⟩ := cells10 HX.out
      clear cf
      go_wp2_with fail
      go_ret
      exact ⟨rfl, HB.out⟩
    have b4 : (was == 4) = false := beq_eq_false_iff_ne.2 h4
    rw [if_neg (by omega)]
    clear h3 h4
    go_enter Try.func33, Try.ntmps33
    go_upto_region 1 with fail
    rw [Hh.out]
    generalize w.alloc (.cells #[.int .i64 n, .int .i64 pt, .int .i64 pl, .int .i64 5, .int .i64 was, .int .i64 tk, .int .i64 jt, .int .i64 jf, .int .i64 jo, .int .i64 dn] 33) = W at *
    obtain ⟨c0, c1, c2, c3, c4, c5, c6, c7, c8, c9, cf⟩ := cells10 HX.out
    clear cf
    go_wp2_with fail
    go_ret
    exact ⟨rfl, HB.out⟩
  have e : Sh.load ⟨n, pt, pl, st, was, tk, jt, jf, jo, dn⟩ = if st = 3 ∨ st = 4 then jt else 0 := by simp [Sh.load, Sh.eff, h5]
  rw [e]
  have b5 : (st == 5) = false := beq_eq_false_iff_ne.2 h5
  clear e h5
  by_cases h3 : st = 3
  · subst h3
    go_enter Try.func33, Try.ntmps33
    go_upto_region 1 with fail
    rw [Hh.out]
    generalize w.alloc (.cells #[.int .i64 n, .int .i64 pt, .int .i64 pl, .int .i64 3, .int .i64 was, .int .i64 tk, .int .i64 jt, .int .i64 jf, .int .i64 jo, .int .i64 dn] 33) = W at *
    obtain ⟨c0, c1, c2, c3, c4, c5, c6, c7, c8, c9, cf⟩ := cells10 HX.out
    clear cf
    go_wp2_with fail
    go_ret
    exact ⟨rfl, HB.out⟩
  have b3 : (st == 3) = false := beq_eq_false_iff_ne.2 h3
  by_cases h4 : st = 4
  · subst h4
    clear h3
    go_enter Try.func33, Try.ntmps33
    go_upto_region 1 with fail
    rw [Hh.out]
    generalize w.alloc (.cells #[.int .i64 n, .int .i64 pt, .int .i64 pl, .int .i64 4, .int .i64 was, .int .i64 tk, .int .i64 jt, .int .i64 jf, .int .i64 jo, .int .i64 dn] 33) = W at *
    obtain ⟨c0, c1, c2, c3, c4, c5, c6, c7, c8, c9, cf⟩ := cells10 HX.out
    clear cf
    go_wp2_with fail
    go_ret
    exact ⟨rfl, HB.out⟩
  have b4 : (st == 4) = false := beq_eq_false_iff_ne.2 h4
  rw [if_neg (by omega)]
  clear h3 h4
  go_enter Try.func33, Try.ntmps33
  go_upto_region 1 with fail
  rw [Hh.out]
  generalize w.alloc (.cells #[.int .i64 n, .int .i64 pt, .int .i64 pl, .int .i64 st, .int .i64 was, .int .i64 tk, .int .i64 jt, .int .i64 jf, .int .i64 jo, .int .i64 dn] 33) = W at *
  obtain ⟨c0, c1, c2, c3, c4, c5, c6, c7, c8, c9, cf⟩ := cells10 HX.out
  clear cf
  go_wp2_with fail
  go_ret
  exact ⟨rfl, HB.out⟩
end Go.Proofs.Ytjmmkkjabpcihaa
