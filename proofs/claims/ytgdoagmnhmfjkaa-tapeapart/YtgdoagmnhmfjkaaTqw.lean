/- The walk of TapeApart. -/
import Derived.Test.YtgdoagmnhmfjkaaTfm
import Derived.Test.YtgdoagmnhmfjkaaNag
namespace Go.Proofs.Ytgdoagmnhmfjkaa.tapeApart
open Go.ChangeShapes Go.WideShapes Go.ChangeAt Go.RowKit
set_option linter.unusedVariables false

theorem rds_count {l r : List Int} {ns : List Nt} (h : Rds l ns r) : 5 * ns.length ≤ l.length := by
  have h1 := rds_len h
  have h2 : 5 * ns.length ≤ tot ns := by
    have hk := h.ok
    clear h h1
    unfold tot
    induction ns with
    | nil => simp
    | cons n ns ih =>
      have h1 := ih (fun m hm => hk m (by simp [hm]))
      have h2 := bts_len5 (hk n (by simp))
      rw [List.flatMap_cons, List.length_append, List.length_cons]
      omega
  omega
/-- a number of a note is written -/
theorem Its.nset {w0 w : World} {l : List It} {B b n c : Nat} {xs : List Nt} (h : Its w0 (.row ntE B (.slice (some ⟨b, 0, none⟩) n c) xs :: l) w) {i : Nat} {p : Nt} (hp : xs[i]? = some p) (x : Int) : Its w0 (.row ntE B (.slice (some ⟨b, 0, none⟩) n c) (xs.set i ⟨p.kind, x, p.b, p.c⟩) :: l) (w.setCell ⟨b, i * 4 + 1, none⟩ (.int .i64 x)) :=
  h.chg (x' := .row ntE B (.slice (some ⟨b, 0, none⟩) n c) (xs.set i ⟨p.kind, x, p.b, p.c⟩)) (own_setC h.one (i := i) (j := 1) hp (by decide) rfl) (fun _ hk => .inl hk) ((Frm.set w b (i * 4 + 1) _).mono (fun j _ hj => by subst hj; rfl))
def n5 : Nt := ⟨6, 5, 0, 0⟩
def n6 : Nt := ⟨6, 6, 0, 0⟩
theorem n5_ok : ([n5] : List Nt).all Nt.ok = true := by decide
theorem n6_ok : ([n6] : List Nt).all Nt.ok = true := by decide
theorem n5_tot : tot [n5] ≤ 19 := by have := flat_bts_len (List.all_eq_true.1 n5_ok); simpa [tot] using this
theorem n6_tot : tot [n6] ≤ 19 := by have := flat_bts_len (List.all_eq_true.1 n6_ok); simpa [tot] using this

theorem long (a0 : Option Addr) (n c : Nat) (x : Int) (w0 : World) (hn : 60 < n) : Calls Try.prog 7 #[.slice a0 n c, .int .i64 x] w0 fun e w' => e = .returned (.bool true) ∧ Below w0.heap.size w0 w' := by
  have K9 := hide (newS (Its.nil w0))
  have KA : Hid (∀ W l, Its w0 l W → Calls Try.prog 11 #[] W fun e w' => e = .returned (.bool true) ∧ Its w0 l w') := hide (fun W l hW => awakeS hW)
  have n1 : (60 : Int) < (n : Int) := by omega
  go_enter Try.func7, Try.ntmps7
  go_wp2_with (first
    | (go_at_call 11; refine (KA.out _ _ h1).mono ?_; rintro e w2 ⟨rfl, h2⟩)
    | (go_at_call 9; refine K9.out.mono ?_; rintro e w1 ⟨g, H1, rfl, h1⟩))
  go_ret
  exact ⟨rfl, h2.bel⟩

set_option maxRecDepth 100000 in
set_option maxHeartbeats 4000000 in
theorem short (a0 : Option Addr) (n c : Nat) (ns : List Nt) (x : Int) (w0 : World) (hl : ns.length = n) (hd : ntE.Rd w0 (.slice a0 n c) ns) (hn : n ≤ 60) : Calls Try.prog 7 #[.slice a0 n c, .int .i64 x] w0 fun e w' => e = .returned (.bool true) ∧ Below w0.heap.size w0 w' := by
  have K9 := hide (newS (Its.nil w0))
  have KA : Hid (∀ W l, Its w0 l W → Calls Try.prog 11 #[] W fun e w' => e = .returned (.bool true) ∧ Its w0 l w') := hide (fun W l hW => awakeS hW)
  have n1 : ¬ ((60 : Int) < (n : Int)) := by omega
  obtain ⟨N, hN1, hN2, hN3⟩ := mod_is x 600 (by decide) (by decide)
  rw [show ((600 : Nat) : Int) = 600 from rfl] at hN1 hN2
  have K12 : Hid (∀ W g H l, Its w0 (.tape w0.heap.size g H Tp.nw :: l) W → Calls Try.prog 12 #[.pointer (some ⟨g, 0, none⟩), .int .i64 (N : Int)] W fun e w' => e = .returned (.int .i64 0) ∧ Its w0 (.tape w0.heap.size g H ⟨Tp.nw.A, Tp.nw.cn, true, N, Tp.nw.dd⟩ :: l) w') := hide (fun W g H l hW => by
    have := armS hW (N : Int)
    rw [arm_ok (T := Tp.nw) rfl (k := N) (by omega)] at this
    exact this)
  have HD := hide hd
  have Hl := hide hl
  clear hd hl
  go_enter Try.func7, Try.ntmps7
  go_upto_region 6 with (first
    | (go_at_call 12; refine (K12.out _ _ _ _ h2).mono ?_; rintro e w3 ⟨rfl, h3⟩)
    | (go_at_call 11; refine (KA.out _ _ h1).mono ?_; rintro e w2 ⟨rfl, h2⟩)
    | (go_at_call 9; refine K9.out.mono ?_; rintro e w1 ⟨g, H1, rfl, h1⟩))
  have HI := hide h3
  clear h1 h2 h3 K9 K12 KA hN1 hN2 hN3
  go_loopw [37] (fun i wr => Hid (∃ (j : Nat) (H : Bool → Value) (T : Tp), j ≤ n ∧ i = .int .i64 j ∧ T.now.length ≤ 19 * j ∧ Its w0 [.tape w0.heap.size g H T] wr)) (fun i _ => n - (intOf i).toNat)
  case atStart => exact hide ⟨0, H1, _, Nat.zero_le _, rfl, Nat.zero_le _, HI.out⟩
  case round =>
    obtain ⟨j, H, T, hj, rfl, htl, hI⟩ := hrel.out
    have HI := hide hI
    clear hrel hI
    by_cases hlt : j < n
    · obtain ⟨m, hm⟩ : ∃ m, ns[j]? = some m := ⟨_, List.getElem?_eq_getElem (by rw [Hl.out]; exact hlt)⟩
      obtain ⟨b, off, rfl, c0, c1, c2, c3⟩ := nt_at (HD.out.keep HI.out.bel) j m hm
      obtain ⟨k, x1, x2, x3⟩ := m
      clear hm
      have j0 : (0 : Int) ≤ (j : Int) := by omega
      have j1 : (j : Int) < (n : Int) := by omega
      go_upto_region 8 with fail
      have I2 := HI.out.alloc (.cells #[.int .i64 k, .int .i64 x1, .int .i64 x2, .int .i64 x3] 43)
      have p0 : (wr.alloc (.cells #[.int .i64 k, .int .i64 x1, .int .i64 x2, .int .i64 x3] 43)).cell? ⟨wr.heap.size, 0, none⟩ = some (.int .i64 k) := (cells_at (heap_new _ _) 0).1
      have p1 : (wr.alloc (.cells #[.int .i64 k, .int .i64 x1, .int .i64 x2, .int .i64 x3] 43)).cell? ⟨wr.heap.size, 1, none⟩ = some (.int .i64 x1) := (cells_at (heap_new _ _) 1).1
      have p2 : (wr.alloc (.cells #[.int .i64 k, .int .i64 x1, .int .i64 x2, .int .i64 x3] 43)).cell? ⟨wr.heap.size, 2, none⟩ = some (.int .i64 x2) := (cells_at (heap_new _ _) 2).1
      have p3 : (wr.alloc (.cells #[.int .i64 k, .int .i64 x1, .int .i64 x2, .int .i64 x3] 43)).cell? ⟨wr.heap.size, 3, none⟩ = some (.int .i64 x3) := (cells_at (heap_new _ _) 3).1
      generalize wr.alloc (.cells #[.int .i64 k, .int .i64 x1, .int .i64 x2, .int .i64 x3] 43) = W2 at *
      obtain ⟨got, r, hr⟩ := rds_ex T.now
      have K14 := hide (appendS (I2.alloc (.cells #[.int .i64 k, .int .i64 x1, .int .i64 x2, .int .i64 x3] 43)) (nt_new W2 ⟨k, x1, x2, x3⟩ _ rfl) rfl (by decide) hr)
      have hal := app_len T r [⟨k, x1, x2, x3⟩]
      generalize T.app r [⟨k, x1, x2, x3⟩] = PR at *
      obtain ⟨CC, T'⟩ := PR
      simp only [List.length_singleton] at hal K14
      generalize wr.heap.size = g1 at *
      have Hal := hide hal
      have Htl := hide htl
      clear c0 c1 c2 c3 hr I2 hal htl HI
      go_wp2_with (go_at_call 14; refine K14.out.mono ?_; rintro e w4 ⟨rfl, H4, h4⟩)
      go_roundw
      case rel => exact hide ⟨j + 1, H4, T', by omega, by go_num, by have := Hal.out; have := Htl.out; omega, h4⟩
      case measure => simp [intOf]; omega
    · have e := show j = n by omega
      have j1 : ¬ ((j : Int) < (n : Int)) := by omega
      have htl2 : T.now.length ≤ 1140 := by omega
      obtain ⟨got, r, hr⟩ := rds_ex T.now
      have hcount := rds_count hr
      have Hcn : Hid (got.length ≤ 10000) := hide (by omega)
      have K20t : Hid (∀ W, Its w0 [.tape w0.heap.size g H T] W → Calls Try.prog 20 #[.pointer (some ⟨g, 0, none⟩)] W fun e w' => CraV w0 e T [.tape w0.heap.size g H T] w') := hide (fun W hW => crashS hW)
      have K20a : Hid (∀ W ga Ha, Its w0 [.tape w0.heap.size ga Ha T.crash, .tape w0.heap.size g H T] W → Calls Try.prog 20 #[.pointer (some ⟨ga, 0, none⟩)] W fun e w' => CraV w0 e T [.tape w0.heap.size ga Ha T.crash, .tape w0.heap.size g H T] w') := hide (fun W ga Ha hW => crashS hW)
      obtain ⟨T1, e1, f1, q1⟩ := rep_free (free_crash T) (show Rds T.crash.now got r from hr)
      have hl1 : T1.now.length ≤ 1140 := by
        have h1 := rds_len hr
        have h2 : T1.now.length = tot got := by rw [q1]; rfl
        omega
      obtain ⟨T2, e2, f2, q2⟩ := app_free f1 n5_ok (by have := n5_tot; omega)
      obtain ⟨T3, e3, f3, q3⟩ := cmp_free f2 n6_ok (by have := n6_tot; omega)
      have hr1 : Rds T1.now got [] := by rw [q1]; exact rds_all hr.ok
      have hr3 : Rds T3.now [n6] [] := by rw [q3]; exact rds_flat n6_ok
      obtain ⟨RL, hRL⟩ : ∃ RL : Int, (r.length : Int) = RL := ⟨_, rfl⟩
      rw [hRL] at e1
      have E1 := hide e1
      have E2 := hide e2
      have E3 := hide e3
      have Hr1 := hide hr1
      have Hr3 := hide hr3
      clear q1 q2 q3 f1 f2 f3 hl1 e1 e2 e3 hr1 hr3 hRL
      have Hr := hide hr
      have Htl2 := hide htl2
      clear hr htl2 htl hcount e
      go_upto_region 14 with (first
        | (go_at_call 20; refine (K20a.out _ _ _ h5).mono ?_; rintro e w6 ⟨gb, Hb, rfl, h6⟩)
        | (go_at_call 20; refine (K20t.out _ HI.out).mono ?_; rintro e w5 ⟨ga, Ha, rfl, h5⟩))
      clear K20t K20a h5 HI
      have HI := hide h6
      clear h6
      have KZa : Hid (∀ W l, Its w0 (.tape w0.heap.size gb Hb T.crash :: .tape w0.heap.size ga Ha T.crash :: .tape w0.heap.size g H T :: l) W → Calls Try.prog 25 #[.pointer (some ⟨ga, 0, none⟩)] W fun e w' => e = .returned (.int .i64 (T.now.length : Int)) ∧ Its w0 (.tape w0.heap.size gb Hb T.crash :: .tape w0.heap.size ga Ha T.crash :: .tape w0.heap.size g H T :: l) w') := hide (fun W l hW => (sizeS hW.swap).mono (by rintro e w' ⟨rfl, h⟩; exact ⟨rfl, h.swap⟩))
      have KZb : Hid (∀ W l, Its w0 (.tape w0.heap.size gb Hb T.crash :: .tape w0.heap.size ga Ha T.crash :: .tape w0.heap.size g H T :: l) W → Calls Try.prog 25 #[.pointer (some ⟨gb, 0, none⟩)] W fun e w' => e = .returned (.int .i64 (T.now.length : Int)) ∧ Its w0 (.tape w0.heap.size gb Hb T.crash :: .tape w0.heap.size ga Ha T.crash :: .tape w0.heap.size g H T :: l) w') := hide (fun W l hW => sizeS hW)
      have KZt : Hid (∀ W l, Its w0 (.tape w0.heap.size gb Hb T.crash :: .tape w0.heap.size ga Ha T.crash :: .tape w0.heap.size g H T :: l) W → Calls Try.prog 25 #[.pointer (some ⟨g, 0, none⟩)] W fun e w' => e = .returned (.int .i64 (T.now.length : Int)) ∧ Its w0 (.tape w0.heap.size gb Hb T.crash :: .tape w0.heap.size ga Ha T.crash :: .tape w0.heap.size g H T :: l) w') := hide (fun W l hW => (sizeS hW.rot3).mono (by rintro e w' ⟨rfl, h⟩; exact ⟨rfl, h.rot3'⟩))
      have KRa : Hid (∀ W l, Its w0 (.tape w0.heap.size gb Hb T.crash :: .tape w0.heap.size ga Ha T.crash :: .tape w0.heap.size g H T :: l) W → Calls Try.prog 24 #[.pointer (some ⟨ga, 0, none⟩)] W fun e w' => ∃ v, e = .returned v ∧ Its w0 (.tape w0.heap.size gb Hb T.crash :: .tape w0.heap.size ga Ha T.crash :: .tape w0.heap.size g H T :: .row ntE w0.heap.size v got :: l) w') := hide (fun W l hW => (readS hW.swap Hr.out).mono (by rintro e w' ⟨v, rfl, h⟩; exact ⟨v, rfl, h.rot4'.swap⟩))
      have KRb : Hid (∀ W l x, Its w0 (.tape w0.heap.size gb Hb T.crash :: x :: .tape w0.heap.size g H T :: l) W → Calls Try.prog 24 #[.pointer (some ⟨gb, 0, none⟩)] W fun e w' => ∃ v, e = .returned v ∧ Its w0 (.tape w0.heap.size gb Hb T.crash :: x :: .tape w0.heap.size g H T :: .row ntE w0.heap.size v got :: l) w') := hide (fun W l x hW => (readS hW Hr.out).mono (by rintro e w' ⟨v, rfl, h⟩; exact ⟨v, rfl, h.rot4'⟩))
      have KS : Hid (∀ W l va vb x, Its w0 (.tape w0.heap.size gb Hb T.crash :: x :: .tape w0.heap.size g H T :: .row ntE w0.heap.size vb got :: .row ntE w0.heap.size va got :: l) W → Calls Try.prog 23 #[va, vb] W fun e w' => e = .returned (.bool true) ∧ Its w0 (.tape w0.heap.size gb Hb T.crash :: x :: .tape w0.heap.size g H T :: l) w') := hide (fun W l va vb x hW => (same_eq (El.Own.rd (hW.all (.row ntE w0.heap.size va got) (by simp))) (El.Own.rd (hW.all (.row ntE w0.heap.size vb got) (by simp))) Hcn.out).mono (by
        rintro e w' ⟨rfl, q, rfl⟩
        exact ⟨rfl, (((hW.drew q).rot4.tail).rot4.tail)⟩))
      generalize T.now.length = Z at *
      go_upto_region 17 with (first
        | (go_at_call 24; refine (KRb.out _ _ _ h13).mono ?_; rintro e w14 ⟨vw, rfl, h14⟩)
        | (go_at_call 23; refine (KS.out _ _ _ _ _ h12).mono ?_; rintro e w13 ⟨rfl, h13⟩)
        | (go_at_call 24; refine (KRb.out _ _ _ h11).mono ?_; rintro e w12 ⟨vb, rfl, h12⟩)
        | (go_at_call 24; refine (KRa.out _ _ h10).mono ?_; rintro e w11 ⟨va, rfl, h11⟩)
        | (go_at_call 25; refine (KZt.out _ _ h9).mono ?_; rintro e w10 ⟨rfl, h10⟩)
        | (go_at_call 25; refine (KZb.out _ _ h8).mono ?_; rintro e w9 ⟨rfl, h9⟩)
        | (go_at_call 25; refine (KZt.out _ _ h7).mono ?_; rintro e w8 ⟨rfl, h8⟩)
        | (go_at_call 25; refine (KZa.out _ _ HI.out).mono ?_; rintro e w7 ⟨rfl, h7⟩))
      clear HI h7 h8 h9 h10 h11 h12 h13 KZa KZb KZt KRa
      have HI := hide h14
      clear h14
      have K18 : Hid (∀ W l, Its w0 (.tape w0.heap.size gb Hb T.crash :: .tape w0.heap.size ga Ha T.crash :: .tape w0.heap.size g H T :: l) W → Calls Try.prog 18 #[.pointer (some ⟨ga, 0, none⟩)] W fun e w' => e = .returned (.tuple #[.int .i64 RL, .int .i64 0]) ∧ ∃ Ha', Its w0 (.tape w0.heap.size gb Hb T.crash :: .tape w0.heap.size ga Ha' T1 :: .tape w0.heap.size g H T :: l) w') := hide (fun W l hW => by
        have := repairS hW.swap (show Rds T.crash.now got r from Hr.out)
        rw [E1.out] at this
        exact this.mono (by rintro e w' ⟨rfl, H', h⟩; exact ⟨rfl, H', h.swap⟩))
      have K14 : Hid (∀ W l Ha, Its w0 (.tape w0.heap.size gb Hb T.crash :: .tape w0.heap.size ga Ha T1 :: .tape w0.heap.size g H T :: l) W → Calls Try.prog 14 #[.pointer (some ⟨ga, 0, none⟩), .slice (some ⟨W.heap.size, 0, none⟩) 1 1] (W.alloc (.cells #[.int .i64 6, .int .i64 5, .int .i64 0, .int .i64 0] 43)) fun e w' => e = .returned (.int .i64 0) ∧ ∃ Ha', Its w0 (.tape w0.heap.size gb Hb T.crash :: .tape w0.heap.size ga Ha' T2 :: .tape w0.heap.size g H T :: l) w') := hide (fun W l Ha hW => by
        have := appendS (hW.swap.alloc (.cells #[.int .i64 6, .int .i64 5, .int .i64 0, .int .i64 0] 43)) (nt_new W n5 _ rfl) rfl (by decide) Hr1.out
        rw [E2.out] at this
        exact this.mono (by rintro e w' ⟨rfl, H', h⟩; exact ⟨rfl, H', h.swap⟩))
      have K16 : Hid (∀ W l Ha, Its w0 (.tape w0.heap.size gb Hb T.crash :: .tape w0.heap.size ga Ha T2 :: .tape w0.heap.size g H T :: l) W → Calls Try.prog 16 #[.pointer (some ⟨ga, 0, none⟩), .slice (some ⟨W.heap.size, 0, none⟩) 1 1] (W.alloc (.cells #[.int .i64 6, .int .i64 6, .int .i64 0, .int .i64 0] 43)) fun e w' => e = .returned (.int .i64 0) ∧ ∃ Ha', Its w0 (.tape w0.heap.size gb Hb T.crash :: .tape w0.heap.size ga Ha' T3 :: .tape w0.heap.size g H T :: l) w') := hide (fun W l Ha hW => by
        have := compactS (hW.swap.alloc (.cells #[.int .i64 6, .int .i64 6, .int .i64 0, .int .i64 0] 43)) (nt_new W n6 _ rfl) rfl (by decide)
        rw [E3.out] at this
        exact this.mono (by rintro e w' ⟨rfl, H', h⟩; exact ⟨rfl, H', h.swap⟩))
      have KRf : Hid (∀ W l x, Its w0 (.tape w0.heap.size gb Hb T.crash :: x :: .tape w0.heap.size g H T :: l) W → Calls Try.prog 24 #[.pointer (some ⟨gb, 0, none⟩)] W fun e w' => ∃ a c, e = .returned (.slice a got.length c) ∧ Its w0 (.row ntE w0.heap.size (.slice a got.length c) got :: .tape w0.heap.size gb Hb T.crash :: x :: .tape w0.heap.size g H T :: l) w') := hide (fun W l x hW => (readS hW Hr.out).mono (by intro e w' h; exact h.form))
      have KS2 : Hid (∀ W l va vb x, Its w0 (.tape w0.heap.size gb Hb T.crash :: x :: .tape w0.heap.size g H T :: .row ntE w0.heap.size vb got :: .row ntE w0.heap.size va got :: l) W → Calls Try.prog 23 #[vb, va] W fun e w' => e = .returned (.bool true) ∧ Its w0 (.tape w0.heap.size gb Hb T.crash :: x :: .tape w0.heap.size g H T :: l) w') := hide (fun W l va vb x hW => (same_eq (El.Own.rd (hW.all (.row ntE w0.heap.size vb got) (by simp))) (El.Own.rd (hW.all (.row ntE w0.heap.size va got) (by simp))) Hcn.out).mono (by
        rintro e w' ⟨rfl, q, rfl⟩
        exact ⟨rfl, (((hW.drew q).rot4.tail).rot4.tail)⟩))
      have KRa3 : Hid (∀ W l Ha, Its w0 (.tape w0.heap.size gb Hb T.crash :: .tape w0.heap.size ga Ha T3 :: .tape w0.heap.size g H T :: l) W → Calls Try.prog 24 #[.pointer (some ⟨ga, 0, none⟩)] W fun e w' => ∃ v, e = .returned v ∧ Its w0 (.row ntE w0.heap.size v [n6] :: l) w') := hide (fun W l Ha hW => (readS hW.swap Hr3.out).mono (by rintro e w' ⟨v, rfl, h⟩; exact ⟨v, rfl, h.swap.tail.swap.tail.swap.tail⟩))
      have KS3 : Hid (∀ W l v, Its w0 (.row ntE w0.heap.size v [n6] :: l) W → Calls Try.prog 23 #[v, .slice (some ⟨W.heap.size, 0, none⟩) 1 1] (W.alloc (.cells #[.int .i64 6, .int .i64 6, .int .i64 0, .int .i64 0] 43)) fun e w' => e = .returned (.bool true) ∧ Below w0.heap.size w0 w') := hide (fun W l v hW => (same_eq (El.Own.rd (hW.alloc (.cells #[.int .i64 6, .int .i64 6, .int .i64 0, .int .i64 0] 43)).one) (nt_new W n6 _ rfl) (by decide)).mono (by
        rintro e w' ⟨rfl, q, rfl⟩
        exact ⟨rfl, ((hW.alloc (.cells #[.int .i64 6, .int .i64 6, .int .i64 0, .int .i64 0] 43)).drew q).bel⟩))
      go_upto_region 21 with (first
        | (go_at_call 24; refine (KRf.out _ _ _ h17).mono ?_; rintro e w18 ⟨ar, cr, rfl, h18⟩)
        | (go_at_call 16; refine (K16.out _ _ _ h16).mono ?_; rintro e w17 ⟨rfl, H17, h17⟩)
        | (go_at_call 14; refine (K14.out _ _ _ h15).mono ?_; rintro e w16 ⟨rfl, H16, h16⟩)
        | (go_at_call 18; refine (K18.out _ _ HI.out).mono ?_; rintro e w15 ⟨rfl, H15, h15⟩))
      clear HI h15 h16 h17 K18 K14 K16 KRf
      have HI := hide h18
      clear h18
      obtain ⟨G, hG⟩ : ∃ G, got.length = G := ⟨_, rfl⟩
      rw [hG] at HI ⊢
      have HG := hide hG
      have hG2 : G ≤ 10000 := by have := Hcn.out; omega
      clear hG
      go_upto_region 22 with fail
      go_loopw [103] (fun i wr => Hid (∃ (k : Nat) (xs : List Nt), k ≤ G ∧ i = .int .i64 k ∧ xs.length = G ∧ Its w0 (.row ntE w0.heap.size (.slice ar G cr) xs :: .tape w0.heap.size gb Hb T.crash :: .tape w0.heap.size ga H17 T3 :: .tape w0.heap.size g H T :: [.row ntE w0.heap.size vw got]) wr)) (fun i _ => G - (intOf i).toNat)
      case atStart => exact hide ⟨0, got, Nat.zero_le _, rfl, HG.out, HI.out⟩
      case round =>
        obtain ⟨k, xs, hk, rfl, hxs, hI⟩ := hrel.out
        have HI := hide hI
        have Hxs := hide hxs
        clear hrel hI hxs
        by_cases hlt : k < G
        · obtain ⟨p, hp⟩ : ∃ p, xs[k]? = some p := ⟨_, List.getElem?_eq_getElem (by rw [Hxs.out]; exact hlt)⟩
          obtain ⟨b, c', e, _⟩ := El.Own.some HI.out.one (by intro e; rw [e] at hp; simp at hp)
          rw [Hxs.out] at e
          simp only [Value.slice.injEq] at e
          obtain ⟨rfl, _, _⟩ := e
          have d1 := (nt_at (El.Own.rd HI.out.one) k p hp)
          obtain ⟨b', off', e', _, d1, _, _⟩ := d1
          simp only [Option.some.injEq, Addr.mk.injEq] at e'
          obtain ⟨rfl, rfl, _⟩ := e'
          rw [Nat.zero_add] at d1
          have f1 : wr.frozen? ⟨b, k * 4 + 1, none⟩ = false := (El.Own.cell HI.out.one (k * 4 + 1) (by rw [Hxs.out]; show k * 4 + 1 < G * 4; omega)).2.1
          have HN := hide (fun x => Its.nset HI.out hp x)
          have HXL : Hid (∀ z, (xs.set k z).length = G) := hide (fun z => by rw [List.length_set]; exact Hxs.out)
          obtain ⟨pk, pa, pb, pc⟩ := p
          simp only at d1 HN
          have j0 : (0 : Int) ≤ (k : Int) := by omega
          have j1 : (k : Int) < (G : Int) := by omega
          clear hp
          go_wp2_with fail
          go_roundw
          case rel => exact hide ⟨k + 1, _, by omega, by go_num, HXL.out _, HN.out _⟩
          case measure => simp [intOf]; omega
        · have j1 : ¬ ((k : Int) < (G : Int)) := by omega
          have H5 := hide HI.out.tail
          clear HI
          go_wp2_with (first
            | (go_at_call 23; refine (KS3.out _ _ _ h21).mono ?_; rintro e w22 ⟨rfl, h22⟩)
            | (go_at_call 24; refine (KRa3.out _ _ _ h20).mono ?_; rintro e w21 ⟨vz, rfl, h21⟩)
            | (go_at_call 23; refine (KS2.out _ _ _ _ _ h19).mono ?_; rintro e w20 ⟨rfl, h20⟩)
            | (go_at_call 24; refine (KRb.out _ _ _ H5.out).mono ?_; rintro e w19 ⟨vx, rfl, h19⟩))
          go_ret
          exact ⟨rfl, h22⟩

theorem walk (a0 : Option Addr) (n c : Nat) (ns : List Nt) (x : Int) (w : World) (hl : ns.length = n) (hd : ntE.Rd w (.slice a0 n c) ns) (hc : n ≤ c) (hx : -9223372036854775808 ≤ x ∧ x ≤ 9223372036854775807) : Calls Try.prog 7 #[.slice a0 n c, .int .i64 x] w fun e w' => e = .returned (.bool true) ∧ Below w.heap.size w w' := by
  by_cases h : 60 < n
  · exact long a0 n c x w h
  · exact short a0 n c ns x w hl hd (by omega)
end Go.Proofs.Ytgdoagmnhmfjkaa.tapeApart
