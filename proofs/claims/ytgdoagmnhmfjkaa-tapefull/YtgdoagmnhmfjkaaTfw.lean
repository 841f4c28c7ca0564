/- The walk of TapeFull. -/
import Derived.Test.YtgdoagmnhmfjkaaTbm
import Derived.Test.YtgdoagmnhmfjkaaNag
namespace Go.Proofs.Ytgdoagmnhmfjkaa.tapeFull
open Go.ChangeShapes Go.WideShapes Go.ChangeAt Go.RowKit
set_option linter.unusedVariables false

def n8 : Nt := ⟨1, 16384, 1, 0⟩
theorem n8_ok : n8.ok = true := by decide
theorem n8_len : n8.bts.length = 8 := by
  rw [bts_len]
  have : n8.body = [1, 128, 128, 1, 1] := by
    show (1 : Int) :: [16384, 1].flatMap num = _
    rw [List.flatMap_cons, List.flatMap_singleton, num_high (by decide : 128 ≤ 16384), num_high (by decide : 128 ≤ 16384 / 128), num_low (by decide : 16384 / 128 / 128 < 128)]
    rfl
  rw [this]
  rfl
theorem each8 (k : Nat) : Each 8 (List.replicate k n8) := fun n hn => by
  obtain rfl := (List.mem_replicate.1 hn).2
  exact ⟨n8_ok, n8_len⟩
section
variable {w0 : World} {g b K c : Nat} {LS : List Nt}
/-- Append of the first p -/
theorem appF (hE : Each 8 LS) (hL : LS.length = K) (hK : K = 8192) {T T' : Tp} {got : List Nt} {p : Nat} {cc : Int} (hp : p ≤ 8192) (hr : Rds T.now got []) (ht : T.app [] (LS.take p) = (cc, T')) (W : World) (H : Bool → Value) (hW : Its w0 (.tape w0.heap.size g H T :: .row ntE w0.heap.size (.slice (some ⟨b, 0, none⟩) K c) LS :: []) W) :
    Calls Try.prog 14 #[.pointer (some ⟨g, 0, none⟩), .slice (some ⟨b, 0, none⟩) p c] W fun e w' => e = .returned (.int .i64 cc) ∧ ∃ H', Its w0 (.tape w0.heap.size g H' T' :: .row ntE w0.heap.size (.slice (some ⟨b, 0, none⟩) K c) LS :: []) w' := by
  have := appendS hW (a := some ⟨b, 0, none⟩) (N := p) (c := c) (ns := LS.take p) ((El.Own.rd hW.two).take p (by omega)) (by rw [List.length_take]; omega) (by omega) hr
  rw [ht] at this
  exact this
theorem cmpF (hE : Each 8 LS) (hL : LS.length = K) (hK : K = 8192) {T T' : Tp} {p : Nat} {cc : Int} (hp : p ≤ 8192) (ht : T.cmp (LS.take p) = (cc, T')) (W : World) (H : Bool → Value) (hW : Its w0 (.tape w0.heap.size g H T :: .row ntE w0.heap.size (.slice (some ⟨b, 0, none⟩) K c) LS :: []) W) :
    Calls Try.prog 16 #[.pointer (some ⟨g, 0, none⟩), .slice (some ⟨b, 0, none⟩) p c] W fun e w' => e = .returned (.int .i64 cc) ∧ ∃ H', Its w0 (.tape w0.heap.size g H' T' :: .row ntE w0.heap.size (.slice (some ⟨b, 0, none⟩) K c) LS :: []) w' := by
  have := compactS hW (a := some ⟨b, 0, none⟩) (N := p) (c := c) (ns := LS.take p) ((El.Own.rd hW.two).take p (by omega)) (by rw [List.length_take]; omega) (by omega)
  rw [ht] at this
  exact this
theorem totF (hE : Each 8 LS) (hL : LS.length = 8192) {p : Nat} (hp : p ≤ 8192) : tot (LS.take p) = 8 * p := by
  rw [(hE.take p).tot, List.length_take]
  omega
end

set_option maxRecDepth 100000 in
set_option maxHeartbeats 2000000 in
theorem full0 (x : Int) (w0 : World) (hN1 : wrap64 ((IntKind.u64.wrap x).tmod 3) = 0) (hN2 : (IntKind.u64.wrap x).tmod 3 = 0) : Calls Try.prog 6 #[.int .i64 x] w0 fun e w' => e = .returned (.bool true) ∧ Below w0.heap.size w0 w' := by
  have K9 := hide (newS (Its.nil w0))
  have KA : Hid (∀ W l, Its w0 l W → Calls Try.prog 11 #[] W fun e w' => e = .returned (.bool true) ∧ Its w0 l w') := hide (fun W l hW => awakeS hW)
  go_enter Try.func6, Try.ntmps6
  go_upto_region 4 with (first
    | (go_at_call 11; refine (KA.out _ _ h1).mono ?_; rintro e w2 ⟨rfl, h2⟩)
    | (go_at_call 9; refine K9.out.mono ?_; rintro e w1 ⟨g, H1, rfl, h1⟩))
  have HI := hide h2
  clear h1 h2 K9 KA
  go_upto_region 7 with fail
  go_loopw [4, 5] (fun v i wr => Hid (∃ (k : Nat), k ≤ 8192 ∧ i = .int .i64 k ∧ Its w0 (.row ntE w0.heap.size v (List.replicate k n8) :: [.tape w0.heap.size g H1 Tp.nw]) wr)) (fun _ i _ => 8192 - (intOf i).toNat)
  case atStart => exact hide ⟨0, Nat.zero_le _, rfl, HI.out.empty ntE⟩
  case round =>
    obtain ⟨k, hk, rfl, hI⟩ := hrel.out
    have HI := hide hI
    clear hrel hI
    by_cases hlt : k < 8192
    · have j1 : (k : Int) < 8192 := by omega
      have I1 := HI.out.alloc (.cells #[.int .i64 1, .int .i64 16384, .int .i64 1, .int .i64 0] 43)
      have ho1 := I1.one
      have hb3 := I1.bel
      have HL : Hid ((List.replicate k n8).length + [n8].length ≤ 1000000) := hide (by rw [List.length_replicate]; simp; omega)
      have hrd := nt_new wr n8 _ rfl
      have HI1 := hide I1
      clear I1
      go_wp2_with (at_builtin; refine ntE.wp hb3 (by rfl) _ _ rfl _ _ rfl rfl (List.replicate k n8) [n8] ho1 hrd HL.out ?_; intro v1 w6 hown1 hg1 hs1 hb6; refine Hid.out ?_)
      refine hide ?_
      have I2 := HI1.out.grow hown1 hg1 hs1
      rw [show List.replicate k n8 ++ [n8] = List.replicate (k + 1) n8 from (List.replicate_succ' ..).symm] at I2
      have HI2 := hide I2
      clear hg1 hs1 hown1 hb6 I2 hb3 ho1 hrd
      go_wp2_with fail
      go_roundw
      case rel => exact hide ⟨k + 1, by omega, by go_num, HI2.out⟩
      case measure => simp [intOf]; omega
    · have j1 : ¬ ((k : Int) < 8192) := by omega
      have I1 := HI.out
      obtain ⟨LS, hLS⟩ : ∃ LS, List.replicate k n8 = LS := ⟨_, rfl⟩
      have hE : Each 8 LS := by rw [← hLS]; exact each8 k
      have hL : LS.length = k := by rw [← hLS]; exact List.length_replicate ..
      have hat : LS[0]? = some n8 := by rw [← hLS, List.getElem?_replicate, if_pos (by omega)]
      have hK : k = 8192 := by omega
      rw [hLS] at I1
      obtain ⟨b, c, e, hc, hcm⟩ := El.Own.some I1.one (by intro e; rw [e] at hL; simp at hL; omega)
      rw [hL] at e hc
      subst e
      have I1 := I1.swap
      -- the tape, call by call
      obtain ⟨T1, e1, f1, q1⟩ := app_free free_nw (ns := LS.take 8192) (hE.take _).all (by rw [totF hE (by omega) (by omega)]; show 0 + _ ≤ _; omega)
      have q1 : T1.now = (LS.take 8192).flatMap Nt.bts := q1
      have l1 : T1.now.length = 8 * 8192 := by rw [q1]; exact totF hE (by omega) (by omega)
      have r1 : Rds T1.now (LS.take 8192) [] := by rw [q1]; exact rds_flat (hE.take _).all
      have e2 : T1.app [] (LS.take 1) = (5, T1) := app_full f1.2 (hE.take _).all (by rw [l1, totF hE (by omega) (by omega)]; omega)
      have hLk : LS.take k = LS := List.take_of_length_le (by omega)
      obtain ⟨T2, e3, f2, q2⟩ := cmp_free f1 (ns := LS.take k) (hE.take _).all (by rw [totF hE (by omega) (by omega)]; omega)
      have l2 : T2.now.length = 65536 := by rw [q2, show ((LS.take k).flatMap Nt.bts).length = tot (LS.take k) from rfl, totF hE (by omega) (by omega)]; omega
      have r2 : Rds T2.now (LS.take k) [] := by rw [q2]; exact rds_flat (hE.take _).all
      have e4 : T2.app [] (LS.take 1) = (5, T2) := app_full f2.2 (hE.take _).all (by rw [l2, totF hE (by omega) (by omega)]; omega)
      obtain ⟨T3, e5, f3, q3⟩ := cmp_free f2 (ns := LS.take 1) (hE.take _).all (by rw [totF hE (by omega) (by omega)]; omega)
      have l3 : T3.now.length = 8 := by rw [q3]; exact totF hE (by omega) (by omega)
      have r3 : Rds T3.now (LS.take 1) [] := by rw [q3]; exact rds_flat (hE.take _).all
      obtain ⟨T4, e6, f4, q4⟩ := app_free f3 (ns := LS.take 2) (hE.take _).all (by rw [l3, totF hE (by omega) (by omega)]; omega)
      have r4 : Rds T4.now (LS.take 1 ++ LS.take 2) [] := by rw [q4]; exact rds_app r3 (hE.take _).all
      have g4 : (LS.take 1 ++ LS.take 2).length = 3 := by rw [List.length_append, List.length_take, List.length_take]; omega
      have hE9 : Each 8 (LS ++ [n8]) := fun n hn => by
        rcases List.mem_append.1 hn with q | q
        · exact hE n q
        · simp at q; subst q; exact ⟨n8_ok, n8_len⟩
      have hL9 : (LS ++ [n8]).length = 8193 := by rw [List.length_append]; simp; omega
      have e7 : T4.cmp (LS ++ [n8]) = (5, T4) := cmp_full f4.2 hE9.all (by rw [hE9.tot, hL9]; omega)
      have KA1 := hide (appF (w0 := w0) (g := g) (b := b) (c := c) hE hL hK (by omega) (show Rds Tp.nw.now [] [] from rds_zero) e1)
      have KZ : Hid (∀ W H l, Its w0 (.tape w0.heap.size g H T1 :: l) W → Calls Try.prog 25 #[.pointer (some ⟨g, 0, none⟩)] W fun e w' => e = .returned (.int .i64 65536) ∧ Its w0 (.tape w0.heap.size g H T1 :: l) w') := hide (fun W H l hW => by
        have := sizeS hW
        rw [l1] at this
        exact this)
      have KA2 := hide (appF (w0 := w0) (g := g) (b := b) (c := c) hE hL hK (by omega) r1 e2)
      have KC3 := hide (cmpF (w0 := w0) (g := g) (b := b) (c := c) hE hL hK (by omega) e3)
      have KA4 := hide (appF (w0 := w0) (g := g) (b := b) (c := c) hE hL hK (by omega) r2 e4)
      have KC5 := hide (cmpF (w0 := w0) (g := g) (b := b) (c := c) hE hL hK (by omega) e5)
      have KA6 := hide (appF (w0 := w0) (g := g) (b := b) (c := c) hE hL hK (by omega) r3 e6)
      have K24 : Hid (∀ W H l, Its w0 (.tape w0.heap.size g H T4 :: l) W → Calls Try.prog 24 #[.pointer (some ⟨g, 0, none⟩)] W fun e w' => ∃ a c, e = .returned (.slice a 3 c) ∧ Its w0 (.tape w0.heap.size g H T4 :: l) w') := hide (fun W H l hW => (readS hW r4).mono (by
        intro e w' h
        obtain ⟨a, c, rfl, h2⟩ := h.form
        rw [g4]
        exact ⟨a, c, rfl, h2.tail⟩))
      have KC7 : Hid (∀ W H v l, Its w0 (.row ntE w0.heap.size v (LS ++ [n8]) :: .tape w0.heap.size g H T4 :: l) W → Calls Try.prog 16 #[.pointer (some ⟨g, 0, none⟩), v] W fun e w' => e = .returned (.int .i64 5) ∧ Below w0.heap.size w0 w') := hide (fun W H v l hW => by
        obtain ⟨a, c, e⟩ := El.Rd.form (El.Own.rd hW.one)
        subst e
        have := compactS hW.swap (El.Own.rd hW.one) rfl (by omega)
        rw [e7] at this
        exact this.mono (by rintro e w' ⟨rfl, H', h⟩; exact ⟨rfl, h.bel⟩))
      have HL9 : Hid (LS.length + [n8].length ≤ 1000000) := hide (by simp; omega)
      have HA0 : Hid (∀ W l, Its w0 (.row ntE w0.heap.size (.slice (some ⟨b, 0, none⟩) k c) LS :: l) W → W.cell? ⟨b, 0, none⟩ = some (.int .i64 1) ∧ W.cell? ⟨b, 1, none⟩ = some (.int .i64 16384) ∧ W.cell? ⟨b, 2, none⟩ = some (.int .i64 1) ∧ W.cell? ⟨b, 3, none⟩ = some (.int .i64 0)) := hide (fun W l hW => by
        obtain ⟨b', off', e', c0, c1, c2, c3⟩ := nt_at (El.Own.rd hW.one) 0 n8 hat
        simp only [Option.some.injEq, Addr.mk.injEq] at e'
        obtain ⟨rfl, rfl, _⟩ := e'
        exact ⟨c0, c1, c2, c3⟩)
      have c1 : (1 : Int) ≤ (c : Int) := by omega
      have c2 : (2 : Int) ≤ (c : Int) := by omega
      have c3 : (8192 : Int) ≤ (c : Int) := by omega
      have c4 : (1 : Int) ≤ (c : Int) := by omega
      have k1 : (0 : Int) < (k : Int) := by omega
      have k2 : 0 < k := by omega
      have HI := hide I1
      clear hE hL hat hK hLS hlt hcm hc e1 e2 e3 e4 e5 e6 e7 f1 f2 f3 f4 q1 q2 q3 q4 l1 l2 l3 r1 r2 r3 r4 g4 hE9 hL9 hLk I1 hk
      go_upto_region 12 with (first
        | (go_at_call 25; refine (KZ.out _ _ _ h3).mono ?_; rintro e w4 ⟨rfl, h4⟩)
        | (go_at_call 14; refine (KA1.out _ _ HI.out).mono ?_; rintro e w3 ⟨rfl, H3, h3⟩))
      clear h3 HI
      go_upto_region 14 with (first
        | (go_at_call 14; refine (KA4.out _ _ h6).mono ?_; rintro e w7 ⟨rfl, H7, h7⟩)
        | (go_at_call 16; refine (KC3.out _ _ h5).mono ?_; rintro e w6 ⟨rfl, H6, h6⟩)
        | (go_at_call 14; refine (KA2.out _ _ h4).mono ?_; rintro e w5 ⟨rfl, H5, h5⟩))
      clear h4 h5 h6
      go_wp2_with (first
        | (go_at_call 16; refine (KC7.out _ _ _ _ h12).mono ?_; rintro e w13 ⟨rfl, h13⟩)
        | (at_builtin; refine ntE.wp (h11.alloc (.cells #[.int .i64 1, .int .i64 16384, .int .i64 1, .int .i64 0] 43)).bel (by rfl) _ _ rfl _ _ rfl rfl LS [n8] (h11.alloc (.cells #[.int .i64 1, .int .i64 16384, .int .i64 1, .int .i64 0] 43)).one (nt_new _ n8 _ rfl) HL9.out ?_; intro v1 w12 hown1 hg1 hs1 hb6; have h12 := (h11.alloc (.cells #[.int .i64 1, .int .i64 16384, .int .i64 1, .int .i64 0] 43)).grow hown1 hg1 hs1; clear hown1 hg1 hs1 hb6)
        | (go_at_call 24; refine (K24.out _ _ _ h9).mono ?_; rintro e w10 ⟨az, cz, rfl, h10⟩; have h11 := h10.swap; obtain ⟨y0, y1, y2, y3⟩ := HA0.out _ _ h11)
        | (go_at_call 14; refine (KA6.out _ _ h8).mono ?_; rintro e w9 ⟨rfl, H9, h9⟩)
        | (go_at_call 16; refine (KC5.out _ _ h7).mono ?_; rintro e w8 ⟨rfl, H8, h8⟩))
      go_ret
      exact ⟨rfl, h13⟩

set_option maxRecDepth 100000 in
set_option maxHeartbeats 2000000 in
theorem full1 (x : Int) (w0 : World) (hN1 : wrap64 ((IntKind.u64.wrap x).tmod 3) = 1) (hN2 : (IntKind.u64.wrap x).tmod 3 = 1) : Calls Try.prog 6 #[.int .i64 x] w0 fun e w' => e = .returned (.bool true) ∧ Below w0.heap.size w0 w' := by
  have K9 := hide (newS (Its.nil w0))
  have KA : Hid (∀ W l, Its w0 l W → Calls Try.prog 11 #[] W fun e w' => e = .returned (.bool true) ∧ Its w0 l w') := hide (fun W l hW => awakeS hW)
  go_enter Try.func6, Try.ntmps6
  go_upto_region 4 with (first
    | (go_at_call 11; refine (KA.out _ _ h1).mono ?_; rintro e w2 ⟨rfl, h2⟩)
    | (go_at_call 9; refine K9.out.mono ?_; rintro e w1 ⟨g, H1, rfl, h1⟩))
  have HI := hide h2
  clear h1 h2 K9 KA
  go_upto_region 7 with fail
  go_loopw [4, 5] (fun v i wr => Hid (∃ (k : Nat), k ≤ 8192 ∧ i = .int .i64 k ∧ Its w0 (.row ntE w0.heap.size v (List.replicate k n8) :: [.tape w0.heap.size g H1 Tp.nw]) wr)) (fun _ i _ => 8192 - (intOf i).toNat)
  case atStart => exact hide ⟨0, Nat.zero_le _, rfl, HI.out.empty ntE⟩
  case round =>
    obtain ⟨k, hk, rfl, hI⟩ := hrel.out
    have HI := hide hI
    clear hrel hI
    by_cases hlt : k < 8192
    · have j1 : (k : Int) < 8192 := by omega
      have I1 := HI.out.alloc (.cells #[.int .i64 1, .int .i64 16384, .int .i64 1, .int .i64 0] 43)
      have ho1 := I1.one
      have hb3 := I1.bel
      have HL : Hid ((List.replicate k n8).length + [n8].length ≤ 1000000) := hide (by rw [List.length_replicate]; simp; omega)
      have hrd := nt_new wr n8 _ rfl
      have HI1 := hide I1
      clear I1
      go_wp2_with (at_builtin; refine ntE.wp hb3 (by rfl) _ _ rfl _ _ rfl rfl (List.replicate k n8) [n8] ho1 hrd HL.out ?_; intro v1 w6 hown1 hg1 hs1 hb6; refine Hid.out ?_)
      refine hide ?_
      have I2 := HI1.out.grow hown1 hg1 hs1
      rw [show List.replicate k n8 ++ [n8] = List.replicate (k + 1) n8 from (List.replicate_succ' ..).symm] at I2
      have HI2 := hide I2
      clear hg1 hs1 hown1 hb6 I2 hb3 ho1 hrd
      go_wp2_with fail
      go_roundw
      case rel => exact hide ⟨k + 1, by omega, by go_num, HI2.out⟩
      case measure => simp [intOf]; omega
    · have j1 : ¬ ((k : Int) < 8192) := by omega
      have I1 := HI.out
      obtain ⟨LS, hLS⟩ : ∃ LS, List.replicate k n8 = LS := ⟨_, rfl⟩
      have hE : Each 8 LS := by rw [← hLS]; exact each8 k
      have hL : LS.length = k := by rw [← hLS]; exact List.length_replicate ..
      have hat : LS[0]? = some n8 := by rw [← hLS, List.getElem?_replicate, if_pos (by omega)]
      have hK : k = 8192 := by omega
      rw [hLS] at I1
      obtain ⟨b, c, e, hc, hcm⟩ := El.Own.some I1.one (by intro e; rw [e] at hL; simp at hL; omega)
      rw [hL] at e hc
      subst e
      have I1 := I1.swap
      -- the tape, call by call
      obtain ⟨T1, e1, f1, q1⟩ := app_free free_nw (ns := LS.take 8191) (hE.take _).all (by rw [totF hE (by omega) (by omega)]; show 0 + _ ≤ _; omega)
      have q1 : T1.now = (LS.take 8191).flatMap Nt.bts := q1
      have l1 : T1.now.length = 8 * 8191 := by rw [q1]; exact totF hE (by omega) (by omega)
      have r1 : Rds T1.now (LS.take 8191) [] := by rw [q1]; exact rds_flat (hE.take _).all
      have e2 : T1.app [] (LS.take 2) = (5, T1) := app_full f1.2 (hE.take _).all (by rw [l1, totF hE (by omega) (by omega)]; omega)
      have hLk : LS.take k = LS := List.take_of_length_le (by omega)
      obtain ⟨T2, e3, f2, q2⟩ := cmp_free f1 (ns := LS.take k) (hE.take _).all (by rw [totF hE (by omega) (by omega)]; omega)
      have l2 : T2.now.length = 65536 := by rw [q2, show ((LS.take k).flatMap Nt.bts).length = tot (LS.take k) from rfl, totF hE (by omega) (by omega)]; omega
      have r2 : Rds T2.now (LS.take k) [] := by rw [q2]; exact rds_flat (hE.take _).all
      have e4 : T2.app [] (LS.take 1) = (5, T2) := app_full f2.2 (hE.take _).all (by rw [l2, totF hE (by omega) (by omega)]; omega)
      obtain ⟨T3, e5, f3, q3⟩ := cmp_free f2 (ns := LS.take 1) (hE.take _).all (by rw [totF hE (by omega) (by omega)]; omega)
      have l3 : T3.now.length = 8 := by rw [q3]; exact totF hE (by omega) (by omega)
      have r3 : Rds T3.now (LS.take 1) [] := by rw [q3]; exact rds_flat (hE.take _).all
      obtain ⟨T4, e6, f4, q4⟩ := app_free f3 (ns := LS.take 2) (hE.take _).all (by rw [l3, totF hE (by omega) (by omega)]; omega)
      have r4 : Rds T4.now (LS.take 1 ++ LS.take 2) [] := by rw [q4]; exact rds_app r3 (hE.take _).all
      have g4 : (LS.take 1 ++ LS.take 2).length = 3 := by rw [List.length_append, List.length_take, List.length_take]; omega
      have hE9 : Each 8 (LS ++ [n8]) := fun n hn => by
        rcases List.mem_append.1 hn with q | q
        · exact hE n q
        · simp at q; subst q; exact ⟨n8_ok, n8_len⟩
      have hL9 : (LS ++ [n8]).length = 8193 := by rw [List.length_append]; simp; omega
      have e7 : T4.cmp (LS ++ [n8]) = (5, T4) := cmp_full f4.2 hE9.all (by rw [hE9.tot, hL9]; omega)
      have KA1 := hide (appF (w0 := w0) (g := g) (b := b) (c := c) hE hL hK (by omega) (show Rds Tp.nw.now [] [] from rds_zero) e1)
      have KZ : Hid (∀ W H l, Its w0 (.tape w0.heap.size g H T1 :: l) W → Calls Try.prog 25 #[.pointer (some ⟨g, 0, none⟩)] W fun e w' => e = .returned (.int .i64 65528) ∧ Its w0 (.tape w0.heap.size g H T1 :: l) w') := hide (fun W H l hW => by
        have := sizeS hW
        rw [l1] at this
        exact this)
      have KA2 := hide (appF (w0 := w0) (g := g) (b := b) (c := c) hE hL hK (by omega) r1 e2)
      have KC3 := hide (cmpF (w0 := w0) (g := g) (b := b) (c := c) hE hL hK (by omega) e3)
      have KA4 := hide (appF (w0 := w0) (g := g) (b := b) (c := c) hE hL hK (by omega) r2 e4)
      have KC5 := hide (cmpF (w0 := w0) (g := g) (b := b) (c := c) hE hL hK (by omega) e5)
      have KA6 := hide (appF (w0 := w0) (g := g) (b := b) (c := c) hE hL hK (by omega) r3 e6)
      have K24 : Hid (∀ W H l, Its w0 (.tape w0.heap.size g H T4 :: l) W → Calls Try.prog 24 #[.pointer (some ⟨g, 0, none⟩)] W fun e w' => ∃ a c, e = .returned (.slice a 3 c) ∧ Its w0 (.tape w0.heap.size g H T4 :: l) w') := hide (fun W H l hW => (readS hW r4).mono (by
        intro e w' h
        obtain ⟨a, c, rfl, h2⟩ := h.form
        rw [g4]
        exact ⟨a, c, rfl, h2.tail⟩))
      have KC7 : Hid (∀ W H v l, Its w0 (.row ntE w0.heap.size v (LS ++ [n8]) :: .tape w0.heap.size g H T4 :: l) W → Calls Try.prog 16 #[.pointer (some ⟨g, 0, none⟩), v] W fun e w' => e = .returned (.int .i64 5) ∧ Below w0.heap.size w0 w') := hide (fun W H v l hW => by
        obtain ⟨a, c, e⟩ := El.Rd.form (El.Own.rd hW.one)
        subst e
        have := compactS hW.swap (El.Own.rd hW.one) rfl (by omega)
        rw [e7] at this
        exact this.mono (by rintro e w' ⟨rfl, H', h⟩; exact ⟨rfl, h.bel⟩))
      have HL9 : Hid (LS.length + [n8].length ≤ 1000000) := hide (by simp; omega)
      have HA0 : Hid (∀ W l, Its w0 (.row ntE w0.heap.size (.slice (some ⟨b, 0, none⟩) k c) LS :: l) W → W.cell? ⟨b, 0, none⟩ = some (.int .i64 1) ∧ W.cell? ⟨b, 1, none⟩ = some (.int .i64 16384) ∧ W.cell? ⟨b, 2, none⟩ = some (.int .i64 1) ∧ W.cell? ⟨b, 3, none⟩ = some (.int .i64 0)) := hide (fun W l hW => by
        obtain ⟨b', off', e', c0, c1, c2, c3⟩ := nt_at (El.Own.rd hW.one) 0 n8 hat
        simp only [Option.some.injEq, Addr.mk.injEq] at e'
        obtain ⟨rfl, rfl, _⟩ := e'
        exact ⟨c0, c1, c2, c3⟩)
      have c1 : (1 : Int) ≤ (c : Int) := by omega
      have c2 : (2 : Int) ≤ (c : Int) := by omega
      have c3 : (8191 : Int) ≤ (c : Int) := by omega
      have c4 : (2 : Int) ≤ (c : Int) := by omega
      have k1 : (0 : Int) < (k : Int) := by omega
      have k2 : 0 < k := by omega
      have HI := hide I1
      clear hE hL hat hK hLS hlt hcm hc e1 e2 e3 e4 e5 e6 e7 f1 f2 f3 f4 q1 q2 q3 q4 l1 l2 l3 r1 r2 r3 r4 g4 hE9 hL9 hLk I1 hk
      go_upto_region 12 with (first
        | (go_at_call 25; refine (KZ.out _ _ _ h3).mono ?_; rintro e w4 ⟨rfl, h4⟩)
        | (go_at_call 14; refine (KA1.out _ _ HI.out).mono ?_; rintro e w3 ⟨rfl, H3, h3⟩))
      clear h3 HI
      go_upto_region 14 with (first
        | (go_at_call 14; refine (KA4.out _ _ h6).mono ?_; rintro e w7 ⟨rfl, H7, h7⟩)
        | (go_at_call 16; refine (KC3.out _ _ h5).mono ?_; rintro e w6 ⟨rfl, H6, h6⟩)
        | (go_at_call 14; refine (KA2.out _ _ h4).mono ?_; rintro e w5 ⟨rfl, H5, h5⟩))
      clear h4 h5 h6
      go_wp2_with (first
        | (go_at_call 16; refine (KC7.out _ _ _ _ h12).mono ?_; rintro e w13 ⟨rfl, h13⟩)
        | (at_builtin; refine ntE.wp (h11.alloc (.cells #[.int .i64 1, .int .i64 16384, .int .i64 1, .int .i64 0] 43)).bel (by rfl) _ _ rfl _ _ rfl rfl LS [n8] (h11.alloc (.cells #[.int .i64 1, .int .i64 16384, .int .i64 1, .int .i64 0] 43)).one (nt_new _ n8 _ rfl) HL9.out ?_; intro v1 w12 hown1 hg1 hs1 hb6; have h12 := (h11.alloc (.cells #[.int .i64 1, .int .i64 16384, .int .i64 1, .int .i64 0] 43)).grow hown1 hg1 hs1; clear hown1 hg1 hs1 hb6)
        | (go_at_call 24; refine (K24.out _ _ _ h9).mono ?_; rintro e w10 ⟨az, cz, rfl, h10⟩; have h11 := h10.swap; obtain ⟨y0, y1, y2, y3⟩ := HA0.out _ _ h11)
        | (go_at_call 14; refine (KA6.out _ _ h8).mono ?_; rintro e w9 ⟨rfl, H9, h9⟩)
        | (go_at_call 16; refine (KC5.out _ _ h7).mono ?_; rintro e w8 ⟨rfl, H8, h8⟩))
      go_ret
      exact ⟨rfl, h13⟩

set_option maxRecDepth 100000 in
set_option maxHeartbeats 2000000 in
theorem full2 (x : Int) (w0 : World) (hN1 : wrap64 ((IntKind.u64.wrap x).tmod 3) = 2) (hN2 : (IntKind.u64.wrap x).tmod 3 = 2) : Calls Try.prog 6 #[.int .i64 x] w0 fun e w' => e = .returned (.bool true) ∧ Below w0.heap.size w0 w' := by
  have K9 := hide (newS (Its.nil w0))
  have KA : Hid (∀ W l, Its w0 l W → Calls Try.prog 11 #[] W fun e w' => e = .returned (.bool true) ∧ Its w0 l w') := hide (fun W l hW => awakeS hW)
  go_enter Try.func6, Try.ntmps6
  go_upto_region 4 with (first
    | (go_at_call 11; refine (KA.out _ _ h1).mono ?_; rintro e w2 ⟨rfl, h2⟩)
    | (go_at_call 9; refine K9.out.mono ?_; rintro e w1 ⟨g, H1, rfl, h1⟩))
  have HI := hide h2
  clear h1 h2 K9 KA
  go_upto_region 7 with fail
  go_loopw [4, 5] (fun v i wr => Hid (∃ (k : Nat), k ≤ 8192 ∧ i = .int .i64 k ∧ Its w0 (.row ntE w0.heap.size v (List.replicate k n8) :: [.tape w0.heap.size g H1 Tp.nw]) wr)) (fun _ i _ => 8192 - (intOf i).toNat)
  case atStart => exact hide ⟨0, Nat.zero_le _, rfl, HI.out.empty ntE⟩
  case round =>
    obtain ⟨k, hk, rfl, hI⟩ := hrel.out
    have HI := hide hI
    clear hrel hI
    by_cases hlt : k < 8192
    · have j1 : (k : Int) < 8192 := by omega
      have I1 := HI.out.alloc (.cells #[.int .i64 1, .int .i64 16384, .int .i64 1, .int .i64 0] 43)
      have ho1 := I1.one
      have hb3 := I1.bel
      have HL : Hid ((List.replicate k n8).length + [n8].length ≤ 1000000) := hide (by rw [List.length_replicate]; simp; omega)
      have hrd := nt_new wr n8 _ rfl
      have HI1 := hide I1
      clear I1
      go_wp2_with (at_builtin; refine ntE.wp hb3 (by rfl) _ _ rfl _ _ rfl rfl (List.replicate k n8) [n8] ho1 hrd HL.out ?_; intro v1 w6 hown1 hg1 hs1 hb6; refine Hid.out ?_)
      refine hide ?_
      have I2 := HI1.out.grow hown1 hg1 hs1
      rw [show List.replicate k n8 ++ [n8] = List.replicate (k + 1) n8 from (List.replicate_succ' ..).symm] at I2
      have HI2 := hide I2
      clear hg1 hs1 hown1 hb6 I2 hb3 ho1 hrd
      go_wp2_with fail
      go_roundw
      case rel => exact hide ⟨k + 1, by omega, by go_num, HI2.out⟩
      case measure => simp [intOf]; omega
    · have j1 : ¬ ((k : Int) < 8192) := by omega
      have I1 := HI.out
      obtain ⟨LS, hLS⟩ : ∃ LS, List.replicate k n8 = LS := ⟨_, rfl⟩
      have hE : Each 8 LS := by rw [← hLS]; exact each8 k
      have hL : LS.length = k := by rw [← hLS]; exact List.length_replicate ..
      have hat : LS[0]? = some n8 := by rw [← hLS, List.getElem?_replicate, if_pos (by omega)]
      have hK : k = 8192 := by omega
      rw [hLS] at I1
      obtain ⟨b, c, e, hc, hcm⟩ := El.Own.some I1.one (by intro e; rw [e] at hL; simp at hL; omega)
      rw [hL] at e hc
      subst e
      have I1 := I1.swap
      -- the tape, call by call
      obtain ⟨T1, e1, f1, q1⟩ := app_free free_nw (ns := LS.take 8190) (hE.take _).all (by rw [totF hE (by omega) (by omega)]; show 0 + _ ≤ _; omega)
      have q1 : T1.now = (LS.take 8190).flatMap Nt.bts := q1
      have l1 : T1.now.length = 8 * 8190 := by rw [q1]; exact totF hE (by omega) (by omega)
      have r1 : Rds T1.now (LS.take 8190) [] := by rw [q1]; exact rds_flat (hE.take _).all
      have e2 : T1.app [] (LS.take 3) = (5, T1) := app_full f1.2 (hE.take _).all (by rw [l1, totF hE (by omega) (by omega)]; omega)
      have hLk : LS.take k = LS := List.take_of_length_le (by omega)
      obtain ⟨T2, e3, f2, q2⟩ := cmp_free f1 (ns := LS.take k) (hE.take _).all (by rw [totF hE (by omega) (by omega)]; omega)
      have l2 : T2.now.length = 65536 := by rw [q2, show ((LS.take k).flatMap Nt.bts).length = tot (LS.take k) from rfl, totF hE (by omega) (by omega)]; omega
      have r2 : Rds T2.now (LS.take k) [] := by rw [q2]; exact rds_flat (hE.take _).all
      have e4 : T2.app [] (LS.take 1) = (5, T2) := app_full f2.2 (hE.take _).all (by rw [l2, totF hE (by omega) (by omega)]; omega)
      obtain ⟨T3, e5, f3, q3⟩ := cmp_free f2 (ns := LS.take 1) (hE.take _).all (by rw [totF hE (by omega) (by omega)]; omega)
      have l3 : T3.now.length = 8 := by rw [q3]; exact totF hE (by omega) (by omega)
      have r3 : Rds T3.now (LS.take 1) [] := by rw [q3]; exact rds_flat (hE.take _).all
      obtain ⟨T4, e6, f4, q4⟩ := app_free f3 (ns := LS.take 2) (hE.take _).all (by rw [l3, totF hE (by omega) (by omega)]; omega)
      have r4 : Rds T4.now (LS.take 1 ++ LS.take 2) [] := by rw [q4]; exact rds_app r3 (hE.take _).all
      have g4 : (LS.take 1 ++ LS.take 2).length = 3 := by rw [List.length_append, List.length_take, List.length_take]; omega
      have hE9 : Each 8 (LS ++ [n8]) := fun n hn => by
        rcases List.mem_append.1 hn with q | q
        · exact hE n q
        · simp at q; subst q; exact ⟨n8_ok, n8_len⟩
      have hL9 : (LS ++ [n8]).length = 8193 := by rw [List.length_append]; simp; omega
      have e7 : T4.cmp (LS ++ [n8]) = (5, T4) := cmp_full f4.2 hE9.all (by rw [hE9.tot, hL9]; omega)
      have KA1 := hide (appF (w0 := w0) (g := g) (b := b) (c := c) hE hL hK (by omega) (show Rds Tp.nw.now [] [] from rds_zero) e1)
      have KZ : Hid (∀ W H l, Its w0 (.tape w0.heap.size g H T1 :: l) W → Calls Try.prog 25 #[.pointer (some ⟨g, 0, none⟩)] W fun e w' => e = .returned (.int .i64 65520) ∧ Its w0 (.tape w0.heap.size g H T1 :: l) w') := hide (fun W H l hW => by
        have := sizeS hW
        rw [l1] at this
        exact this)
      have KA2 := hide (appF (w0 := w0) (g := g) (b := b) (c := c) hE hL hK (by omega) r1 e2)
      have KC3 := hide (cmpF (w0 := w0) (g := g) (b := b) (c := c) hE hL hK (by omega) e3)
      have KA4 := hide (appF (w0 := w0) (g := g) (b := b) (c := c) hE hL hK (by omega) r2 e4)
      have KC5 := hide (cmpF (w0 := w0) (g := g) (b := b) (c := c) hE hL hK (by omega) e5)
      have KA6 := hide (appF (w0 := w0) (g := g) (b := b) (c := c) hE hL hK (by omega) r3 e6)
      have K24 : Hid (∀ W H l, Its w0 (.tape w0.heap.size g H T4 :: l) W → Calls Try.prog 24 #[.pointer (some ⟨g, 0, none⟩)] W fun e w' => ∃ a c, e = .returned (.slice a 3 c) ∧ Its w0 (.tape w0.heap.size g H T4 :: l) w') := hide (fun W H l hW => (readS hW r4).mono (by
        intro e w' h
        obtain ⟨a, c, rfl, h2⟩ := h.form
        rw [g4]
        exact ⟨a, c, rfl, h2.tail⟩))
      have KC7 : Hid (∀ W H v l, Its w0 (.row ntE w0.heap.size v (LS ++ [n8]) :: .tape w0.heap.size g H T4 :: l) W → Calls Try.prog 16 #[.pointer (some ⟨g, 0, none⟩), v] W fun e w' => e = .returned (.int .i64 5) ∧ Below w0.heap.size w0 w') := hide (fun W H v l hW => by
        obtain ⟨a, c, e⟩ := El.Rd.form (El.Own.rd hW.one)
        subst e
        have := compactS hW.swap (El.Own.rd hW.one) rfl (by omega)
        rw [e7] at this
        exact this.mono (by rintro e w' ⟨rfl, H', h⟩; exact ⟨rfl, h.bel⟩))
      have HL9 : Hid (LS.length + [n8].length ≤ 1000000) := hide (by simp; omega)
      have HA0 : Hid (∀ W l, Its w0 (.row ntE w0.heap.size (.slice (some ⟨b, 0, none⟩) k c) LS :: l) W → W.cell? ⟨b, 0, none⟩ = some (.int .i64 1) ∧ W.cell? ⟨b, 1, none⟩ = some (.int .i64 16384) ∧ W.cell? ⟨b, 2, none⟩ = some (.int .i64 1) ∧ W.cell? ⟨b, 3, none⟩ = some (.int .i64 0)) := hide (fun W l hW => by
        obtain ⟨b', off', e', c0, c1, c2, c3⟩ := nt_at (El.Own.rd hW.one) 0 n8 hat
        simp only [Option.some.injEq, Addr.mk.injEq] at e'
        obtain ⟨rfl, rfl, _⟩ := e'
        exact ⟨c0, c1, c2, c3⟩)
      have c1 : (1 : Int) ≤ (c : Int) := by omega
      have c2 : (2 : Int) ≤ (c : Int) := by omega
      have c3 : (8190 : Int) ≤ (c : Int) := by omega
      have c4 : (3 : Int) ≤ (c : Int) := by omega
      have k1 : (0 : Int) < (k : Int) := by omega
      have k2 : 0 < k := by omega
      have HI := hide I1
      clear hE hL hat hK hLS hlt hcm hc e1 e2 e3 e4 e5 e6 e7 f1 f2 f3 f4 q1 q2 q3 q4 l1 l2 l3 r1 r2 r3 r4 g4 hE9 hL9 hLk I1 hk
      go_upto_region 12 with (first
        | (go_at_call 25; refine (KZ.out _ _ _ h3).mono ?_; rintro e w4 ⟨rfl, h4⟩)
        | (go_at_call 14; refine (KA1.out _ _ HI.out).mono ?_; rintro e w3 ⟨rfl, H3, h3⟩))
      clear h3 HI
      go_upto_region 14 with (first
        | (go_at_call 14; refine (KA4.out _ _ h6).mono ?_; rintro e w7 ⟨rfl, H7, h7⟩)
        | (go_at_call 16; refine (KC3.out _ _ h5).mono ?_; rintro e w6 ⟨rfl, H6, h6⟩)
        | (go_at_call 14; refine (KA2.out _ _ h4).mono ?_; rintro e w5 ⟨rfl, H5, h5⟩))
      clear h4 h5 h6
      go_wp2_with (first
        | (go_at_call 16; refine (KC7.out _ _ _ _ h12).mono ?_; rintro e w13 ⟨rfl, h13⟩)
        | (at_builtin; refine ntE.wp (h11.alloc (.cells #[.int .i64 1, .int .i64 16384, .int .i64 1, .int .i64 0] 43)).bel (by rfl) _ _ rfl _ _ rfl rfl LS [n8] (h11.alloc (.cells #[.int .i64 1, .int .i64 16384, .int .i64 1, .int .i64 0] 43)).one (nt_new _ n8 _ rfl) HL9.out ?_; intro v1 w12 hown1 hg1 hs1 hb6; have h12 := (h11.alloc (.cells #[.int .i64 1, .int .i64 16384, .int .i64 1, .int .i64 0] 43)).grow hown1 hg1 hs1; clear hown1 hg1 hs1 hb6)
        | (go_at_call 24; refine (K24.out _ _ _ h9).mono ?_; rintro e w10 ⟨az, cz, rfl, h10⟩; have h11 := h10.swap; obtain ⟨y0, y1, y2, y3⟩ := HA0.out _ _ h11)
        | (go_at_call 14; refine (KA6.out _ _ h8).mono ?_; rintro e w9 ⟨rfl, H9, h9⟩)
        | (go_at_call 16; refine (KC5.out _ _ h7).mono ?_; rintro e w8 ⟨rfl, H8, h8⟩))
      go_ret
      exact ⟨rfl, h13⟩

theorem walk (x : Int) (w : World) (hx : -9223372036854775808 ≤ x ∧ x ≤ 9223372036854775807) : Calls Try.prog 6 #[.int .i64 x] w fun e w' => e = .returned (.bool true) ∧ Below w.heap.size w w' := by
  obtain ⟨N, hN1, hN2, hN3⟩ := mod_is x 3 (by decide) (by decide)
  rw [show ((3 : Nat) : Int) = 3 from rfl] at hN1 hN2
  rcases (show N = 0 ∨ N = 1 ∨ N = 2 by omega) with rfl | rfl | rfl
  · exact full0 x w hN1 hN2
  · exact full1 x w hN1 hN2
  · exact full2 x w hN1 hN2
end Go.Proofs.Ytgdoagmnhmfjkaa.tapeFull
