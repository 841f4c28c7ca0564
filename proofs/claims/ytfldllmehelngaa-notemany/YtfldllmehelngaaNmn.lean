/- The walk of NoteMany. -/
import Derived.Test.YtfldllmehelngaaNag
import Derived.Test.YtfldllmehelngaaNby
namespace Go.Proofs.Ytfldllmehelngaa.noteMany
open Go.ChangeShapes Go.WideShapes Go.ChangeAt Go.RowKit
set_option linter.unusedVariables false

set_option maxHeartbeats 2000000 in
theorem long (a : Option Addr) (n c : Nat) (w : World) (hn : 100 < n) : Calls Try.prog 7 #[.slice a n c] w fun e w' => e = .returned (.bool true) ∧ Below w.heap.size w w' := by
  have K9 := hide awake_any
  have n1 : (100 : Int) < (n : Int) := by omega
  go_enter Try.func7, Try.ntmps7
  go_wp2_with (go_at_call 9; refine (K9.out _).mono ?_; rintro e w1 ⟨rfl, hb1⟩; first | have HB := hide (HB.out.trans (hb1.mono HB.out.size)) | have HB := hide hb1; clear hb1)
  go_ret
  exact ⟨rfl, HB.out⟩

set_option maxHeartbeats 4000000 in
set_option maxRecDepth 100000 in
theorem short (a : Option Addr) (N c : Nat) (ns : List Nt) (w : World) (hl : ns.length = N) (hd : ntE.Rd w (.slice a N c) ns) (hn : N ≤ 100) : Calls Try.prog 7 #[.slice a N c] w fun e w' => e = .returned (.bool true) ∧ Below w.heap.size w w' := by
  have K9 := hide awake_any
  have n1 : ¬ ((100 : Int) < (N : Int)) := by omega
  have HD := hide hd
  have Hl := hide hl
  clear hd hl
  go_enter Try.func7, Try.ntmps7
  go_upto_region 3 with (go_at_call 9; refine (K9.out _).mono ?_; rintro e W1 ⟨rfl, hb1⟩)
  have I1 := hide ((Its.nil w).keep hb1)
  have I2 := hide (I1.out.row1 (E := ntE) (El.Own.new ntE W1 W1.heap.size (Nat.le_refl _) #[] [] rfl (by simp) W1.heap.size 0 0 rfl rfl rfl) (below_new _ _))
  clear hb1 I1 K9
  go_upto_region 4 with (at_builtin; refine ntE.wp I2.out.bel (by rfl) _ _ rfl _ _ rfl rfl [] ns I2.out.one (HD.out.keep I2.out.bel) (by rw [Hl.out]; simp; omega) ?_; intro vI W2 ho1 hg1 hs1 hb2; have I3 := hide (I2.out.grow ho1 hg1 hs1); clear ho1 hg1 hs1 hb2; refine Hid.out ?_)
  refine hide ?_
  go_upto_region 4 with fail
  rw [List.nil_append] at I3
  clear I2
  obtain ⟨aI, cI, eI⟩ := I3.out.one.rd.form
  rw [Hl.out] at eI
  have hRI := I3.out.one.rd
  rw [eI] at hRI
  have K19 := hide (write_any hRI Hl.out (by omega))
  rw [← eI] at K19
  clear hRI eI
  go_upto_region 5 with (go_at_call 19; refine K19.out.mono ?_; rintro e W3 ⟨vA, cc, rfl, hwri, hb3⟩)
  rcases hwri with ⟨hok, rfl, hoA⟩ | ⟨hbad, rfl, rfl⟩
  · have I4 := hide (I3.out.row1 hoA hb3)
    have HokA := hide hok
    clear hok hoA hb3 K19 I3
    have I5 := hide (I4.out.empty byE)
    go_upto_region 6 with fail
    go_wp2_with fail
    go_loopw [6, 26] (fun v i wr => Hid (∃ j : Nat, j ≤ N ∧ i = .int .i64 j ∧ (∀ m ∈ ns.take j, m.ok = true) ∧ Its w (.row byE w.heap.size v ((ns.take j).flatMap Nt.bts) :: .row byE w.heap.size vA (ns.flatMap Nt.bts) :: [.row ntE w.heap.size vI ns]) wr)) (fun _ i _ => N - (intOf i).toNat)
    case atStart => exact hide ⟨0, Nat.zero_le _, rfl, by simp, I5.out⟩
    case round =>
      obtain ⟨j, hj, rfl, hok, hI⟩ := hrel.out
      have I := hide hI
      have Hok := hide hok
      clear hrel hI hok I5 I4
      by_cases hlt : j < N
      · have j1 : (j : Int) < (N : Int) := by omega
        obtain ⟨m, hm⟩ : ∃ m, ns[j]? = some m := ⟨_, List.getElem?_eq_getElem (by rw [Hl.out]; exact hlt)⟩
        have ht : ns.take (j + 1) = ns.take j ++ [m] := by rw [List.take_add_one, hm]; rfl
        obtain ⟨b, off, rfl, c0, c1, c2, c3⟩ := nt_at (HD.out.keep I.out.bel) j m hm
        obtain ⟨k, x, y, z⟩ := m
        have Ht := hide ht
        have Hm := hide hm
        clear ht hm
        have k11 := good_any k x y z
        cases hmk : (Nt.mk k x y z).ok with
        | true =>
          rw [hmk] at k11
          have K11 := hide k11
          have K14 := hide (fun W => bytes_any k x y z W hmk)
          have Hmk := hide hmk
          have Hlen : Hid (((ns.take j).flatMap Nt.bts).length + (Nt.mk k x y z).bts.length ≤ 1000000) := hide (by
            have h1 := flat_bts_len Hok.out
            have h2 := bts_len5 hmk
            have h3 : (ns.take j).length ≤ 100 := by rw [List.length_take]; omega
            omega)
          clear k11 hmk
          go_upto_region 11 with (go_at_call 11; refine (K11.out _).mono ?_; rintro e W5 ⟨rfl, hb5⟩; have I := hide (I.out.keep hb5))
          clear c0 c1 c2 c3 hb5
          obtain ⟨b', off', e', c0, c1, c2, c3⟩ := nt_at (HD.out.keep I.out.bel) j _ Hm.out
          simp only [Option.some.injEq, Addr.mk.injEq] at e'
          obtain ⟨rfl, rfl, _⟩ := e'
          go_wp2_with (first | (go_at_call 14; refine (K14.out _).mono ?_; rintro e W6 ⟨vB, rfl, hoB, hb6⟩; have I6 := hide (I.out.keep hb6)) | (at_builtin; refine byE.wp I6.out.bel (by rfl) _ _ rfl _ _ rfl rfl ((ns.take j).flatMap Nt.bts) (Nt.mk k x y z).bts I6.out.one hoB.rd Hlen.out ?_; intro v7 W7 ho7 hg7 hs7 hb7; have I7 := hide (I6.out.grow ho7 hg7 hs7); clear ho7 hg7 hs7 hb7; refine Hid.out ?_))
          refine hide ?_
          go_wp2_with fail
          go_roundw
          case rel => exact hide ⟨j + 1, by omega, by go_num, by rw [Ht.out]; exact ok_more Hok.out Hmk.out, by rw [Ht.out, List.flatMap_append, List.flatMap_singleton]; exact I7.out⟩
          case measure => simp [intOf]; omega
        | false =>
          exact absurd (HokA.out _ (List.mem_of_getElem? Hm.out)) (by rw [hmk]; simp)
      · obtain rfl : j = N := by omega
        have hta : ns.take j = ns := List.take_of_length_le (by rw [Hl.out]; exact Nat.le_refl _)
        rw [hta] at I
        have j1 : ¬ ((j : Int) < (j : Int)) := by omega
        have v1 := conv_str I.out.one.rd
        have v2 := conv_str I.out.two.rd
        have K18 := hide (same_eq I.out.three.rd (HD.out.keep I.out.bel) (by rw [Hl.out]; omega))
        clear hta
        go_wp2_with (go_at_call 18; refine K18.out.mono ?_; rintro e w9 ⟨rfl, q, rfl⟩; have I9 := hide (I.out.drew q))
        go_ret
        exact ⟨rfl, I9.out.bel⟩
  · have I4 := hide (I3.out.keep hb3)
    have Hbad := hide hbad
    clear hbad hb3 K19 I3
    have I5 := hide (I4.out.empty byE)
    go_upto_region 6 with fail
    go_wp2_with fail
    go_loopw [6, 26] (fun v i wr => Hid (∃ j : Nat, j ≤ N ∧ i = .int .i64 j ∧ (∀ m ∈ ns.take j, m.ok = true) ∧ Its w (.row byE w.heap.size v ((ns.take j).flatMap Nt.bts) :: [.row ntE w.heap.size vI ns]) wr)) (fun _ i _ => N - (intOf i).toNat)
    case atStart => exact hide ⟨0, Nat.zero_le _, rfl, by simp, I5.out⟩
    case round =>
      obtain ⟨j, hj, rfl, hok, hI⟩ := hrel.out
      have I := hide hI
      have Hok := hide hok
      clear hrel hI hok I5 I4
      by_cases hlt : j < N
      · have j1 : (j : Int) < (N : Int) := by omega
        obtain ⟨m, hm⟩ : ∃ m, ns[j]? = some m := ⟨_, List.getElem?_eq_getElem (by rw [Hl.out]; exact hlt)⟩
        have ht : ns.take (j + 1) = ns.take j ++ [m] := by rw [List.take_add_one, hm]; rfl
        obtain ⟨b, off, rfl, c0, c1, c2, c3⟩ := nt_at (HD.out.keep I.out.bel) j m hm
        obtain ⟨k, x, y, z⟩ := m
        have Ht := hide ht
        have Hm := hide hm
        clear ht hm
        have k11 := good_any k x y z
        cases hmk : (Nt.mk k x y z).ok with
        | true =>
          rw [hmk] at k11
          have K11 := hide k11
          have K14 := hide (fun W => bytes_any k x y z W hmk)
          have Hmk := hide hmk
          have Hlen : Hid (((ns.take j).flatMap Nt.bts).length + (Nt.mk k x y z).bts.length ≤ 1000000) := hide (by
            have h1 := flat_bts_len Hok.out
            have h2 := bts_len5 hmk
            have h3 : (ns.take j).length ≤ 100 := by rw [List.length_take]; omega
            omega)
          clear k11 hmk
          go_upto_region 11 with (go_at_call 11; refine (K11.out _).mono ?_; rintro e W5 ⟨rfl, hb5⟩; have I := hide (I.out.keep hb5))
          clear c0 c1 c2 c3 hb5
          obtain ⟨b', off', e', c0, c1, c2, c3⟩ := nt_at (HD.out.keep I.out.bel) j _ Hm.out
          simp only [Option.some.injEq, Addr.mk.injEq] at e'
          obtain ⟨rfl, rfl, _⟩ := e'
          go_wp2_with (first | (go_at_call 14; refine (K14.out _).mono ?_; rintro e W6 ⟨vB, rfl, hoB, hb6⟩; have I6 := hide (I.out.keep hb6)) | (at_builtin; refine byE.wp I6.out.bel (by rfl) _ _ rfl _ _ rfl rfl ((ns.take j).flatMap Nt.bts) (Nt.mk k x y z).bts I6.out.one hoB.rd Hlen.out ?_; intro v7 W7 ho7 hg7 hs7 hb7; have I7 := hide (I6.out.grow ho7 hg7 hs7); clear ho7 hg7 hs7 hb7; refine Hid.out ?_))
          refine hide ?_
          go_wp2_with fail
          go_roundw
          case rel => exact hide ⟨j + 1, by omega, by go_num, by rw [Ht.out]; exact ok_more Hok.out Hmk.out, by rw [Ht.out, List.flatMap_append, List.flatMap_singleton]; exact I7.out⟩
          case measure => simp [intOf]; omega
        | false =>
          rw [hmk] at k11
          have K11 := hide k11
          clear k11 hmk
          go_wp2_with (go_at_call 11; refine (K11.out _).mono ?_; rintro e W5 ⟨rfl, hb5⟩; have I := hide (I.out.keep hb5))
          go_ret
          exact ⟨rfl, I.out.bel⟩
      · obtain rfl : j = N := by omega
        have hta : ns.take j = ns := List.take_of_length_le (by rw [Hl.out]; exact Nat.le_refl _)
        rw [hta] at Hok
        obtain ⟨m, hm, hmf⟩ := Hbad.out
        have := Hok.out m hm
        rw [hmf] at this
        simp at this

theorem walk (a0 : Option Addr) (len0 cap0 : Nat) (z0 : List Nt) (w : World) (h0 : z0.length = len0) (h1 : ntE.Rd w (.slice a0 len0 cap0) z0) : Calls Try.prog 7 #[.slice a0 len0 cap0] w fun e w' => e = .returned (.bool true) ∧ Below w.heap.size w w' := by
  rcases Nat.lt_or_ge 100 len0 with q | q
  · exact long a0 len0 cap0 w q
  · exact short a0 len0 cap0 z0 w h0 h1 q
end Go.Proofs.Ytfldllmehelngaa.noteMany
