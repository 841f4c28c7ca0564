/- The walk of NoteCut. -/
import Derived.Test.YtfldllmehelngaaNag
namespace Go.Proofs.Ytfldllmehelngaa.noteCut
open Go.ChangeShapes Go.WideShapes Go.ChangeAt Go.RowKit
set_option linter.unusedVariables false

theorem at_is (x : Int) (L : Nat) (hL : L ≤ 100000) : ∃ k : Nat, wrap64 ((IntKind.u64.wrap x).tmod ((L : Int) + 1)) = (k : Int) ∧ (IntKind.u64.wrap x).tmod ((L : Int) + 1) = (k : Int) ∧ k ≤ L := by
  have h0 : 0 ≤ IntKind.u64.wrap x := by simp [IntKind.wrap, IntKind.bits, IntKind.signed]; omega
  rw [Int.tmod_eq_emod_of_nonneg h0]
  generalize IntKind.u64.wrap x = b at h0
  have h1 := Int.emod_nonneg b (show (L : Int) + 1 ≠ 0 by omega)
  have h2 := Int.emod_lt_of_pos b (show 0 < (L : Int) + 1 by omega)
  obtain ⟨k, hk⟩ := Int.eq_ofNat_of_zero_le h1
  refine ⟨k, ?_, hk, by omega⟩
  rw [hk]
  unfold wrap64
  omega

set_option maxHeartbeats 2000000 in
theorem long (a : Option Addr) (n c : Nat) (x : Int) (w : World) (hn : 100 < n) : Calls Try.prog 5 #[.slice a n c, .int .i64 x] w fun e w' => e = .returned (.bool true) ∧ Below w.heap.size w w' := by
  have K9 := hide awake_any
  have n1 : (100 : Int) < (n : Int) := by omega
  go_enter Try.func5, Try.ntmps5
  go_wp2_with (go_at_call 9; refine (K9.out _).mono ?_; rintro e w1 ⟨rfl, hb1⟩; first | have HB := hide (HB.out.trans (hb1.mono HB.out.size)) | have HB := hide hb1; clear hb1)
  go_ret
  exact ⟨rfl, HB.out⟩

set_option maxHeartbeats 4000000 in
set_option maxRecDepth 100000 in
theorem short (a : Option Addr) (n c : Nat) (ns : List Nt) (x : Int) (w : World) (hl : ns.length = n) (hd : ntE.Rd w (.slice a n c) ns) (hc : n ≤ c) (hn : n ≤ 100) : Calls Try.prog 5 #[.slice a n c, .int .i64 x] w fun e w' => e = .returned (.bool true) ∧ Below w.heap.size w w' := by
  have K9 := hide awake_any
  have n1 : ¬ ((100 : Int) < (n : Int)) := by omega
  have HD := hide hd
  have Hl := hide hl
  have K19 : Hid (∀ W, Below w.heap.size w W → Calls Try.prog 19 #[.slice a n c] W fun e w' => WriR ns W e w') := hide (fun W hW => write_any (HD.out.keep hW) Hl.out (by omega))
  clear hd hl
  go_enter Try.func5, Try.ntmps5
  go_upto_region 4 with (first | (go_at_call 9; refine (K9.out _).mono ?_; rintro e w1 ⟨rfl, hb1⟩) | (go_at_call 19; refine (K19.out _ hb1).mono ?_; rintro e w2 ⟨v, cc, rfl, hwri, hb2⟩))
  have HB := hide (hb1.trans (hb2.mono hb1.size))
  clear hb1
  rcases hwri with ⟨hok, rfl, hown⟩ | ⟨_, rfl, rfl⟩
  · obtain ⟨aV, cV, rfl, hsl⟩ := Sl.own hown
    have hL1 := flat_bts_len hok
    have Hin := hide (flat_bts_in hok)
    obtain ⟨L, hL⟩ : ∃ L, (ns.flatMap Nt.bts).length = L := ⟨_, rfl⟩
    rw [hL] at hsl hL1 ⊢
    have HL := hide hL
    have Hok := hide hok
    have Hsl := hide hsl
    have hcV := hsl.cap
    have hL2 : L ≤ 1900 := by rw [Hl.out] at hL1; omega
    obtain ⟨k, hk1, hk2, hk3⟩ := at_is x L (by omega)
    have l1 : (L : Int) ≤ 1900 := by omega
    have l2 : ¬ ((L : Int) + 1 = 0) := by omega
    have Hk3 := hide hk3
    have Hk2 := hide hk2
    clear hown hL hok hsl hL1 hk2 hk3 K19 K9
    go_upto_region 7 with fail
    rw [hk1]
    clear hk1
    have k1 : (k : Int) ≤ (cV : Int) := by have := Hk3.out; omega
    have k2 : (k : Int) ≤ (L : Int) := by have := Hk3.out; omega
    have K15 := hide (read_any (Hsl.out.take k Hk3.out) (Hin.out.take k) (by have := Hk3.out; omega))
    go_upto_region 8 with (go_at_call 15; refine K15.out.mono ?_; rintro e w3 ⟨vG, got, rG, rfl, hR, hoG, hb3⟩)
    have hcut := Rds.cut Hok.out (by rw [HL.out]; exact Hk3.out) hR
    rw [HL.out, Hl.out] at hcut
    obtain ⟨G, hG⟩ : ∃ G, got.length = G := ⟨_, rfl⟩
    obtain ⟨F, hF⟩ : ∃ F, tot got = F := ⟨_, rfl⟩
    rw [show (got.flatMap Nt.bts).length = F from hF] at hcut
    rw [hF]
    rw [hG] at hcut
    obtain ⟨c1, c2, c3, c4, c5⟩ := hcut
    have Hc2 := hide c2
    have Hc4 := hide c4
    have Hc5 := hide c5
    have HoG := hide hoG
    have HGl := hide hG
    clear c2 c4 c5 hF hG hR hoG K15
    have K15 := hide (read_any (Hsl.out.keep hb3) Hin.out (by omega))
    go_upto_region 9 with (go_at_call 15; refine K15.out.mono ?_; rintro e w4 ⟨vW, whole, rW, rfl, hRW, hoW, hb4⟩)
    have hu := (rds_all Hok.out).uniq hRW
    obtain ⟨hu1, _⟩ := hu
    rw [← hu1] at hoW ⊢
    rw [show tot ns = L from HL.out]
    clear hRW hu1 K15
    have hb34 := hb3.trans (hb4.mono hb3.size)
    have HB4 := hide (HB.out.trans (hb34.mono HB.out.size))
    have HoG4 := hide ((HoG.out.keep hb4).rd)
    obtain ⟨aG, cG, eG⟩ := HoG.out.rd.form
    rw [HGl.out] at eG
    subst eG
    have Kw : Hid (∀ W, Below w4.heap.size w4 W → Calls Try.prog 18 #[vW, .slice a n c] W fun e w' => e = .returned (.bool true) ∧ Below w4.heap.size w4 w') := hide (fun W hW => (same_eq ((hoW.keep hW).rd) ((HD.out.keep HB4.out).keep hW) (by rw [Hl.out]; omega)).mono (by rintro e w' ⟨he, q, rfl⟩; exact ⟨he, hW.trans ((below_drew W q).mono hW.size)⟩))
    have Kg : Hid (∀ W, Below w4.heap.size w4 W → Calls Try.prog 18 #[.slice aG G cG, .slice a G c] W fun e w' => e = .returned (.bool true) ∧ Below w4.heap.size w4 w') := hide (fun W hW => (same_eq (HoG4.out.keep hW) (by
      have := El.Rd.take ((HD.out.keep HB4.out).keep hW) G (by rw [Hl.out]; exact c1)
      rw [Hc2.out] at this
      exact this) (by rw [HGl.out]; omega)).mono (by rintro e w' ⟨he, q, rfl⟩; exact ⟨he, hW.trans ((below_drew W q).mono hW.size)⟩))
    have g1 : (G : Int) ≤ (c : Int) := by omega
    have g2 : ¬ ((n : Int) < (G : Int)) := by omega
    have g3 : ¬ ((k : Int) < (F : Int)) := by omega
    have Hb40 := hide (Below.refl w4.heap.size w4)
    clear hb3 hb4 hb34 HoG HoG4
    go_upto_region 11 with (first | (go_at_call_of 18 vW; refine (Kw.out _ Hb40.out).mono ?_; rintro e w5 ⟨rfl, hb5⟩) | (go_at_call_of 18 (Value.slice aG G cG); refine (Kg.out _ hb5).mono ?_; rintro e w6 ⟨rfl, hb6⟩))
    have HB6 := hide (HB4.out.trans (hb6.mono HB4.out.size))
    by_cases hGn : G = n
    · have hkL : k = L := Hc4.out hGn
      obtain ⟨g5, g6⟩ : ((G : Int) == (n : Int)) = true ∧ ((k : Int) == (L : Int)) = true := ⟨by rw [hGn]; simp, by rw [hkL]; simp⟩
      clear hGn hkL Kw Kg
      go_wp2_with fail
      go_ret
      exact ⟨rfl, HB6.out⟩
    · have g5 : ((G : Int) == (n : Int)) = false := by rw [beq_eq_false_iff_ne]; omega
      have g7 : (G : Int) < (n : Int) := by omega
      obtain ⟨z, hz⟩ : ∃ z, ns[G]? = some z := ⟨_, List.getElem?_eq_getElem (by rw [Hl.out]; omega)⟩
      obtain ⟨b1, o1, rfl, x0, x1, x2, x3⟩ := nt_at (HD.out.keep HB6.out) G z hz
      have hlast := Hc5.out z hz
      have hzk := Hok.out z (List.mem_of_getElem? hz)
      obtain ⟨zk, za, zb, zc⟩ := z
      obtain ⟨M, hM⟩ : ∃ M, (Nt.mk zk za zb zc).bts.length = M := ⟨_, rfl⟩
      rw [hM] at hlast
      have K10 := hide (fun W => encode_yes zk za zb zc W hzk)
      have g8 : (k : Int) - (F : Int) < (M : Int) := by omega
      have HM := hide hM
      clear hz hzk hM hlast hGn Kw Kg
      go_upto_region 14 with (go_at_call 10; refine (K10.out _).mono ?_; rintro e w7 ⟨v7, rfl, hown7, hb7⟩)
      obtain ⟨a7, c7, e7⟩ := hown7.rd.form
      rw [HM.out] at e7
      subst e7
      go_wp2_with fail
      go_ret
      exact ⟨rfl, HB6.out.trans (hb7.mono HB6.out.size)⟩
  · clear K19 K9
    go_wp2_with fail
    go_ret
    exact ⟨rfl, HB.out⟩

theorem walk (a0 : Option Addr) (len0 cap0 : Nat) (z0 : List Nt) (n1 : Int) (w : World) (h0 : z0.length = len0) (h1 : ntE.Rd w (.slice a0 len0 cap0) z0) (h2 : len0 ≤ cap0) (h3 : -9223372036854775808 ≤ n1 ∧ n1 ≤ 9223372036854775807) : Calls Try.prog 5 #[.slice a0 len0 cap0, .int .i64 n1] w fun e w' => e = .returned (.bool true) ∧ Below w.heap.size w w' := by
  rcases Nat.lt_or_ge 100 len0 with q | q
  · exact long a0 len0 cap0 n1 w q
  · exact short a0 len0 cap0 z0 n1 w h0 h1 h2 q
end Go.Proofs.Ytfldllmehelngaa.noteCut
