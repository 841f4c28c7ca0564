/- GridFull, the walk. -/
import Derived.Test.YtddcjkbdgneklaaGfm
import Derived.Deep.CutBlock
namespace Go.Proofs.Ytddcjkbdgneklaa
open Go.RowKit
set_option linter.unusedVariables false

set_option maxRecDepth 100000 in
set_option maxHeartbeats 8000000 in
theorem full_walk (a : Option Addr) (n c : Nat) (ds : List Int) (w : World) (hn : ds.length = n) (hv : intE.Rd w (.slice a n c) ds) :
    Calls Try.prog 6 #[.slice a n c] w fun e w' => e = .returned (.bool true) ∧ Below w.heap.size w w' := by
  obtain ⟨w0, rfl⟩ : ∃ w0, w0 = w := ⟨_, rfl⟩
  have KA := hide awake_any
  have Hn := hide hn
  have HV := hide hv
  have K10 : Hid (∀ W, Below w0.heap.size w0 W → _) := hide (fun W hb => new_rw (w0 := w0) a n c ds W hb hn (hv.keep hb))
  by_cases hk : Okd ds
  · have K10' : Hid (∀ W, Below w0.heap.size w0 W → Calls Try.prog 10 #[.slice a n c] W fun e w' => ∃ r a c gs, e = .returned (.tuple #[.pointer (some ⟨r, 0, none⟩), .int .i64 0]) ∧ RW w0 W.heap.size r a c gs (mk ds) w') := hide (fun W hb => (K10.out W hb).mono (by
      rintro e w' ⟨h1, ⟨h2, _⟩ | ⟨_, h2⟩⟩
      · exact absurd hk h2
      · exact h2))
    have hn32 : n ≤ 32 := by have := hk.1; omega
    have i0 : (n : Int) ≤ 32 := by omega
    have HK := hide hk
    obtain ⟨S, hS⟩ : ∃ S, sm ds = S := ⟨_, rfl⟩
    have HS := hide hS
    have hS8 : S ≤ 256 := by
      have := sm_le hk.2 n
      rw [← hn, List.take_length, hS, hn] at this
      omega
    have i1 : (S : Int) ≤ 256 := by omega
    clear hk hn hv K10 hS
    go_enter Try.func6, Try.ntmps6
    go_upto_region 6 with (first
      | (go_at_call 9; refine (KA.out _).mono ?_; rintro e W1 ⟨rfl, hb1⟩; have HB := hide hb1; clear hb1)
      | (go_at_call 10; refine (K10'.out _ HB.out).mono ?_; rintro e W2 ⟨r, a1, c1, gs, rfl, hR⟩; have HR := hide hR; clear hR))
    obtain ⟨BB, hBB⟩ : ∃ b, W1.heap.size = b := ⟨_, rfl⟩
    rw [hBB] at HR
    clear hBB
    go_wp2_with fail
    go_loopw [5, 32] (fun v5 v32 wr => ∃ k s : Nat, v32 = .int .i64 k ∧ v5 = .int .i64 s ∧ k ≤ n ∧ wr = W2 ∧ Hid (sm (ds.take k) = s)) (fun v5 v32 _ => n - (intOf v32).toNat)
    case atStart => exact ⟨0, 0, rfl, rfl, Nat.zero_le _, rfl, hide (by simp [sm, mk, rm])⟩
    case round =>
      obtain ⟨k, s, rfl, rfl, hk, rfl, HX⟩ := hrel
      by_cases hlt : k < n
      · obtain ⟨d, hd⟩ : ∃ d, ds[k]? = some d := ⟨_, List.getElem?_eq_getElem (by rw [Hn.out]; exact hlt)⟩
        obtain ⟨b, off, rfl, z0⟩ := int_at (HV.out.keep HR.out.bel) k d hd
        have hd8 := HK.out.2 d (List.mem_of_getElem? hd)
        have h1 := sm_take hd
        rw [HX.out] at h1
        have h2 := sm_le HK.out.2 (k + 1)
        have H1 : Hid (sm (ds.take (k + 1)) = s + d.toNat) := hide h1
        have j0 : (0 : Int) ≤ (k : Int) := by omega
        have j1 : (k : Int) < (n : Int) := by omega
        obtain ⟨dn, rfl⟩ : ∃ dn : Nat, d = (dn : Int) := ⟨d.toNat, by omega⟩
        rw [Int.toNat_natCast] at H1
        have j2 : (s : Int) + (dn : Int) ≤ 300 := by rw [h1] at h2; simp at h2; omega
        have j3 : (dn : Int) ≤ 8 := hd8.2
        clear hd h1 h2 hd8
        go_wp2_with fail
        go_roundw
        case rel => exact ⟨k + 1, s + dn, by go_num, by go_num, by omega, trivial, H1⟩
        case measure => simp [intOf]; omega
      · obtain rfl : k = n := by omega
        have j1 : ¬ (k : Int) < (k : Int) := by omega
        have e1 : s = S := by rw [← HX.out, ← Hn.out, List.take_length]; exact HS.out
        subst e1
        clear hlt
        go_wp2_with fail
        have HR0 : Hid (rm (mk ds) = s - (1 - 1)) := hide HS.out
        go_loopw [8] (fun v8 wx => ∃ (t : Nat) (R : Rack), v8 = .int .i64 t ∧ 1 ≤ t ∧ t ≤ 31 ∧ Hid (RW w0 BB r a1 c1 gs R wx) ∧ Hid (Tb R t) ∧ Hid (rm R = s - (t - 1))) (fun v8 _ => 31 - (intOf v8).toNat)
        case atStart => exact ⟨1, mk ds, rfl, by omega, by omega, HR, hide (tb_mk _ _), HR0⟩
        case round =>
          obtain ⟨t, R, rfl, ht1, ht2, HRx, HT, HM⟩ := hrel
          by_cases htl : t ≤ 30
          · have q0 : (t : Int) ≤ 30 := by omega
            have K13 := hide (HRx.out.put (t : Int))
            have hcase := put_new (R := R) (t := (t : Int)) (by omega) (fun i m hi hm => by have := HT.out i m _ hi hm; omega)
            have HT1 : Hid (Tb (putR R t) ((t + 1 : Nat) : Int)) := hide (by have := HT.out.put; simpa using this)
            rw [HM.out] at hcase
            rcases hcase with ⟨h1, h2, h3⟩ | ⟨h1, h2, h3, h4⟩
            · rw [h2] at K13
              have HM1 : Hid (rm (putR R t) = s - (t + 1 - 1)) := hide (by omega)
              have q1 : (t : Int) ≤ (s : Int) := by omega
              generalize putR R t = R' at *
              generalize putN R t = N' at *
              clear h2 h3 h1
              go_wp2_with (go_at_call 13; refine K13.out.mono ?_; rintro e W3 ⟨rfl, hR, _⟩; have HR3 := hide hR; clear hR)
              go_roundw
              case rel => exact ⟨t + 1, R', by go_num, by omega, by omega, HR3, HT1, HM1⟩
              case measure => simp [intOf]; omega
            · rw [h2, h3, h4] at K13
              rw [h4] at HT1
              have HM1 : Hid (rm R = s - (t + 1 - 1)) := hide (by have := HM.out; omega)
              have q1 : ¬ (t : Int) ≤ (s : Int) := by omega
              clear h2 h3 h4 h1
              go_wp2_with (go_at_call 13; refine K13.out.mono ?_; rintro e W3 ⟨rfl, hR, _⟩; have HR3 := hide hR; clear hR)
              go_roundw
              case rel => exact ⟨t + 1, R, by go_num, by omega, by omega, HR3, HT1, HM1⟩
              case measure => simp [intOf]; omega
          · obtain rfl : t = 31 := by omega
            have K24 := hide HRx.out.room
            rw [HM.out] at K24
            obtain ⟨x, hx⟩ : ∃ x, s - (31 - 1) = x := ⟨_, rfl⟩
            rw [hx] at K24
            by_cases h30 : 30 < s
            · have e1 : (s : Int) - 30 = (x : Int) := by omega
              have e3 : (0 : Int) < (x : Int) := by omega
              have e4 : ¬ (x : Int) < 0 := by omega
              have e5 : (0 : Int) ≤ (x : Int) := by omega
              clear hx h30
              go_wp2_with (go_at_call 24; refine K24.out.mono ?_; rintro e W3 ⟨rfl, hR, _⟩; have HR3 := hide hR; clear hR)
              all_goals
                go_ret
                first
                  | exact ⟨rfl, HR3.out.bel⟩
                  | exact ⟨by simp [e1], HR3.out.bel⟩
                  | (exfalso; omega)
            · obtain rfl : x = 0 := by omega
              have e1 : (s : Int) - 30 ≤ 0 := by omega
              have e3 : ¬ (0 : Int) < (s : Int) - 30 := by omega
              have e4 : max 0 ((s : Int) - 30) = 0 := by omega
              clear hx h30
              go_wp2_with (go_at_call 24; refine K24.out.mono ?_; rintro e W3 ⟨rfl, hR, _⟩; have HR3 := hide hR; clear hR)
              all_goals
                go_ret
                first
                  | exact ⟨rfl, HR3.out.bel⟩
                  | exact ⟨by simp [e4], HR3.out.bel⟩
                  | (exfalso; omega)
  · have K10' : Hid (∀ W, Below w0.heap.size w0 W → Calls Try.prog 10 #[.slice a n c] W fun e w' => e = .returned (.tuple #[.pointer none, .int .i64 1]) ∧ Below w0.heap.size w0 w') := hide (fun W hb => (K10.out W hb).mono (by
      rintro e w' ⟨h1, ⟨_, h2⟩ | ⟨h2, _⟩⟩
      · exact ⟨h2, hb.trans (h1.mono hb.size)⟩
      · exact absurd h2 hk))
    clear hk hn hv K10
    go_enter Try.func6, Try.ntmps6
    go_wp2_with (first
      | (go_at_call 9; refine (KA.out _).mono ?_; rintro e W1 ⟨rfl, hb1⟩; have HB := hide hb1; clear hb1)
      | (go_at_call 10; refine (K10'.out _ HB.out).mono ?_; rintro e W2 ⟨rfl, hb2⟩; have HB2 := hide hb2; clear hb2))
    go_ret
    exact ⟨rfl, HB2.out⟩
end Go.Proofs.Ytddcjkbdgneklaa
