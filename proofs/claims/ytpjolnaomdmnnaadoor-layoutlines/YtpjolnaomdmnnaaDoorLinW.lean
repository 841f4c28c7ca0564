/- The walk of LayoutLines. -/
import Derived.Test.YtpjolnaomdmnnaaDoorLinM
import Derived.Test.YtpjolnaomdmnnaaDoorBakW
import Derived.Test.YtpjolnaomdmnnaaDoorOw2
import Derived.Test.YtpjolnaomdmnnaaDoorRgd
namespace Go.Proofs.YtpjolnaomdmnnaaDoor.layoutLines
open Go.ChangeShapes Go.WideShapes Go.ChangeAt Go.RowKit
set_option linter.unusedVariables false

open layoutBack (app_list left_p Lft good_names boxg)
theorem mod_in (a : Int) (m : Nat) (hm : 1 ≤ m) (hm' : m ≤ 1000) : ∃ N : Nat, wrap64 ((IntKind.u64.wrap a).tmod (m : Int)) = (N : Int) ∧ N < m := by
  have h0 : 0 ≤ IntKind.u64.wrap a := by simp [IntKind.wrap, IntKind.bits, IntKind.signed]; omega
  have e : (IntKind.u64.wrap a).tmod (m : Int) = IntKind.u64.wrap a % (m : Int) := Int.tmod_eq_emod_of_nonneg h0
  rw [e]
  generalize IntKind.u64.wrap a = b at h0
  have h1 : 0 ≤ b % (m : Int) := Int.emod_nonneg _ (by omega)
  have h2 : b % (m : Int) < (m : Int) := Int.emod_lt_of_pos _ (by omega)
  refine ⟨(b % (m : Int)).toNat, ?_, by omega⟩
  unfold wrap64
  omega
theorem ext_list (s : ByteArray) (i j : Nat) : (s.extract i j).data.toList = (s.data.toList.take j).drop i := by
  rw [ByteArray.data_extract]
  simp [List.drop_take]

set_option maxRecDepth 100000 in
set_option maxHeartbeats 8000000 in
theorem walk (a0 b0 : Option Addr) (c0 e0 : Nat) (ns0 : List Nd) (es0 : List Ed) (n1 : Int) (bad : ByteArray) (w : World) (rn0 : ndE.Rd w (.slice a0 ns0.length c0) ns0) (re0 : edE.Rd w (.slice b0 es0.length e0) es0) (rs0 : ∀ p ∈ ns0, p.name.size ≤ maxLen) (L : Laid w) :
    Calls Tryd.prog 8 #[.agg #[.slice a0 ns0.length c0, .slice b0 es0.length e0], .int .i64 n1, .string bad] w fun e w' => e = .returned (.bool true) ∧ Below w.heap.size w w' := by
  obtain ⟨n, hn⟩ : ∃ n, ns0.length = n := ⟨_, rfl⟩
  obtain ⟨m, hm⟩ : ∃ m, es0.length = m := ⟨_, rfl⟩
  have K10 : Hid (∀ W, Below w.heap.size w W → Calls Tryd.prog 10 #[.agg #[.slice a0 ns0.length c0, .slice b0 es0.length e0]] W fun e w' => e = .returned (.bool (good ns0 es0)) ∧ Below W.heap.size W w') := hide (fun W h => rgood_any a0 b0 c0 e0 ns0 es0 W (rn0.keep h) (re0.keep h))
  have K12 : Hid (∀ W, Below w.heap.size w W → good ns0 es0 = true → Calls Tryd.prog 12 #[.agg #[.slice a0 ns0.length c0, .slice b0 es0.length e0]] W fun e w' => ∃ aN aE cN cE, e = .returned (.agg #[.slice aN n cN, .slice aE m cE]) ∧ ndE.Rd w' (.slice aN n cN) ns0 ∧ edE.Rd w' (.slice aE m cE) es0 ∧ m ≤ cE ∧ Below W.heap.size W w') := hide (fun W h hg => by
    obtain ⟨g1, g2, _⟩ := good_names hg
    refine (copy_any a0 b0 c0 e0 ns0 es0 W (rn0.keep h) (re0.keep h) (by omega) (by omega)).mono ?_
    rintro e w' ⟨vN, vE, rfl, h1, h2, hb⟩
    obtain ⟨aN, cN, rfl⟩ := h1.rd.form
    obtain ⟨aE, cE, rfl⟩ := h2.rd.form
    have hc := own_cap h2
    rw [hn] at h1 ⊢
    rw [hm] at h2 hc ⊢
    exact ⟨aN, aE, cN, cE, rfl, h1.rd, h2.rd, hc, hb⟩)
  rw [hn, hm] at K10 K12
  rw [hn, hm]
  obtain ⟨W0, hW0⟩ : ∃ W0, w.alloc (.cells #[.slice a0 n c0, .slice b0 m e0] 25) = W0 := ⟨_, rfl⟩
  have bA : Below w.heap.size w W0 := by rw [← hW0]; exact (Below.refl _ _).alloc (Nat.le_refl _) _
  have hbox : W0.heap[w.heap.size]? = some (.cells #[.slice a0 n c0, .slice b0 m e0] 25) := by rw [← hW0]; exact heap_new _ _
  have HBOX := hide hbox
  have HA := hide bA
  have HW0 := hide hW0
  have K9 := hide (awake_any W0 (L.keep L.size bA))
  have HLD : Hid (∀ W, Below w.heap.size w W → Laid W) := hide (fun W h => L.keep L.size h)
  have Hn := hide hn
  have Hm := hide hm
  clear rn0 re0 rs0 L hn hm bA hbox hW0
  obtain ⟨gd, hgd⟩ : ∃ gd, good ns0 es0 = gd := ⟨_, rfl⟩
  rw [hgd] at K10 K12
  cases gd with
  | false =>
    clear hgd K12
    go_enter Tryd.func8, Tryd.ntmps8
    go_upto_region 1 with fail
    rw [HW0.out]
    clear HW0
    go_upto_region 3 with (go_at_call 9; refine (K9.out).mono ?_; rintro e W1 ⟨rfl, hb1⟩; have Hb1 := hide hb1; obtain ⟨x0, x1⟩ := boxg HBOX.out hb1; clear hb1)
    go_wp2_with (go_at_call 10; refine (K10.out _ (HA.out.trans (Hb1.out.mono HA.out.size))).mono ?_; rintro e W2 ⟨rfl, hb2⟩; have Hb2 := hide (Hb1.out.trans (hb2.mono Hb1.out.size)); clear hb2)
    go_ret
    exact ⟨rfl, HA.out.trans (Hb2.out.mono HA.out.size)⟩
  | true =>
  obtain ⟨hn40, hm12, hnames⟩ := good_names hgd
  rw [Hn.out] at hn40
  rw [Hm.out] at hm12
  by_cases hm6 : m > 60
  · have f6 : (m : Int) > 60 := by omega
    clear hgd K12 hnames
    go_enter Tryd.func8, Tryd.ntmps8
    go_upto_region 1 with fail
    rw [HW0.out]
    clear HW0
    go_upto_region 3 with (go_at_call 9; refine (K9.out).mono ?_; rintro e W1 ⟨rfl, hb1⟩; have Hb1 := hide hb1; obtain ⟨x0, x1⟩ := boxg HBOX.out hb1; clear hb1)
    go_wp2_with (go_at_call 10; refine (K10.out _ (HA.out.trans (Hb1.out.mono HA.out.size))).mono ?_; rintro e W2 ⟨rfl, hb2⟩; have Hb2 := hide (Hb1.out.trans (hb2.mono Hb1.out.size)); obtain ⟨x0, x1⟩ := boxg HBOX.out Hb2.out; clear hb2)
    go_ret
    exact ⟨rfl, HA.out.trans (Hb2.out.mono HA.out.size)⟩
  have f6 : ¬ (m : Int) > 60 := by omega
  have K11 : Hid (∀ W a c a' c', Below w.heap.size w W → ndE.Rd W (.slice a n c) ns0 → edE.Rd W (.slice a' m c') es0 → m ≤ c' → Calls Tryd.prog 11 #[.agg #[.slice a n c, .slice a' m c']] W fun e w' => e = .returned (.tuple #[.string (str (showL ns0 es0)), .int .i64 0]) ∧ Below W.heap.size W w') := hide (fun W a c a' c' h h1 h2 h3 => show_ok a a' c c' n m ns0 es0 W (HLD.out W h) Hn.out Hm.out h1 h2 h3 hnames hgd)
  have K14 : Hid (∀ W t, Below w.heap.size w W → Calls Tryd.prog 14 #[.string t] W fun e w' => Lft (parseS firstAt t) W.heap.size e w' ∧ Below W.heap.size W w') := hide (fun W t h => left_p t W (HLD.out W h))
  obtain ⟨bs, hbs⟩ : ∃ bs, bodies ns0 es0 = bs := ⟨_, rfl⟩
  have Hbl : Hid (bs.length = n + m) := hide (by rw [← hbs, bodies_len, Hn.out, Hm.out])
  have Hbw : Hid (∀ b ∈ bs, Wo 10 b) := hide (by rw [← hbs]; exact bodies_wo hgd)
  obtain ⟨sh, hsh⟩ : ∃ sh, str (showL ns0 es0) = sh := ⟨_, rfl⟩
  have Hsl : Hid (sh.data.toList = flt bs) := hide (by rw [← hsh, str_list, show_flt, hbs])
  have Hss : Hid (sh.size = (flt bs).length) := hide (by rw [← hsh, str_size, show_flt, hbs])
  have hs4 : sh.size ≤ 4000 := by rw [← hsh, str_size]; exact show_small hgd (by rw [Hm.out]; omega)
  have Hbad : Hid (∀ (a : Nat) (b : List UInt8), a ≤ bs.length → Wo 10 b → (flt (bs.take a) ++ (63 :: b) ++ 10 :: flt (bs.drop a)).length ≤ 4096 → parseS firstAt (str (flt (bs.take a) ++ (63 :: b) ++ 10 :: flt (bs.drop a))) = (([], []), a + 1, 60)) := hide (fun a b h1 h2 h3 => by
    subst hbs
    exact bad_parse hgd a h1 h2 h3)
  rw [hsh] at K11
  have K12b := hide (fun W h => K12.out W h rfl)
  clear hgd hnames hbs hsh hm6
  -- the line that is none: its bytes
  obtain ⟨zs, hzs⟩ : ∃ zs, bad.size = zs := ⟨_, rfl⟩
  obtain ⟨k, hk⟩ : ∃ k, min zs 40 = k := ⟨_, rfl⟩
  obtain ⟨X0, hX0⟩ : ∃ X0, (⟨#[63]⟩ ++ bad.extract 0 k : ByteArray) = X0 := ⟨_, rfl⟩
  have HX0l : Hid (X0.data.toList = 63 :: bad.data.toList.take k) := hide (by rw [← hX0, app_list, ext_list]; rfl)
  have hX0s : X0.size = k + 1 := by
    have h1 : X0.size = X0.data.toList.length := by rw [Array.length_toList]; rfl
    have h2 : bad.data.toList.length = zs := by rw [← hzs, Array.length_toList]; rfl
    rw [h1, HX0l.out, List.length_cons, List.length_take, h2]; omega
  have hes : (bad.extract 0 k).size = k := by
    have h1 : (bad.extract 0 k).size = (bad.extract 0 k).data.toList.length := by rw [Array.length_toList]; rfl
    have h2 : bad.data.toList.length = zs := by rw [← hzs, Array.length_toList]; rfl
    rw [h1, ext_list, List.drop_zero, List.length_take, h2]; omega
  have HX0 := hide hX0
  have k2 : (0 : Int) ≤ (k : Int) := by omega
  have k3 : (k : Int) ≤ 40 := by omega
  have k4 : (k : Int) ≤ (zs : Int) := by omega
  have l2 : (n : Int) ≤ 40 := by omega
  have l4 : (m : Int) ≤ 60 := by omega
  go_enter Tryd.func8, Tryd.ntmps8
  go_upto_region 1 with fail
  rw [HW0.out]
  clear HW0
  go_upto_region 3 with (go_at_call 9; refine (K9.out).mono ?_; rintro e W1 ⟨rfl, hb1⟩; have Hb1 := hide hb1; obtain ⟨x0, x1⟩ := boxg HBOX.out hb1; clear hb1)
  go_upto_region 5 with (go_at_call 10; refine (K10.out _ (HA.out.trans (Hb1.out.mono HA.out.size))).mono ?_; rintro e W2 ⟨rfl, hb2⟩; have Hb2 := hide (Hb1.out.trans (hb2.mono Hb1.out.size)); obtain ⟨x0, x1⟩ := boxg HBOX.out Hb2.out; clear hb2)
  go_upto_region 8 with (first
    | (go_at_call 12; refine (K12b.out _ (HA.out.trans (Hb2.out.mono HA.out.size))).mono ?_; rintro e W3 ⟨aN, aE, cN, cE, rfl, h1, h2, h3, hb3⟩; have HR3 := hide (And.intro h1 (And.intro h2 h3)); have Hb3 := hide (Hb2.out.trans (hb3.mono Hb2.out.size)); clear h1 h2 h3 hb3)
    | (go_at_call 11; refine (K11.out _ _ _ _ _ (HA.out.trans (Hb3.out.mono HA.out.size)) HR3.out.1 HR3.out.2.1 HR3.out.2.2).mono ?_; rintro e W7 ⟨rfl, hb4⟩; have Hb7 := hide (Hb3.out.trans (hb4.mono Hb3.out.size)); clear hb4))
  clear K9 K10 K11 K12 K12b Hb1 Hb2 x0 x1
  obtain ⟨W8, cap, hcv, hBt, hb8, hcap⟩ := conv_bytes W7 X0
  have HBt := hide hBt
  have HB8 := hide hb8
  obtain ⟨g, hgg⟩ : ∃ g, W7.heap.size = g := ⟨_, rfl⟩
  rw [hgg] at hcv HBt
  rw [hX0s] at hcv
  have Hgg := hide hgg
  clear hBt hb8 hgg hX0
  have e1 : (bad.extract 0 k).size ≤ 9223372036854775806 := by omega
  have e2 : 1 + (bad.extract 0 k).size ≤ 9223372036854775807 := by omega
  go_cut [9] (fun v9 wx => v9 = .slice (some ⟨g, 0, none⟩) (k + 1) cap ∧ wx = W8)
  case first =>
    have hmn : (min (zs : Int) 40).toNat = k := by omega
    have hcv2 : (convert 9 40 (.string (⟨#[63]⟩ ++ bad.extract 0 (min (zs : Int) 40).toNat))).run Tryd.prog W7 = .ok (.slice (some ⟨g, 0, none⟩) (k + 1) cap) W8 := by rw [hmn, HX0.out]; exact hcv
    clear hcv hmn
    go_wp2_with fail
    go_meet
    exact ⟨rfl, rfl⟩
  case rest =>
  obtain ⟨rfl, hwx⟩ := hcut
  obtain rfl : W8 = wc := hwx.symm
  clear hcv e1 e2 hes hk
  have HL0 : Hid (X0.data.toList.length = k + 1 ∧ X0.data.toList[0]? = some 63) := hide ⟨by rw [← hX0s, Array.length_toList]; rfl, by rw [HX0l.out]; rfl⟩
  obtain ⟨K, hK⟩ : ∃ K, k + 1 = K := ⟨_, rfl⟩
  rw [hK] at HL0
  rw [hK]
  have kk1 : (K : Int) ≤ 41 := by omega
  clear hX0s
  go_wp2_with fail
  go_loopw [45] (fun v45 wr => ∃ (i : Nat) (l : List UInt8), i ≤ K ∧ v45 = .int .i64 (i : Int) ∧ Hid (Bt wr g l ∧ l.length = K ∧ l[0]? = some 63 ∧ ∀ j, j < i → ∀ x, l[j]? = some x → x ≠ 10) ∧ Hid (Below W7.heap.size W7 wr)) (fun v45 _ => K - (intOf v45).toNat)
  case atStart => exact ⟨0, _, by omega, rfl, hide ⟨HBt.out, HL0.out.1, HL0.out.2, fun j hj => by omega⟩, HB8⟩
  case round =>
    obtain ⟨i, l, hi, rfl, HX, HB⟩ := hrel
    by_cases hlt : i < K
    · obtain ⟨x, hx⟩ : ∃ x, l[i]? = some x := ⟨_, List.getElem?_eq_getElem (by rw [HX.out.2.1]; exact hlt)⟩
      obtain ⟨cx, fx⟩ := HX.out.1.at i x hx
      have j0 : (0 : Int) ≤ (i : Int) := by omega
      have j1 : (i : Int) < (K : Int) := by omega
      by_cases h10 : x = 10
      · subst h10
        have cx' : wr.cell? ⟨g, i, none⟩ = some (.int .u8 10) := cx
        have HX1 : Hid (Bt (wr.setCell ⟨g, i, none⟩ (.int .u8 32)) g (l.set i 32) ∧ (l.set i 32).length = K ∧ (l.set i 32)[0]? = some 63 ∧ ∀ j, j < i + 1 → ∀ x, (l.set i 32)[j]? = some x → x ≠ 10) := hide ⟨HX.out.1.set i 32, by rw [List.length_set]; exact HX.out.2.1, by
          rw [List.getElem?_set]
          by_cases e : i = 0
          · subst e
            rw [HX.out.2.2.1] at hx
            exact absurd (Option.some.inj hx) (by decide)
          · rw [if_neg e]; exact HX.out.2.2.1, fun j hj y hy => by
          rw [List.getElem?_set] at hy
          by_cases e : i = j
          · rw [if_pos e] at hy
            split at hy
            · obtain rfl := Option.some.inj hy
              decide
            · cases hy
          · rw [if_neg e] at hy
            exact HX.out.2.2.2 j (by omega) y hy⟩
        have HB1 : Hid (Below W7.heap.size W7 (wr.setCell ⟨g, i, none⟩ (.int .u8 32))) := hide (HB.out.setCell (p := ⟨g, i, none⟩) (by show W7.heap.size ≤ g; have := Hgg.out; omega) _)
        clear cx hx
        go_wp2_with fail
        go_roundw
        case rel => exact ⟨i + 1, _, by omega, by go_num, HX1, HB1⟩
        case measure => simp [intOf]; omega
      · have hq : ((x.toNat : Int) == 10) = false := beq_eq_false_iff_ne.2 (fun e => h10 (UInt8.toNat_inj.1 (by show x.toNat = 10; omega)))
        have HX1 : Hid (Bt wr g l ∧ l.length = K ∧ l[0]? = some 63 ∧ ∀ j, j < i + 1 → ∀ x, l[j]? = some x → x ≠ 10) := hide ⟨HX.out.1, HX.out.2.1, HX.out.2.2.1, fun j hj y hy => by
          rcases Nat.lt_or_ge j i with h' | h'
          · exact HX.out.2.2.2 j h' y hy
          · obtain rfl : j = i := by omega
            rw [hx] at hy
            obtain rfl := Option.some.inj hy
            exact h10⟩
        clear hx h10
        generalize (x.toNat : Int) = xn at *
        go_wp2_with fail
        go_roundw
        case rel => exact ⟨i + 1, l, by omega, by go_num, HX1, HB⟩
        case measure => simp [intOf]; omega
    · obtain rfl : i = K := by omega
      have j1 : ¬ (i : Int) < (i : Int) := by omega
      obtain ⟨wR, hwR⟩ : ∃ W, W = wr := ⟨_, rfl⟩
      rw [← hwR] at HX HB
      rw [← hwR]
      clear hwR
      obtain ⟨l', hl'⟩ : ∃ l', l = 63 :: l' := by
        have h := HX.out.2.2.1
        cases l with
        | nil => simp at h
        | cons y t => simp at h; exact ⟨t, by rw [h]⟩
      have Hwo : Hid (Wo 10 l') := hide (fun h => by
        have h2 : (10 : UInt8) ∈ l := by rw [hl']; exact List.mem_cons_of_mem _ h
        obtain ⟨j, hj⟩ := List.getElem?_of_mem h2
        have hjl : j < l.length := by
          rcases Nat.lt_or_ge j l.length with h' | h'
          · exact h'
          · rw [List.getElem?_eq_none h'] at hj; cases hj
        exact HX.out.2.2.2 j (by rw [← HX.out.2.1]; exact hjl) 10 hj rfl)
      have Hll : Hid (l'.length + 1 = i) := hide (by have := HX.out.2.1; rw [hl'] at this; simpa using this)
      have HBt2 : Hid (Bt wR g (63 :: l')) := hide (by rw [← hl']; exact HX.out.1)
      have Hb9 : Hid (Below W0.heap.size W0 wR) := hide (Hb7.out.trans (HB.out.mono Hb7.out.size))
      obtain ⟨x0, x1⟩ := boxg HBOX.out Hb9.out
      obtain ⟨A, hA, hA1⟩ := mod_in n1 (n + m + 1) (by omega) (by omega)
      have huw : IntKind.u64.wrap ((n : Int) + (m : Int) + 1) = (n : Int) + (m : Int) + 1 := by unfold IntKind.wrap; simp [IntKind.bits, IntKind.signed]; omega
      have hn0 : ¬ (n : Int) + (m : Int) + 1 = 0 := by omega
      rw [show ((n + m + 1 : Nat) : Int) = (n : Int) + (m : Int) + 1 by omega] at hA
      have HA1 : Hid (A ≤ bs.length) := hide (by rw [Hbl.out]; omega)
      have a1 : (A : Int) ≤ 100 := by omega
      have a0' : (0 : Int) ≤ (A : Int) := by omega
      clear hl' HX hA1
      go_upto_region 17 with fail
      rw [hA]
      generalize wrap64 ((IntKind.u64.wrap n1).tmod ((n : Int) + (m : Int) + 1)) = r1 at *
      generalize (IntKind.u64.wrap n1).tmod ((n : Int) + (m : Int) + 1) = r3 at *
      generalize IntKind.u64.wrap n1 = r5 at *
      clear hA huw hn0
      go_wp2_with fail
      go_loopw [12, 13] (fun v12 v13 wr => ∃ f c : Nat, v12 = .int .i64 (f : Int) ∧ v13 = .int .i64 (c : Int) ∧ wr = wR ∧ f ≤ sh.size ∧ c ≤ A ∧ Hid (Lf bs A c ((flt bs).drop f))) (fun v12 _ _ => sh.size - (intOf v12).toNat)
      case atStart => exact ⟨0, 0, rfl, rfl, rfl, by omega, by omega, hide (.inl rfl)⟩
      case round =>
        obtain ⟨f, c, rfl, rfl, hw, hf, hc, HL⟩ := hrel
        have hw' := hw.symm
        clear hw
        subst hw'
        obtain ⟨shn, hshn⟩ : ∃ shn, sh.size = shn := ⟨_, rfl⟩
        by_cases hend : c < A ∧ f < sh.size
        · have p1 : (c : Int) < (A : Int) := by omega
          have p2 : (f : Int) < (sh.size : Int) := by omega
          have p3 : (0 : Int) ≤ (f : Int) := by omega
          have hfl : f < (flt bs).length := by rw [← Hss.out]; exact hend.2
          obtain ⟨x, hx⟩ : ∃ x, (flt bs)[f]? = some x := ⟨_, List.getElem?_eq_getElem hfl⟩
          have hdr : (flt bs).drop f = x :: (flt bs).drop (f + 1) := by
            rw [List.getElem?_eq_getElem hfl] at hx
            rw [← Option.some.inj hx, List.getElem_cons_drop]
          have hidx : ∀ W : World, (Instr.index 9 (.string sh) (.int .i64 (f : Int))).run Tryd.prog W = .ok (.int .u8 (x.toNat : Int)) W := fun W => by
            rw [run_index_string W 9 sh .i64 (f : Int) Tryd.underlying9, dif_pos ⟨by omega, by omega⟩]
            have h3 : sh.data.toList[f]? = some x := by rw [Hsl.out]; exact hx
            have h4 : f < sh.data.size := hend.2
            rw [Array.getElem?_toList, Array.getElem?_eq_getElem h4] at h3
            have h5 : sh[((f : Int)).toNat]'(by simpa using hend.2) = x := Option.some.inj h3
            rw [h5]
          have HLn := HL.out
          rw [hdr] at HLn
          rcases HLn.step Hbw.out hend.1 with ⟨hx10, h2, _⟩ | ⟨hx10, h2⟩
          · subst hx10
            have hq : (((10 : UInt8).toNat : Int) == 10) = true := by decide
            have hidx' : ∀ W : World, (Instr.index 9 (.string sh) (.int .i64 (f : Int))).run Tryd.prog W = .ok (.int .u8 10) W := hidx
            have HL2 := hide h2
            have hc' : c + 1 ≤ A := hend.1
            have hf' : f + 1 ≤ sh.size := hend.2
            clear hidx hx hdr HLn h2 hfl HL hend
            go_wp2_with fail
            go_roundw
            case rel => exact ⟨f + 1, c + 1, by go_num, by go_num, trivial, hf', hc', HL2⟩
            case measure => simp [intOf]; omega
          · have hq : ((x.toNat : Int) == 10) = false := beq_eq_false_iff_ne.2 (fun e => hx10 (UInt8.toNat_inj.1 (by show x.toNat = 10; omega)))
            have HL2 := hide h2
            have hf' : f + 1 ≤ sh.size := hend.2
            clear hx hdr HLn h2 hfl HL hend hx10
            generalize (x.toNat : Int) = xn at *
            go_wp2_with fail
            go_roundw
            case rel => exact ⟨f + 1, c, by go_num, rfl, trivial, hf', hc, HL2⟩
            case measure => simp [intOf]; omega
        · obtain ⟨hcA, hdr⟩ := HL.out.end hc HA1.out (by
            rcases Nat.lt_or_ge c A with h1 | h1
            · refine .inr (List.drop_of_length_le ?_)
              rw [← Hss.out]
              have : ¬ f < sh.size := fun h => hend ⟨h1, h⟩
              omega
            · exact .inl (by omega))
          subst hcA
          have htk := flt_cut hdr (by rw [← Hss.out]; exact hf)
          have p1 : ¬ (c : Int) < (c : Int) := by omega
          have p3 : (0 : Int) ≤ (f : Int) := by omega
          have p4 : (f : Int) ≤ (sh.size : Int) := by omega
          have hft : (f : Int).toNat = f := by omega
          -- the text
          obtain ⟨sb, hsb⟩ : ∃ sb, str (63 :: l') = sb := ⟨_, rfl⟩
          have hcb : ∀ W', Below wR.heap.size wR W' → (convert 40 9 (.slice (some ⟨g, 0, none⟩) i cap)).run Tryd.prog W' = .ok (.string sb) W' := fun W' h => by
            have := conv_back (HBt2.out.keep h) cap
            rw [List.length_cons, Hll.out, hsb] at this
            exact this
          obtain ⟨A1, hA1⟩ : ∃ A1, sh.extract 0 f = A1 := ⟨_, rfl⟩
          obtain ⟨A2, hA2⟩ : ∃ A2, sh.extract f sh.size = A2 := ⟨_, rfl⟩
          have q1 : A1.size = f := by
            have h1 : A1.size = A1.data.toList.length := by rw [Array.length_toList]; rfl
            rw [h1, ← hA1, ext_list, List.drop_zero, List.length_take, Hsl.out, ← Hss.out]; omega
          have q2 : A2.size = sh.size - f := by
            have h1 : A2.size = A2.data.toList.length := by rw [Array.length_toList]; rfl
            rw [h1, ← hA2, ext_list, List.length_drop, List.length_take, Hsl.out, ← Hss.out]; omega
          have q3 : sb.size = i := by rw [← hsb, str_size, List.length_cons, Hll.out]
          obtain ⟨X, hX⟩ : ∃ X, ((A1 ++ sb) ++ ⟨#[10]⟩) ++ A2 = X := ⟨_, rfl⟩
          have HXe : Hid (X = str (flt (bs.take c) ++ (63 :: l') ++ 10 :: flt (bs.drop c))) := hide (by
            rw [← str_of X, ← hX, app_list, app_list, app_list, ← hsb, str_list, ← hA1, ← hA2, ext_list, ext_list, List.drop_zero, Hsl.out, htk]
            have h5 : ((flt bs).take sh.size).drop f = flt (bs.drop c) := by rw [List.take_of_length_le (by rw [Hss.out]; omega)]; exact hdr
            rw [h5]
            simp)
          have Hps : Hid (parseS firstAt X = (([], []), c + 1, 60)) := hide (by
            rw [HXe.out]
            refine Hbad.out c l' HA1.out Hwo.out ?_
            have h6 : (str (flt (bs.take c) ++ (63 :: l') ++ 10 :: flt (bs.drop c))).size = X.size := by rw [HXe.out]
            rw [str_size] at h6
            rw [h6, ← hX, ByteArray.size_append, ByteArray.size_append, ByteArray.size_append, q1, q2, q3]
            show f + i + 1 + (sh.size - f) ≤ 4096
            omega)
          have Hbwr : Hid (Below w.heap.size w wR) := hide (HA.out.trans (Hb9.out.mono HA.out.size))
          have K14' : Hid (∀ W, Below w.heap.size w W → Calls Tryd.prog 14 #[.string X] W fun e w' => (∃ a c1 a' c1', e = .returned (.tuple #[.agg #[.slice a 0 c1, .slice a' 0 c1'], .int .i64 ((c : Int) + 1), .int .i64 60])) ∧ Below W.heap.size W w') := hide (fun W h => (K14.out W X h).mono (by
            rintro e w' ⟨h1, hb⟩
            rw [Hps.out] at h1
            obtain ⟨a, c1, a', c1', h2, _⟩ := h1
            refine ⟨⟨a, c1, a', c1', ?_⟩, hb⟩
            rw [h2]
            simp))
          have e1 : A1.size + sb.size ≤ 9223372036854775807 := by omega
          have e2 : A1.size + sb.size ≤ 9223372036854775806 := by omega
          have e3 : A1.size + sb.size + 1 + A2.size ≤ 9223372036854775807 := by omega
          obtain ⟨SS, hSS⟩ : ∃ SS : World → Prop, SS = fun W' => Below wR.heap.size wR W' := ⟨_, rfl⟩
          have s9 : Hid (∀ W', SS W' → Below wR.heap.size wR W') := hide (fun W' h => by rw [hSS] at h; exact h)
          have s8 : Hid (∀ W', Below wR.heap.size wR W' → SS W') := hide (fun W' h => by rw [hSS]; exact h)
          have sc : Hid (∀ W', SS W' → (convert 40 9 (.slice (some ⟨g, 0, none⟩) i cap)).run Tryd.prog W' = .ok (.string sb) W') := hide (fun W' h => hcb W' (s9.out W' h))
          have qe : ((c : Int) + 1 == (c : Int) + 1) = true := beq_self_eq_true _
          have HA1x := hide hA1
          have HA2x := hide hA2
          clear hsb hcb q1 q2 q3 hSS htk hdr hend HL hshn
          go_upto_region 22 with fail
          refine wp_region_held_drew (S := SS) (by kernel_rfl) (s8.out _ ((Below.refl _ _).drew)) (fun hS0 => ?_)
          obtain ⟨V0, hV0⟩ : ∃ V0, wR.drew = V0 := ⟨_, rfl⟩
          rw [hV0] at hS0 ⊢
          clear hV0
          refine wpAnyH_take (i := 0) (v := .string sh) rfl (by kernel_rfl) (by kernel_rfl) (by kernel_rfl) (fun _ _ _ h => h) (Or.inl ⟨by rfl, fun W' hW => by go_simp⟩) hS0 ?_
          refine wpAnyH_take (i := 1) (v := .int .i64 (f : Int)) rfl (by kernel_rfl) (by kernel_rfl) (by kernel_rfl) (fun _ _ _ h => h) (Or.inl ⟨by rfl, fun W' hW => by go_simp⟩) hS0 ?_
          refine wpAnyH_take (i := 2) (v := .string A1) rfl (by kernel_rfl) (by kernel_rfl) (by kernel_rfl) (fun _ _ _ h => h) (Or.inl ⟨by rfl, fun W' hW => by have z1 := HA1x.out; have z2 := hft; (go_simp; try (rw [z1]))⟩) hS0 ?_
          refine wpAnyH_take (i := 3) (v := .slice (some ⟨g, 0, none⟩) i cap) rfl (by kernel_rfl) (by kernel_rfl) (by kernel_rfl) (fun _ _ _ h => h) (Or.inl ⟨by rfl, fun W' hW => by go_simp⟩) hS0 ?_
          refine wpAnyH_take (i := 4) (v := .string sb) rfl (by kernel_rfl) (by kernel_rfl) (by kernel_rfl) (fun _ _ _ h => h) (Or.inl ⟨by rfl, fun W' hW => by have z1 := sc.out W' hW; go_simp⟩) hS0 ?_
          refine wpAnyH_take (i := 5) (v := .string (A1 ++ sb)) rfl (by kernel_rfl) (by kernel_rfl) (by kernel_rfl) (fun _ _ _ h => h) (Or.inl ⟨by rfl, fun W' hW => by go_simp⟩) hS0 ?_
          refine wpAnyH_take (i := 6) (v := .string ((A1 ++ sb) ++ ⟨#[10]⟩)) rfl (by kernel_rfl) (by kernel_rfl) (by kernel_rfl) (fun _ _ _ h => h) (Or.inl ⟨by rfl, fun W' hW => by go_simp⟩) hS0 ?_
          refine wpAnyH_take (i := 7) (v := .string sh) rfl (by kernel_rfl) (by kernel_rfl) (by kernel_rfl) (fun _ _ _ h => h) (Or.inl ⟨by rfl, fun W' hW => by go_simp⟩) hS0 ?_
          refine wpAnyH_take (i := 8) (v := .int .i64 (f : Int)) rfl (by kernel_rfl) (by kernel_rfl) (by kernel_rfl) (fun _ _ _ h => h) (Or.inl ⟨by rfl, fun W' hW => by go_simp⟩) hS0 ?_
          refine wpAnyH_take (i := 9) (v := .string A2) rfl (by kernel_rfl) (by kernel_rfl) (by kernel_rfl) (fun _ _ _ h => h) (Or.inl ⟨by rfl, fun W' hW => by have z1 := HA2x.out; have z2 := hft; (go_simp; try (rw [z1]))⟩) hS0 ?_
          refine wpAnyH_take (i := 10) (v := .string X) rfl (by kernel_rfl) (by kernel_rfl) (by kernel_rfl) (fun _ _ _ h => h) (Or.inl ⟨by rfl, fun W' hW => by have z1 := hX; (go_simp; try (rw [z1]))⟩) hS0 ?_
          refine wpAnyH_ready (rs := [11, 16]) (by kernel_rfl) (by simp) ?_
          refine AllReadyH.cons rfl (fun K hK => ?_) (AllReadyH.cons rfl (fun K hK => ?_) AllReadyH.nil)
          · go_simp
            refine (K14'.out _ (Hbwr.out.trans ((s9.out _ hS0).mono Hbwr.out.size))).mono ?_
            rintro e V1 ⟨⟨a, c1, a', c1', rfl⟩, hbc⟩
            refine hK.out _ _ (s8.out _ ((s9.out _ hS0).trans (hbc.mono (s9.out _ hS0).size))) (fun hS1 => ?_)
            clear hK K
            clear hbc
            refine wpAnyH_take (i := 12) (v := .tuple #[.agg #[.slice a 0 c1, .slice a' 0 c1'], .int .i64 ((c : Int) + 1), .int .i64 60]) rfl (by kernel_rfl) (by kernel_rfl) (by kernel_rfl) (fun _ _ _ h => h) (Or.inl ⟨by rfl, fun W' hW => by go_simp⟩) hS1 ?_
            refine wpAnyH_take (i := 13) (v := .agg #[.slice a 0 c1, .slice a' 0 c1']) rfl (by kernel_rfl) (by kernel_rfl) (by kernel_rfl) (fun _ _ _ h => h) (Or.inl ⟨by rfl, fun W' hW => by go_simp⟩) hS1 ?_
            refine wpAnyH_take (i := 14) (v := .int .i64 ((c : Int) + 1)) rfl (by kernel_rfl) (by kernel_rfl) (by kernel_rfl) (fun _ _ _ h => h) (Or.inl ⟨by rfl, fun W' hW => by go_simp⟩) hS1 ?_
            refine wpAnyH_take (i := 15) (v := .int .i64 60) rfl (by kernel_rfl) (by kernel_rfl) (by kernel_rfl) (fun _ _ _ h => h) (Or.inl ⟨by rfl, fun W' hW => by go_simp⟩) hS1 ?_
            refine wpAnyH_ready (rs := [16]) (by kernel_rfl) (by simp) ?_
            refine AllReadyH.cons rfl (fun K hK => ?_) AllReadyH.nil
            go_simp
            refine hK.out _ _ (s8.out _ ((s9.out _ hS1).alloc (s9.out _ hS1).size _)) (fun hS2 => ?_)
            clear hK K
            have HQ := hide (heap_new V1 (.cells #[.slice none 0 0, .slice none 0 0] 25))
            have HQg : Hid (wR.heap.size ≤ V1.heap.size) := hide (s9.out _ hS1).size
            obtain ⟨V2, hV2⟩ : ∃ V2, V1.alloc (.cells #[.slice none 0 0, .slice none 0 0] 25) = V2 := ⟨_, rfl⟩
            obtain ⟨q, hq⟩ : ∃ q, V1.heap.size = q := ⟨_, rfl⟩
            rw [hV2] at HQ hS2
            rw [hq] at HQ HQg
            rw [hV2, hq]
            clear hq hV2
            obtain ⟨y0, f0⟩ := cells_at HQ.out 0
            obtain ⟨y1, f1⟩ := cells_at HQ.out 1
            simp at y0 y1
            have hSF : SS ((V2.setCell ⟨q, 0, none⟩ (.slice a 0 c1)).setCell ⟨q, 1, none⟩ (.slice a' 0 c1')) := s8.out _ (((s9.out _ hS2).setCell (p := ⟨q, 0, none⟩) HQg.out _).setCell (p := ⟨q, 1, none⟩) HQg.out _)
            refine wpAnyH_ready (rs := [17]) (by kernel_rfl) (by simp) ?_
            refine AllReadyH.cons rfl (fun K hK => ?_) AllReadyH.nil
            go_simp
            refine hK.out _ _ hSF (fun _ => ?_)
            clear hK K
            refine wpAnyH_ready (rs := [18]) (by kernel_rfl) (by simp) ?_
            refine AllReadyH.cons rfl (fun K hK => ?_) AllReadyH.nil
            go_simp
            refine hK.out _ _ hSF (fun _ => ?_)
            clear hK K
            refine wpAnyH_ready (rs := [19]) (by kernel_rfl) (by simp) ?_
            refine AllReadyH.cons rfl (fun K hK => ?_) AllReadyH.nil
            go_simp
            refine hK.out _ _ hSF (fun _ => ?_)
            clear hK K
            refine wpAnyH_done (by kernel_rfl) ?_ _
            have HF := hide (s9.out _ hSF)
            go_wp2_with fail
            go_ret
            exact ⟨by first | rfl | simp, Hbwr.out.trans (HF.out.mono Hbwr.out.size)⟩
          · go_simp
            refine hK.out _ _ (s8.out _ ((s9.out _ hS0).alloc (s9.out _ hS0).size _)) (fun hS1 => ?_)
            clear hK K
            have HQ := hide (heap_new V0 (.cells #[.slice none 0 0, .slice none 0 0] 25))
            have HQg : Hid (wR.heap.size ≤ V0.heap.size) := hide (s9.out _ hS0).size
            obtain ⟨V1, hV1⟩ : ∃ V1, V0.alloc (.cells #[.slice none 0 0, .slice none 0 0] 25) = V1 := ⟨_, rfl⟩
            obtain ⟨q, hq⟩ : ∃ q, V0.heap.size = q := ⟨_, rfl⟩
            rw [hV1] at HQ hS1
            rw [hq] at HQ HQg
            rw [hV1, hq]
            clear hq hV1
            refine wpAnyH_ready (rs := [11]) (by kernel_rfl) (by simp) ?_
            refine AllReadyH.cons rfl (fun K hK => ?_) AllReadyH.nil
            go_simp
            refine (K14'.out _ (Hbwr.out.trans ((s9.out _ hS1).mono Hbwr.out.size))).mono ?_
            rintro e V2 ⟨⟨a, c1, a', c1', rfl⟩, hbc⟩
            refine hK.out _ _ (s8.out _ ((s9.out _ hS1).trans (hbc.mono (s9.out _ hS1).size))) (fun hS2 => ?_)
            clear hK K
            have HQ := hide ((hbc.block _ (heap_lt HQ.out)).trans HQ.out)
            clear hbc
            refine wpAnyH_take (i := 12) (v := .tuple #[.agg #[.slice a 0 c1, .slice a' 0 c1'], .int .i64 ((c : Int) + 1), .int .i64 60]) rfl (by kernel_rfl) (by kernel_rfl) (by kernel_rfl) (fun _ _ _ h => h) (Or.inl ⟨by rfl, fun W' hW => by go_simp⟩) hS2 ?_
            refine wpAnyH_take (i := 13) (v := .agg #[.slice a 0 c1, .slice a' 0 c1']) rfl (by kernel_rfl) (by kernel_rfl) (by kernel_rfl) (fun _ _ _ h => h) (Or.inl ⟨by rfl, fun W' hW => by go_simp⟩) hS2 ?_
            refine wpAnyH_take (i := 14) (v := .int .i64 ((c : Int) + 1)) rfl (by kernel_rfl) (by kernel_rfl) (by kernel_rfl) (fun _ _ _ h => h) (Or.inl ⟨by rfl, fun W' hW => by go_simp⟩) hS2 ?_
            refine wpAnyH_take (i := 15) (v := .int .i64 60) rfl (by kernel_rfl) (by kernel_rfl) (by kernel_rfl) (fun _ _ _ h => h) (Or.inl ⟨by rfl, fun W' hW => by go_simp⟩) hS2 ?_
            obtain ⟨y0, f0⟩ := cells_at HQ.out 0
            obtain ⟨y1, f1⟩ := cells_at HQ.out 1
            simp at y0 y1
            have hSF : SS ((V2.setCell ⟨q, 0, none⟩ (.slice a 0 c1)).setCell ⟨q, 1, none⟩ (.slice a' 0 c1')) := s8.out _ (((s9.out _ hS2).setCell (p := ⟨q, 0, none⟩) HQg.out _).setCell (p := ⟨q, 1, none⟩) HQg.out _)
            refine wpAnyH_ready (rs := [17]) (by kernel_rfl) (by simp) ?_
            refine AllReadyH.cons rfl (fun K hK => ?_) AllReadyH.nil
            go_simp
            refine hK.out _ _ hSF (fun _ => ?_)
            clear hK K
            refine wpAnyH_ready (rs := [18]) (by kernel_rfl) (by simp) ?_
            refine AllReadyH.cons rfl (fun K hK => ?_) AllReadyH.nil
            go_simp
            refine hK.out _ _ hSF (fun _ => ?_)
            clear hK K
            refine wpAnyH_ready (rs := [19]) (by kernel_rfl) (by simp) ?_
            refine AllReadyH.cons rfl (fun K hK => ?_) AllReadyH.nil
            go_simp
            refine hK.out _ _ hSF (fun _ => ?_)
            clear hK K
            refine wpAnyH_done (by kernel_rfl) ?_ _
            have HF := hide (s9.out _ hSF)
            go_wp2_with fail
            go_ret
            exact ⟨by first | rfl | simp, Hbwr.out.trans (HF.out.mono Hbwr.out.size)⟩
end Go.Proofs.YtpjolnaomdmnnaaDoor.layoutLines
