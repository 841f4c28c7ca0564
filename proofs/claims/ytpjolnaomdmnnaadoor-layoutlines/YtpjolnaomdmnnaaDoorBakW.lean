/- The walk of LayoutBack. -/
import Derived.Test.YtpjolnaomdmnnaaDoorBakM
import Derived.Test.YtpjolnaomdmnnaaDoorByt
import Derived.Test.YtpjolnaomdmnnaaDoorSho
import Derived.Test.YtpjolnaomdmnnaaDoorSam
import Derived.Test.YtpjolnaomdmnnaaDoorWake
import Derived.Test.YtpjolnaomdmnnaaDoorPrs
namespace Go.Proofs.YtpjolnaomdmnnaaDoor.layoutBack
open Go.ChangeShapes Go.WideShapes Go.ChangeAt Go.RowKit
set_option linter.unusedVariables false

theorem app_list (a b : ByteArray) : (a ++ b).data.toList = a.data.toList ++ b.data.toList := by
  rw [ByteArray.data_append]; simp
theorem parse_cases (text : ByteArray) : (∃ k c, parseS firstAt text = (([], []), k, c) ∧ (c != 0) = true) ∨ ∃ ns es, parseS firstAt text = ((ns, es), 0, 0) ∧ good ns es = true := by
  unfold parseS
  split
  · exact .inl ⟨_, _, rfl, by decide⟩
  · split
    · exact .inl ⟨_, _, rfl, by decide⟩
    · split
      · rename_i st _ hg
        exact .inr ⟨st.1, st.2, rfl, hg⟩
      · exact .inl ⟨_, _, rfl, by decide⟩
/-- what Parse leaves, with the room of the edges -/
def Lft (o : St × Nat × Int) (B : Nat) (e : Ending) (w' : World) : Prop := ∃ a c a' c', e = .returned (.tuple #[.agg #[.slice a o.1.1.length c, .slice a' o.1.2.length c'], .int .i64 (o.2.1 : Int), .int .i64 o.2.2]) ∧ ndE.Own w' B (.slice a o.1.1.length c) o.1.1 ∧ edE.Own w' B (.slice a' o.1.2.length c') o.1.2 ∧ o.1.2.length ≤ c'
/-- a row of its own stays where an elder block is written -/
theorem own_put {α : Type} {E : El Tryd.prog α} {w : World} {B q i : Nat} {v u : Value} {xs : List α} (h : E.Own w B v xs) (hq : q < B) : E.Own (w.setCell ⟨q, i, none⟩ u) B v xs := by
  obtain ⟨h0, h⟩ := h
  refine ⟨h0, ?_⟩
  rcases h with h | ⟨g, cap, cur, h1, h2, h3, h4⟩
  · exact .inl h
  · refine .inr ⟨g, cap, cur, h1, h2, ?_, h4⟩
    rw [← h3]
    simp only [World.setCell, Array.getElem?_modify, if_neg (show ¬ q = g by omega)]
theorem left_p (text : ByteArray) (w : World) (L : Laid w) : Calls Tryd.prog 14 #[.string text] w fun e w' => Lft (parseS firstAt text) w.heap.size e w' ∧ Below w.heap.size w w' := by
  by_cases h : 4096 < text.size
  · refine (parse_long text w h).mono ?_
    rintro e w' ⟨rfl, hb⟩
    refine ⟨?_, hb⟩
    unfold parseS
    rw [if_pos h]
    exact ⟨none, 0, none, 0, rfl, El.Own.nil _ _ _, El.Own.nil _ _ _, by simp⟩
  · refine (parse_any text w L (by omega)).mono ?_
    rintro e w' ⟨vN, vE, rfl, hN, hE, hb⟩
    rw [parse_both] at hN hE ⊢
    obtain ⟨a, c, rfl⟩ := hN.rd.form
    obtain ⟨a', c', rfl⟩ := hE.rd.form
    exact ⟨⟨a, c, a', c', rfl, hN, hE, own_cap hE⟩, hb⟩
theorem good_names {ns : List Nd} {es : List Ed} (h : good ns es = true) : ns.length ≤ 40 ∧ es.length ≤ 120 ∧ ∀ x ∈ ns, x.name.size ≤ maxLen := by
  unfold good goodN goodE at h
  simp only [Bool.and_eq_true, decide_eq_true_eq] at h
  obtain ⟨⟨h1, h2, h3, h4⟩, h5, _⟩ := h
  refine ⟨h2, h5, fun x hx => ?_⟩
  have := h3 x hx
  unfold ndB nameB at this
  simp only [Bool.and_eq_true, decide_eq_true_eq] at this
  have := this.1.1.2.1
  unfold maxLen; omega
theorem boxg {g : Nat} {W0 W1 : World} {vN vE : Value} (hbox : W0.heap[g]? = some (.cells #[vN, vE] 25)) (hb : Below W0.heap.size W0 W1) : W1.cell? ⟨g, 0, none⟩ = some vN ∧ W1.cell? ⟨g, 1, none⟩ = some vE := by
  rw [hb.cell (p := ⟨g, 0, none⟩) (heap_lt hbox), hb.cell (p := ⟨g, 1, none⟩) (heap_lt hbox)]
  exact ⟨(cells_at hbox 0).1, (cells_at hbox 1).1⟩

set_option maxRecDepth 100000 in
set_option maxHeartbeats 4000000 in
theorem walk (text remark : ByteArray) (w : World) (L : Laid w) : Calls Tryd.prog 5 #[.string text, .string remark] w fun e w' => e = .returned (.bool true) ∧ Below w.heap.size w w' := by
  have K9 := hide (awake_any w L)
  have K14 : Hid (∀ W t, Below w.heap.size w W → Calls Tryd.prog 14 #[.string t] W fun e w' => Lft (parseS firstAt t) W.heap.size e w' ∧ Below W.heap.size W w') := hide (fun W t (h : Below w.heap.size w W) => left_p t W (L.keep L.size h))
  have HLW : Hid (∀ W, Below w.heap.size w W → Laid W) := hide (fun W h => L.keep L.size h)
  clear L
  rcases parse_cases text with ⟨k, cd, ho, hcd⟩ | ⟨ns, es, ho, hg⟩
  · have K14' : Hid (∀ W, Below w.heap.size w W → Calls Tryd.prog 14 #[.string text] W fun e w' => (∃ a c a' c', e = .returned (.tuple #[.agg #[.slice a 0 c, .slice a' 0 c'], .int .i64 (k : Int), .int .i64 cd])) ∧ Below W.heap.size W w') := hide (fun W h => (K14.out W text h).mono (by
      rintro e w' ⟨h1, hb⟩
      rw [ho] at h1
      obtain ⟨a, c, a', c', rfl, _⟩ := h1
      exact ⟨⟨a, c, a', c', rfl⟩, hb⟩))
    clear ho
    go_enter Tryd.func5, Tryd.ntmps5
    go_upto_region 3 with (go_at_call 9; refine (K9.out).mono ?_; rintro e W1 ⟨rfl, hb1⟩; have Hb1 := hide hb1; clear hb1)
    go_wp2_with (go_at_call 14; refine (K14'.out _ Hb1.out).mono ?_; rintro e W2 ⟨⟨a, c, a', c', rfl⟩, hb2⟩; have Hb2 : Hid (Below w.heap.size w W2) := hide (Hb1.out.trans (hb2.mono Hb1.out.size)); have Hb3 : Hid (Below w.heap.size w (W2.alloc (.cells #[.slice a 0 c, .slice a' 0 c'] 25))) := hide (Hb2.out.alloc Hb2.out.size _); clear hb2)
    go_ret
    exact ⟨by first | rfl | simp, Hb3.out⟩
  obtain ⟨hn40, hm12, hnames⟩ := good_names hg
  obtain ⟨n, hn⟩ : ∃ n, ns.length = n := ⟨_, rfl⟩
  obtain ⟨m, hm⟩ : ∃ m, es.length = m := ⟨_, rfl⟩
  have K14' : Hid (∀ W t, Below w.heap.size w W → parseS firstAt t = ((ns, es), 0, 0) → Calls Tryd.prog 14 #[.string t] W fun e w' => (∃ a c a' c', e = .returned (.tuple #[.agg #[.slice a n c, .slice a' m c'], .int .i64 0, .int .i64 0]) ∧ ndE.Own w' W.heap.size (.slice a n c) ns ∧ edE.Own w' W.heap.size (.slice a' m c') es ∧ m ≤ c') ∧ Below W.heap.size W w') := hide (fun W t h ht => (K14.out W t h).mono (by
    rintro e w' ⟨h1, hb⟩
    rw [ht] at h1
    obtain ⟨a, c, a', c', h1, h2, h3, h4⟩ := h1
    simp only at h1 h2 h3 h4
    rw [hn, hm] at h1
    rw [hn] at h2
    rw [hm] at h3 h4
    exact ⟨⟨a, c, a', c', h1, h2, h3, h4⟩, hb⟩))
  have K11 : Hid (∀ W a c a' c', Below w.heap.size w W → ndE.Rd W (.slice a n c) ns → edE.Rd W (.slice a' m c') es → m ≤ c' → Calls Tryd.prog 11 #[.agg #[.slice a n c, .slice a' m c']] W fun e w' => e = .returned (.tuple #[.string (str (showL ns es)), .int .i64 0]) ∧ Below W.heap.size W w') := hide (fun W a c a' c' h h1 h2 h3 => show_ok a a' c c' n m ns es W (HLW.out W h) hn hm h1 h2 h3 hnames hg)
  have K16 : Hid (∀ (W : World) (a a' b b' : Option Addr) (c c' d d' : Nat), ndE.Rd W (.slice a n c) ns → edE.Rd W (.slice a' m c') es → ndE.Rd W (.slice b n d) ns → edE.Rd W (.slice b' m d') es → Calls Tryd.prog 16 #[.agg #[.slice a n c, .slice a' m c'], .agg #[.slice b n d, .slice b' m d']] W fun e w' => e = .returned (.bool true) ∧ Below W.heap.size W w') := hide (fun W a a' b b' c c' d d' r1 r2 r3 r4 => by
    rw [← hn] at r1 r3
    rw [← hm] at r2 r4
    have h := rsame_any a a' b b' c c' d d' ns ns es es W r1 r2 r3 r4 (by omega) (by omega)
    rw [decide_eq_true (show ns = ns ∧ es = es from ⟨rfl, rfl⟩)] at h
    rwa [hn, hm] at h)
  have KL : Hid (∀ W t, Below w.heap.size w W → 4096 < t.size → Calls Tryd.prog 14 #[.string t] W fun e w' => e = .returned (.tuple #[.agg #[.slice none 0 0, .slice none 0 0], .int .i64 0, .int .i64 3]) ∧ Below W.heap.size W w') := hide (fun W t _ ht => parse_long t W ht)
  have HWd : Hid (∀ b : List UInt8, Wo 10 b → (wideL b text.data.toList).length ≤ 4096 → parseS firstAt (str (wideL b text.data.toList)) = ((ns, es), 0, 0)) := hide (fun b hb hs => wide_parse hb hs ho)
  have HSh : Hid ((showL ns es).length ≤ 4096 → parseS firstAt (str (showL ns es)) = ((ns, es), 0, 0)) := hide (fun h => parse_show hg h)
  have Hts : Hid (text.size ≤ 4096) := hide (by
    rcases Nat.lt_or_ge 4096 text.size with h | h
    · unfold parseS at ho
      rw [if_pos h] at ho
      simp at ho
    · exact h)
  have Hpo := hide ho
  clear hn40 hm12 hnames hn hm hg ho
  obtain ⟨S, hS⟩ : ∃ S, showL ns es = S := ⟨_, rfl⟩
  rw [hS] at K11 HSh
  clear hS
  go_enter Tryd.func5, Tryd.ntmps5
  go_upto_region 3 with (go_at_call 9; refine (K9.out).mono ?_; rintro e W1 ⟨rfl, hb1⟩; have Hb1 := hide hb1; clear hb1)
  go_upto_region 6 with (go_at_call 14; refine (K14'.out _ _ Hb1.out Hpo.out).mono ?_; rintro e W2 ⟨⟨a, c, a', c', rfl, h1, h2, h3⟩, hb2⟩; have HR2 := hide (And.intro h1.rd h2.rd); have Hcp := hide h3; have Hb2 : Hid (Below w.heap.size w W2) := hide (Hb1.out.trans (hb2.mono Hb1.out.size)); clear hb2 h1 h2 h3)
  have b3 : Below W2.heap.size W2 (W2.alloc (.cells #[.slice a n c, .slice a' m c'] 25)) := (Below.refl _ _).alloc (Nat.le_refl _) _
  have HBX := hide (heap_new W2 (.cells #[.slice a n c, .slice a' m c'] 25))
  have HR3 := hide (And.intro (HR2.out.1.keep b3) (HR2.out.2.keep b3))
  have Hb3 := hide (Hb2.out.trans (b3.mono Hb2.out.size))
  obtain ⟨W3, hW3⟩ : ∃ W3, W2.alloc (.cells #[.slice a n c, .slice a' m c'] 25) = W3 := ⟨_, rfl⟩
  obtain ⟨g1, hg1⟩ : ∃ g, W2.heap.size = g := ⟨_, rfl⟩
  rw [hW3] at HBX HR3 Hb3
  rw [hg1] at HBX
  rw [hW3, hg1]
  clear hW3 hg1 b3 HR2 Hb2 Hb1
  obtain ⟨x0, x1⟩ := boxg HBX.out (Below.refl _ _)
  go_upto_region 9 with (go_at_call 11; refine (K11.out _ _ _ _ _ Hb3.out HR3.out.1 HR3.out.2 Hcp.out).mono ?_; rintro e W4 ⟨rfl, hb4⟩; have HB4 := hide hb4; have Hb4 : Hid (Below w.heap.size w W4) := hide (Hb3.out.trans (hb4.mono Hb3.out.size)); clear hb4 x0 x1)
  obtain ⟨sh, hsh⟩ : ∃ sh, str S = sh := ⟨_, rfl⟩
  rw [hsh]
  have Hsz : Hid (sh.size = S.length) := hide (by rw [← hsh]; exact str_size S)
  rw [hsh] at HSh
  clear hsh
  -- what was shown is parsed; a box for it
  go_cut [10, 12] (fun v10 v12 wx => ∃ g2 vN vE cd, v10 = .pointer (some ⟨g2, 0, none⟩) ∧ v12 = .int .i64 cd ∧ W3.heap.size ≤ g2 ∧ Hid (wx.heap[g2]? = some (.cells #[vN, vE] 25)) ∧ Hid (Below W3.heap.size W3 wx) ∧ Hid ((sh.size ≤ 4096 ∧ cd = 0 ∧ ∃ b d b' d', vN = .slice b n d ∧ vE = .slice b' m d' ∧ ndE.Rd wx (.slice b n d) ns ∧ edE.Rd wx (.slice b' m d') es) ∨ ¬ sh.size ≤ 4096))
  case first =>
    by_cases hs : sh.size ≤ 4096
    · have Hp2 := hide (HSh.out (by rw [← Hsz.out]; exact hs))
      have Hs := hide hs
      clear hs
      go_wp2_with (go_at_call 14; refine (K14'.out _ _ Hb4.out Hp2.out).mono ?_; rintro e W5 ⟨⟨b, d, b', d', rfl, h1, h2, h3⟩, hb5⟩; have b6 : Below W5.heap.size W5 (W5.alloc (.cells #[.slice b n d, .slice b' m d'] 25)) := (Below.refl _ _).alloc (Nat.le_refl _) _; have HR5 := hide (And.intro (h1.rd.keep b6) (h2.rd.keep b6)); have HB5 : Hid (Below W3.heap.size W3 W5) := hide (HB4.out.trans (hb5.mono HB4.out.size)); have HB6 := hide (HB5.out.trans (b6.mono HB5.out.size)); have HBX2 := hide (heap_new W5 (.cells #[.slice b n d, .slice b' m d'] 25)); have Hg2 : Hid (W3.heap.size ≤ W5.heap.size) := hide HB5.out.size; clear hb5 h1 h2 h3 b6)
      go_meet
      exact ⟨_, _, _, 0, rfl, rfl, Hg2.out, HBX2, HB6, hide (.inl ⟨Hs.out, rfl, _, _, _, _, rfl, rfl, HR5.out.1, HR5.out.2⟩)⟩
    · have Hs2 : Hid (4096 < sh.size) := hide (by omega)
      clear hs
      go_wp2_with (go_at_call 14; refine (KL.out _ _ Hb4.out Hs2.out).mono ?_; rintro e W5 ⟨rfl, hb5⟩; have b6 : Below W5.heap.size W5 (W5.alloc (.cells #[.slice none 0 0, .slice none 0 0] 25)) := (Below.refl _ _).alloc (Nat.le_refl _) _; have HB5 : Hid (Below W3.heap.size W3 W5) := hide (HB4.out.trans (hb5.mono HB4.out.size)); have HB6 := hide (HB5.out.trans (b6.mono HB5.out.size)); have HBX2 := hide (heap_new W5 (.cells #[.slice none 0 0, .slice none 0 0] 25)); have Hg2 : Hid (W3.heap.size ≤ W5.heap.size) := hide HB5.out.size; clear hb5 b6)
      go_meet
      exact ⟨_, _, _, 3, rfl, rfl, Hg2.out, HBX2, HB6, hide (.inr (by have := Hs2.out; omega))⟩
  case rest =>
  obtain ⟨g2, vN, vE, cd, rfl, rfl, hg2, HBX2, HB6, HD⟩ := hcut
  have Hg2 := hide hg2
  clear hg2
  obtain ⟨W6, hW6⟩ : ∃ W6, W6 = wc := ⟨_, rfl⟩
  rw [← hW6] at HBX2 HB6 HD
  rw [← hW6]
  clear hW6
  go_upto_region 10 with fail
  go_cut [59] (fun v59 wx => v59 = .bool false ∧ Hid (wx.heap[g2]? = some (.cells #[vN, vE] 25)) ∧ Hid (Below W3.heap.size W3 wx))
  case first =>
    obtain ⟨x0, x1⟩ := boxg HBX.out HB6.out
    obtain ⟨y0, y1⟩ := boxg HBX2.out (Below.refl _ _)
    rcases HD.out with ⟨hs, rfl, b, d, b', d', rfl, rfl, r1, r2⟩ | hs
    · have hs' : (sh.size : Int) ≤ 4096 := by omega
      have HR6 := hide (And.intro r1 r2)
      clear r1 r2 hs HD
      go_wp2_with (go_at_call 16; refine (K16.out _ _ _ _ _ _ _ _ _ (HR3.out.1.keep HB6.out) (HR3.out.2.keep HB6.out) HR6.out.1 HR6.out.2).mono ?_; rintro e W7 ⟨rfl, hb7⟩; have HB7 := hide (HB6.out.trans (hb7.mono HB6.out.size)); have HX7 := hide ((hb7.block _ (heap_lt HBX2.out)).trans HBX2.out); clear hb7)
      go_meet
      exact ⟨rfl, HX7, HB7⟩
    · have hs' : ¬ (sh.size : Int) ≤ 4096 := by omega
      clear hs HD
      go_wp2_with fail
      go_meet
      exact ⟨rfl, HBX2, HB6⟩
  case rest =>
  clear HD HBX2 HB6
  obtain ⟨rfl, HBX2, HB7⟩ := hcut
  obtain ⟨W7, hW7⟩ : ∃ W7, W7 = wc := ⟨_, rfl⟩
  rw [← hW7] at HBX2 HB7
  rw [← hW7]
  clear hW7
  -- the remark's bytes
  obtain ⟨W8, cap, hcv, hBt, hb8, hcap⟩ := conv_bytes W7 remark
  obtain ⟨rs, hrs⟩ : ∃ rs, remark.size = rs := ⟨_, rfl⟩
  have hrl : remark.data.toList.length = rs := by rw [← hrs, Array.length_toList]; rfl
  obtain ⟨k, hk⟩ : ∃ k, min rs 50 = k := ⟨_, rfl⟩
  have HBt : Hid (Bt W8 W7.heap.size (remark.data.toList.take k)) := hide (hBt.take k)
  have Hll : Hid ((remark.data.toList.take k).length = k) := hide (by rw [List.length_take, hrl]; omega)
  have HB8 := hide hb8
  have Hg7 : Hid (W3.heap.size ≤ W7.heap.size) := hide HB7.out.size
  have Hq2 : Hid (g2 < W7.heap.size) := hide (heap_lt HBX2.out)
  obtain ⟨g, hgg⟩ : ∃ g, W7.heap.size = g := ⟨_, rfl⟩
  rw [hgg] at hcv HBt Hg7 Hq2
  rw [hrs] at hcv
  have k1 : (k : Int) ≤ (cap : Int) := by omega
  have k2 : (0 : Int) ≤ (k : Int) := by omega
  have k3 : (k : Int) ≤ 50 := by omega
  have k4 : (rs : Int) ≤ 50 → (k : Int) = (rs : Int) := by omega
  have k5 : ¬ (rs : Int) ≤ 50 → (k : Int) = 50 := by omega
  go_upto_region 12 with fail
  go_cut [13] (fun v13 wx => v13 = .slice (some ⟨g, 0, none⟩) k cap ∧ wx = W8)
  case first =>
    by_cases hr : (rs : Int) ≤ 50
    · obtain rfl : k = rs := by omega
      have hmin : min (k : Int) 50 = (k : Int) := by omega
      clear k4 k5 hr
      go_wp2_with fail
      go_meet
      exact ⟨rfl, rfl⟩
    · obtain rfl : k = 50 := by omega
      have hmin : min (rs : Int) 50 = 50 := by omega
      have k6 : (50 : Int) ≤ (cap : Int) := by omega
      have k7 : ¬ ((cap : Int) < 50) := by omega
      clear k4 k5
      go_wp2_with fail
      go_meet
      exact ⟨rfl, rfl⟩
  case rest =>
  obtain ⟨rfl, hwx⟩ := hcut
  obtain rfl : W8 = wc := hwx.symm
  clear hcv k4 k5
  go_wp2_with fail
  go_loopw [68] (fun v68 wr => ∃ (i : Nat) (l : List UInt8), i ≤ k ∧ v68 = .int .i64 (i : Int) ∧ Hid (Bt wr g l ∧ l.length = k ∧ ∀ j, j < i → ∀ x, l[j]? = some x → x ≠ 10) ∧ Hid (Below W7.heap.size W7 wr)) (fun v68 _ => k - (intOf v68).toNat)
  case atStart => exact ⟨0, _, by omega, rfl, hide ⟨HBt.out, Hll.out, fun j hj => by omega⟩, HB8⟩
  case round =>
    obtain ⟨i, l, hi, rfl, HX, HB⟩ := hrel
    by_cases hlt : i < k
    · obtain ⟨x, hx⟩ : ∃ x, l[i]? = some x := ⟨_, List.getElem?_eq_getElem (by rw [HX.out.2.1]; exact hlt)⟩
      obtain ⟨cx, fx⟩ := HX.out.1.at i x hx
      have j0 : (0 : Int) ≤ (i : Int) := by omega
      have j1 : (i : Int) < (k : Int) := by omega
      by_cases h10 : x = 10
      · subst h10
        have cx' : wr.cell? ⟨g, i, none⟩ = some (.int .u8 10) := cx
        have HX1 : Hid (Bt (wr.setCell ⟨g, i, none⟩ (.int .u8 32)) g (l.set i 32) ∧ (l.set i 32).length = k ∧ ∀ j, j < i + 1 → ∀ x, (l.set i 32)[j]? = some x → x ≠ 10) := hide ⟨HX.out.1.set i 32, by rw [List.length_set]; exact HX.out.2.1, fun j hj y hy => by
          rw [List.getElem?_set] at hy
          by_cases e : i = j
          · rw [if_pos e] at hy
            split at hy
            · obtain rfl := Option.some.inj hy
              decide
            · cases hy
          · rw [if_neg e] at hy
            exact HX.out.2.2 j (by omega) y hy⟩
        have HB1 : Hid (Below W7.heap.size W7 (wr.setCell ⟨g, i, none⟩ (.int .u8 32))) := hide (HB.out.setCell (p := ⟨g, i, none⟩) (by show W7.heap.size ≤ g; omega) _)
        clear cx hx
        go_wp2_with fail
        go_roundw
        case rel => exact ⟨i + 1, _, by omega, by go_num, HX1, HB1⟩
        case measure => simp [intOf]; omega
      · have hq : ((x.toNat : Int) == 10) = false := beq_eq_false_iff_ne.2 (fun e => h10 (UInt8.toNat_inj.1 (by show x.toNat = 10; omega)))
        have HX1 : Hid (Bt wr g l ∧ l.length = k ∧ ∀ j, j < i + 1 → ∀ x, l[j]? = some x → x ≠ 10) := hide ⟨HX.out.1, HX.out.2.1, fun j hj y hy => by
          rcases Nat.lt_or_ge j i with h' | h'
          · exact HX.out.2.2 j h' y hy
          · obtain rfl : j = i := by omega
            rw [hx] at hy
            obtain rfl := Option.some.inj hy
            exact h10⟩
        clear hx h10
        generalize (x.toNat : Int) = xn at *
        go_wp2_with fail
        go_roundw
        case rel => exact ⟨i + 1, l, by omega, by go_num, HX1, HB⟩
        case measure => simp [intOf]; omega
    · obtain rfl : i = k := by omega
      have j1 : ¬ (i : Int) < (i : Int) := by omega
      have hcb := conv_back HX.out.1 cap
      rw [HX.out.2.1] at hcb
      obtain ⟨bs, hbs⟩ : ∃ bs, str l = bs := ⟨_, rfl⟩
      rw [hbs] at hcb
      have Hwo : Hid (Wo 10 l) := hide (fun h => by
        obtain ⟨j, hj⟩ := List.getElem?_of_mem h
        have hjl : j < l.length := by
          rcases Nat.lt_or_ge j l.length with h' | h'
          · exact h'
          · rw [List.getElem?_eq_none h'] at hj; cases hj
        exact HX.out.2.2 j (by rw [← HX.out.2.1]; exact hjl) 10 hj rfl)
      have hbz : bs.size = i := by rw [← hbs, str_size, HX.out.2.1]
      have Hts' := Hts.out
      have e1 : bs.size ≤ 50 := by omega
      have e2 : bs.size ≤ 9223372036854775806 := by omega
      have e3 : 1 + bs.size ≤ 9223372036854775805 := by omega
      have e4 : 1 + bs.size + 2 + text.size ≤ 9223372036854775807 := by omega
      have e5 : 1 + bs.size + 2 + text.size ≤ 9223372036854775805 := by omega
      have e6 : text.size ≤ 4096 := Hts'
      obtain ⟨X, hX⟩ : ∃ X, (((⟨#[35]⟩ ++ bs) ++ ⟨#[10, 10]⟩) ++ text) ++ ⟨#[10, 35]⟩ = X := ⟨_, rfl⟩
      have HXe : Hid (X = str (wideL l text.data.toList)) := hide (by
        rw [← str_of X, ← hX, app_list, app_list, app_list, app_list, ← hbs, str_list]
        unfold wideL
        simp)
      have HXs : Hid (X.size = (wideL l text.data.toList).length) := hide (by rw [HXe.out, str_size])
      have Hbw : Hid (Below w.heap.size w W7) := hide (Hb3.out.trans (HB7.out.mono Hb3.out.size))
      have Hbr : Hid (Below w.heap.size w wr) := hide (Hbw.out.trans (HB.out.mono Hbw.out.size))
      have HBr3 : Hid (Below W3.heap.size W3 wr) := hide (HB7.out.trans (HB.out.mono HB7.out.size))
      have HXr : Hid (wr.heap[g2]? = some (.cells #[vN, vE] 25)) := hide ((HB.out.block _ (heap_lt HBX2.out)).trans HBX2.out)
      have HX2 := hide hX
      clear hX hbs hbz Hts' e1
      by_cases hxs : X.size ≤ 4096
      · have hxs' : ¬ (X.size : Int) > 4096 := by omega
        have Hp3 : Hid (parseS firstAt X = ((ns, es), 0, 0)) := hide (by rw [HXe.out]; exact HWd.out l Hwo.out (by rw [← HXs.out]; exact hxs))
        clear hxs
        go_upto_region 20 with fail
        rw [HX2.out]
        go_upto_region 21 with (go_at_call 14; refine (K14'.out _ _ Hbr.out Hp3.out).mono ?_; rintro e W9 ⟨⟨b, d, b', d', rfl, h1, h2, h3⟩, hb9⟩; have HO9 := hide (And.intro h1 h2); have HB9 := hide (HBr3.out.trans (hb9.mono HBr3.out.size)); have Hgw : Hid (g2 < wr.heap.size) := hide (heap_lt HXr.out); have HX9 := hide ((hb9.block _ (heap_lt HXr.out)).trans HXr.out); obtain ⟨y0, f0⟩ := cells_at HX9.out 0; obtain ⟨y1, f1⟩ := cells_at HX9.out 1; simp at y0 y1; clear hb9 h1 h2 h3)
        have HRN : Hid (ndE.Rd ((W9.setCell ⟨g2, 0, none⟩ (.slice b n d)).setCell ⟨g2, 1, none⟩ (.slice b' m d')) (.slice b n d) ns ∧ edE.Rd ((W9.setCell ⟨g2, 0, none⟩ (.slice b n d)).setCell ⟨g2, 1, none⟩ (.slice b' m d')) (.slice b' m d') es) := hide ⟨(own_put (own_put HO9.out.1 Hgw.out) Hgw.out).rd, (own_put (own_put HO9.out.2 Hgw.out) Hgw.out).rd⟩
        have HBA : Hid (Below W3.heap.size W3 ((W9.setCell ⟨g2, 0, none⟩ (.slice b n d)).setCell ⟨g2, 1, none⟩ (.slice b' m d'))) := hide ((HB9.out.setCell (p := ⟨g2, 0, none⟩) Hg2.out _).setCell (p := ⟨g2, 1, none⟩) Hg2.out _)
        have HXA := hide (heap_put (i := 1) (heap_put (i := 0) HX9.out (.slice b n d)) (.slice b' m d'))
        obtain ⟨WA, hWA⟩ : ∃ WA, (W9.setCell ⟨g2, 0, none⟩ (.slice b n d)).setCell ⟨g2, 1, none⟩ (.slice b' m d') = WA := ⟨_, rfl⟩
        rw [hWA] at HRN HBA HXA
        rw [hWA]
        clear hWA y0 y1 f0 f1
        obtain ⟨x0, x1⟩ := boxg HBX.out HBA.out
        have y0 := (cells_at HXA.out 0).1
        have y1 := (cells_at HXA.out 1).1
        simp at y0 y1
        go_wp2_with (go_at_call 16; refine (K16.out _ _ _ _ _ _ _ _ _ (HR3.out.1.keep HBA.out) (HR3.out.2.keep HBA.out) HRN.out.1 HRN.out.2).mono ?_; rintro e WB ⟨rfl, hbB⟩; have HBB := hide (HBA.out.trans (hbB.mono HBA.out.size)); clear hbB)
        go_ret
        exact ⟨by first | rfl | simp, Hb3.out.trans (HBB.out.mono Hb3.out.size)⟩
      · have hxs' : (X.size : Int) > 4096 := by omega
        have Hx4 : Hid (4096 < X.size) := hide (by omega)
        clear hxs
        go_upto_region 20 with fail
        rw [HX2.out]
        go_upto_region 21 with (go_at_call 14; refine (KL.out _ _ Hbr.out Hx4.out).mono ?_; rintro e W9 ⟨rfl, hb9⟩; have HB9 := hide (HBr3.out.trans (hb9.mono HBr3.out.size)); have HX9 := hide ((hb9.block _ (heap_lt HXr.out)).trans HXr.out); obtain ⟨y0, f0⟩ := cells_at HX9.out 0; obtain ⟨y1, f1⟩ := cells_at HX9.out 1; simp at y0 y1; clear hb9)
        have HBA : Hid (Below W3.heap.size W3 ((W9.setCell ⟨g2, 0, none⟩ (.slice none 0 0)).setCell ⟨g2, 1, none⟩ (.slice none 0 0))) := hide ((HB9.out.setCell (p := ⟨g2, 0, none⟩) Hg2.out _).setCell (p := ⟨g2, 1, none⟩) Hg2.out _)
        go_wp2_with fail
        go_ret
        exact ⟨by first | rfl | simp, Hb3.out.trans (HBA.out.mono Hb3.out.size)⟩
end Go.Proofs.YtpjolnaomdmnnaaDoor.layoutBack
