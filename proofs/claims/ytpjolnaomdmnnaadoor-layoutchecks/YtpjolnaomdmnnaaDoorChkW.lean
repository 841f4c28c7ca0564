/- The walk of LayoutChecks. -/
import Derived.Test.YtpjolnaomdmnnaaDoorRsh
import Derived.Test.YtpjolnaomdmnnaaDoorRdsW
namespace Go.Proofs.YtpjolnaomdmnnaaDoor.layoutChecks
open Go.ChangeShapes Go.WideShapes Go.ChangeAt Go.RowKit
set_option linter.unusedVariables false

theorem layg {g : Nat} {W0 W1 : World} {vN vE : Value} (hbox : W0.heap[g]? = some (.cells #[vN, vE] 25)) (hb : Below W0.heap.size W0 W1) : W1.cell? ⟨g, 0, none⟩ = some vN ∧ W1.cell? ⟨g, 1, none⟩ = some vE := by
  rw [hb.cell (p := ⟨g, 0, none⟩) (heap_lt hbox), hb.cell (p := ⟨g, 1, none⟩) (heap_lt hbox)]
  exact ⟨(cells_at hbox 0).1, (cells_at hbox 1).1⟩
/-- a slice of the call's own has no less room than it is long -/
theorem own_cap {α : Type} {E : El Tryd.prog α} {w : World} {B n c : Nat} {a : Option Addr} {xs : List α} (h : E.Own w B (.slice a n c) xs) : n ≤ c := by
  rcases h.2 with ⟨h1, _⟩ | ⟨g, cap, cur, h1, _, _, hc, _⟩
  · simp only [Value.slice.injEq] at h1
    obtain ⟨_, rfl, rfl⟩ := h1
    exact Nat.le_refl _
  · simp only [Value.slice.injEq] at h1
    obtain ⟨_, rfl, rfl⟩ := h1
    exact hc

set_option maxRecDepth 100000 in
set_option maxHeartbeats 4000000 in
theorem walk (a0 b0 : Option Addr) (c0 e0 : Nat) (ns : List Nd) (es : List Ed) (w : World) (rn0 : ndE.Rd w (.slice a0 ns.length c0) ns) (re0 : edE.Rd w (.slice b0 es.length e0) es) (rs0 : ∀ p ∈ ns, p.name.size ≤ maxLen) (L : Laid w) :
    Calls Tryd.prog 3 #[.agg #[.slice a0 ns.length c0, .slice b0 es.length e0]] w fun e w' => e = .returned (.bool true) ∧ Below w.heap.size w w' := by
  obtain ⟨n, hn⟩ : ∃ n, ns.length = n := ⟨_, rfl⟩
  obtain ⟨m, hm⟩ : ∃ m, es.length = m := ⟨_, rfl⟩
  rw [hn] at rn0 ⊢
  rw [hm] at re0 ⊢
  obtain ⟨W0, hW0⟩ : ∃ W0, w.alloc (.cells #[.slice a0 n c0, .slice b0 m e0] 25) = W0 := ⟨_, rfl⟩
  have bA : Below w.heap.size w W0 := by rw [← hW0]; exact (Below.refl _ _).alloc (Nat.le_refl _) _
  have hbox : W0.heap[w.heap.size]? = some (.cells #[.slice a0 n c0, .slice b0 m e0] 25) := by rw [← hW0]; exact heap_new _ _
  have HBOX := hide hbox
  have HA := hide bA
  have HW0 := hide hW0
  have HR : Hid (∀ W, Below W0.heap.size W0 W → ndE.Rd W (.slice a0 n c0) ns ∧ edE.Rd W (.slice b0 m e0) es ∧ Laid W) := hide (fun W h => have b := bA.trans (h.mono bA.size); ⟨rn0.keep b, re0.keep b, L.keep L.size b⟩)
  have K9 : Hid (∀ W, Below W0.heap.size W0 W → _) := hide (fun W (h : Below W0.heap.size W0 W) => awake_any W (HR.out W h).2.2)
  have K10 : Hid (∀ W, Below W0.heap.size W0 W → Calls Tryd.prog 10 #[.agg #[.slice a0 n c0, .slice b0 m e0]] W fun e w' => e = .returned (.bool (good ns es)) ∧ Below W.heap.size W w') := hide (fun W h => by
    have := rgood_any a0 b0 c0 e0 ns es W (by rw [hn]; exact (HR.out W h).1) (by rw [hm]; exact (HR.out W h).2.1)
    rwa [hn, hm] at this)
  have K12 : Hid (n ≤ 200 → m ≤ 400 → ∀ W, Below W0.heap.size W0 W → Calls Tryd.prog 12 #[.agg #[.slice a0 n c0, .slice b0 m e0]] W fun e w' => ∃ aN aE cN cE, e = .returned (.agg #[.slice aN n cN, .slice aE m cE]) ∧ (ndE.Rd w' (.slice aN n cN) ns ∧ edE.Rd w' (.slice aE m cE) es ∧ m ≤ cE) ∧ Below W.heap.size W w') := hide (fun h1 h2 W h => by
    have hc := copy_any a0 b0 c0 e0 ns es W (by rw [hn]; exact (HR.out W h).1) (by rw [hm]; exact (HR.out W h).2.1) (by omega) (by omega)
    rw [hn, hm] at hc
    refine hc.mono ?_
    rintro e w' ⟨vN, vE, rfl, hN, hE, hb⟩
    obtain ⟨aN, cN, rfl⟩ := hN.rd.form
    obtain ⟨aE, cE, rfl⟩ := hE.rd.form
    rw [hn] at hN ⊢
    rw [hm] at hE ⊢
    exact ⟨aN, aE, cN, cE, rfl, ⟨hN.rd, hE.rd, own_cap hE⟩, hb⟩)
  have K11 : Hid (∀ (W : World) (a a' : Option Addr) (c c' : Nat), Below W0.heap.size W0 W → ndE.Rd W (.slice a n c) ns → edE.Rd W (.slice a' m c') es → m ≤ c' → Calls Tryd.prog 11 #[.agg #[.slice a n c, .slice a' m c']] W fun e w' => e = .returned (.tuple #[.string (if good ns es = true then str (showL ns es) else ⟨#[]⟩), .int .i64 (if good ns es = true then 0 else 61)]) ∧ Below W.heap.size W w') := hide (fun W a a' c c' h r1 r2 h3 => by
    cases hg : good ns es with
    | true => rw [if_pos rfl, if_pos rfl]; exact show_ok a a' c c' n m ns es W (HR.out W h).2.2 hn hm r1 r2 h3 rs0 hg
    | false => rw [if_neg (by simp), if_neg (by simp)]; exact show_no a a' c c' n m ns es W hn hm r1 r2 h3 rs0 hg)
  have K13 : Hid (∀ (W : World) (a a' : Option Addr) (c c' : Nat), ndE.Rd W (.slice a n c) ns → edE.Rd W (.slice a' m c') es → m ≤ c' → Calls Tryd.prog 13 #[.agg #[.slice a n c, .slice a' m c']] W fun e w' => e = .returned (.int .i64 (if good ns es = true then 0 else 61)) ∧ Below W.heap.size W w') := hide (fun W a a' c c' r1 r2 h3 => by
    have := check_any a a' c c' ns es W (by rw [hn]; exact r1) (by rw [hm]; exact r2) (by rw [hm]; exact h3) rs0
    rwa [hn, hm] at this)
  have K14 : Hid (∀ (W : World) t, Below W0.heap.size W0 W → _) := hide (fun W t (h : Below W0.heap.size W0 W) => layoutReads.left_p t W (HR.out W h).2.2)
  have K15 : Hid (good ns es = true → ∀ W, Below W0.heap.size W0 W → _) := hide (fun hg W (h : Below W0.heap.size W0 W) => rshow_ok a0 b0 c0 e0 n m ns es W hn hm (HR.out W h).1 (HR.out W h).2.1 hg)
  have K16 : Hid (n ≤ 200 → m ≤ 400 → ∀ (W : World) (a a' : Option Addr) (c c' : Nat), ndE.Rd W (.slice a n c) ns → edE.Rd W (.slice a' m c') es → Below W0.heap.size W0 W → Calls Tryd.prog 16 #[.agg #[.slice a n c, .slice a' m c'], .agg #[.slice a0 n c0, .slice b0 m e0]] W fun e w' => e = .returned (.bool true) ∧ Below W.heap.size W w') := hide (fun h1 h2 W a a' c c' r1 r2 h => by
    have h' := rsame_any a a' a0 b0 c c' c0 e0 ns ns es es W (by rw [hn]; exact r1) (by rw [hm]; exact r2) (by rw [hn]; exact (HR.out W h).1) (by rw [hm]; exact (HR.out W h).2.1) (by omega) (by omega)
    rwa [decide_eq_true (show ns = ns ∧ es = es from ⟨rfl, rfl⟩), hn, hm] at h')
  have HPS : Hid (good ns es = true → (showL ns es).length ≤ 4096 → parseS firstAt (str (showL ns es)) = ((ns, es), 0, 0)) := hide (fun hg h => parse_show hg h)
  have Hn := hide hn
  have Hm := hide hm
  clear rn0 re0 rs0 L hbox bA hW0 hn hm
  go_enter Tryd.func3, Tryd.ntmps3
  go_upto_region 1 with fail
  rw [HW0.out]
  clear HW0
  have Hb0 : Hid (Below W0.heap.size W0 W0) := hide (Below.refl _ _)
  by_cases hsz : n ≤ 200 ∧ m ≤ 400
  · obtain ⟨hn2, hm4⟩ := hsz
    have l1 : ¬ (200 : Int) < (n : Int) := by omega
    have l2 : ¬ (400 : Int) < (m : Int) := by omega
    have Hn2 := hide hn2
    have Hm4 := hide hm4
    clear hn2 hm4
    go_upto_region 3 with (go_at_call 9; refine (K9.out _ Hb0.out).mono ?_; rintro e W1 ⟨rfl, hb1⟩; have Hb1 := hide hb1; obtain ⟨x0, x1⟩ := layg HBOX.out hb1; clear hb1)
    go_upto_region 4 with (go_at_call 10; refine (K10.out _ Hb1.out).mono ?_; rintro e W2 ⟨rfl, hb2⟩; have Hb2 : Hid (Below W0.heap.size W0 W2) := hide (Hb1.out.trans (hb2.mono Hb1.out.size)); obtain ⟨x0, x1⟩ := layg HBOX.out Hb2.out; clear hb2)
    generalize hgd : good ns es = gd at K10 K11 K13 ⊢
    go_upto_region 5 with (first
      | (go_at_call 12; refine (K12.out Hn2.out Hm4.out _ Hb2.out).mono ?_; rintro e W3 ⟨aN, aE, cN, cE, rfl, hR3, hb3⟩; have HR3 := hide hR3; have Hb3 : Hid (Below W0.heap.size W0 W3) := hide (Hb2.out.trans (hb3.mono Hb2.out.size)); clear hR3 hb3)
      | (go_at_call 11; refine (K11.out _ _ _ _ _ Hb3.out HR3.out.1 HR3.out.2.1 HR3.out.2.2).mono ?_; rintro e W4 ⟨rfl, hb4⟩; have Hb4 : Hid (Below W0.heap.size W0 W4) := hide (Hb3.out.trans (hb4.mono Hb3.out.size)); obtain ⟨x0, x1⟩ := layg HBOX.out Hb4.out; clear hb4))
    cases gd with
    | false =>
      simp only [Bool.false_eq_true, if_false] at K13 ⊢
      go_wp2_with (first
        | (go_at_call 12; refine (K12.out Hn2.out Hm4.out _ Hb4.out).mono ?_; rintro e W5 ⟨aN', aE', cN', cE', rfl, hR5, hb5⟩; have HR5 := hide hR5; have Hb5 : Hid (Below W0.heap.size W0 W5) := hide (Hb4.out.trans (hb5.mono Hb4.out.size)); clear hR5 hb5)
        | (go_at_call 13; refine (K13.out _ _ _ _ _ HR5.out.1 HR5.out.2.1 HR5.out.2.2).mono ?_; rintro e W6 ⟨rfl, hb6⟩; have Hb6 : Hid (Below W0.heap.size W0 W6) := hide (Hb5.out.trans (hb6.mono Hb5.out.size)); clear hb6))
      go_ret
      exact ⟨by first | rfl | simp, HA.out.trans (Hb6.out.mono HA.out.size)⟩
    | true =>
      simp only [if_true] at K13 ⊢
      have Hgd := hide hgd
      clear hgd
      go_upto_region 9 with (first
        | (go_at_call 12; refine (K12.out Hn2.out Hm4.out _ Hb4.out).mono ?_; rintro e W5 ⟨aN', aE', cN', cE', rfl, hR5, hb5⟩; have HR5 := hide hR5; have Hb5 : Hid (Below W0.heap.size W0 W5) := hide (Hb4.out.trans (hb5.mono Hb4.out.size)); clear hR5 hb5)
        | (go_at_call 13; refine (K13.out _ _ _ _ _ HR5.out.1 HR5.out.2.1 HR5.out.2.2).mono ?_; rintro e W6 ⟨rfl, hb6⟩; have Hb6 : Hid (Below W0.heap.size W0 W6) := hide (Hb5.out.trans (hb6.mono Hb5.out.size)); clear hb6))
      obtain ⟨tx, htx⟩ : ∃ t, str (showL ns es) = t := ⟨_, rfl⟩
      have Htx := hide htx
      rw [htx]
      clear htx
      by_cases hlong : 4096 < tx.size
      · have Hp : Hid (parseS firstAt tx = (([], []), 0, 3)) := hide (by unfold parseS; rw [if_pos hlong])
        have l3 : (4096 : Int) < (tx.size : Int) := by omega
        clear hlong
        go_wp2_with (go_at_call 14; refine (K14.out _ tx Hb6.out).mono ?_; rintro e W7 ⟨hL7, hb7⟩; rw [Hp.out] at hL7; obtain ⟨a, c, a', c', rfl, _, _⟩ := hL7; have Hb7 : Hid (Below W0.heap.size W0 W7) := hide (Hb6.out.trans (hb7.mono Hb6.out.size)); clear hb7; simp only [List.length_nil])
        go_ret
        exact ⟨by first | rfl | simp, HA.out.trans (((Hb7.out.alloc Hb7.out.size _)).mono HA.out.size)⟩
      · have Hp : Hid (parseS firstAt tx = ((ns, es), 0, 0)) := hide (by rw [← Htx.out]; exact HPS.out Hgd.out (by rw [← str_size, Htx.out]; omega))
        have l3 : ¬ (4096 : Int) < (tx.size : Int) := by omega
        clear hlong
        go_upto_region 10 with (go_at_call 14; refine (K14.out _ tx Hb6.out).mono ?_; rintro e W7 ⟨hL7, hb7⟩; rw [Hp.out] at hL7; obtain ⟨a, c, a', c', rfl, hr1, hr2⟩ := hL7; simp only [Hn.out, Hm.out] at hr1 hr2 ⊢; have HR7 := hide (And.intro hr1 hr2); have Hb7 : Hid (Below W0.heap.size W0 W7) := hide (Hb6.out.trans (hb7.mono Hb6.out.size)); clear hb7 hr1 hr2)
        obtain ⟨W8, hW8⟩ : ∃ W8, W7.alloc (.cells #[.slice a n c, .slice a' m c'] 25) = W8 := ⟨_, rfl⟩
        have b8 : Below W7.heap.size W7 W8 := by rw [← hW8]; exact (Below.refl _ _).alloc (Nat.le_refl _) _
        have hbx8 : W8.heap[W7.heap.size]? = some (.cells #[.slice a n c, .slice a' m c'] 25) := by rw [← hW8]; exact heap_new _ _
        have HBX8 := hide hbx8
        have HR8 := hide (And.intro (HR7.out.1.keep b8) (HR7.out.2.keep b8))
        have Hb8 : Hid (Below W0.heap.size W0 W8) := hide (Hb7.out.trans (b8.mono Hb7.out.size))
        obtain ⟨x0, x1⟩ := layg HBOX.out Hb8.out
        have HW8 := hide hW8
        obtain ⟨g7, hg7⟩ : ∃ g, W7.heap.size = g := ⟨_, rfl⟩
        rw [hg7] at HBX8
        have Hg7 := hide hg7
        clear hW8 hbx8 b8 hg7
        rw [HW8.out, Hg7.out]
        clear HW8 Hg7
        have ee := eq_bytes tx tx
        rw [decide_eq_true rfl] at ee
        go_wp2_with (first
          | (go_at_call 15; refine (K15.out Hgd.out _ Hb8.out).mono ?_; rintro e W9 ⟨rfl, hb9⟩; rw [Htx.out]; have HR9 := hide (And.intro (HR8.out.1.keep hb9) (HR8.out.2.keep hb9)); obtain ⟨y0, y1⟩ := layg HBX8.out hb9; have Hb9 : Hid (Below W0.heap.size W0 W9) := hide (Hb8.out.trans (hb9.mono Hb8.out.size)); obtain ⟨x0, x1⟩ := layg HBOX.out Hb9.out; clear hb9)
          | (go_at_call 16; refine (K16.out Hn2.out Hm4.out _ _ _ _ _ HR9.out.1 HR9.out.2 Hb9.out).mono ?_; rintro e W10 ⟨rfl, hb10⟩; have Hb10 : Hid (Below W0.heap.size W0 W10) := hide (Hb9.out.trans (hb10.mono Hb9.out.size)); clear hb10))
        go_ret
        exact ⟨by first | rfl | simp, HA.out.trans (Hb10.out.mono HA.out.size)⟩
  · have K9' : Hid (∀ W, Below W0.heap.size W0 W → Calls Tryd.prog 9 #[] W fun e w' => e = .returned (.bool true) ∧ Below W0.heap.size W0 w') := hide (fun W h => (K9.out W h).mono (by rintro e w' ⟨h1, h2⟩; exact ⟨h1, h.trans (h2.mono h.size)⟩))
    rcases Classical.em ((200 : Int) < (n : Int)) with hbig | hbig
    · clear hsz
      go_wp2_with (go_at_call 9; refine (K9'.out _ Hb0.out).mono ?_; rintro e W1 ⟨rfl, hb1⟩; have Hb0 := hide hb1; obtain ⟨x0, x1⟩ := layg HBOX.out hb1; clear hb1)
      go_ret
      exact ⟨rfl, HA.out.trans (Hb0.out.mono HA.out.size)⟩
    · have hbig2 : (400 : Int) < (m : Int) := by omega
      clear hsz
      go_wp2_with (go_at_call 9; refine (K9'.out _ Hb0.out).mono ?_; rintro e W1 ⟨rfl, hb1⟩; have Hb0 := hide hb1; obtain ⟨x0, x1⟩ := layg HBOX.out hb1; clear hb1)
      go_ret
      exact ⟨rfl, HA.out.trans (Hb0.out.mono HA.out.size)⟩
end Go.Proofs.YtpjolnaomdmnnaaDoor.layoutChecks
