/- The document's Take and Ahead. -/
import Derived.Test.YtddcjkbdgneklaaLrf
namespace Go.Proofs.Ytddcjkbdgneklaa
open Go.RowKit
set_option linter.unusedVariables false

theorem Db.put2 {w0 w : World} {h : Nat} {d e : Int} {v z : Value} (x : Db w0 w h d v z e) (u : Value) : Db w0 ((w.setCell ⟨h, 0, none⟩ (.int .i64 d)).setCell ⟨h, 1, none⟩ u) h d u z e :=
  ⟨(x.bel.setCell (p := ⟨h, 0, none⟩) (Nat.le_refl _) _).setCell (p := ⟨h, 1, none⟩) (Nat.le_refl _) _, by rw [heap_put (heap_put x.b1 _)]; rfl, by rw [Below.heap_setCell _ _ _ _ (by show h + 1 ≠ h; omega), Below.heap_setCell _ _ _ _ (by show h + 1 ≠ h; omega)]; exact x.b2⟩
/-- a row of numbers is none of the boxes -/
theorem Db.ownPut {w0 w : World} {h B : Nat} {d e : Int} {v z u v' : Value} {xs : List Int} (x : Db w0 w h d v z e) (ho : intE.Own w B v' xs) : intE.Own ((w.setCell ⟨h, 0, none⟩ (.int .i64 d)).setCell ⟨h, 1, none⟩ u) B v' xs :=
  own_set_other (own_set_other ho (zown_ne ho x.b1 (by decide))) (zown_ne ho x.b1 (by decide))
theorem Db.ownOut {w0 w : World} {h B : Nat} {d e : Int} {v z v' : Value} {xs : List Int} (x : Db w0 w h d v z e) (ho : intE.Own w B v' xs) : intE.Own ((w.setCell ⟨h + 1, 0, none⟩ (.int .i64 d)).setCell ⟨h + 1, 1, none⟩ v) B v' xs :=
  own_set_other (own_set_other ho (zown_ne ho x.b2 (by decide))) (zown_ne ho x.b2 (by decide))

set_option maxRecDepth 100000 in
set_option maxHeartbeats 4000000 in
/-- one box -/
structure D1 (w0 w : World) (h : Nat) (d : Int) (v : Value) : Prop where
  bel : Below h w0 w
  b1 : w.heap[h]? = some (.cells #[.int .i64 d, v] 75)
theorem D1.keep {w0 w w' : World} {h : Nat} {d : Int} {v : Value} (x : D1 w0 w h d v) (hb : Below w.heap.size w w') : D1 w0 w' h d v :=
  ⟨x.bel.trans (hb.mono (Nat.le_of_lt (heap_lt x.b1))), (hb.block _ (heap_lt x.b1)).trans x.b1⟩
theorem D1.new (w : World) (d : Int) (v : Value) : D1 w (w.alloc (.cells #[.int .i64 d, v] 75)) w.heap.size d v := ⟨(Below.refl _ _).alloc (Nat.le_refl _) _, heap_new _ _⟩
theorem D1.cells {w0 w : World} {h : Nat} {d : Int} {v : Value} (x : D1 w0 w h d v) : w.cell? ⟨h, 0, none⟩ = some (.int .i64 d) ∧ w.cell? ⟨h, 1, none⟩ = some v := ⟨(cells_at x.b1 0).1, (cells_at x.b1 1).1⟩

set_option maxRecDepth 100000 in
set_option maxHeartbeats 4000000 in
theorem rahead_no {w : World} {a : Option Addr} {n c d : Nat} {xs : List Int} (t : Int) (hv : intE.Rd w (.slice a n c) xs) (hn : xs.length = n) (hl : n ≤ 1000) (ht : t ∉ xs) :
    Calls Try.prog 34 #[.agg #[.int .i64 d, .slice a n c], .int .i64 t] w fun e w' => e = .returned (.tuple #[.slice none 0 0, .int .i64 160]) ∧ Below w.heap.size w w' := by
  obtain ⟨w0, rfl⟩ : ∃ w0, w0 = w := ⟨_, rfl⟩
  obtain ⟨h, hh⟩ : ∃ h, w0.heap.size = h := ⟨_, rfl⟩
  have HD := hide (D1.new w0 d (.slice a n c))
  have K23 := hide (at_any d t (hv.keep HD.out.bel) hn hl)
  rw [loc_no ht] at K23
  rw [hh] at HD ⊢
  have Hh := hide hh
  clear hh hv hn hl ht
  go_enter Try.func34, Try.ntmps34
  go_upto_region 1 with fail
  rw [Hh.out]
  generalize w0.alloc (.cells #[.int .i64 (d : Int), .slice a n c] 75) = W at *
  obtain ⟨x0, x1⟩ := HD.out.cells
  go_wp2_with (go_at_call 42; refine K23.out.mono ?_; rintro e W1 ⟨rfl, hb⟩; have HD1 := hide (HD.out.keep hb); clear hb)
  go_ret2
  exact ⟨rfl, HD1.out.bel⟩

set_option maxRecDepth 100000 in
set_option maxHeartbeats 4000000 in
theorem rahead_yes {w : World} {a : Option Addr} {n c d k : Nat} {xs : List Int} {t : Int} (hv : intE.Rd w (.slice a n c) xs) (hn : xs.length = n) (hl : n ≤ 1000) (ht : t ∈ xs) (hk : loc xs t = (k : Int)) :
    Calls Try.prog 34 #[.agg #[.int .i64 d, .slice a n c], .int .i64 t] w fun e w' => ∃ v, e = .returned (.tuple #[v, .int .i64 0]) ∧ intE.Own w' w.heap.size v (ahd xs k) ∧ Below w.heap.size w w' := by
  obtain ⟨w0, rfl⟩ : ∃ w0, w0 = w := ⟨_, rfl⟩
  obtain ⟨h, hh⟩ : ∃ h, w0.heap.size = h := ⟨_, rfl⟩
  have HD := hide (D1.new w0 d (.slice a n c))
  have HR : Hid (∀ W, Below h w0 W → intE.Rd W (.slice a n c) xs) := hide (fun W hb => hv.keep (by rw [hh]; exact hb))
  have K23 := hide (at_any d t (hv.keep HD.out.bel) hn hl)
  rw [hk] at K23
  obtain ⟨k', hk', hkl, _⟩ := loc_in ht
  obtain rfl : k' = k := by omega
  rw [hh] at HD ⊢
  have Hh := hide hh
  have Hn := hide hn
  have Hl := hide hl
  have j6 : ¬ (k' : Int) < 0 := by omega
  have j7 : (n : Int) ≤ 1000 := by omega
  have j8 : (k' : Int) < (n : Int) := by omega
  clear hh hv hn hl ht hk hk'
  go_enter Try.func34, Try.ntmps34
  go_upto_region 1 with fail
  rw [Hh.out]
  generalize w0.alloc (.cells #[.int .i64 (d : Int), .slice a n c] 75) = W at *
  obtain ⟨x0, x1⟩ := HD.out.cells
  go_upto_region 5 with (go_at_call 42; refine K23.out.mono ?_; rintro e W1 ⟨rfl, hb⟩; have HD1 := hide (HD.out.keep hb); clear hb)
  clear x0 x1
  obtain ⟨x0, x1⟩ := HD1.out.cells
  obtain ⟨s1, hs1⟩ : ∃ s1, W1.heap.size = s1 := ⟨_, rfl⟩
  have Hs1 : Hid (h < s1) := hide (by rw [← hs1]; exact heap_lt HD1.out.b1)
  have Hs2 : Hid (s1 ≤ W1.heap.size) := hide (by omega)
  clear hs1
  go_wp2_with fail
  go_loopw [7, 8] (fun v7 v8 wr => ∃ (i : Nat) (y : Int), v8 = .int .i64 y ∧ y + 1 = (i : Int) ∧ k' < i ∧ i ≤ n ∧ s1 ≤ wr.heap.size ∧ Hid (D1 w0 wr h d (.slice a n c)) ∧ Hid (intE.Own wr s1 v7 (xs.drop i).reverse)) (fun _ v8 _ => (intOf v8).toNat)
  case atStart => exact ⟨n, _, rfl, by omega, by omega, Nat.le_refl _, Hs2.out, HD1, hide (by rw [← Hn.out, List.drop_length]; exact El.Own.nil _ _ _)⟩
  case round =>
    obtain ⟨i, y, rfl, hy, hki, hin, hsz, HD2, HO⟩ := hrel
    by_cases hgt : k' + 1 < i
    · obtain ⟨m, hm⟩ : ∃ m : Nat, i = m + 1 := ⟨i - 1, by omega⟩
      subst hm
      obtain rfl : y = (m : Int) := by omega
      obtain ⟨p, hp⟩ : ∃ p, xs[m]? = some p := ⟨_, List.getElem?_eq_getElem (by rw [Hn.out]; omega)⟩
      obtain ⟨b, off, rfl, c2⟩ := int_at (HR.out wr HD2.out.bel) m p hp
      have c1 := HD2.out.cells.2
      have j9 : (m : Int) > (k' : Int) := by omega
      have j10 : (m : Int) < (n : Int) := by omega
      have j11 : (0 : Int) ≤ (m : Int) := by omega
      have Hst := hide (ahd_step hp)
      have HL : Hid ((xs.drop (m + 1)).reverse.length + [p].length ≤ 1000000) := hide (by simp; have := Hn.out; have := Hl.out; omega)
      have Hba : Hid (∀ (o : Obj), Below wr.heap.size wr (wr.alloc o)) := hide (fun o => (Below.refl _ _).alloc (Nat.le_refl _) o)
      have HBa : Hid (∀ (o : Obj), s1 ≤ (wr.alloc o).heap.size) := hide (fun o => Nat.le_trans hsz (Hba.out o).size)
      have HDa : Hid (∀ (o : Obj), D1 w0 (wr.alloc o) h d (.slice (some ⟨b, off, none⟩) n c)) := hide (fun o => HD2.out.keep (Hba.out o))
      have HOa : Hid (∀ (o : Obj), intE.Own (wr.alloc o) s1 u7 (xs.drop (m + 1)).reverse) := hide (fun o => HO.out.keep (Hba.out o))
      have HNw : Hid (intE.Rd (wr.alloc (.cells #[.int .i64 p] 3)) (.slice (some ⟨wr.heap.size, 0, none⟩) 1 1) [p]) := hide (int_new _ _ _ rfl)
      clear hp hy hgt
      go_wp2_with (at_builtin; refine intE.wpB (HBa.out _) (by rfl) _ _ rfl _ _ rfl rfl _ [p] (HOa.out _) HNw.out HL.out ?_; intro v' w' ho hg hs; have HO2 := hide ho; have HD3 : Hid (D1 w0 w' h d (.slice (some ⟨b, off, none⟩) n c)) := hide ⟨(HDa.out _).bel.grown hg (by have := heap_lt (HDa.out (.cells #[.int .i64 p] 3)).b1; omega) (fun k hk => by have := (HOa.out (.cells #[.int .i64 p] 3)).ge k hk; have := Hs1.out; omega), (hg.block h (heap_lt (HDa.out _).b1) (fun e => by have := (HOa.out (.cells #[.int .i64 p] 3)).ge h e.symm; have := Hs1.out; omega)).trans (HDa.out _).b1⟩; have hs2 := hide (Nat.le_trans (HBa.out _) hg.size); clear ho hg hs)
      go_roundw
      case rel => exact ⟨m, _, rfl, by omega, by omega, by omega, hs2.out, HD3, hide (by rw [← Hst.out]; exact HO2.out)⟩
      case measure => simp [intOf]; omega
    · obtain rfl : i = k' + 1 := by omega
      obtain rfl : y = (k' : Int) := by omega
      have j9 : ¬ (k' : Int) > (k' : Int) := by omega
      clear hy hgt
      go_wp2_with fail
      refine bodyPost_ret (v := .tuple #[u7, .int .i64 0]) (by simp [results, Try.results34, go_sem]) rfl ⟨u7, rfl, HO.out.mono (by have := Hs1.out; omega), HD2.out.bel⟩
end Go.Proofs.Ytddcjkbdgneklaa
