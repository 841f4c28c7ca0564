/- The document's lane: At, Push, Pop, Take, Ahead. -/
import Derived.Test.YtddcjkbdgneklaaGpn
namespace Go.Proofs.Ytddcjkbdgneklaa
open Go.RowKit
set_option linter.unusedVariables false

set_option maxRecDepth 100000 in
set_option maxHeartbeats 2000000 in
theorem at_any {w : World} {a : Option Addr} {n c : Nat} {xs : List Int} (d t : Int) (hv : intE.Rd w (.slice a n c) xs) (hn : xs.length = n) (hl : n ≤ 1000) :
    Calls Try.prog 42 #[.agg #[.int .i64 d, .slice a n c], .int .i64 t] w fun e w' => e = .returned (.int .i64 (loc xs t)) ∧ Below w.heap.size w w' := by
  obtain ⟨w0, rfl⟩ : ∃ w0, w0 = w := ⟨_, rfl⟩
  have HB : Hid (Below w0.heap.size w0 (w0.alloc (.cells #[.int .i64 d, .slice a n c] 75))) := hide ((Below.refl _ _).alloc (Nat.le_refl _) _)
  have HX : Hid ((w0.alloc (.cells #[.int .i64 d, .slice a n c] 75)).heap[w0.heap.size]? = some (.cells #[.int .i64 d, .slice a n c] 75)) := hide (heap_new _ _)
  have HV := hide (hv.keep HB.out)
  have Hn := hide hn
  have i0 : (n : Int) ≤ 1000 := by omega
  have yes : Hid (∀ k : Nat, xs[k]? = some t → (∀ i : Nat, i < k → xs[i]? ≠ some t) → loc xs t = k) := hide (fun k h h' => loc_yes h h')
  have no : Hid ((∀ k : Nat, k < n → xs[k]? ≠ some t) → loc xs t = -1) := hide (fun h => loc_no' (by rw [hn]; exact h))
  generalize loc xs t = res at *
  clear hn hv hl
  obtain ⟨h, hh⟩ : ∃ h, w0.heap.size = h := ⟨_, rfl⟩
  rw [hh] at HB HX ⊢
  have Hh := hide hh
  clear hh
  go_enter Try.func42, Try.ntmps42
  go_upto_region 1 with fail
  rw [Hh.out]
  generalize w0.alloc (.cells #[.int .i64 d, .slice a n c] 75) = W at *
  have x1 : W.cell? ⟨h, 1, none⟩ = some (.slice a n c) := (cells_at HX.out 1).1
  go_wp2_with fail
  go_loopw [9] (fun v9 wr => ∃ k : Nat, wr = W ∧ v9 = .int .i64 k ∧ k ≤ n ∧ Hid (∀ i : Nat, i < k → xs[i]? ≠ some t)) (fun v9 _ => n - (intOf v9).toNat)
  case atStart => exact ⟨0, rfl, rfl, Nat.zero_le _, hide (fun i hi => by omega)⟩
  case round =>
    obtain ⟨k, hwr, rfl, hk, HXs⟩ := hrel
    have hwr' := hwr.symm
    clear hwr
    subst hwr'
    by_cases hlt : k < n
    · obtain ⟨p, hp⟩ : ∃ p, xs[k]? = some p := ⟨_, List.getElem?_eq_getElem (by rw [Hn.out]; exact hlt)⟩
      obtain ⟨b, off, rfl, c0⟩ := int_at HV.out k p hp
      have j0 : (0 : Int) ≤ (k : Int) := by omega
      have j1 : (k : Int) < (n : Int) := by omega
      have Hp := hide hp
      clear hp
      by_cases he : p = t
      · subst he
        have e1 := yes.out k Hp.out HXs.out
        subst e1
        go_wp2_with fail
        go_ret
        exact ⟨rfl, HB.out⟩
      · have hbe : (p == t) = false := beq_eq_false_iff_ne.2 he
        have HX1 : Hid (∀ i : Nat, i < k + 1 → xs[i]? ≠ some t) := hide (fun i hi h => by
          rcases Nat.lt_or_ge i k with g | g
          · exact HXs.out i g h
          · obtain rfl : i = k := by omega
            rw [Hp.out] at h; exact he (Option.some.inj h))
        go_wp2_with fail
        go_roundw
        case rel => exact ⟨k + 1, trivial, by go_num, by omega, HX1⟩
        case measure => simp [intOf]; omega
    · obtain rfl : k = n := by omega
      have j1 : ¬ (k : Int) < (k : Int) := by omega
      have e1 := no.out HXs.out
      subst e1
      go_wp2_with fail
      go_ret
      exact ⟨rfl, HB.out⟩

/-- the world of a call of the document's: two boxes, the lane's and the answer's -/
structure Db (w0 w : World) (h : Nat) (d : Int) (v z : Value) (e : Int) : Prop where
  bel : Below h w0 w
  b1 : w.heap[h]? = some (.cells #[.int .i64 d, v] 75)
  b2 : w.heap[h + 1]? = some (.cells #[.int .i64 e, z] 75)
theorem Db.cells {w0 w : World} {h : Nat} {d e : Int} {v z : Value} (x : Db w0 w h d v z e) : w.cell? ⟨h, 0, none⟩ = some (.int .i64 d) ∧ w.cell? ⟨h, 1, none⟩ = some v ∧ w.cell? ⟨h + 1, 0, none⟩ = some (.int .i64 e) ∧ w.cell? ⟨h + 1, 1, none⟩ = some z ∧ (∀ i, w.frozen? ⟨h, i, none⟩ = false) ∧ ∀ i, w.frozen? ⟨h + 1, i, none⟩ = false :=
  ⟨(cells_at x.b1 0).1, (cells_at x.b1 1).1, (cells_at x.b2 0).1, (cells_at x.b2 1).1, fun i => (cells_at x.b1 i).2, fun i => (cells_at x.b2 i).2⟩
theorem Db.keep {w0 w w' : World} {h : Nat} {d e : Int} {v z : Value} (x : Db w0 w h d v z e) (hb : Below w.heap.size w w') : Db w0 w' h d v z e :=
  ⟨x.bel.trans (hb.mono (Nat.le_of_lt (heap_lt x.b1))), (hb.block _ (heap_lt x.b1)).trans x.b1, (hb.block _ (heap_lt x.b2)).trans x.b2⟩
theorem Db.new (w : World) (d : Int) (v : Value) : Db w ((w.alloc (.cells #[.int .i64 d, v] 75)).alloc (.cells #[.int .i64 0, .slice none 0 0] 75)) w.heap.size d v (.slice none 0 0) 0 := by
  have h1 : Below w.heap.size w (w.alloc (.cells #[.int .i64 d, v] 75)) := (Below.refl _ _).alloc (Nat.le_refl _) _
  have h2 := heap_new w (.cells #[.int .i64 d, v] 75)
  have h3 : (w.alloc (.cells #[.int .i64 d, v] 75)).heap.size = w.heap.size + 1 := by show (w.heap.push _).size = _; simp
  have h4 : Below (w.alloc (.cells #[.int .i64 d, v] 75)).heap.size (w.alloc (.cells #[.int .i64 d, v] 75)) ((w.alloc (.cells #[.int .i64 d, v] 75)).alloc (.cells #[.int .i64 0, .slice none 0 0] 75)) := (Below.refl _ _).alloc (Nat.le_refl _) _
  refine ⟨h1.trans (h4.mono h1.size), (h4.block _ (heap_lt h2)).trans h2, ?_⟩
  have := heap_new (w.alloc (.cells #[.int .i64 d, v] 75)) (.cells #[.int .i64 0, .slice none 0 0] 75)
  rw [h3] at this
  exact this
/-- the lane's list is another one -/
theorem Db.put {w0 w : World} {h : Nat} {d e : Int} {v z : Value} (x : Db w0 w h d v z e) (u : Value) : Db w0 (w.setCell ⟨h, 1, none⟩ u) h d u z e :=
  ⟨x.bel.setCell (p := ⟨h, 1, none⟩) (Nat.le_refl _) _, by rw [heap_put x.b1]; rfl, by rw [Below.heap_setCell _ _ _ _ (by show h + 1 ≠ h; omega)]; exact x.b2⟩
/-- the answer is laid -/
theorem Db.out {w0 w : World} {h : Nat} {d e : Int} {v z : Value} (x : Db w0 w h d v z e) : Db w0 ((w.setCell ⟨h + 1, 0, none⟩ (.int .i64 d)).setCell ⟨h + 1, 1, none⟩ v) h d v v d :=
  ⟨(x.bel.setCell (p := ⟨h + 1, 0, none⟩) (by show h ≤ h + 1; omega) _).setCell (p := ⟨h + 1, 1, none⟩) (by show h ≤ h + 1; omega) _,
    by rw [Below.heap_setCell _ _ _ _ (by show h ≠ h + 1; omega), Below.heap_setCell _ _ _ _ (by show h ≠ h + 1; omega)]; exact x.b1, by rw [heap_put (heap_put x.b2 _)]; rfl⟩

theorem Db.size {w0 w : World} {h : Nat} {d e : Int} {v z : Value} (x : Db w0 w h d v z e) : h + 2 ≤ w.heap.size := heap_lt x.b2
theorem own_off {w : World} {B g i : Nat} {v u : Value} {xs : List Int} (h : intE.Own w B v xs) (hg : g < B) : intE.Own (w.setCell ⟨g, i, none⟩ u) B v xs := own_set_other h (fun e => by have := h.ge g e; omega)
theorem nil_new (w : World) : intE.Own (w.alloc (.cells #[] 3)) w.heap.size (.slice (some ⟨w.heap.size, 0, none⟩) 0 0) [] := El.Own.new intE w w.heap.size (Nat.le_refl _) #[] [] rfl (by simp) _ _ _ rfl rfl rfl
theorem Own.cap {w : World} {B n c : Nat} {a : Option Addr} {xs : List Int} (h : intE.Own w B (.slice a n c) xs) : xs.length ≤ c ∧ c ≤ maxLen := by
  rcases h.2 with ⟨h1, h2⟩ | ⟨g', c', cur, h1, hb, hg, hn, hmx, hs, ht⟩
  · simp only [Value.slice.injEq] at h1
    exact ⟨by omega, by rw [h1.2.2]; unfold maxLen; omega⟩
  · simp only [Value.slice.injEq] at h1
    obtain ⟨_, _, rfl⟩ := h1
    exact ⟨hn, hmx⟩

set_option maxRecDepth 100000 in
set_option maxHeartbeats 4000000 in
theorem rpush_any {w : World} {a : Option Addr} {B n c d : Nat} {xs : List Int} (t : Int) (hv : intE.Own w B (.slice a n c) xs) (hB : B ≤ w.heap.size) (hn : xs.length = n) (hl : n ≤ 1000) (hd : d ≤ 1000) :
    Calls Try.prog 31 #[.agg #[.int .i64 d, .slice a n c], .int .i64 t] w fun e w' => ∃ v, e = .returned (.tuple #[.agg #[.int .i64 d, v], .int .i64 (pushC d xs t)]) ∧ intE.Own w' B v (pushL d xs t) ∧ Below w.heap.size w w' := by
  obtain ⟨w0, rfl⟩ : ∃ w0, w0 = w := ⟨_, rfl⟩
  obtain ⟨h, hh⟩ : ∃ h, w0.heap.size = h := ⟨_, rfl⟩
  have HD := hide (Db.new w0 d (.slice a n c))
  have HV0 : Hid (∀ W, Below h w0 W → intE.Own W B (.slice a n c) xs) := hide (fun W hb => hv.keep (by rw [hh]; exact hb))
  have HK : Hid (∀ W, Below h w0 W → Calls Try.prog 42 #[.agg #[.int .i64 d, .slice a n c], .int .i64 t] W fun e w' => e = .returned (.int .i64 (loc xs t)) ∧ Below W.heap.size W w') := hide (fun W hb => at_any d t (HV0.out W hb).rd hn hl)
  have Hn := hide hn
  rw [hh] at HD hB ⊢
  have Hh := hide hh
  have HBh := hide hB
  have i0 : (n : Int) ≤ 1000 := by omega
  have i1 : (d : Int) ≤ 1000 := by omega
  have Hi := hide hl
  obtain ⟨rc, hrc⟩ : ∃ rc, rc = pushC d xs t := ⟨_, rfl⟩
  obtain ⟨rl, hrl⟩ : ∃ rl, rl = pushL d xs t := ⟨_, rfl⟩
  rw [← hrc, ← hrl]
  have Hrc := hide hrc
  have Hrl := hide hrl
  clear hh hv hn hB hl hd hrc hrl
  go_enter Try.func31, Try.ntmps31
  go_upto_region 1 with fail
  rw [Hh.out]
  generalize (w0.alloc (.cells #[.int .i64 (d : Int), .slice a n c] 75)).alloc (.cells #[.int .i64 0, .slice none 0 0] 75) = W at *
  obtain ⟨x0, x1, x2, x3, x4, x5⟩ := HD.out.cells
  by_cases ht : t < 1 ∨ 30 < t
  · have e1 : pushC d xs t = 1 := if_pos ht
    have e2 : pushL d xs t = xs := if_neg (by rw [e1]; decide)
    have e3 := Hrc.out.trans e1
    have e4 := Hrl.out.trans e2
    clear e1 e2 Hrc Hrl
    subst e3
    subst e4
    have HX := hide HD.out.out
    have HO := hide (HV0.out _ HX.out.bel)
    rcases ht with ht | ht
    · go_wp2_with fail
      refine bodyPost_ret (v := .tuple #[.agg #[.int .i64 d, .slice a n c], .int .i64 1]) (by have x := HX.out.cells; simp [results, Try.results31, go_sem, x.2.2.1, x.2.2.2.1]) rfl ⟨_, rfl, HO.out, HX.out.bel⟩
    · have h1 : ¬ t < 1 := by omega
      have h2 : t > 30 := ht
      go_wp2_with fail
      refine bodyPost_ret (v := .tuple #[.agg #[.int .i64 d, .slice a n c], .int .i64 1]) (by have x := HX.out.cells; simp [results, Try.results31, go_sem, x.2.2.1, x.2.2.2.1]) rfl ⟨_, rfl, HO.out, HX.out.bel⟩
  have h1 : ¬ t < 1 := by omega
  have h2 : ¬ t > 30 := by omega
  have K23 := hide (HK.out W HD.out.bel)
  by_cases hm : t ∈ xs
  · have e1 : pushC d xs t = 2 := (if_neg ht).trans (if_pos hm)
    have e2 : pushL d xs t = xs := if_neg (by rw [e1]; decide)
    have e3 := Hrc.out.trans e1
    have e4 := Hrl.out.trans e2
    clear e1 e2 Hrc Hrl
    subst e3
    subst e4
    obtain ⟨k, hk, _⟩ := loc_in hm
    rw [hk] at K23
    have hk0 : (k : Int) ≥ 0 := by omega
    clear ht hm hk
    go_upto_region 4 with (go_at_call 42; refine K23.out.mono ?_; rintro e W1 ⟨rfl, hb⟩; have HD1 := hide (HD.out.keep hb); clear hb)
    obtain ⟨x0, x1, x2, x3, x4, x5⟩ := HD1.out.cells
    have HX := hide HD1.out.out
    have HO := hide (HV0.out _ HX.out.bel)
    go_wp2_with fail
    refine bodyPost_ret (v := .tuple #[.agg #[.int .i64 d, .slice a n c], .int .i64 2]) (by have x := HX.out.cells; simp [results, Try.results31, go_sem, x.2.2.1, x.2.2.2.1]) rfl ⟨_, rfl, HO.out, HX.out.bel⟩
  rw [loc_no hm] at K23
  by_cases hl : d ≤ n
  · have e1 : pushC d xs t = 5 := (if_neg ht).trans ((if_neg hm).trans (if_pos (by rw [Hn.out]; exact hl)))
    have e2 : pushL d xs t = xs := if_neg (by rw [e1]; decide)
    have e3 := Hrc.out.trans e1
    have e4 := Hrl.out.trans e2
    clear e1 e2 Hrc Hrl
    subst e3
    subst e4
    have hl' : (n : Int) ≥ (d : Int) := by omega
    clear ht hm hl
    go_upto_region 5 with (go_at_call 42; refine K23.out.mono ?_; rintro e W1 ⟨rfl, hb⟩; have HD1 := hide (HD.out.keep hb); clear hb)
    obtain ⟨x0, x1, x2, x3, x4, x5⟩ := HD1.out.cells
    have HX := hide HD1.out.out
    have HO := hide (HV0.out _ HX.out.bel)
    go_wp2_with fail
    refine bodyPost_ret (v := .tuple #[.agg #[.int .i64 d, .slice a n c], .int .i64 5]) (by have x := HX.out.cells; simp [results, Try.results31, go_sem, x.2.2.1, x.2.2.2.1]) rfl ⟨_, rfl, HO.out, HX.out.bel⟩
  have e1 : pushC d xs t = 0 := (if_neg ht).trans ((if_neg hm).trans (if_neg (by rw [Hn.out]; exact hl)))
  have e2 : pushL d xs t = xs ++ [t] := if_pos e1
  have e3 := Hrc.out.trans e1
  have e4 := Hrl.out.trans e2
  clear e1 e2 Hrc Hrl
  subst e3
  subst e4
  have hl' : ¬ (n : Int) ≥ (d : Int) := by omega
  clear ht hm hl
  go_upto_region 5 with (go_at_call 42; refine K23.out.mono ?_; rintro e W1 ⟨rfl, hb⟩; have HD1 := hide (HD.out.keep hb); clear hb)
  clear HD x0 x1 x2 x3 x4 x5 K23 HK
  obtain ⟨x0, x1, x2, x3, x4, x5⟩ := HD1.out.cells
  go_upto_region 7 with fail
  clear x0 x1 x2 x3 x4 x5
  obtain ⟨s1, hs1⟩ : ∃ s1, W1.heap.size = s1 := ⟨_, rfl⟩
  have Hs1 : Hid (h + 2 ≤ s1) := hide (by rw [← hs1]; exact HD1.out.size)
  have Hba : Hid (∀ (V : World) (o : Obj), Below V.heap.size V (V.alloc o)) := hide (fun V o => (Below.refl _ _).alloc (Nat.le_refl _) o)
  have HO2 : Hid (intE.Own (W1.alloc (.cells #[] 3)) s1 (.slice (some ⟨s1, 0, none⟩) 0 0) []) := hide (by rw [← hs1]; exact nil_new W1)
  have HD2 := hide (HD1.out.keep (Hba.out W1 (.cells #[] 3)))
  have Hs2 : Hid (s1 ≤ (W1.alloc (.cells #[] 3)).heap.size) := hide (by rw [← hs1]; exact (Hba.out W1 (.cells #[] 3)).size)
  have y1 := HD2.out.cells.2.1
  have HR2 : Hid (intE.Rd (W1.alloc (.cells #[] 3)) (.slice a n c) xs) := hide (HV0.out _ HD2.out.bel).rd
  have HN2 : Hid (([] : List Int).length + xs.length ≤ 1000000) := hide (by have := Hn.out; have := Hi.out; simp; omega)
  have HN3 : Hid (xs.length + [t].length ≤ 1000000) := hide (by have := Hn.out; have := Hi.out; simp; omega)
  have HNw : Hid (∀ V : World, intE.Rd (V.alloc (.cells #[.int .i64 t] 3)) (.slice (some ⟨V.heap.size, 0, none⟩) 1 1) [t]) := hide (fun V => int_new _ _ _ rfl)
  have HDg : Hid (∀ (V V' : World) (v : Value) (ys : List Int), Db w0 V h d (.slice a n c) (.slice none 0 0) 0 → intE.Own V s1 v ys → V.grownBy V' v.ownBlock → Db w0 V' h d (.slice a n c) (.slice none 0 0) 0) := hide (fun V V' v ys x o g => by
    have e1 : ∀ k, k < s1 → k < V.heap.size → V'.heap[k]? = V.heap[k]? := fun k hk hv => g.block k hv (fun e => by have := o.ge k e.symm; omega)
    have hs := Hs1.out
    exact ⟨x.bel.grown g (by have := x.size; omega) (fun k hk => by have := o.ge k hk; omega), (e1 h (by omega) (heap_lt x.b1)).trans x.b1, (e1 (h + 1) (by omega) (heap_lt x.b2)).trans x.b2⟩)
  go_wp2_with (first
    | (at_builtin; refine intE.wpB (B := s1) HsB.out (by rfl) _ _ rfl _ _ rfl rfl xs [t] HOb.out (HNw.out _) HN3.out ?_; intro v4 W4 ho hg hs; obtain ⟨a4, c4, hf4⟩ := ho.rd.form; subst hf4; have HO4 := hide ho; have HD4 := hide (HDg.out _ _ _ _ HDb.out HOb.out hg); clear ho hg hs; obtain ⟨m4, hm4⟩ : ∃ m, (xs ++ [t]).length = m := ⟨_, rfl⟩; rw [hm4] at HO4 ⊢; clear hm4; obtain ⟨z0, z1, z2, z3, z4, z5⟩ := HD4.out.cells)
    | (at_builtin; refine intE.wpB (B := s1) Hs2.out (by rfl) _ _ rfl _ _ rfl rfl [] xs HO2.out HR2.out HN2.out ?_; intro v3 W3 ho hg hs; have HO3 : Hid (intE.Own W3 s1 v3 xs) := hide ho; have HD3 := hide (HDg.out _ _ _ _ HD2.out HO2.out hg); have HOb := hide (HO3.out.keep (Hba.out W3 (.cells #[.int .i64 t] 3))); have HDb := hide (HD3.out.keep (Hba.out W3 (.cells #[.int .i64 t] 3))); have HsB : Hid (s1 ≤ (W3.alloc (.cells #[.int .i64 t] 3)).heap.size) := hide (Nat.le_trans Hs2.out (Nat.le_trans hg.size (Hba.out W3 (.cells #[.int .i64 t] 3)).size)); clear ho hg hs))
  have HX := hide (HD4.out.put (.slice a4 m4 c4)).out
  have HO5 : Hid (intE.Own (((W4.setCell ⟨h, 1, none⟩ (.slice a4 m4 c4)).setCell ⟨h + 1, 0, none⟩ (.int .i64 d)).setCell ⟨h + 1, 1, none⟩ (.slice a4 m4 c4)) B (.slice a4 m4 c4) (xs ++ [t])) := hide ((own_off (own_off (own_off HO4.out (by have := Hs1.out; omega)) (by have := Hs1.out; omega)) (by have := Hs1.out; omega)).mono (by have := Hs1.out; have := HBh.out; omega))
  refine bodyPost_ret (v := .tuple #[.agg #[.int .i64 d, .slice a4 m4 c4], .int .i64 0]) (by have x := HX.out.cells; simp [results, Try.results31, go_sem, x.2.2.1, x.2.2.2.1]) rfl ⟨_, rfl, HO5.out, HX.out.bel⟩

/-- what Pop answers -/
def popV (xs : List Int) : Int := xs.getLast?.getD 0
def popC (xs : List Int) : Int := if xs = [] then 4 else 0
set_option maxRecDepth 100000 in
set_option maxHeartbeats 4000000 in
theorem rpop_any {w : World} {a : Option Addr} {B n c d : Nat} {xs : List Int} (hv : intE.Own w B (.slice a n c) xs) (hB : B ≤ w.heap.size) (hn : xs.length = n) (hl : n ≤ 1000) :
    Calls Try.prog 38 #[.agg #[.int .i64 d, .slice a n c]] w fun e w' => ∃ v, e = .returned (.tuple #[.agg #[.int .i64 d, v], .int .i64 (popV xs), .int .i64 (popC xs)]) ∧ intE.Own w' B v xs.dropLast ∧ Below w.heap.size w w' := by
  obtain ⟨w0, rfl⟩ : ∃ w0, w0 = w := ⟨_, rfl⟩
  obtain ⟨h, hh⟩ : ∃ h, w0.heap.size = h := ⟨_, rfl⟩
  have HD := hide (Db.new w0 d (.slice a n c))
  have HV0 : Hid (∀ W, Below h w0 W → intE.Own W B (.slice a n c) xs) := hide (fun W hb => hv.keep (by rw [hh]; exact hb))
  have Hn := hide hn
  rw [hh] at HD hB ⊢
  have Hh := hide hh
  have HBh := hide hB
  have i0 : (n : Int) ≤ 1000 := by omega
  have Hi := hide hl
  have Hcap := hide (Own.cap hv)
  cases n with
  | zero =>
    have : xs = [] := List.eq_nil_of_length_eq_zero hn
    subst this
    have e1 : popV [] = 0 := rfl
    have e2 : popC [] = 4 := rfl
    have e3 : ([] : List Int).dropLast = [] := rfl
    rw [e1, e2, e3]
    clear hh hv hn hB hl e1 e2 e3
    go_enter Try.func38, Try.ntmps38
    go_upto_region 1 with fail
    rw [Hh.out]
    generalize (w0.alloc (.cells #[.int .i64 (d : Int), .slice a 0 c] 75)).alloc (.cells #[.int .i64 0, .slice none 0 0] 75) = W at *
    obtain ⟨x0, x1, x2, x3, x4, x5⟩ := HD.out.cells
    have HX := hide HD.out.out
    have HO := hide (HV0.out _ HX.out.bel)
    go_wp2_with fail
    refine bodyPost_ret (v := .tuple #[.agg #[.int .i64 d, .slice a 0 c], .int .i64 0, .int .i64 4]) (by have x := HX.out.cells; simp [results, Try.results38, go_sem, x.2.2.1, x.2.2.2.1]) rfl ⟨_, rfl, HO.out, HX.out.bel⟩
  | succ m =>
    obtain ⟨t, ht⟩ : ∃ t, xs[m]? = some t := ⟨_, List.getElem?_eq_getElem (by omega)⟩
    have e1 : popV xs = t := by unfold popV; rw [List.getLast?_eq_getElem?, hn, Nat.add_sub_cancel, ht]; rfl
    have e2 : popC xs = 0 := if_neg (fun e => by rw [e] at hn; cases hn)
    have e3 : xs.dropLast = xs.take m := by rw [List.dropLast_eq_take, hn, Nat.add_sub_cancel]
    rw [e1, e2, e3]
    obtain ⟨b, off, rfl, _⟩ := int_at hv.rd m t ht
    obtain ⟨n, hm⟩ : ∃ n, m + 1 = n := ⟨_, rfl⟩
    rw [hm] at HD HV0 Hn i0 Hi ⊢
    have HC : Hid (∀ W, Below h w0 W → W.cell? ⟨b, off + m, none⟩ = some (.int .i64 t)) := hide (fun W hb => by
      obtain ⟨b', off', h1, h2⟩ := int_at (HV0.out W hb).rd m t ht
      cases h1
      exact h2)
    have HT : Hid (∀ W, Below h w0 W → intE.Rd W (.slice (some ⟨b, off, none⟩) m c) (xs.take m)) := hide (fun W hb => (HV0.out W hb).rd.take m (by rw [hn]; omega))
    have j0 : (n : Int) - 1 = (m : Int) := by omega
    have j1 : (m : Int) < (n : Int) := by omega
    have j2 : (0 : Int) ≤ (m : Int) := by omega
    have j3 : ((n : Int) == 0) = false := beq_eq_false_iff_ne.2 (by omega)
    have j4 : (m : Int) ≤ (c : Int) := by have := Hcap.out.1; omega
    have j5 : m ≤ c := by omega
    have Hm : Hid (m + 1 = n) := hide hm
    clear hh hv hn hB hl e1 e2 e3 ht hm
    go_enter Try.func38, Try.ntmps38
    go_upto_region 1 with fail
    rw [Hh.out]
    generalize (w0.alloc (.cells #[.int .i64 (d : Int), .slice (some ⟨b, off, none⟩) n c] 75)).alloc (.cells #[.int .i64 0, .slice none 0 0] 75) = W1 at *
    obtain ⟨x0, x1, x2, x3, x4, x5⟩ := HD.out.cells
    have y0 := HC.out W1 HD.out.bel
    go_upto_region 5 with fail
    clear x0 x1 x2 x3 x4 x5 y0
    obtain ⟨s1, hs1⟩ : ∃ s1, W1.heap.size = s1 := ⟨_, rfl⟩
    have Hs1 : Hid (h + 2 ≤ s1) := hide (by rw [← hs1]; exact HD.out.size)
    have Hba : Hid (∀ (V : World) (o : Obj), Below V.heap.size V (V.alloc o)) := hide (fun V o => (Below.refl _ _).alloc (Nat.le_refl _) o)
    have HO2 : Hid (intE.Own (W1.alloc (.cells #[] 3)) s1 (.slice (some ⟨s1, 0, none⟩) 0 0) []) := hide (by rw [← hs1]; exact nil_new W1)
    have HD2 := hide (HD.out.keep (Hba.out W1 (.cells #[] 3)))
    have Hs2 : Hid (s1 ≤ (W1.alloc (.cells #[] 3)).heap.size) := hide (by rw [← hs1]; exact (Hba.out W1 (.cells #[] 3)).size)
    have y1 := HD2.out.cells.2.1
    have HR2 : Hid (intE.Rd (W1.alloc (.cells #[] 3)) (.slice (some ⟨b, off, none⟩) m c) (xs.take m)) := hide (HT.out _ HD2.out.bel)
    have HN2 : Hid (([] : List Int).length + (xs.take m).length ≤ 1000000) := hide (by have := Hn.out; have := Hi.out; rw [List.length_take]; simp; omega)
    have HDg : Hid (∀ (V V' : World) (v : Value) (ys : List Int), Db w0 V h d (.slice (some ⟨b, off, none⟩) n c) (.slice none 0 0) 0 → intE.Own V s1 v ys → V.grownBy V' v.ownBlock → Db w0 V' h d (.slice (some ⟨b, off, none⟩) n c) (.slice none 0 0) 0) := hide (fun V V' v ys x o g => by
      have e1 : ∀ k, k < s1 → k < V.heap.size → V'.heap[k]? = V.heap[k]? := fun k hk hv => g.block k hv (fun e => by have := o.ge k e.symm; omega)
      have hs := Hs1.out
      exact ⟨x.bel.grown g (by have := x.size; omega) (fun k hk => by have := o.ge k hk; omega), (e1 h (by omega) (heap_lt x.b1)).trans x.b1, (e1 (h + 1) (by omega) (heap_lt x.b2)).trans x.b2⟩)
    go_wp2_with (at_builtin; refine intE.wpB (B := s1) Hs2.out (by rfl) _ _ rfl _ _ rfl rfl [] (xs.take m) HO2.out HR2.out HN2.out ?_; intro v4 W4 ho hg hs; obtain ⟨a4, c4, hf4⟩ := ho.rd.form; subst hf4; have HO4 : Hid (intE.Own W4 s1 _ (xs.take m)) := hide ho; have HD4 := hide (HDg.out _ _ _ _ HD2.out HO2.out hg); clear ho hg hs; obtain ⟨m4, hm4⟩ : ∃ m4, ([] ++ xs.take m).length = m4 := ⟨_, rfl⟩; rw [hm4] at HO4 ⊢; clear hm4; obtain ⟨z0, z1, z2, z3, z4, z5⟩ := HD4.out.cells)
    have HX := hide (HD4.out.put (.slice a4 m4 c4)).out
    have HO5 : Hid (intE.Own (((W4.setCell ⟨h, 1, none⟩ (.slice a4 m4 c4)).setCell ⟨h + 1, 0, none⟩ (.int .i64 d)).setCell ⟨h + 1, 1, none⟩ (.slice a4 m4 c4)) B (.slice a4 m4 c4) (xs.take m)) := hide ((own_off (own_off (own_off HO4.out (by have := Hs1.out; omega)) (by have := Hs1.out; omega)) (by have := Hs1.out; omega)).mono (by have := Hs1.out; have := HBh.out; omega))
    refine bodyPost_ret (v := .tuple #[.agg #[.int .i64 d, .slice a4 m4 c4], .int .i64 t, .int .i64 0]) (by have x := HX.out.cells; simp [results, Try.results38, go_sem, x.2.2.1, x.2.2.2.1]) rfl ⟨_, rfl, HO5.out, HX.out.bel⟩
end Go.Proofs.Ytddcjkbdgneklaa
