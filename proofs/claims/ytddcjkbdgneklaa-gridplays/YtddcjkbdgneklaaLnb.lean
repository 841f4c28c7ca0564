/- New, Push, Pop, Take, Ahead, Totes. -/
import Derived.Test.YtddcjkbdgneklaaLna
namespace Go.Proofs.Ytddcjkbdgneklaa
open Go.RowKit
set_option linter.unusedVariables false

set_option maxRecDepth 100000 in
theorem new_no (d : Int) (w : World) (h : d < 1 ∨ 8 < d) : Calls Try.prog 25 #[.int .i64 d] w fun e w' => e = .returned (.tuple #[.pointer none, .int .i64 1]) ∧ w' = w := by
  rcases h with h | h
  · go_enter Try.func25, Try.ntmps25
    go_wp2_with fail
    go_ret2
    exact ⟨rfl, rfl⟩
  · have h1 : ¬ d < 1 := by omega
    have h2 : d > 8 := h
    go_enter Try.func25, Try.ntmps25
    go_wp2_with fail
    go_ret2
    exact ⟨rfl, rfl⟩

theorem ln_new (w : World) (d : Nat) (hd : d ≤ 8) : Ln (w.alloc (.cells (lnC d 0 [0, 0, 0, 0, 0, 0, 0, 0]) 97)) w.heap.size d [] :=
  ⟨[0, 0, 0, 0, 0, 0, 0, 0], rfl, Nat.zero_le _, hd, rfl, heap_new _ _⟩

set_option maxRecDepth 100000 in
theorem new_ok (d : Nat) (w : World) (h1 : 1 ≤ d) (h2 : d ≤ 8) : Calls Try.prog 25 #[.int .i64 d] w fun e w' => e = .returned (.tuple #[.pointer (some ⟨w.heap.size, 0, none⟩), .int .i64 0]) ∧ Ln w' w.heap.size d [] ∧ Below w.heap.size w w' := by
  have j1 : ¬ (d : Int) < 1 := by omega
  have j2 : ¬ (d : Int) > 8 := by omega
  have HL := hide (ln_new w d h2)
  have HB : Hid (Below w.heap.size w (w.alloc (.cells (lnC d 0 [0, 0, 0, 0, 0, 0, 0, 0]) 97))) := hide ((Below.refl _ _).alloc (Nat.le_refl _) _)
  clear h1 h2
  go_enter Try.func25, Try.ntmps25
  go_wp2_with fail
  go_ret2
  exact ⟨rfl, HL.out, HB.out⟩

/-- what Push answers -/
def pushC (d : Nat) (xs : List Int) (t : Int) : Int := if t < 1 ∨ 30 < t then 1 else if t ∈ xs then 2 else if d ≤ xs.length then 5 else 0
def pushL (d : Nat) (xs : List Int) (t : Int) : List Int := if pushC d xs t = 0 then xs ++ [t] else xs

set_option maxRecDepth 100000 in
set_option maxHeartbeats 2000000 in
theorem push_any {g d : Nat} {xs : List Int} (t : Int) (w : World) (h : Ln w g d xs) :
    Calls Try.prog 28 #[.pointer (some ⟨g, 0, none⟩), .int .i64 t] w fun e w' => e = .returned (.int .i64 (pushC d xs t)) ∧ Ln w' g d (pushL d xs t) ∧ w.grownBy w' (some g) := by
  by_cases ht : t < 1 ∨ 30 < t
  · have e1 : pushC d xs t = 1 := if_pos ht
    have e2 : pushL d xs t = xs := if_neg (by rw [e1]; decide)
    rw [e1, e2]
    have H := hide h
    clear e1 e2 h
    rcases ht with ht | ht
    · go_enter Try.func28, Try.ntmps28
      go_wp2_with fail
      go_ret
      exact ⟨rfl, H.out, .refl _ _⟩
    · have h1 : ¬ t < 1 := by omega
      have h2 : t > 30 := ht
      go_enter Try.func28, Try.ntmps28
      go_wp2_with fail
      go_ret
      exact ⟨rfl, H.out, .refl _ _⟩
  have h1 : ¬ t < 1 := by omega
  have h2 : ¬ t > 30 := by omega
  have K22 := hide (find_any t w h)
  by_cases hm : t ∈ xs
  · have e1 : pushC d xs t = 2 := (if_neg ht).trans (if_pos hm)
    have e2 : pushL d xs t = xs := if_neg (by rw [e1]; decide)
    rw [e1, e2]
    have H := hide h
    obtain ⟨k, hk, _⟩ := loc_in hm
    rw [hk] at K22
    have hk0 : (k : Int) ≥ 0 := by omega
    clear e1 e2 h ht hm hk
    go_enter Try.func28, Try.ntmps28
    go_wp2_with (go_at_call 41; refine K22.out.mono ?_; rintro e W1 ⟨rfl, q, rfl⟩)
    go_ret
    exact ⟨rfl, H.out.drewN _, grown_drew (.refl _ _) _⟩
  rw [loc_no hm] at K22
  have K20 : Hid (∀ q, Calls Try.prog 36 #[.pointer (some ⟨g, 0, none⟩)] (w.drewN q) fun e w' => e = .returned (.int .i64 ((d - xs.length : Nat) : Int)) ∧ ∃ q', w' = (w.drewN q).drewN q') := hide (fun q => room_any (w.drewN q) (h.drewN q))
  by_cases hl : d ≤ xs.length
  · have e1 : pushC d xs t = 5 := (if_neg ht).trans ((if_neg hm).trans (if_pos hl))
    have e2 : pushL d xs t = xs := if_neg (by rw [e1]; decide)
    rw [e1, e2]
    have H := hide h
    have e3 : d - xs.length = 0 := by omega
    rw [e3] at K20
    clear e1 e2 h ht hm hl e3
    go_enter Try.func28, Try.ntmps28
    go_wp2_with (first | (go_at_call 41; refine K22.out.mono ?_; rintro e W1 ⟨rfl, q, rfl⟩) | (go_at_call 36; refine (K20.out _).mono ?_; rintro e W1 ⟨rfl, q', rfl⟩))
    go_ret
    exact ⟨rfl, H.out.drewN _, grown_drew (.refl _ _) _⟩
  have e1 : pushC d xs t = 0 := (if_neg ht).trans ((if_neg hm).trans (if_neg hl))
  have e2 : pushL d xs t = xs ++ [t] := if_pos e1
  rw [e1, e2]
  obtain ⟨s, h⟩ := h
  have HP : Hid (∀ q, Ln ((((w.drewN q)).setCell ⟨g, 2 + xs.length, none⟩ (.int .i64 t)).setCell ⟨g, 1, none⟩ (.int .i64 ((xs.length + 1 : Nat) : Int))) g d (xs ++ [t])) := hide (fun q => Lns.push (w := w.drewN q) ⟨h.len, h.le, h.d8, h.tk, h.box⟩ t (by omega))
  have HG : Hid (∀ q, w.grownBy ((((w.drewN q)).setCell ⟨g, 2 + xs.length, none⟩ (.int .i64 t)).setCell ⟨g, 1, none⟩ (.int .i64 ((xs.length + 1 : Nat) : Int))) (some g)) := hide (fun q => ((grown_drew (.refl _ _) q).trans (grown_set _ _ _ _)).trans (grown_set _ _ _ _))
  obtain ⟨c0, c1, c2, c3⟩ := h.cells
  have hs8 := h.len
  have hd8 := h.d8
  obtain ⟨n, hn⟩ : ∃ n, xs.length = n := ⟨_, rfl⟩
  rw [hn] at K20 c1 HP HG hl
  obtain ⟨z, hz⟩ : ∃ z, s[n]? = some z := ⟨_, List.getElem?_eq_getElem (by omega)⟩
  have c4 := c3 n z hz
  obtain ⟨r, hr⟩ : ∃ r, d - n = r := ⟨_, rfl⟩
  rw [hr] at K20
  have f0 := c2 (2 + n)
  have f1 := c2 1
  have j0 : (n : Int) < 8 := by omega
  have j1 : n < 8 := by omega
  have j2 : ((r : Int) == 0) = false := beq_eq_false_iff_ne.2 (by omega)
  have j3 : (0 : Int) ≤ (n : Int) := by omega
  clear h hz c2 c3 hs8 hd8 hr hn e1 e2 ht hm hl
  generalize xs ++ [t] = ys at *
  go_enter Try.func28, Try.ntmps28
  go_upto_region 7 with (first | (go_at_call 41; refine K22.out.mono ?_; rintro e W1 ⟨rfl, q, rfl⟩) | (go_at_call 36; refine (K20.out _).mono ?_; rintro e W1 ⟨rfl, q', rfl⟩))
  go_region
  go_wp2_with fail
  go_ret
  exact ⟨rfl, (HP.out 0).stay rfl, ⟨rfl, rfl, rfl, (HG.out 0).size, (HG.out 0).block⟩⟩

set_option maxRecDepth 100000 in
set_option maxRecDepth 100000 in
set_option maxHeartbeats 2000000 in
/-- what Take answers -/
def takeC (xs : List Int) (t : Int) : Int := if t ∉ xs then 160 else if loc xs t ≠ (xs.length : Int) - 1 then 110 else 0
def takeL (xs : List Int) (t : Int) : List Int := if takeC xs t = 0 then xs.dropLast else xs

set_option maxRecDepth 100000 in
set_option maxHeartbeats 2000000 in
theorem take_any {g d : Nat} {xs : List Int} (t : Int) (w : World) (h : Ln w g d xs) :
    Calls Try.prog 37 #[.pointer (some ⟨g, 0, none⟩), .int .i64 t] w fun e w' => e = .returned (.int .i64 (takeC xs t)) ∧ Ln w' g d (takeL xs t) ∧ w.grownBy w' (some g) := by
  have K22 := hide (find_any t w h)
  by_cases hm : t ∉ xs
  · have e1 : takeC xs t = 160 := if_pos hm
    have e2 : takeL xs t = xs := if_neg (by rw [e1]; decide)
    rw [e1, e2]
    rw [loc_no hm] at K22
    have H := hide h
    clear e1 e2 h hm
    go_enter Try.func37, Try.ntmps37
    go_wp2_with (go_at_call 41; refine K22.out.mono ?_; rintro e W1 ⟨rfl, q, rfl⟩)
    go_ret
    exact ⟨rfl, H.out.drewN _, grown_drew (.refl _ _) _⟩
  obtain ⟨k, hk, hkl, _⟩ := loc_in (Decidable.not_not.1 hm)
  rw [hk] at K22
  obtain ⟨n, hn⟩ : ∃ n, xs.length = n + 1 := ⟨xs.length - 1, by omega⟩
  obtain ⟨s, h⟩ := h
  obtain ⟨c0, c1, c2, c3⟩ := h.cells
  have H : Hid (Ln w g d xs) := hide ⟨s, h⟩
  have h8 := h.le
  have h9 := h.d8
  have HP : Hid (∀ q, Ln ((w.drewN q).setCell ⟨g, 1, none⟩ (.int .i64 n)) g d xs.dropLast) := hide (fun q => Lns.pop (w := w.drewN q) ⟨h.len, h.le, h.d8, h.tk, h.box⟩ n hn)
  have HG : Hid (∀ q, w.grownBy ((w.drewN q).setCell ⟨g, 1, none⟩ (.int .i64 n)) (some g)) := hide (fun q => (grown_drew (.refl _ _) q).trans (grown_set _ _ _ _))
  rw [hn] at c1
  have c1' : w.cell? ⟨g, 1, none⟩ = some (.int .i64 ((n : Int) + 1)) := c1
  have f1 := c2 1
  have j0 : (n : Int) < 8 := by omega
  have j5 : (n : Int) + 1 - 1 = (n : Int) := by omega
  have j6 : ¬ (k : Int) < 0 := by omega
  by_cases hkn : k = n
  · have e1 : takeC xs t = 0 := (if_neg hm).trans (if_neg (by rw [hk, hn]; omega))
    have e2 : takeL xs t = xs.dropLast := if_pos e1
    rw [e1, e2]
    subst hkn
    have j7 : ((k : Int) != (k : Int)) = false := bne_self_eq_false _
    clear c1 c0 c2 c3 h h8 h9 hn hm hk hkl e1 e2
    generalize xs.dropLast = ys at *
    go_enter Try.func37, Try.ntmps37
    go_wp2_with (go_at_call 41; refine K22.out.mono ?_; rintro e W1 ⟨rfl, q, rfl⟩)
    go_ret
    exact ⟨rfl, (HP.out 0).stay rfl, ⟨rfl, rfl, rfl, (HG.out 0).size, (HG.out 0).block⟩⟩
  · have e1 : takeC xs t = 110 := (if_neg hm).trans (if_pos (by rw [hk, hn]; omega))
    have e2 : takeL xs t = xs := if_neg (by rw [e1]; decide)
    rw [e1, e2]
    have j7 : ((k : Int) != (n : Int)) = true := bne_iff_ne.2 (by omega)
    clear c1 c0 c2 c3 h h8 h9 hn hm hk hkl e1 e2 hkn
    go_enter Try.func37, Try.ntmps37
    go_wp2_with (go_at_call 41; refine K22.out.mono ?_; rintro e W1 ⟨rfl, q, rfl⟩)
    go_ret
    exact ⟨rfl, H.out.drewN _, grown_drew (.refl _ _) _⟩

/-- the totes ahead of place k -/
def ahd (xs : List Int) (k : Nat) : List Int := (xs.drop (k + 1)).reverse

set_option maxRecDepth 100000 in
theorem ahead_no {g d : Nat} {xs : List Int} (t : Int) (w : World) (h : Ln w g d xs) (ht : t ∉ xs) :
    Calls Try.prog 33 #[.pointer (some ⟨g, 0, none⟩), .int .i64 t] w fun e w' => e = .returned (.tuple #[.slice none 0 0, .int .i64 160]) ∧ ∃ q, w' = w.drewN q := by
  have K22 := hide (find_any t w h)
  rw [loc_no ht] at K22
  clear h ht
  go_enter Try.func33, Try.ntmps33
  go_wp2_with (go_at_call 41; refine K22.out.mono ?_; rintro e W1 ⟨rfl, q, rfl⟩)
  go_ret2
  exact ⟨rfl, q, rfl⟩

theorem ahd_step {xs : List Int} {i : Nat} {x : Int} (hx : xs[i]? = some x) : (xs.drop (i + 1)).reverse ++ [x] = (xs.drop i).reverse := by
  have hl := idx_lt hx
  rw [List.drop_eq_getElem_cons hl, List.reverse_cons]
  rw [List.getElem?_eq_getElem hl] at hx
  rw [Option.some.inj hx]

set_option maxRecDepth 100000 in
set_option maxHeartbeats 2000000 in
theorem ahead_yes {g d k : Nat} {xs : List Int} {t : Int} (w : World) (h : Ln w g d xs) (ht : t ∈ xs) (hk : loc xs t = (k : Int)) :
    Calls Try.prog 33 #[.pointer (some ⟨g, 0, none⟩), .int .i64 t] w fun e w' => ∃ v, e = .returned (.tuple #[v, .int .i64 0]) ∧ intE.Own w' w.heap.size v (ahd xs k) ∧ Below w.heap.size w w' := by
  obtain ⟨w0, rfl⟩ : ∃ w0, w0 = w := ⟨_, rfl⟩
  have K22 := hide (find_any t w0 h)
  rw [hk] at K22
  obtain ⟨k', hk', hkl, _⟩ := loc_in ht
  obtain rfl : k' = k := by omega
  have h8 := h.le.1
  have h9 := h.le.2
  have H := hide h
  obtain ⟨n, hn⟩ : ∃ n, xs.length = n := ⟨_, rfl⟩
  have Hn := hide hn
  have HC : Hid (∀ W, Below w0.heap.size w0 W → W.cell? ⟨g, 1, none⟩ = some (.int .i64 n) ∧ ∀ (i : Nat) (x : Int), xs[i]? = some x → W.cell? ⟨g, 2 + i, none⟩ = some (.int .i64 x)) := hide (fun W hb => by
    obtain ⟨s, h⟩ := H.out.keep hb
    exact ⟨by rw [← hn]; exact h.cells.2.1, fun i x hx => h.at i x hx⟩)
  have j6 : ¬ (k' : Int) < 0 := by omega
  have j7 : (n : Int) ≤ 8 := by omega
  have j8 : (k' : Int) < (n : Int) := by omega
  have c1 := (HC.out w0 (Below.refl _ _)).1
  clear hk ht hk' h hn
  go_enter Try.func33, Try.ntmps33
  go_wp2_with (go_at_call 41; refine K22.out.mono ?_; rintro e W1 ⟨rfl, q, rfl⟩)
  go_loopw [7, 8] (fun v7 v8 wr => ∃ (i : Nat) (y : Int), v8 = .int .i64 y ∧ y + 1 = (i : Int) ∧ k' < i ∧ i ≤ n ∧ Hid (Below w0.heap.size w0 wr) ∧ Hid (intE.Own wr w0.heap.size v7 (xs.drop i).reverse)) (fun _ v8 _ => (intOf v8).toNat)
  case atStart => exact ⟨n, _, rfl, by omega, by omega, Nat.le_refl _, hide ⟨rfl, rfl, rfl, Nat.le_refl _, fun _ _ => rfl⟩, hide (by rw [← Hn.out, List.drop_length]; exact El.Own.nil _ _ _)⟩
  case round =>
    obtain ⟨i, y, rfl, hy, hki, hin, HB, HO⟩ := hrel
    by_cases hgt : k' + 1 < i
    · obtain ⟨m, hm⟩ : ∃ m : Nat, i = m + 1 := ⟨i - 1, by omega⟩
      subst hm
      obtain rfl : y = (m : Int) := by omega
      obtain ⟨p, hp⟩ : ∃ p, xs[m]? = some p := ⟨_, List.getElem?_eq_getElem (by rw [Hn.out]; omega)⟩
      have c2 := (HC.out wr HB.out).2 m p hp
      have j9 : (m : Int) > (k' : Int) := by omega
      have j10 : (m : Int) < 8 := by omega
      have j11 : (0 : Int) ≤ (m : Int) := by omega
      have j12 : m < 8 := by omega
      have Hst := hide (ahd_step hp)
      have HL : Hid ((xs.drop (m + 1)).reverse.length + [p].length ≤ 1000000) := hide (by simp; have := Hn.out; omega)
      have Hba : Hid (∀ (o : Obj), Below wr.heap.size wr (wr.alloc o)) := hide (fun o => (Below.refl _ _).alloc (Nat.le_refl _) o)
      have HBa : Hid (∀ (o : Obj), Below w0.heap.size w0 (wr.alloc o)) := hide (fun o => HB.out.trans ((Hba.out o).mono HB.out.size))
      have HOa : Hid (∀ (o : Obj), intE.Own (wr.alloc o) w0.heap.size u7 (xs.drop (m + 1)).reverse) := hide (fun o => HO.out.keep (Hba.out o))
      have HNw : Hid (intE.Rd (wr.alloc (.cells #[.int .i64 p] 3)) (.slice (some ⟨wr.heap.size, 0, none⟩) 1 1) [p]) := hide (int_new _ _ _ rfl)
      clear hp hy hgt
      go_wp2_with (at_builtin; refine intE.wp (w0 := w0) (HBa.out _) (by rfl) _ _ rfl _ _ rfl rfl _ [p] (HOa.out _) HNw.out HL.out ?_; intro v' w' ho hg hs hb; have HO2 := hide ho; have HB2 := hide hb; clear ho hg hs hb)
      go_roundw
      case rel => exact ⟨m, _, rfl, by omega, by omega, by omega, HB2, hide (by rw [← Hst.out]; exact HO2.out)⟩
      case measure => simp [intOf]; omega
    · obtain rfl : i = k' + 1 := by omega
      obtain rfl : y = (k' : Int) := by omega
      have j9 : ¬ (k' : Int) > (k' : Int) := by omega
      clear hy hgt
      go_wp2_with fail
      refine bodyPost_ret (v := .tuple #[u7, .int .i64 0]) (by simp [results, Try.results33, go_sem]) rfl ⟨u7, rfl, HO.out, HB.out⟩

set_option maxRecDepth 100000 in
set_option maxHeartbeats 2000000 in
theorem totes_any {g d : Nat} {xs : List Int} (w : World) (h : Ln w g d xs) :
    Calls Try.prog 40 #[.pointer (some ⟨g, 0, none⟩)] w fun e w' => ∃ v, e = .returned v ∧ intE.Own w' w.heap.size v xs ∧ Below w.heap.size w w' := by
  obtain ⟨w0, rfl⟩ : ∃ w0, w0 = w := ⟨_, rfl⟩
  obtain ⟨s, h⟩ := h
  obtain ⟨c0, c1, c2, c3⟩ := h.cells
  have h8 := h.le
  have h9 := h.d8
  have HR : Hid (intE.Rd w0.drew (.slice (some ⟨g, 2, none⟩) xs.length 8) xs) := hide (Lns.rd (w := w0.drew) ⟨h.len, h.le, h.d8, h.tk, h.box⟩)
  have HL : Hid (([] : List Int).length + xs.length ≤ 1000000) := hide (by simp; omega)
  have Hlt := hide (heap_lt h.box)
  obtain ⟨n, hn⟩ : ∃ n, xs.length = n := ⟨_, rfl⟩
  rw [hn] at c1 HR
  have j0 : (n : Int) ≤ 8 := by omega
  have j1 : n ≤ 8 := by omega
  have j3 : (0 : Int) ≤ (n : Int) := by omega
  obtain ⟨S0, hS⟩ : ∃ S : World → Prop, ∀ W, S W ↔ W.cell? ⟨g, 1, none⟩ = some (.int .i64 n) := ⟨_, fun _ => Iff.rfl⟩
  have SD : Hid (∀ W, S0 W → W.cell? ⟨g, 1, none⟩ = some (.int .i64 n)) := hide (fun W h => (hS W).1 h)
  have SI : Hid (∀ W, Below w0.heap.size w0 W → S0 W) := hide (fun W hb => (hS W).2 (by rw [hb.cell (p := ⟨g, 1, none⟩) Hlt.out]; exact c1))
  have HB0 : Hid (Below w0.heap.size w0 w0.drew) := hide (Below.refl _ _).drew
  clear hn h8 h9 c0 c1 c2 c3 h hS
  go_enter Try.func40, Try.ntmps40
  go_upto_region 1 with fail
  refine wp_region_held_drew (S := S0) (by kernel_rfl) (SI.out _ HB0.out) (fun hS0 => ?_)
  refine wpAnyH_take (i := 0) (v := .pointer (some ⟨g, 0, none⟩)) rfl (by kernel_rfl) (by kernel_rfl) (by kernel_rfl) (fun _ _ _ h => h) (Or.inl ⟨by rfl, fun W' hW => by go_simp⟩) hS0 ?_
  refine wpAnyH_take (i := 1) (v := .pointer (some ⟨g, 0, none⟩)) rfl (by kernel_rfl) (by kernel_rfl) (by kernel_rfl) (fun _ _ _ h => h) (Or.inl ⟨by rfl, fun W' hW => by go_simp⟩) hS0 ?_
  refine wpAnyH_take (i := 2) (v := .pointer (some ⟨g, 2, none⟩)) rfl (by kernel_rfl) (by kernel_rfl) (by kernel_rfl) (fun _ _ _ h => h) (Or.inl ⟨by rfl, fun W' hW => by go_simp⟩) hS0 ?_
  refine wpAnyH_take (i := 3) (v := .pointer (some ⟨g, 0, none⟩)) rfl (by kernel_rfl) (by kernel_rfl) (by kernel_rfl) (fun _ _ _ h => h) (Or.inl ⟨by rfl, fun W' hW => by go_simp⟩) hS0 ?_
  refine wpAnyH_take (i := 4) (v := .pointer (some ⟨g, 0, none⟩)) rfl (by kernel_rfl) (by kernel_rfl) (by kernel_rfl) (fun _ _ _ h => h) (Or.inl ⟨by rfl, fun W' hW => by go_simp⟩) hS0 ?_
  refine wpAnyH_take (i := 5) (v := .pointer (some ⟨g, 1, none⟩)) rfl (by kernel_rfl) (by kernel_rfl) (by kernel_rfl) (fun _ _ _ h => h) (Or.inl ⟨by rfl, fun W' hW => by go_simp⟩) hS0 ?_
  refine wpAnyH_take (i := 6) (v := .int .i64 n) rfl (by kernel_rfl) (by kernel_rfl) (by kernel_rfl) (fun _ _ _ h => h) (Or.inl ⟨by rfl, fun W' hW => by have z0 := SD.out W' hW; go_simp⟩) hS0 ?_
  refine wpAnyH_ready (rs := [7]) (by kernel_rfl) (by simp) ?_
  refine AllReadyH.cons rfl (fun K hK => ?_) AllReadyH.nil
  go_simp
  refine hK.out _ _ hS0 (fun hS1 => ?_)
  clear hK K
  refine wpAnyH_ready (rs := [8]) (by kernel_rfl) (by simp) ?_
  refine AllReadyH.cons rfl (fun K hK => ?_) AllReadyH.nil
  refine intE.step (w0 := w0) HB0.out rfl _ _ rfl _ _ rfl rfl [] xs (El.Own.nil _ _ _) HR.out HL.out ?_
  intro v' w' ho' hg' hs' hb'
  have HO2 := hide ho'
  have HB2 := hide hb'
  refine hK.out _ _ (SI.out _ hb') (fun hS2 => ?_)
  clear hK K ho' hg' hs' hb'
  refine wpAnyH_ready (rs := [9]) (by kernel_rfl) (by simp) ?_
  refine AllReadyH.cons rfl (fun K hK => ?_) AllReadyH.nil
  go_simp
  refine hK.out _ _ hS2 (fun _ => ?_)
  clear hK K
  refine wpAnyH_done (by kernel_rfl) ?_ _
  go_wp2_with fail
  go_ret
  exact ⟨_, rfl, HO2.out, HB2.out⟩
end Go.Proofs.Ytddcjkbdgneklaa
