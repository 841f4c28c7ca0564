/- slices.Clone of numbers, Ints, Same, Open, Served; awake. -/
import Derived.Test.YtfmpipihjnpimaaBkg
namespace Go.Proofs.Ytfmpipihjnpimaa
open Go.RowKit Go.Maps Go.ChangeMaps
set_option linter.unusedVariables false

def rqE : El Try.prog Rq where
  t := 47
  e := 31
  k := 3
  by' := 24
  z := .agg #[.int .i64 0, .int .i64 0, .int .i64 0]
  enc r := [.int .i64 r.id, .int .i64 r.st, .int .i64 r.tt]
  ht := Try.underlying47
  info := by kernel_rfl
  zc := rfl
  kpos := by omega
  bsm := by omega
  len _ := rfl
  one x v hv := by simp at hv; rcases hv with rfl | rfl | rfl <;> rfl
theorem rq_at {w : World} {a : Option Addr} {n c : Nat} {rs : List Rq} (h : rqE.Rd w (.slice a n c) rs) (i : Nat) (r : Rq) (hp : rs[i]? = some r) : ∃ b off, a = some ⟨b, off, none⟩ ∧ w.cell? ⟨b, off + i * 3, none⟩ = some (.int .i64 r.id) ∧ w.cell? ⟨b, off + i * 3 + 1, none⟩ = some (.int .i64 r.st) ∧ w.cell? ⟨b, off + i * 3 + 2, none⟩ = some (.int .i64 r.tt) := by
  obtain ⟨b, off, h1, h2⟩ := h.at i r hp
  exact ⟨b, off, h1, h2 0 (by decide), h2 1 (by decide), h2 2 (by decide)⟩
theorem rq_new (w : World) (r : Rq) : rqE.Rd (w.alloc (.cells #[.int .i64 r.id, .int .i64 r.st, .int .i64 r.tt] 31)) (.slice (some ⟨w.heap.size, 0, none⟩) 1 1) [r] := (El.Own.new rqE w w.heap.size (Nat.le_refl _) #[.int .i64 r.id, .int .i64 r.st, .int .i64 r.tt] [r] rfl (by simp) _ _ _ rfl rfl rfl).rd

set_option maxRecDepth 100000 in
set_option maxHeartbeats 2000000 in
theorem clone_any (a : Option Addr) (n c : Nat) (ms : List Int) (w : World) (hn : ms.length = n) (hl : n ≤ 100000) (hv : intE.Rd w (.slice a n c) ms) :
    Calls Try.prog 32 #[.slice a n c] w fun e w' => ∃ a' c', e = .returned (.slice a' n c') ∧ intE.Own w' w.heap.size (.slice a' n c') ms ∧ Below w.heap.size w w' := by
  have hq : ∀ W a n c, (binOp .eql 27 (.slice a n c) (.slice none 0 0)).run Try.prog W = .ok (.bool a.isNone) W := fun W a n c => Lib.run_eql_slice_nil W 27 3 a n c 0 0 Try.underlying27
  cases a with
  | none =>
    obtain ⟨rfl, rfl, rfl⟩ : n = 0 ∧ c = 0 ∧ ms = [] := by
      rcases hv with ⟨h1, h2⟩ | ⟨x, cap, h, _⟩
      · simp only [Value.slice.injEq] at h1; exact ⟨h1.2.1, h1.2.2, h2⟩
      · simp only [Value.slice.injEq] at h; cases h.1
    clear hv hn hl
    go_enter Try.func32, Try.ntmps32
    go_wp2_with fail
    go_ret
    exact ⟨_, _, rfl, El.Own.nil _ _ _, Below.refl _ _⟩
  | some x =>
    have HR : Hid (∀ o, intE.Rd (w.alloc o) (.slice (some x) n c) ms) := hide (fun o => hv.keep ((Below.refl _ _).alloc (Nat.le_refl _) o))
    have Hnew : Hid (intE.Own (w.alloc (.cells #[] 3)) w.heap.size (.slice (some ⟨w.heap.size, 0, none⟩) 0 0) []) := hide (El.Own.new intE w w.heap.size (Nat.le_refl _) #[] [] rfl (by simp) _ _ _ rfl rfl rfl)
    have Hb : Hid (∀ o, Below w.heap.size w (w.alloc o)) := hide (fun o => (Below.refl _ _).alloc (Nat.le_refl _) o)
    have Hn : Hid (([] : List Int).length + ms.length ≤ 1000000) := hide (by simp; omega)
    have Hl := hide hn
    clear hv hl hn
    go_enter Try.func32, Try.ntmps32
    go_wp2_with (at_builtin; refine intE.wp (w0 := w) (Hb.out _) (by rfl) _ _ rfl _ _ rfl rfl [] ms Hnew.out (HR.out _) Hn.out ?_; intro v1 w2 ho2 _ _ hb2; have Ho := hide ho2; have HB2 := hide hb2; clear ho2 hb2)
    obtain ⟨a', c', e⟩ := Ho.out.rd.form
    rw [List.nil_append, Hl.out] at e
    subst e
    go_ret
    exact ⟨_, _, rfl, Ho.out, HB2.out⟩

set_option maxRecDepth 100000 in
set_option maxHeartbeats 2000000 in
theorem ints_any (a b : Option Addr) (c d n n' : Nat) (xs ys : List Int) (w : World) (hn : xs.length = n) (hn' : ys.length = n') (hv : intE.Rd w (.slice a n c) xs) (hu : intE.Rd w (.slice b n' d) ys) (hl : n ≤ 100000) :
    Calls Try.prog 21 #[.slice a n c, .slice b n' d] w fun e w' => e = .returned (.bool (decide (xs = ys))) ∧ ∃ q, w' = w.drewN q := by
  have no1 : Hid (n ≠ n' → decide (xs = ys) = false) := hide (fun h => decide_eq_false (fun e => h (by rw [← hn, ← hn', e])))
  have no2 : Hid (∀ (k : Nat) (p q : Int), xs[k]? = some p → ys[k]? = some q → p ≠ q → decide (xs = ys) = false) := hide (fun k p q h1 h2 h3 => decide_eq_false (fun e => h3 (by rw [e, h2] at h1; exact (Option.some.inj h1).symm)))
  have yes : Hid (n = n' → xs.take n = ys.take n → decide (xs = ys) = true) := hide (fun h1 h3 => decide_eq_true (by rwa [List.take_of_length_le (by omega), List.take_of_length_le (by omega)] at h3))
  generalize decide (xs = ys) = res at *
  by_cases hnn' : n ≠ n'
  · have e1 := no1.out hnn'
    subst e1
    have q1 : ((n : Int) != (n' : Int)) = true := bne_iff_ne.2 (by omega)
    clear no1 no2 yes hv hu hn hn' hnn'
    go_enter Try.func21, Try.ntmps21
    go_wp2_with fail
    go_ret
    exact ⟨rfl, 0, rfl⟩
  have hnn : n = n' := Decidable.not_not.1 hnn'
  clear hnn'
  subst hnn
  have q1 : ((n : Int) != (n : Int)) = false := bne_self_eq_false _
  have Hn := hide hn
  have Hn' := hide hn'
  have Hv := hide hv
  have Hu := hide hu
  have i0 : (n : Int) ≤ 100000 := by omega
  clear hn hn' hv hu hl no1
  go_enter Try.func21, Try.ntmps21
  go_wp2_with fail
  go_loopw [13] (fun v13 wr => ∃ k q : Nat, k ≤ n ∧ v13 = .int .i64 k ∧ wr = w.drewN q ∧ Hid (xs.take k = ys.take k)) (fun v13 _ => n - (intOf v13).toNat)
  case atStart => exact ⟨0, 0, by omega, rfl, rfl, hide (by simp)⟩
  case round =>
    obtain ⟨k, q, hk, rfl, rfl, HX⟩ := hrel
    by_cases hlt : k < n
    · obtain ⟨p, hp⟩ : ∃ p, xs[k]? = some p := ⟨_, List.getElem?_eq_getElem (by rw [Hn.out]; exact hlt)⟩
      obtain ⟨p', hp'⟩ : ∃ p, ys[k]? = some p := ⟨_, List.getElem?_eq_getElem (by rw [Hn'.out]; exact hlt)⟩
      obtain ⟨b1, off1, rfl, c0⟩ := int_at Hv.out k p hp
      obtain ⟨b2, off2, rfl, c3⟩ := int_at Hu.out k p' hp'
      have j0 : (0 : Int) ≤ (k : Int) := by omega
      have j1 : (k : Int) < (n : Int) := by omega
      have Hp := hide hp
      have Hp' := hide hp'
      clear hp hp'
      by_cases he : p = p'
      · have hbe : (p != p') = false := by rw [he]; exact bne_self_eq_false _
        have HX1 : Hid (xs.take (k + 1) = ys.take (k + 1)) := hide (by rw [List.take_add_one, List.take_add_one, HX.out, Hp.out, Hp'.out, he])
        clear he
        go_upto_region 6 with fail
        go_quiet (fail)
        go_wp2_with fail
        go_roundw
        case rel => exact ⟨k + 1, _, by omega, by go_num, rfl, HX1⟩
        case measure => simp [intOf]; omega
      · have hbe : (p != p') = true := bne_iff_ne.2 he
        have e1 := no2.out k p p' Hp.out Hp'.out he
        subst e1
        clear he
        go_upto_region 6 with fail
        go_quiet (fail)
        go_wp2_with fail
        go_ret
        exact ⟨rfl, _, rfl⟩
    · obtain rfl : k = n := by omega
      have j1 : ¬ (k : Int) < (k : Int) := by omega
      have e1 := yes.out (by first | rfl | trivial) HX.out
      subst e1
      go_wp2_with fail
      go_ret
      exact ⟨rfl, _, rfl⟩

set_option maxRecDepth 100000 in
set_option maxHeartbeats 2000000 in
theorem same_any (a b : Option Addr) (c d n n' : Nat) (xs ys : List Rq) (w : World) (hn : xs.length = n) (hn' : ys.length = n') (hv : rqE.Rd w (.slice a n c) xs) (hu : rqE.Rd w (.slice b n' d) ys) (hl : n ≤ 100000) :
    Calls Try.prog 23 #[.slice a n c, .slice b n' d] w fun e w' => e = .returned (.bool (decide (xs = ys))) ∧ ∃ q, w' = w.drewN q := by
  have no1 : Hid (n ≠ n' → decide (xs = ys) = false) := hide (fun h => decide_eq_false (fun e => h (by rw [← hn, ← hn', e])))
  have no2 : Hid (∀ (k : Nat) (p q : Rq), xs[k]? = some p → ys[k]? = some q → p ≠ q → decide (xs = ys) = false) := hide (fun k p q h1 h2 h3 => decide_eq_false (fun e => h3 (by rw [e, h2] at h1; exact (Option.some.inj h1).symm)))
  have yes : Hid (n = n' → xs.take n = ys.take n → decide (xs = ys) = true) := hide (fun h1 h3 => decide_eq_true (by rwa [List.take_of_length_le (by omega), List.take_of_length_le (by omega)] at h3))
  generalize decide (xs = ys) = res at *
  by_cases hnn' : n ≠ n'
  · have e1 := no1.out hnn'
    subst e1
    have q1 : ((n : Int) != (n' : Int)) = true := bne_iff_ne.2 (by omega)
    clear no1 no2 yes hv hu hn hn' hnn'
    go_enter Try.func23, Try.ntmps23
    go_wp2_with fail
    go_ret
    exact ⟨rfl, 0, rfl⟩
  have hnn : n = n' := Decidable.not_not.1 hnn'
  clear hnn'
  subst hnn
  have q1 : ((n : Int) != (n : Int)) = false := bne_self_eq_false _
  have Hn := hide hn
  have Hn' := hide hn'
  have Hv := hide hv
  have Hu := hide hu
  have i0 : (n : Int) ≤ 100000 := by omega
  clear hn hn' hv hu hl no1
  go_enter Try.func23, Try.ntmps23
  go_wp2_with fail
  go_loopw [13] (fun v13 wr => ∃ k q : Nat, k ≤ n ∧ v13 = .int .i64 k ∧ wr = w.drewN q ∧ Hid (xs.take k = ys.take k)) (fun v13 _ => n - (intOf v13).toNat)
  case atStart => exact ⟨0, 0, by omega, rfl, rfl, hide (by simp)⟩
  case round =>
    obtain ⟨k, q, hk, rfl, rfl, HX⟩ := hrel
    by_cases hlt : k < n
    · obtain ⟨p, hp⟩ : ∃ p, xs[k]? = some p := ⟨_, List.getElem?_eq_getElem (by rw [Hn.out]; exact hlt)⟩
      obtain ⟨p', hp'⟩ : ∃ p, ys[k]? = some p := ⟨_, List.getElem?_eq_getElem (by rw [Hn'.out]; exact hlt)⟩
      obtain ⟨b1, off1, rfl, c0, c1, c2⟩ := rq_at Hv.out k p hp
      obtain ⟨b2, off2, rfl, c3, c4, c5⟩ := rq_at Hu.out k p' hp'
      have j0 : (0 : Int) ≤ (k : Int) := by omega
      have j1 : (k : Int) < (n : Int) := by omega
      have Hp := hide hp
      have Hp' := hide hp'
      clear hp hp'
      by_cases he : p = p'
      · have heq := fun W => rq_equal W p p'
        rw [decide_eq_true he] at heq
        have HX1 : Hid (xs.take (k + 1) = ys.take (k + 1)) := hide (by rw [List.take_add_one, List.take_add_one, HX.out, Hp.out, Hp'.out, he])
        clear he
        go_upto_region 6 with fail
        go_quiet (fail)
        go_wp2_with fail
        go_roundw
        case rel => exact ⟨k + 1, _, by omega, by go_num, rfl, HX1⟩
        case measure => simp [intOf]; omega
      · have heq := fun W => rq_equal W p p'
        rw [decide_eq_false he] at heq
        have e1 := no2.out k p p' Hp.out Hp'.out he
        subst e1
        clear he
        go_upto_region 6 with fail
        go_quiet (fail)
        go_wp2_with fail
        go_ret
        exact ⟨rfl, _, rfl⟩
    · obtain rfl : k = n := by omega
      have j1 : ¬ (k : Int) < (k : Int) := by omega
      have e1 := yes.out (by first | rfl | trivial) HX.out
      subst e1
      go_wp2_with fail
      go_ret
      exact ⟨rfl, _, rfl⟩


set_option maxRecDepth 100000 in
set_option maxHeartbeats 2000000 in
theorem served_any {w : World} {B g : Nat} {H : Hb} {S : Bk} (h : (It.book B g H S).P w) {s : Int} (hs : I64 s) (hd : S.done.length ≤ 10000) : Calls Try.prog 20 #[.pointer (some ⟨g, 0, none⟩), .int .i64 s] w fun e w' => ∃ a' c', e = .returned (.slice a' (S.sv s).length c') ∧ intE.Own w' w.heap.size (.slice a' (S.sv s).length c') (S.sv s) ∧ Below w.heap.size w w' := by
  obtain ⟨c0, c1, c2, _⟩ := bk_cells h
  have hsrv := bk_srv h
  have hl := hsrv.mp.look59 hs
  have hlen : (S.sv s).length ≤ S.done.length := List.length_filter_le _ _
  have hown : intE.Own w B ((H.fs s).getD (.slice none 0 0)) (S.sv s) := by
    cases q : H.fs s with
    | none => rw [hsrv.no s q]; exact El.Own.nil _ _ _
    | some u => exact hsrv.row s u q
  obtain ⟨a, c, ev⟩ := hown.rd.form
  rw [ev] at hl hown
  have K := hide (clone_any a (S.sv s).length c (S.sv s) w rfl (by omega) hown.rd)
  clear h hsrv hlen hown ev hs hd
  generalize (S.sv s).length = n at *
  go_enter Try.func20, Try.ntmps20
  go_wp2_with (go_at_call 32; refine K.out.mono ?_; rintro e w1 ⟨a', c', rfl, ho, hb⟩; have HO := hide ho; have HB := hide hb; clear ho hb)
  go_ret
  exact ⟨_, _, rfl, HO.out, HB.out⟩

set_option maxRecDepth 100000 in
set_option maxHeartbeats 2000000 in
theorem open_any {w : World} {B g : Nat} {H : Hb} {S : Bk} (h : (It.book B g H S).P w) : Calls Try.prog 19 #[.pointer (some ⟨g, 0, none⟩)] w fun e w' => ∃ a' c', e = .returned (.slice a' (ops S.all).length c') ∧ rqE.Own w' w.heap.size (.slice a' (ops S.all).length c') (ops S.all) ∧ Below w.heap.size w w' := by
  obtain ⟨w0, rfl⟩ : ∃ w0, w0 = w := ⟨_, rfl⟩
  have hlie := bk_lie h
  have hfew := hlie.1.few
  obtain ⟨a, c, ev⟩ := (bk_row h).rd.form
  obtain ⟨c0, c1, c2, _⟩ := bk_cells h
  rw [ev, List.length_map] at c1
  have hops := hlie.ops
  have HE : Hid (∀ (k : Nat) (wr : World), k < (opT H.T).length → Below w0.heap.size w0 wr → ∃ (b off g' : Nat) (e : En), a = some ⟨b, off, none⟩ ∧ wr.cell? ⟨b, off + k, none⟩ = some (.pointer (some ⟨g', 0, none⟩)) ∧ wr.cell? ⟨g', 0, none⟩ = some (.int .i64 e.r.id) ∧ wr.cell? ⟨g', 1, none⟩ = some (.int .i64 e.r.st) ∧ wr.cell? ⟨g', 2, none⟩ = some (.int .i64 e.r.tt) ∧ (ops S.all)[k]? = some e.r) := hide (fun k wr hk hb => by
    have hw := (It.book B g H S).kept h hb
    have hr := (bk_row hw).rd
    rw [ev] at hr
    have hp : (opT H.T)[k]? = some (opT H.T)[k] := List.getElem?_eq_getElem hk
    obtain ⟨b, off, q1, q2⟩ := ptr_at hr k (opT H.T)[k].1 (by rw [List.getElem?_map, hp]; rfl)
    obtain ⟨d0, d1, d2, _⟩ := bk_ent hw (p := (opT H.T)[k]) (List.mem_filter.1 (List.getElem_mem hk)).1
    exact ⟨b, off, (opT H.T)[k].1, (opT H.T)[k].2, q1, q2, d0, d1, d2, by rw [hops, List.getElem?_map, hp]; rfl⟩)
  rw [← List.length_map (f := fun p : Nat × En => p.2.r), ← hops] at c1 HE
  generalize ops S.all = rs at *
  obtain ⟨n, hn⟩ : ∃ n, rs.length = n := ⟨_, rfl⟩
  rw [hn] at c1 HE hfew ⊢
  have Hn := hide hn
  have i0 : (n : Int) ≤ 30 := by omega
  have Hf := hide hfew
  clear h hlie hfew ev c0 c2 hops hn
  go_enter Try.func19, Try.ntmps19
  go_wp2_with fail
  go_loopw [3, 11] (fun v3 v11 wr => ∃ (k : Nat) (v : Value), k ≤ n ∧ v = v3 ∧ v11 = .int .i64 k ∧ Hid (rqE.Own wr w0.heap.size v (rs.take k)) ∧ Hid (Below w0.heap.size w0 wr)) (fun _ v11 _ => n - (intOf v11).toNat)
  case atStart => exact ⟨0, _, by omega, rfl, rfl, hide (El.Own.nil _ _ _), hide (Below.refl _ _)⟩
  case round =>
    obtain ⟨k, v, hk, hv, rfl, HO, HB⟩ := hrel
    subst hv
    by_cases hlt : k < n
    · obtain ⟨b, off, g', e, rfl, q0, d0, d1, d2, hr⟩ := HE.out k wr hlt HB.out
      obtain ⟨⟨i, s, t⟩, en⟩ := e
      simp only at d0 d1 d2 hr
      have j0 : (0 : Int) ≤ (k : Int) := by omega
      have j1 : (k : Int) < (n : Int) := by omega
      have HR := hide (rq_new wr ⟨i, s, t⟩)
      have HB1 := hide (HB.out.alloc HB.out.size (.cells #[.int .i64 i, .int .i64 s, .int .i64 t] 31))
      have HO1 : Hid (rqE.Own (wr.alloc (.cells #[.int .i64 i, .int .i64 s, .int .i64 t] 31)) w0.heap.size v (rs.take k)) := hide (HO.out.keep (below_new wr _))
      have HN : Hid ((rs.take k).length + [(⟨i, s, t⟩ : Rq)].length ≤ 1000000) := hide (by have := Hf.out; simp; omega)
      have HT : Hid (rs.take k ++ [⟨i, s, t⟩] = rs.take (k + 1)) := hide (by rw [List.take_add_one, hr]; rfl)
      clear hr HO
      go_wp2_with (at_builtin; refine rqE.wp (w0 := w0) HB1.out (by rfl) _ _ rfl _ _ rfl rfl _ _ HO1.out HR.out HN.out ?_; intro v1 w2 ho2 _ _ hb2; rw [HT.out] at ho2; have Ho := hide ho2; have HB2 := hide hb2; clear ho2 hb2)
      go_roundw
      case rel => exact ⟨k + 1, _, by omega, rfl, by go_num, Ho, HB2⟩
      case measure => simp [intOf]; omega
    · obtain rfl : k = n := by omega
      have j1 : ¬ (k : Int) < (k : Int) := by omega
      have ho := HO.out
      rw [List.take_of_length_le (by rw [Hn.out]; omega)] at ho
      obtain ⟨a', c', e⟩ := ho.rd.form
      rw [Hn.out] at e
      subst e
      have Ho := hide ho
      clear ho HO
      go_wp2_with fail
      go_ret
      exact ⟨_, _, rfl, Ho.out, HB.out⟩

section
variable {w0 w : World} {g : Nat} {H : Hb} {S S' : Bk} {l : List It}
theorem addS {y : Bool} {e : Int} (r : Rq) (h : Its w0 (.book w0.heap.size g H S :: l) w) (hi : I64 r.id) (hn : S.all.length ≤ 10000) (h1 : S.adY r = y ∧ S.adC r = e) (h2 : S.ad r = S') : Calls Try.prog 10 #[.pointer (some ⟨g, 0, none⟩), .agg #[.int .i64 r.id, .int .i64 r.st, .int .i64 r.tt]] w fun q w' => q = .returned (.tuple #[.bool y, .int .i64 e]) ∧ ∃ H', Its w0 (.book w0.heap.size g H' S' :: l) w' := by
  have := add_any h r hi hn
  rwa [h1.1, h1.2, h2] at this
theorem cancelS {y : Bool} {e : Int} {x : Int} (h : Its w0 (.book w0.heap.size g H S :: l) w) (hi : I64 x) (h1 : S.caY x = y ∧ S.caC x = e) (h2 : S.ca x = S') : Calls Try.prog 12 #[.pointer (some ⟨g, 0, none⟩), .int .i64 x] w fun q w' => q = .returned (.tuple #[.bool y, .int .i64 e]) ∧ ∃ H', Its w0 (.book w0.heap.size g H' S' :: l) w' := by
  have := cancel_any h hi
  rwa [h1.1, h1.2, h2] at this
theorem serveS {e : Int} {x : Int} (h : Its w0 (.book w0.heap.size g H S :: l) w) (hi : I64 x) (hd : S.done.length ≤ 10000) (h1 : S.seC x = e) (h2 : S.se x = S') : Calls Try.prog 14 #[.pointer (some ⟨g, 0, none⟩), .int .i64 x] w fun q w' => q = .returned (.int .i64 e) ∧ ∃ H', Its w0 (.book w0.heap.size g H' S' :: l) w' := by
  have := serve_any h hi hd
  rwa [h1, h2] at this
theorem stateS {e : Int} {x : Int} (h : Its w0 (.book w0.heap.size g H S :: l) w) (hi : I64 x) (h1 : S.sta x = e) : Calls Try.prog 16 #[.pointer (some ⟨g, 0, none⟩), .int .i64 x] w fun q w' => q = .returned (.int .i64 e) ∧ w' = w := by
  have := state_any h.one hi
  rwa [h1] at this
theorem openS {n : Nat} (h : Its w0 (.book w0.heap.size g H S :: l) w) (h1 : (ops S.all).length = n) : Calls Try.prog 19 #[.pointer (some ⟨g, 0, none⟩)] w fun q w' => ∃ a' c', q = .returned (.slice a' n c') ∧ Its w0 (.row rqE w0.heap.size (.slice a' n c') (ops S.all) :: .book w0.heap.size g H S :: l) w' := by
  refine (open_any h.one).mono ?_
  rintro q w' ⟨a', c', rfl, ho, hb⟩
  rw [h1] at ho ⊢
  exact ⟨_, _, rfl, h.fresh ho hb⟩
theorem servedS {n : Nat} {s : Int} (h : Its w0 (.book w0.heap.size g H S :: l) w) (hs : I64 s) (hd : S.done.length ≤ 10000) (h1 : (S.sv s).length = n) : Calls Try.prog 20 #[.pointer (some ⟨g, 0, none⟩), .int .i64 s] w fun q w' => ∃ a' c', q = .returned (.slice a' n c') ∧ Its w0 (.ints w0.heap.size (.slice a' n c') (S.sv s) :: .book w0.heap.size g H S :: l) w' := by
  refine (served_any h.one hs hd).mono ?_
  rintro q w' ⟨a', c', rfl, ho, hb⟩
  rw [h1] at ho ⊢
  exact ⟨_, _, rfl, h.fresh ho hb⟩
theorem firstS (s : Int) (h : Its w0 (.book w0.heap.size g H S :: l) w) : Calls Try.prog 22 #[.pointer (some ⟨g, 0, none⟩), .int .i64 s] w fun e w' => e = .returned (.tuple #[rqV (fst S.all s), .bool (fst S.all s).isSome]) ∧ Its w0 (.book w0.heap.size g H S :: l) w' := by
  refine (firstB_any h.one s).mono ?_
  rintro e w' ⟨rfl, hb⟩
  exact ⟨rfl, h.keep hb⟩
theorem wantedS (s : Int) (h : Its w0 (.book w0.heap.size g H S :: l) w) : Calls Try.prog 24 #[.pointer (some ⟨g, 0, none⟩), .int .i64 s] w fun e w' => e = .returned (.tuple #[rqV (wnt S.all s), .bool (wnt S.all s).isSome]) ∧ Its w0 (.book w0.heap.size g H S :: l) w' := by
  refine (wanted_any h.one s).mono ?_
  rintro e w' ⟨rfl, hb⟩
  exact ⟨rfl, h.keep hb⟩
end
/-- a call of a script that came in, wherever all older blocks stay -/
theorem ops_in {w : World} {a : Option Addr} {m c : Nat} {zs : List Op} (hm : zs.length = m) (hv : Ops w (.slice a m c) zs) (i : Nat) (hi : i < m) : ∃ (b off : Nat) (kd x st tt : Int), a = some ⟨b, off, none⟩ ∧ I64 x ∧ I64 st ∧ ∀ W, Below w.heap.size w W → W.cell? ⟨b, off + i * 4, none⟩ = some (.int .i64 kd) ∧ W.cell? ⟨b, off + i * 4 + 1, none⟩ = some (.int .i64 x) ∧ W.cell? ⟨b, off + i * 4 + 2, none⟩ = some (.int .i64 st) ∧ W.cell? ⟨b, off + i * 4 + 3, none⟩ = some (.int .i64 tt) := by
  obtain ⟨p, hp⟩ : ∃ p, zs[i]? = some p := ⟨_, List.getElem?_eq_getElem (by omega)⟩
  obtain ⟨b, off, e, h0, h1, h2, h3, h4, h5⟩ := Ops.at hv i p hp
  have hlt : b < w.heap.size := cell_lt h0
  refine ⟨b, off, p.kind, p.r.id, p.r.st, p.r.tt, e, h4, h5, fun W hb => ⟨?_, ?_, ?_, ?_⟩⟩
  · rw [hb.cell (p := ⟨b, off + i * 4, none⟩) hlt]; exact h0
  · rw [hb.cell (p := ⟨b, off + i * 4 + 1, none⟩) hlt]; exact h1
  · rw [hb.cell (p := ⟨b, off + i * 4 + 2, none⟩) hlt]; exact h2
  · rw [hb.cell (p := ⟨b, off + i * 4 + 3, none⟩) hlt]; exact h3
theorem i64_lit (x : Int) (h : decide (-9223372036854775808 ≤ x ∧ x ≤ 9223372036854775807) = true) : I64 x := by unfold I64; exact of_decide_eq_true h

set_option maxRecDepth 100000 in
set_option maxHeartbeats 4000000 in
theorem awake_any (w : World) : Calls Try.prog 9 #[] w fun e w' => e = .returned (.bool true) ∧ Below w.heap.size w w' := by
  obtain ⟨w0, rfl⟩ : ∃ w0, w0 = w := ⟨_, rfl⟩
  have KN := hide (new_any w0 w0 [] (Its.nil w0))
  go_enter Try.func9, Try.ntmps9
  go_upto_region 4 with (go_at_call 8; refine KN.out.mono ?_; rintro e W0 ⟨g, H0, rfl, hg⟩; have HG0 := hide hg; clear hg)
  have K1 : Hid (∀ W H, Its w0 (.book w0.heap.size g H (Bk.new) :: []) W → Calls Try.prog 10 #[.pointer (some ⟨g, 0, none⟩), .agg #[.int .i64 7, .int .i64 2, .int .i64 1]] W fun q w' => q = .returned (.tuple #[.bool true, .int .i64 0]) ∧ ∃ H', Its w0 (.book w0.heap.size g H' (⟨[⟨⟨7, 2, 1⟩, 1⟩], []⟩) :: []) w') := hide (fun W H h => addS (l := []) ⟨7, 2, 1⟩ h (i64_lit _ rfl) (by decide) (by decide) (by decide))
  have K2 : Hid (∀ W H, Its w0 (.book w0.heap.size g H (⟨[⟨⟨7, 2, 1⟩, 1⟩], []⟩) :: []) W → Calls Try.prog 10 #[.pointer (some ⟨g, 0, none⟩), .agg #[.int .i64 7, .int .i64 2, .int .i64 1]] W fun q w' => q = .returned (.tuple #[.bool false, .int .i64 0]) ∧ ∃ H', Its w0 (.book w0.heap.size g H' (⟨[⟨⟨7, 2, 1⟩, 1⟩], []⟩) :: []) w') := hide (fun W H h => addS (l := []) ⟨7, 2, 1⟩ h (i64_lit _ rfl) (by decide) (by decide) (by decide))
  have K3 : Hid (∀ W H, Its w0 (.book w0.heap.size g H (⟨[⟨⟨7, 2, 1⟩, 1⟩], []⟩) :: []) W → Calls Try.prog 10 #[.pointer (some ⟨g, 0, none⟩), .agg #[.int .i64 7, .int .i64 2, .int .i64 9]] W fun q w' => q = .returned (.tuple #[.bool false, .int .i64 2]) ∧ ∃ H', Its w0 (.book w0.heap.size g H' (⟨[⟨⟨7, 2, 1⟩, 1⟩], []⟩) :: []) w') := hide (fun W H h => addS (l := []) ⟨7, 2, 9⟩ h (i64_lit _ rfl) (by decide) (by decide) (by decide))
  have K4 : Hid (∀ W H, Its w0 (.book w0.heap.size g H (⟨[⟨⟨7, 2, 1⟩, 1⟩], []⟩) :: []) W → Calls Try.prog 10 #[.pointer (some ⟨g, 0, none⟩), .agg #[.int .i64 8, .int .i64 2, .int .i64 1]] W fun q w' => q = .returned (.tuple #[.bool false, .int .i64 160]) ∧ ∃ H', Its w0 (.book w0.heap.size g H' (⟨[⟨⟨7, 2, 1⟩, 1⟩], []⟩) :: []) w') := hide (fun W H h => addS (l := []) ⟨8, 2, 1⟩ h (i64_lit _ rfl) (by decide) (by decide) (by decide))
  have K5 : Hid (∀ W H, Its w0 (.book w0.heap.size g H (⟨[⟨⟨7, 2, 1⟩, 1⟩], []⟩) :: []) W → Calls Try.prog 14 #[.pointer (some ⟨g, 0, none⟩), .int .i64 7] W fun q w' => q = .returned (.int .i64 0) ∧ ∃ H', Its w0 (.book w0.heap.size g H' (⟨[⟨⟨7, 2, 1⟩, 2⟩], [7]⟩) :: []) w') := hide (fun W H h => serveS (l := []) h (i64_lit _ rfl) (by decide) (by decide) (by decide))
  have K6 : Hid (∀ W H, Its w0 (.book w0.heap.size g H (⟨[⟨⟨7, 2, 1⟩, 2⟩], [7]⟩) :: []) W → Calls Try.prog 16 #[.pointer (some ⟨g, 0, none⟩), .int .i64 7] W fun q w' => q = .returned (.int .i64 2) ∧ w' = W) := hide (fun W H h => stateS (l := []) h (i64_lit _ rfl) (by decide))
  go_wp2_with (first
    | (go_at_call 16; refine (K6.out _ _ HG5.out).mono ?_; rintro e W6 ⟨rfl, rfl⟩)
    | (go_at_call 14; refine (K5.out _ _ HG4.out).mono ?_; rintro e W5 ⟨rfl, H5, hg⟩; have HG5 := hide hg; clear hg)
    | (go_at_call 10; refine (K4.out _ _ HG3.out).mono ?_; rintro e W4 ⟨rfl, H4, hg⟩; have HG4 := hide hg; clear hg)
    | (go_at_call 10; refine (K3.out _ _ HG2.out).mono ?_; rintro e W3 ⟨rfl, H3, hg⟩; have HG3 := hide hg; clear hg)
    | (go_at_call 10; refine (K2.out _ _ HG1.out).mono ?_; rintro e W2 ⟨rfl, H2, hg⟩; have HG2 := hide hg; clear hg)
    | (go_at_call 10; refine (K1.out _ _ HG0.out).mono ?_; rintro e W1 ⟨rfl, H1, hg⟩; have HG1 := hide hg; clear hg))
  go_ret
  exact ⟨rfl, HG5.out.bel⟩
end Go.Proofs.Ytfmpipihjnpimaa
