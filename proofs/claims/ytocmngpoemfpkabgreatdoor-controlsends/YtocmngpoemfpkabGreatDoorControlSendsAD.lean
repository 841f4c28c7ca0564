import Derived.BigQuiet
import Derived.Lib.AppendZeros
import Derived.Lib.SliceRun
import Derived.OwnWalk
import Derived.Test.YtocmngpoemfpkabGreatDoorControlSendsAA
import Derived.Test.YtocmngpoemfpkabGreatDoorControlSendsAB
import Derived.Test.YtocmngpoemfpkabGreatDoorControlSendsAC
set_option linter.unusedVariables false
namespace Go.Proofs.YtocmngpoemfpkabGreatDoor
open Go.RowKit
section
variable {w0 w : World} {B g : Nat} {H : Bool → Value} {T : Tp} {l : List It}
set_option maxRecDepth 100000 in
set_option maxHeartbeats 1000000 in
theorem unit_cut0 {p7 p5 p3 p4 b n c m : Nat} (hv : H false = .slice (some ⟨b, 0, none⟩) n c) (h : Its w0 (.tape B g H T :: .box p4 #[.int .i64 0] 3 :: .box p3 #[.pointer (some ⟨g, 0, none⟩)] 29 :: .box p5 #[.int .i64 (m : Int)] 3 :: .box p7 #[.slice (some ⟨b, 0, none⟩) n c] 54 :: l) w) (hm : m ≤ (T.A false).length) :
  Calls Tryz.prog 143 #[.pointer (some ⟨p7, 0, none⟩), .pointer (some ⟨p5, 0, none⟩), .pointer (some ⟨p3, 0, none⟩), .pointer (some ⟨p4, 0, none⟩)] w fun e w' => e = .returned (.tuple #[]) ∧ ∃ H', Its w0 (.tape B g H' (T.setA false ((T.A false).take m)) :: .box p4 #[.int .i64 0] 3 :: .box p3 #[.pointer (some ⟨g, 0, none⟩)] 29 :: .box p5 #[.int .i64 (m : Int)] 3 :: .box p7 #[.slice (some ⟨b, 0, none⟩) n c] 54 :: l) w' := by
 have c4 : w.cell? ⟨p4, 0, none⟩ = some (.int .i64 0) := (cells_at h.two 0).1
 have c3 : w.cell? ⟨p3, 0, none⟩ = some (.pointer (some ⟨g, 0, none⟩)) := (cells_at h.three 0).1
 have c5 : w.cell? ⟨p5, 0, none⟩ = some (.int .i64 (m : Int)) := (cells_at h.four 0).1
 have c7 : w.cell? ⟨p7, 0, none⟩ = some (.slice (some ⟨b, 0, none⟩) n c) := (cells_at (h.all (.box p7 #[.slice (some ⟨b, 0, none⟩) n c] 54) (by simp)) 0).1
 obtain ⟨d0, d1, _, _, _, _⟩ := tp_cells h.one
 have fz := tp_frozen h.one 0
 have hok := tp_ok h.one
 have har := tp_ar h.one false
 rw [hv] at har
 have hnc : n ≤ c ∧ (T.A false).length = n := by
  obtain ⟨a', c', e, q⟩ := har.sl
  simp only [Value.slice.injEq] at e
  have := q.cap
  exact ⟨by omega, by omega⟩
 have HE : Hid (∃ H', Its w0 (.tape B g H' (T.setA false ((T.A false).take m)) :: .box p4 #[.int .i64 0] 3 :: .box p3 #[.pointer (some ⟨g, 0, none⟩)] 29 :: .box p5 #[.int .i64 (m : Int)] 3 :: .box p7 #[.slice (some ⟨b, 0, none⟩) n c] 54 :: l) (w.drew.setCell ⟨g, 0, none⟩ (.slice (some ⟨b, 0, none⟩) m m))) := hide (by
  have I1 := h.drew 1
  have h2 := I1.tmid false (w1 := w.drew) ((har.st (w' := w.drew) (fun _ _ => rfl)).cut m hm) (Frm.refl _ _) (fun k hk => .inl (by rw [hv]; exact hk))
  exact ⟨_, h2.tend false hok ((hok.inb false).take m) (by have := hok.len false; rw [List.length_take]; omega)⟩)
 have m0 : (0 : Int) ≤ (m : Int) := by omega
 have m1 : (m : Int) ≤ (c : Int) := by omega
 clear h har hok hnc hm hv
 go_enter Tryz.func143, Tryz.ntmps143
 go_upto_region 0 with fail
 go_region
 go_wp2_with fail
 refine bodyPost_end (results_none rfl _ _ _) rfl ?_
 exact ⟨rfl, HE.out⟩
set_option maxRecDepth 100000 in
set_option maxHeartbeats 1000000 in
theorem unit_cut1 {p7 p5 p3 p4 b n c m : Nat} (hv : H true = .slice (some ⟨b, 0, none⟩) n c) (h : Its w0 (.tape B g H T :: .box p4 #[.int .i64 1] 3 :: .box p3 #[.pointer (some ⟨g, 0, none⟩)] 29 :: .box p5 #[.int .i64 (m : Int)] 3 :: .box p7 #[.slice (some ⟨b, 0, none⟩) n c] 54 :: l) w) (hm : m ≤ (T.A true).length) :
  Calls Tryz.prog 143 #[.pointer (some ⟨p7, 0, none⟩), .pointer (some ⟨p5, 0, none⟩), .pointer (some ⟨p3, 0, none⟩), .pointer (some ⟨p4, 0, none⟩)] w fun e w' => e = .returned (.tuple #[]) ∧ ∃ H', Its w0 (.tape B g H' (T.setA true ((T.A true).take m)) :: .box p4 #[.int .i64 1] 3 :: .box p3 #[.pointer (some ⟨g, 0, none⟩)] 29 :: .box p5 #[.int .i64 (m : Int)] 3 :: .box p7 #[.slice (some ⟨b, 0, none⟩) n c] 54 :: l) w' := by
 have c4 : w.cell? ⟨p4, 0, none⟩ = some (.int .i64 1) := (cells_at h.two 0).1
 have c3 : w.cell? ⟨p3, 0, none⟩ = some (.pointer (some ⟨g, 0, none⟩)) := (cells_at h.three 0).1
 have c5 : w.cell? ⟨p5, 0, none⟩ = some (.int .i64 (m : Int)) := (cells_at h.four 0).1
 have c7 : w.cell? ⟨p7, 0, none⟩ = some (.slice (some ⟨b, 0, none⟩) n c) := (cells_at (h.all (.box p7 #[.slice (some ⟨b, 0, none⟩) n c] 54) (by simp)) 0).1
 obtain ⟨d0, d1, _, _, _, _⟩ := tp_cells h.one
 have fz := tp_frozen h.one 1
 have hok := tp_ok h.one
 have har := tp_ar h.one true
 rw [hv] at har
 have hnc : n ≤ c ∧ (T.A true).length = n := by
  obtain ⟨a', c', e, q⟩ := har.sl
  simp only [Value.slice.injEq] at e
  have := q.cap
  exact ⟨by omega, by omega⟩
 have HE : Hid (∃ H', Its w0 (.tape B g H' (T.setA true ((T.A true).take m)) :: .box p4 #[.int .i64 1] 3 :: .box p3 #[.pointer (some ⟨g, 0, none⟩)] 29 :: .box p5 #[.int .i64 (m : Int)] 3 :: .box p7 #[.slice (some ⟨b, 0, none⟩) n c] 54 :: l) (w.drew.setCell ⟨g, 1, none⟩ (.slice (some ⟨b, 0, none⟩) m m))) := hide (by
  have I1 := h.drew 1
  have h2 := I1.tmid true (w1 := w.drew) ((har.st (w' := w.drew) (fun _ _ => rfl)).cut m hm) (Frm.refl _ _) (fun k hk => .inl (by rw [hv]; exact hk))
  exact ⟨_, h2.tend true hok ((hok.inb true).take m) (by have := hok.len true; rw [List.length_take]; omega)⟩)
 have m0 : (0 : Int) ≤ (m : Int) := by omega
 have m1 : (m : Int) ≤ (c : Int) := by omega
 clear h har hok hnc hm hv
 go_enter Tryz.func143, Tryz.ntmps143
 go_upto_region 0 with fail
 go_region
 go_wp2_with fail
 refine bodyPost_end (results_none rfl _ _ _) rfl ?_
 exact ⟨rfl, HE.out⟩
theorem can_no {T : Tp} (h : T.can 1 = false) : T.ar = true ∧ T.bd = 0 := by
  unfold Tp.can at h
  cases ha : T.ar
  · rw [ha] at h; simp at h
  · rw [ha] at h; simp at h; exact ⟨rfl, by omega⟩
theorem can_yes {T : Tp} (h : T.can 1 = true) : T.ar = false ∨ (T.ar = true ∧ 1 ≤ T.bd) := by
  unfold Tp.can at h
  cases ha : T.ar
  · exact .inl rfl
  · rw [ha] at h; simp at h; exact .inr ⟨rfl, by omega⟩
set_option maxRecDepth 100000 in
set_option maxHeartbeats 1000000 in
theorem work_no (h : Its w0 (.tape B g H T :: l) w) (hc : T.can 1 = false) (u : Value) : Calls Tryz.prog 142 #[.pointer (some ⟨g, 0, none⟩), u] w fun e w' => e = .returned (.int .i64 190) ∧ Its w0 (.tape B g H T.die :: l) w' := by
 obtain ⟨ha, hb⟩ := can_no hc
 obtain ⟨_, _, _, d3, d4, d5⟩ := tp_cells h.one
 rw [ha] at d3
 rw [hb] at d4
 have f5 := tp_frozen h.one 5
 have HE := hide (h.tcell (T' := T.die) rfl (tp_ok h.one).die 5 (.bool true) rfl)
 rw [show (((0 : Nat) : Nat) : Int) = 0 from rfl] at d4
 clear h hc ha hb
 go_enter Tryz.func142, Tryz.ntmps142
 go_wp2_with fail
 go_ret
 exact ⟨rfl, HE.out⟩
set_option maxRecDepth 100000 in
set_option maxHeartbeats 1000000 in
theorem work_yes40 (h : Its w0 (.tape B g H T :: l) w) (hc : T.can 1 = true) {q0 q1 q2 : Nat} {T2 : Tp} (hU : ∀ W, Its w0 (.tape B g H (T.use 1) :: l) W → Calls Tryz.prog 212 #[.pointer (some ⟨q0, 0, none⟩), .pointer (some ⟨q1, 0, none⟩), .pointer (some ⟨q2, 0, none⟩)] W fun e w' => e = .returned (.tuple #[]) ∧ ∃ H', Its w0 (.tape B g H' T2 :: l) w') :
    Calls Tryz.prog 142 #[.pointer (some ⟨g, 0, none⟩), .func (.func 212) #[] #[.pointer (some ⟨q0, 0, none⟩), .pointer (some ⟨q1, 0, none⟩), .pointer (some ⟨q2, 0, none⟩)]] w fun e w' => e = .returned (.int .i64 0) ∧ ∃ H', Its w0 (.tape B g H' T2 :: l) w' := by
  obtain ⟨_, _, _, d3, d4, _⟩ := tp_cells h.one
  have f4 := tp_frozen h.one 4
  have hok := tp_ok h.one
  rcases can_yes hc with ha | ⟨ha, hb⟩
  · have e : T.use 1 = T := by
      obtain ⟨A, cn, ar, bd, dd⟩ := T
      simp only at ha
      subst ha
      rfl
    rw [e] at hU
    have KU := hide (hU w h)
    rw [ha] at d3
    clear h hc hU e d4 f4 hok ha
    go_enter Tryz.func142, Tryz.ntmps142
    go_wp2_with (go_at_call 212; refine KU.out.mono ?_; rintro e w1 ⟨rfl, H1, h1⟩)
    go_ret
    exact ⟨rfl, H1, h1⟩
  · have eb : (T.use 1).bd = T.bd - 1 := by unfold Tp.use; rw [ha]; rfl
    have hbud := hok.bud
    obtain ⟨x, hx⟩ : ∃ x : Int, (T.bd : Int) = x := ⟨_, rfl⟩
    obtain ⟨y, hy⟩ : ∃ y : Int, (((T.use 1).bd : Nat) : Int) = y := ⟨_, rfl⟩
    have b0 : (x == 0) = false := beq_eq_false_iff_ne.2 (by omega)
    have b1 : wrap64 (x - 1) = y := by unfold wrap64; omega
    have he : (tcells H T).setIfInBounds 4 (.int .i64 y) = tcells H (T.use 1) := by rw [← hy]; rfl
    have KU := hide (hU _ (h.tcell (T' := T.use 1) rfl (hok.use 1) 4 (.int .i64 y) he))
    rw [ha] at d3
    rw [hx] at d4
    clear h hc hU eb hok ha hb hbud hx hy he
    go_enter Tryz.func142, Tryz.ntmps142
    go_wp2_with (go_at_call 212; refine KU.out.mono ?_; rintro e w1 ⟨rfl, H1, h1⟩)
    go_ret
    exact ⟨rfl, H1, h1⟩
set_option maxRecDepth 100000 in
set_option maxHeartbeats 1000000 in
theorem work_yes43 (h : Its w0 (.tape B g H T :: l) w) (hc : T.can 1 = true) {q0 q1 q2 q3 : Nat} {T2 : Tp} (hU : ∀ W, Its w0 (.tape B g H (T.use 1) :: l) W → Calls Tryz.prog 143 #[.pointer (some ⟨q0, 0, none⟩), .pointer (some ⟨q1, 0, none⟩), .pointer (some ⟨q2, 0, none⟩), .pointer (some ⟨q3, 0, none⟩)] W fun e w' => e = .returned (.tuple #[]) ∧ ∃ H', Its w0 (.tape B g H' T2 :: l) w') :
    Calls Tryz.prog 142 #[.pointer (some ⟨g, 0, none⟩), .func (.func 143) #[] #[.pointer (some ⟨q0, 0, none⟩), .pointer (some ⟨q1, 0, none⟩), .pointer (some ⟨q2, 0, none⟩), .pointer (some ⟨q3, 0, none⟩)]] w fun e w' => e = .returned (.int .i64 0) ∧ ∃ H', Its w0 (.tape B g H' T2 :: l) w' := by
  obtain ⟨_, _, _, d3, d4, _⟩ := tp_cells h.one
  have f4 := tp_frozen h.one 4
  have hok := tp_ok h.one
  rcases can_yes hc with ha | ⟨ha, hb⟩
  · have e : T.use 1 = T := by
      obtain ⟨A, cn, ar, bd, dd⟩ := T
      simp only at ha
      subst ha
      rfl
    rw [e] at hU
    have KU := hide (hU w h)
    rw [ha] at d3
    clear h hc hU e d4 f4 hok ha
    go_enter Tryz.func142, Tryz.ntmps142
    go_wp2_with (go_at_call 143; refine KU.out.mono ?_; rintro e w1 ⟨rfl, H1, h1⟩)
    go_ret
    exact ⟨rfl, H1, h1⟩
  · have eb : (T.use 1).bd = T.bd - 1 := by unfold Tp.use; rw [ha]; rfl
    have hbud := hok.bud
    obtain ⟨x, hx⟩ : ∃ x : Int, (T.bd : Int) = x := ⟨_, rfl⟩
    obtain ⟨y, hy⟩ : ∃ y : Int, (((T.use 1).bd : Nat) : Int) = y := ⟨_, rfl⟩
    have b0 : (x == 0) = false := beq_eq_false_iff_ne.2 (by omega)
    have b1 : wrap64 (x - 1) = y := by unfold wrap64; omega
    have he : (tcells H T).setIfInBounds 4 (.int .i64 y) = tcells H (T.use 1) := by rw [← hy]; rfl
    have KU := hide (hU _ (h.tcell (T' := T.use 1) rfl (hok.use 1) 4 (.int .i64 y) he))
    rw [ha] at d3
    rw [hx] at d4
    clear h hc hU eb hok ha hb hbud hx hy he
    go_enter Tryz.func142, Tryz.ntmps142
    go_wp2_with (go_at_call 143; refine KU.out.mono ?_; rintro e w1 ⟨rfl, H1, h1⟩)
    go_ret
    exact ⟨rfl, H1, h1⟩
end
open Go.RowKit
theorem can_step {T : Tp} {j : Nat} (h : T.can j = true) (s : Bool) (xs : List Int) : ((T.use j).setA s xs).can 1 = T.can (j + 1) := by
  obtain ⟨A, cn, ar, bd, dd⟩ := T
  unfold Tp.can at h ⊢
  unfold Tp.use Tp.setA
  cases ar
  · rfl
  · simp at h ⊢
    omega
theorem put_no {T : Tp} {j : Nat} {bs : List Int} (h : T.can j = true) (h1 : T.can (j + 1) = false) (hj : j < bs.length) (s : Bool) : T.put s bs = (190, ((T.use j).setA s (T.A s ++ bs.take j)).die) := by
  obtain ⟨A, cn, ar, bd, dd⟩ := T
  unfold Tp.can at h h1
  unfold Tp.put Tp.can
  cases ar
  · simp at h1
  · simp at h h1
    obtain rfl : bd = j := by omega
    have : ¬ (bs.length ≤ bd) := by omega
    simp [this]
theorem size_alloc (w : World) (o : Obj) : (w.alloc o).heap.size = w.heap.size + 1 := by simp
theorem put_yes {T : Tp} {bs : List Int} (h : T.can bs.length = true) (s : Bool) : T.put s bs = (0, (T.use bs.length).setA s (T.A s ++ bs)) := by
 unfold Tp.put
 rw [if_pos h]
section
variable {w0 w : World} {g : Nat} {H : Bool → Value} {T : Tp} {l : List It}
theorem Its.cutorder {x a b c d : It} (h : Its w0 (x :: a :: b :: c :: d :: l) w) : Its w0 (x :: c :: d :: b :: a :: l) w :=
 h.perm (.cons x (((List.Perm.swap b a (c :: d :: l)).trans ((List.Perm.cons b ((List.Perm.swap c a (d :: l)).trans (.cons c (.swap d a l)))).trans ((List.Perm.swap c b (d :: a :: l)).trans (.cons c (.swap d b (a :: l))))))))
theorem Its.drop4 {x a b c d : It} (h : Its w0 (x :: a :: b :: c :: d :: l) w) : Its w0 (x :: l) w :=
 h.swap.tail.swap.tail.swap.tail.swap.tail
theorem Its.drop2 {x a b : It} (h : Its w0 (x :: a :: b :: l) w) : Its w0 (x :: l) w := h.swap.tail.swap.tail
set_option maxRecDepth 100000 in
set_option maxHeartbeats 1000000 in
theorem cut_0 (h : Its w0 (.tape w0.heap.size g H T :: l) w) (m : Nat) (hm : m ≤ (T.A false).length) : Calls Tryz.prog 67 #[.pointer (some ⟨g, 0, none⟩), .int .i64 0, .int .i64 (m : Int)] w fun e w' => e = .returned (.int .i64 (T.cut false m).1) ∧ ∃ H', Its w0 (.tape w0.heap.size g H' (T.cut false m).2 :: l) w' := by
  have har := tp_ar h.one false
  obtain ⟨a, c, hv, hsl⟩ := har.sl
  obtain ⟨n, hn⟩ : ∃ n, (T.A false).length = n := ⟨_, rfl⟩
  have hlen := (tp_ok h.one).len false
  rw [hn] at hv hm hlen
  have I3 : Its w0 (.tape w0.heap.size g H T :: .box (w.heap.size + 2) #[.int .i64 (m : Int)] 3 :: .box (w.heap.size + 1) #[.int .i64 0] 3 :: .box w.heap.size #[.pointer (some ⟨g, 0, none⟩)] 29 :: l) (((w.alloc (.cells #[.pointer (some ⟨g, 0, none⟩)] 29)).alloc (.cells #[.int .i64 0] 3)).alloc (.cells #[.int .i64 (m : Int)] 3)) := by
    have := ((((h.box1 #[.pointer (some ⟨g, 0, none⟩)] 29).box1 #[.int .i64 0] 3).box1 #[.int .i64 (m : Int)] 3).rot4)
    simp only [size_alloc] at this
    exact this
  have HI3 := hide I3
  have Hv := hide hv
  have Hn := hide hn
  have ha := har.form
  rw [hv] at ha
  have Hne : Hid (n ≠ m → ∃ b, a = some ⟨b, 0, none⟩) := hide (fun h => by
    obtain ⟨b, c', e, _⟩ := ha (by intro e; rw [e] at hn; simp at hn; omega)
    simp only [Value.slice.injEq] at e
    exact ⟨b, e.1⟩)
  clear h har hsl I3 hv hn ha
  by_cases he : n = m
  · have ec : T.cut false m = (0, T) := by unfold Tp.cut; rw [if_pos (by rw [Hn.out]; exact he)]
    rw [ec]
    have he' := he.symm
    clear he Hne
    subst he'
    clear ec hm
    go_enter Tryz.func67, Tryz.ntmps67
    go_upto_region 1 with fail
    generalize (((w.alloc (.cells #[.pointer (some ⟨g, 0, none⟩)] 29)).alloc (.cells #[.int .i64 0] 3)).alloc (.cells #[.int .i64 (m : Int)] 3)) = W3 at *
    generalize w.heap.size + 2 = p5 at *
    generalize w.heap.size + 1 = p4 at *
    generalize w.heap.size = p3 at *
    have I4 := HI3.out.alloc (.cells #[.slice none 0 0] 54)
    have g3 : (W3.alloc (.cells #[.slice none 0 0] 54)).cell? ⟨p3, 0, none⟩ = some (.pointer (some ⟨g, 0, none⟩)) := (cells_at I4.four 0).1
    have g4 : (W3.alloc (.cells #[.slice none 0 0] 54)).cell? ⟨p4, 0, none⟩ = some (.int .i64 0) := (cells_at I4.three 0).1
    have g0 : (W3.alloc (.cells #[.slice none 0 0] 54)).cell? ⟨g, 0, none⟩ = some (.slice a m c) := by rw [← Hv.out]; exact (tp_cells I4.one).1
    have c4 : W3.cell? ⟨p4, 0, none⟩ = some (.int .i64 0) := (cells_at HI3.out.three 0).1
    have c3 : W3.cell? ⟨p3, 0, none⟩ = some (.pointer (some ⟨g, 0, none⟩)) := (cells_at HI3.out.four 0).1
    have d0 : W3.cell? ⟨g, 0, none⟩ = some (.slice a m c) := by rw [← Hv.out]; exact (tp_cells HI3.out.one).1
    have I5 : Hid (Its w0 (.tape w0.heap.size g H T :: .box W3.heap.size #[.slice a m c] 54 :: .box p5 #[.int .i64 (m : Int)] 3 :: .box p4 #[.int .i64 0] 3 :: .box p3 #[.pointer (some ⟨g, 0, none⟩)] 29 :: l) (W3.alloc (.cells #[.slice a m c] 54)).drew) := hide ((HI3.out.drew 1).box1 _ _).swap
    clear I4 HI3
    go_region
    clear g3 g4 g0 c4 c3 d0
    generalize (W3.alloc (.cells #[.slice a m c] 54)).drew = W5 at *
    generalize W3.heap.size = p7 at *
    have c7 : W5.cell? ⟨p7, 0, none⟩ = some (.slice a m c) := (cells_at I5.out.two 0).1
    have c5 : W5.cell? ⟨p5, 0, none⟩ = some (.int .i64 (m : Int)) := (cells_at I5.out.three 0).1
    have c3 : W5.cell? ⟨p3, 0, none⟩ = some (.pointer (some ⟨g, 0, none⟩)) := (cells_at (I5.out.all (.box p3 #[.pointer (some ⟨g, 0, none⟩)] 29) (by simp)) 0).1
    have hmf : ∀ (fn : Fn) (first cap : Array Value) (w : World), (Instr.makeFunc fn first cap).run Tryz.prog w = .ok (.func fn first cap) w := fun _ _ _ _ => rfl
    go_wp2_with fail
    go_ret
    exact ⟨rfl, H, I5.out.drop4⟩
  · obtain ⟨b, rfl⟩ := Hne.out he
    have hbe : ((n : Int) == (m : Int)) = false := beq_eq_false_iff_ne.2 (by omega)
    have he2 : ¬ ((n : Int) = (m : Int)) := by omega
    have Hm := hide hm
    cases hc : T.can 1 with
    | false =>
      have ec : T.cut false m = (190, T.die) := by unfold Tp.cut; rw [if_neg (by rw [Hn.out]; exact he), if_neg (by rw [hc]; decide)]
      rw [ec]
      have Hc := hide hc
      clear ec hm he hc Hne
      go_enter Tryz.func67, Tryz.ntmps67
      go_upto_region 1 with fail
      generalize (((w.alloc (.cells #[.pointer (some ⟨g, 0, none⟩)] 29)).alloc (.cells #[.int .i64 0] 3)).alloc (.cells #[.int .i64 (m : Int)] 3)) = W3 at *
      generalize w.heap.size + 2 = p5 at *
      generalize w.heap.size + 1 = p4 at *
      generalize w.heap.size = p3 at *
      have I4 := HI3.out.alloc (.cells #[.slice none 0 0] 54)
      have g3 : (W3.alloc (.cells #[.slice none 0 0] 54)).cell? ⟨p3, 0, none⟩ = some (.pointer (some ⟨g, 0, none⟩)) := (cells_at I4.four 0).1
      have g4 : (W3.alloc (.cells #[.slice none 0 0] 54)).cell? ⟨p4, 0, none⟩ = some (.int .i64 0) := (cells_at I4.three 0).1
      have g0 : (W3.alloc (.cells #[.slice none 0 0] 54)).cell? ⟨g, 0, none⟩ = some (.slice (some ⟨b, 0, none⟩) n c) := by rw [← Hv.out]; exact (tp_cells I4.one).1
      have c4 : W3.cell? ⟨p4, 0, none⟩ = some (.int .i64 0) := (cells_at HI3.out.three 0).1
      have c3 : W3.cell? ⟨p3, 0, none⟩ = some (.pointer (some ⟨g, 0, none⟩)) := (cells_at HI3.out.four 0).1
      have d0 : W3.cell? ⟨g, 0, none⟩ = some (.slice (some ⟨b, 0, none⟩) n c) := by rw [← Hv.out]; exact (tp_cells HI3.out.one).1
      have I5 : Hid (Its w0 (.tape w0.heap.size g H T :: .box W3.heap.size #[.slice (some ⟨b, 0, none⟩) n c] 54 :: .box p5 #[.int .i64 (m : Int)] 3 :: .box p4 #[.int .i64 0] 3 :: .box p3 #[.pointer (some ⟨g, 0, none⟩)] 29 :: l) (W3.alloc (.cells #[.slice (some ⟨b, 0, none⟩) n c] 54)).drew) := hide ((HI3.out.drew 1).box1 _ _).swap
      clear I4 HI3
      go_region
      clear g3 g4 g0 c4 c3 d0
      generalize (W3.alloc (.cells #[.slice (some ⟨b, 0, none⟩) n c] 54)).drew = W5 at *
      generalize W3.heap.size = p7 at *
      have c7 : W5.cell? ⟨p7, 0, none⟩ = some (.slice (some ⟨b, 0, none⟩) n c) := (cells_at I5.out.two 0).1
      have c5 : W5.cell? ⟨p5, 0, none⟩ = some (.int .i64 (m : Int)) := (cells_at I5.out.three 0).1
      have c3 : W5.cell? ⟨p3, 0, none⟩ = some (.pointer (some ⟨g, 0, none⟩)) := (cells_at (I5.out.all (.box p3 #[.pointer (some ⟨g, 0, none⟩)] 29) (by simp)) 0).1
      have hmf : ∀ (fn : Fn) (first cap : Array Value) (w : World), (Instr.makeFunc fn first cap).run Tryz.prog w = .ok (.func fn first cap) w := fun _ _ _ _ => rfl
      have KW := hide (fun u => work_no I5.out Hc.out u)
      go_wp2_with (go_at_call 142; refine (KW.out _).mono ?_; rintro e w1 ⟨rfl, h1⟩)
      go_ret
      exact ⟨rfl, H, h1.drop4⟩
    | true =>
      have ec : T.cut false m = (0, (T.use 1).setA false ((T.A false).take m)) := by unfold Tp.cut; rw [if_neg (by rw [Hn.out]; exact he), if_pos hc]
      rw [ec]
      have Hc := hide hc
      clear ec hm he hc Hne
      go_enter Tryz.func67, Tryz.ntmps67
      go_upto_region 1 with fail
      generalize (((w.alloc (.cells #[.pointer (some ⟨g, 0, none⟩)] 29)).alloc (.cells #[.int .i64 0] 3)).alloc (.cells #[.int .i64 (m : Int)] 3)) = W3 at *
      generalize w.heap.size + 2 = p5 at *
      generalize w.heap.size + 1 = p4 at *
      generalize w.heap.size = p3 at *
      have I4 := HI3.out.alloc (.cells #[.slice none 0 0] 54)
      have g3 : (W3.alloc (.cells #[.slice none 0 0] 54)).cell? ⟨p3, 0, none⟩ = some (.pointer (some ⟨g, 0, none⟩)) := (cells_at I4.four 0).1
      have g4 : (W3.alloc (.cells #[.slice none 0 0] 54)).cell? ⟨p4, 0, none⟩ = some (.int .i64 0) := (cells_at I4.three 0).1
      have g0 : (W3.alloc (.cells #[.slice none 0 0] 54)).cell? ⟨g, 0, none⟩ = some (.slice (some ⟨b, 0, none⟩) n c) := by rw [← Hv.out]; exact (tp_cells I4.one).1
      have c4 : W3.cell? ⟨p4, 0, none⟩ = some (.int .i64 0) := (cells_at HI3.out.three 0).1
      have c3 : W3.cell? ⟨p3, 0, none⟩ = some (.pointer (some ⟨g, 0, none⟩)) := (cells_at HI3.out.four 0).1
      have d0 : W3.cell? ⟨g, 0, none⟩ = some (.slice (some ⟨b, 0, none⟩) n c) := by rw [← Hv.out]; exact (tp_cells HI3.out.one).1
      have I5 : Hid (Its w0 (.tape w0.heap.size g H T :: .box W3.heap.size #[.slice (some ⟨b, 0, none⟩) n c] 54 :: .box p5 #[.int .i64 (m : Int)] 3 :: .box p4 #[.int .i64 0] 3 :: .box p3 #[.pointer (some ⟨g, 0, none⟩)] 29 :: l) (W3.alloc (.cells #[.slice (some ⟨b, 0, none⟩) n c] 54)).drew) := hide ((HI3.out.drew 1).box1 _ _).swap
      clear I4 HI3
      go_region
      clear g3 g4 g0 c4 c3 d0
      generalize (W3.alloc (.cells #[.slice (some ⟨b, 0, none⟩) n c] 54)).drew = W5 at *
      generalize W3.heap.size = p7 at *
      have c7 : W5.cell? ⟨p7, 0, none⟩ = some (.slice (some ⟨b, 0, none⟩) n c) := (cells_at I5.out.two 0).1
      have c5 : W5.cell? ⟨p5, 0, none⟩ = some (.int .i64 (m : Int)) := (cells_at I5.out.three 0).1
      have c3 : W5.cell? ⟨p3, 0, none⟩ = some (.pointer (some ⟨g, 0, none⟩)) := (cells_at (I5.out.all (.box p3 #[.pointer (some ⟨g, 0, none⟩)] 29) (by simp)) 0).1
      have hmf : ∀ (fn : Fn) (first cap : Array Value) (w : World), (Instr.makeFunc fn first cap).run Tryz.prog w = .ok (.func fn first cap) w := fun _ _ _ _ => rfl
      have KW := hide (work_yes43 (T2 := (T.use 1).setA false ((T.A false).take m)) I5.out.cutorder Hc.out (fun W hW => unit_cut0 (T := T.use 1) Hv.out hW (by rw [use_A, Hn.out]; exact Hm.out)))
      go_wp2_with (go_at_call 142; refine KW.out.mono ?_; rintro e w1 ⟨rfl, H1, h1⟩)
      go_ret
      exact ⟨rfl, H1, h1.drop4⟩
set_option maxRecDepth 100000 in
set_option maxHeartbeats 1000000 in
theorem cut_1 (h : Its w0 (.tape w0.heap.size g H T :: l) w) (m : Nat) (hm : m ≤ (T.A true).length) : Calls Tryz.prog 67 #[.pointer (some ⟨g, 0, none⟩), .int .i64 1, .int .i64 (m : Int)] w fun e w' => e = .returned (.int .i64 (T.cut true m).1) ∧ ∃ H', Its w0 (.tape w0.heap.size g H' (T.cut true m).2 :: l) w' := by
  have har := tp_ar h.one true
  obtain ⟨a, c, hv, hsl⟩ := har.sl
  obtain ⟨n, hn⟩ : ∃ n, (T.A true).length = n := ⟨_, rfl⟩
  have hlen := (tp_ok h.one).len true
  rw [hn] at hv hm hlen
  have I3 : Its w0 (.tape w0.heap.size g H T :: .box (w.heap.size + 2) #[.int .i64 (m : Int)] 3 :: .box (w.heap.size + 1) #[.int .i64 1] 3 :: .box w.heap.size #[.pointer (some ⟨g, 0, none⟩)] 29 :: l) (((w.alloc (.cells #[.pointer (some ⟨g, 0, none⟩)] 29)).alloc (.cells #[.int .i64 1] 3)).alloc (.cells #[.int .i64 (m : Int)] 3)) := by
    have := ((((h.box1 #[.pointer (some ⟨g, 0, none⟩)] 29).box1 #[.int .i64 1] 3).box1 #[.int .i64 (m : Int)] 3).rot4)
    simp only [size_alloc] at this
    exact this
  have HI3 := hide I3
  have Hv := hide hv
  have Hn := hide hn
  have ha := har.form
  rw [hv] at ha
  have Hne : Hid (n ≠ m → ∃ b, a = some ⟨b, 0, none⟩) := hide (fun h => by
    obtain ⟨b, c', e, _⟩ := ha (by intro e; rw [e] at hn; simp at hn; omega)
    simp only [Value.slice.injEq] at e
    exact ⟨b, e.1⟩)
  clear h har hsl I3 hv hn ha
  by_cases he : n = m
  · have ec : T.cut true m = (0, T) := by unfold Tp.cut; rw [if_pos (by rw [Hn.out]; exact he)]
    rw [ec]
    have he' := he.symm
    clear he Hne
    subst he'
    clear ec hm
    go_enter Tryz.func67, Tryz.ntmps67
    go_upto_region 1 with fail
    generalize (((w.alloc (.cells #[.pointer (some ⟨g, 0, none⟩)] 29)).alloc (.cells #[.int .i64 1] 3)).alloc (.cells #[.int .i64 (m : Int)] 3)) = W3 at *
    generalize w.heap.size + 2 = p5 at *
    generalize w.heap.size + 1 = p4 at *
    generalize w.heap.size = p3 at *
    have I4 := HI3.out.alloc (.cells #[.slice none 0 0] 54)
    have g3 : (W3.alloc (.cells #[.slice none 0 0] 54)).cell? ⟨p3, 0, none⟩ = some (.pointer (some ⟨g, 0, none⟩)) := (cells_at I4.four 0).1
    have g4 : (W3.alloc (.cells #[.slice none 0 0] 54)).cell? ⟨p4, 0, none⟩ = some (.int .i64 1) := (cells_at I4.three 0).1
    have g0 : (W3.alloc (.cells #[.slice none 0 0] 54)).cell? ⟨g, 1, none⟩ = some (.slice a m c) := by rw [← Hv.out]; exact (tp_cells I4.one).2.1
    have c4 : W3.cell? ⟨p4, 0, none⟩ = some (.int .i64 1) := (cells_at HI3.out.three 0).1
    have c3 : W3.cell? ⟨p3, 0, none⟩ = some (.pointer (some ⟨g, 0, none⟩)) := (cells_at HI3.out.four 0).1
    have d0 : W3.cell? ⟨g, 1, none⟩ = some (.slice a m c) := by rw [← Hv.out]; exact (tp_cells HI3.out.one).2.1
    have I5 : Hid (Its w0 (.tape w0.heap.size g H T :: .box W3.heap.size #[.slice a m c] 54 :: .box p5 #[.int .i64 (m : Int)] 3 :: .box p4 #[.int .i64 1] 3 :: .box p3 #[.pointer (some ⟨g, 0, none⟩)] 29 :: l) (W3.alloc (.cells #[.slice a m c] 54)).drew) := hide ((HI3.out.drew 1).box1 _ _).swap
    clear I4 HI3
    go_region
    clear g3 g4 g0 c4 c3 d0
    generalize (W3.alloc (.cells #[.slice a m c] 54)).drew = W5 at *
    generalize W3.heap.size = p7 at *
    have c7 : W5.cell? ⟨p7, 0, none⟩ = some (.slice a m c) := (cells_at I5.out.two 0).1
    have c5 : W5.cell? ⟨p5, 0, none⟩ = some (.int .i64 (m : Int)) := (cells_at I5.out.three 0).1
    have c3 : W5.cell? ⟨p3, 0, none⟩ = some (.pointer (some ⟨g, 0, none⟩)) := (cells_at (I5.out.all (.box p3 #[.pointer (some ⟨g, 0, none⟩)] 29) (by simp)) 0).1
    have hmf : ∀ (fn : Fn) (first cap : Array Value) (w : World), (Instr.makeFunc fn first cap).run Tryz.prog w = .ok (.func fn first cap) w := fun _ _ _ _ => rfl
    go_wp2_with fail
    go_ret
    exact ⟨rfl, H, I5.out.drop4⟩
  · obtain ⟨b, rfl⟩ := Hne.out he
    have hbe : ((n : Int) == (m : Int)) = false := beq_eq_false_iff_ne.2 (by omega)
    have he2 : ¬ ((n : Int) = (m : Int)) := by omega
    have Hm := hide hm
    cases hc : T.can 1 with
    | false =>
      have ec : T.cut true m = (190, T.die) := by unfold Tp.cut; rw [if_neg (by rw [Hn.out]; exact he), if_neg (by rw [hc]; decide)]
      rw [ec]
      have Hc := hide hc
      clear ec hm he hc Hne
      go_enter Tryz.func67, Tryz.ntmps67
      go_upto_region 1 with fail
      generalize (((w.alloc (.cells #[.pointer (some ⟨g, 0, none⟩)] 29)).alloc (.cells #[.int .i64 1] 3)).alloc (.cells #[.int .i64 (m : Int)] 3)) = W3 at *
      generalize w.heap.size + 2 = p5 at *
      generalize w.heap.size + 1 = p4 at *
      generalize w.heap.size = p3 at *
      have I4 := HI3.out.alloc (.cells #[.slice none 0 0] 54)
      have g3 : (W3.alloc (.cells #[.slice none 0 0] 54)).cell? ⟨p3, 0, none⟩ = some (.pointer (some ⟨g, 0, none⟩)) := (cells_at I4.four 0).1
      have g4 : (W3.alloc (.cells #[.slice none 0 0] 54)).cell? ⟨p4, 0, none⟩ = some (.int .i64 1) := (cells_at I4.three 0).1
      have g0 : (W3.alloc (.cells #[.slice none 0 0] 54)).cell? ⟨g, 1, none⟩ = some (.slice (some ⟨b, 0, none⟩) n c) := by rw [← Hv.out]; exact (tp_cells I4.one).2.1
      have c4 : W3.cell? ⟨p4, 0, none⟩ = some (.int .i64 1) := (cells_at HI3.out.three 0).1
      have c3 : W3.cell? ⟨p3, 0, none⟩ = some (.pointer (some ⟨g, 0, none⟩)) := (cells_at HI3.out.four 0).1
      have d0 : W3.cell? ⟨g, 1, none⟩ = some (.slice (some ⟨b, 0, none⟩) n c) := by rw [← Hv.out]; exact (tp_cells HI3.out.one).2.1
      have I5 : Hid (Its w0 (.tape w0.heap.size g H T :: .box W3.heap.size #[.slice (some ⟨b, 0, none⟩) n c] 54 :: .box p5 #[.int .i64 (m : Int)] 3 :: .box p4 #[.int .i64 1] 3 :: .box p3 #[.pointer (some ⟨g, 0, none⟩)] 29 :: l) (W3.alloc (.cells #[.slice (some ⟨b, 0, none⟩) n c] 54)).drew) := hide ((HI3.out.drew 1).box1 _ _).swap
      clear I4 HI3
      go_region
      clear g3 g4 g0 c4 c3 d0
      generalize (W3.alloc (.cells #[.slice (some ⟨b, 0, none⟩) n c] 54)).drew = W5 at *
      generalize W3.heap.size = p7 at *
      have c7 : W5.cell? ⟨p7, 0, none⟩ = some (.slice (some ⟨b, 0, none⟩) n c) := (cells_at I5.out.two 0).1
      have c5 : W5.cell? ⟨p5, 0, none⟩ = some (.int .i64 (m : Int)) := (cells_at I5.out.three 0).1
      have c3 : W5.cell? ⟨p3, 0, none⟩ = some (.pointer (some ⟨g, 0, none⟩)) := (cells_at (I5.out.all (.box p3 #[.pointer (some ⟨g, 0, none⟩)] 29) (by simp)) 0).1
      have hmf : ∀ (fn : Fn) (first cap : Array Value) (w : World), (Instr.makeFunc fn first cap).run Tryz.prog w = .ok (.func fn first cap) w := fun _ _ _ _ => rfl
      have KW := hide (fun u => work_no I5.out Hc.out u)
      go_wp2_with (go_at_call 142; refine (KW.out _).mono ?_; rintro e w1 ⟨rfl, h1⟩)
      go_ret
      exact ⟨rfl, H, h1.drop4⟩
    | true =>
      have ec : T.cut true m = (0, (T.use 1).setA true ((T.A true).take m)) := by unfold Tp.cut; rw [if_neg (by rw [Hn.out]; exact he), if_pos hc]
      rw [ec]
      have Hc := hide hc
      clear ec hm he hc Hne
      go_enter Tryz.func67, Tryz.ntmps67
      go_upto_region 1 with fail
      generalize (((w.alloc (.cells #[.pointer (some ⟨g, 0, none⟩)] 29)).alloc (.cells #[.int .i64 1] 3)).alloc (.cells #[.int .i64 (m : Int)] 3)) = W3 at *
      generalize w.heap.size + 2 = p5 at *
      generalize w.heap.size + 1 = p4 at *
      generalize w.heap.size = p3 at *
      have I4 := HI3.out.alloc (.cells #[.slice none 0 0] 54)
      have g3 : (W3.alloc (.cells #[.slice none 0 0] 54)).cell? ⟨p3, 0, none⟩ = some (.pointer (some ⟨g, 0, none⟩)) := (cells_at I4.four 0).1
      have g4 : (W3.alloc (.cells #[.slice none 0 0] 54)).cell? ⟨p4, 0, none⟩ = some (.int .i64 1) := (cells_at I4.three 0).1
      have g0 : (W3.alloc (.cells #[.slice none 0 0] 54)).cell? ⟨g, 1, none⟩ = some (.slice (some ⟨b, 0, none⟩) n c) := by rw [← Hv.out]; exact (tp_cells I4.one).2.1
      have c4 : W3.cell? ⟨p4, 0, none⟩ = some (.int .i64 1) := (cells_at HI3.out.three 0).1
      have c3 : W3.cell? ⟨p3, 0, none⟩ = some (.pointer (some ⟨g, 0, none⟩)) := (cells_at HI3.out.four 0).1
      have d0 : W3.cell? ⟨g, 1, none⟩ = some (.slice (some ⟨b, 0, none⟩) n c) := by rw [← Hv.out]; exact (tp_cells HI3.out.one).2.1
      have I5 : Hid (Its w0 (.tape w0.heap.size g H T :: .box W3.heap.size #[.slice (some ⟨b, 0, none⟩) n c] 54 :: .box p5 #[.int .i64 (m : Int)] 3 :: .box p4 #[.int .i64 1] 3 :: .box p3 #[.pointer (some ⟨g, 0, none⟩)] 29 :: l) (W3.alloc (.cells #[.slice (some ⟨b, 0, none⟩) n c] 54)).drew) := hide ((HI3.out.drew 1).box1 _ _).swap
      clear I4 HI3
      go_region
      clear g3 g4 g0 c4 c3 d0
      generalize (W3.alloc (.cells #[.slice (some ⟨b, 0, none⟩) n c] 54)).drew = W5 at *
      generalize W3.heap.size = p7 at *
      have c7 : W5.cell? ⟨p7, 0, none⟩ = some (.slice (some ⟨b, 0, none⟩) n c) := (cells_at I5.out.two 0).1
      have c5 : W5.cell? ⟨p5, 0, none⟩ = some (.int .i64 (m : Int)) := (cells_at I5.out.three 0).1
      have c3 : W5.cell? ⟨p3, 0, none⟩ = some (.pointer (some ⟨g, 0, none⟩)) := (cells_at (I5.out.all (.box p3 #[.pointer (some ⟨g, 0, none⟩)] 29) (by simp)) 0).1
      have hmf : ∀ (fn : Fn) (first cap : Array Value) (w : World), (Instr.makeFunc fn first cap).run Tryz.prog w = .ok (.func fn first cap) w := fun _ _ _ _ => rfl
      have KW := hide (work_yes43 (T2 := (T.use 1).setA true ((T.A true).take m)) I5.out.cutorder Hc.out (fun W hW => unit_cut1 (T := T.use 1) Hv.out hW (by rw [use_A, Hn.out]; exact Hm.out)))
      go_wp2_with (go_at_call 142; refine KW.out.mono ?_; rintro e w1 ⟨rfl, H1, h1⟩)
      go_ret
      exact ⟨rfl, H1, h1.drop4⟩
theorem cutS (h : Its w0 (.tape w0.heap.size g H T :: l) w) (s : Bool) (m : Nat) (hm : m ≤ (T.A s).length) : Calls Tryz.prog 67 #[.pointer (some ⟨g, 0, none⟩), .int .i64 (bi s), .int .i64 (m : Int)] w fun e w' => e = .returned (.int .i64 (T.cut s m).1) ∧ ∃ H', Its w0 (.tape w0.heap.size g H' (T.cut s m).2 :: l) w' := by
  cases s
  · exact cut_0 h m hm
  · exact cut_1 h m hm
end
open Go.RowKit
section
variable {w0 w : World} {g : Nat} {H : Bool → Value} {T : Tp} {l : List It}
set_option maxRecDepth 100000 in
set_option maxHeartbeats 2000000 in
theorem put_0 {a : Option Addr} {n c : Nat} {bs : List Int} (h : Its w0 (.tape w0.heap.size g H T :: .row byE w0.heap.size (.slice a n c) bs :: l) w) (hbl : bs.length = n) (hin : InB bs) (hl : (T.A false).length + bs.length ≤ 65536) : Calls Tryz.prog 176 #[.pointer (some ⟨g, 0, none⟩), .int .i64 0, .slice a n c] w fun e w' => e = .returned (.int .i64 (T.put false bs).1) ∧ ∃ H', Its w0 (.tape w0.heap.size g H' (T.put false bs).2 :: .row byE w0.heap.size (.slice a n c) bs :: l) w' := by
  have I2 : Its w0 (.tape w0.heap.size g H T :: .box (w.heap.size + 1) #[.int .i64 0] 3 :: .box w.heap.size #[.pointer (some ⟨g, 0, none⟩)] 29 :: .row byE w0.heap.size (.slice a n c) bs :: l) ((w.alloc (.cells #[.pointer (some ⟨g, 0, none⟩)] 29)).alloc (.cells #[.int .i64 0] 3)) := by
    have := (((h.box1 #[.pointer (some ⟨g, 0, none⟩)] 29).box1 #[.int .i64 0] 3).rot3)
    simp only [size_alloc] at this
    exact this
  have HI2 := hide I2
  have Hbl := hide hbl
  have Hin := hide hin
  have Hl := hide hl
  have hn : n ≤ 65536 := by omega
  obtain ⟨PR, hPR⟩ : ∃ PR, T.put false bs = PR := ⟨_, rfl⟩
  have HP := hide hPR
  rw [hPR]
  clear h I2 hbl hin hl hPR
  go_enter Tryz.func176, Tryz.ntmps176
  go_upto_region 1 with fail
  generalize ((w.alloc (.cells #[.pointer (some ⟨g, 0, none⟩)] 29)).alloc (.cells #[.int .i64 0] 3)) = W2 at *
  generalize w.heap.size + 1 = p4 at *
  generalize w.heap.size = p3 at *
  go_upto_region 2 with fail
  go_loopw [12] (fun i wr => Hid (∃ (j : Nat) (H' : Bool → Value), j ≤ n ∧ i = .int .i64 j ∧ T.can j = true ∧ Its w0 (.tape w0.heap.size g H' ((T.use j).setA false (T.A false ++ bs.take j)) :: .box p4 #[.int .i64 0] 3 :: .box p3 #[.pointer (some ⟨g, 0, none⟩)] 29 :: .row byE w0.heap.size (.slice a n c) bs :: l) wr)) (fun i _ => n - (intOf i).toNat)
  case atStart =>
    refine hide ⟨0, H, Nat.zero_le _, rfl, by unfold Tp.can; simp, ?_⟩
    rw [use_zero, List.take_zero, List.append_nil, setA_same]
    exact HI2.out
  case round =>
    obtain ⟨k, H1, hk, rfl, hc, h1⟩ := hrel.out
    have HI := hide h1
    have Hc := hide hc
    clear hrel h1 hc HI2
    by_cases hlt : k < n
    · obtain ⟨x, hx⟩ : ∃ x, bs[k]? = some x := ⟨_, List.getElem?_eq_getElem (by rw [Hbl.out]; exact hlt)⟩
      obtain ⟨b, off, rfl, c0⟩ := by_at (El.Own.rd (HI.out.four)) k x hx
      have Hx := hide hx
      have j0 : (0 : Int) ≤ (k : Int) := by omega
      have j1 : (k : Int) < (n : Int) := by omega
      have Ht : Hid (bs.take (k + 1) = bs.take k ++ [x]) := hide (by rw [List.take_add_one, hx]; rfl)
      clear hx
      go_upto_region 4 with fail
      have I3 : Hid (Its w0 (.tape w0.heap.size g H1 ((T.use k).setA false (T.A false ++ bs.take k)) :: .box wr.heap.size #[.int .u8 x] 5 :: .box p4 #[.int .i64 0] 3 :: .box p3 #[.pointer (some ⟨g, 0, none⟩)] 29 :: .row byE w0.heap.size (.slice (some ⟨b, off, none⟩) n c) bs :: l) (wr.alloc (.cells #[.int .u8 x] 5))) := hide (HI.out.box1 _ _).swap
      generalize wr.alloc (.cells #[.int .u8 x] 5) = W3 at *
      generalize wr.heap.size = p8 at *
      clear c0
      have c3 : W3.cell? ⟨p3, 0, none⟩ = some (.pointer (some ⟨g, 0, none⟩)) := (cells_at I3.out.four 0).1
      have hmf : ∀ (fn : Fn) (first cap : Array Value) (w : World), (Instr.makeFunc fn first cap).run Tryz.prog w = .ok (.func fn first cap) w := fun _ _ _ _ => rfl
      cases hc1 : T.can (k + 1) with
      | false =>
        have hp := HP.out
        rw [put_no Hc.out hc1 (by rw [Hbl.out]; exact hlt) false] at hp
        have KW := hide (fun u => work_no I3.out (by rw [can_step Hc.out]; exact hc1) u)
        have HP2 := hide hp
        clear hp hc1
        go_wp2_with (go_at_call 142; refine (KW.out _).mono ?_; rintro e w1 ⟨rfl, h1⟩)
        go_ret
        rw [← HP2.out]
        exact ⟨rfl, H1, h1.swap.tail.drop2⟩
      | true =>
        have KW := hide (work_yes40 (T2 := (T.use (k + 1)).setA false (T.A false ++ bs.take (k + 1))) I3.out (by rw [can_step Hc.out]; exact hc1) (fun W hW => (unit_put0 hW (Hin.out x (List.mem_of_getElem? Hx.out)) (by
            have h1 := Hl.out
            have h2 := Hbl.out
            rw [use_A, setA_at, List.length_append, List.length_take]
            omega)).mono (by
          rintro e w1 ⟨rfl, H2, h2⟩
          refine ⟨rfl, H2, ?_⟩
          rw [setA_use, use_use, setA_at, setA_set, List.append_assoc, ← Ht.out] at h2
          exact h2)))
        have Hc1 := hide hc1
        clear hc1
        go_wp2_with (go_at_call 142; refine KW.out.mono ?_; rintro e w1 ⟨rfl, H2, h2⟩)
        go_roundw
        case rel => exact hide ⟨k + 1, H2, by omega, by go_num, Hc1.out, h2.swap.tail⟩
        case measure => simp [intOf]; omega
    · obtain rfl : k = n := by omega
      have j1 : ¬ (k : Int) < (k : Int) := by omega
      have hp := HP.out
      have hta : bs.take k = bs := List.take_of_length_le (by rw [Hbl.out]; exact Nat.le_refl _)
      rw [put_yes (by rw [Hbl.out]; exact Hc.out) false, Hbl.out] at hp
      have HI1 := HI.out
      rw [hta] at HI1
      have HI3 := hide HI1
      have HP2 := hide hp
      clear hp hta HI HI1
      go_wp2_with fail
      go_ret
      rw [← HP2.out]
      exact ⟨rfl, H1, HI3.out.drop2⟩
set_option maxRecDepth 100000 in
set_option maxHeartbeats 2000000 in
theorem put_1 {a : Option Addr} {n c : Nat} {bs : List Int} (h : Its w0 (.tape w0.heap.size g H T :: .row byE w0.heap.size (.slice a n c) bs :: l) w) (hbl : bs.length = n) (hin : InB bs) (hl : (T.A true).length + bs.length ≤ 65536) : Calls Tryz.prog 176 #[.pointer (some ⟨g, 0, none⟩), .int .i64 1, .slice a n c] w fun e w' => e = .returned (.int .i64 (T.put true bs).1) ∧ ∃ H', Its w0 (.tape w0.heap.size g H' (T.put true bs).2 :: .row byE w0.heap.size (.slice a n c) bs :: l) w' := by
  have I2 : Its w0 (.tape w0.heap.size g H T :: .box (w.heap.size + 1) #[.int .i64 1] 3 :: .box w.heap.size #[.pointer (some ⟨g, 0, none⟩)] 29 :: .row byE w0.heap.size (.slice a n c) bs :: l) ((w.alloc (.cells #[.pointer (some ⟨g, 0, none⟩)] 29)).alloc (.cells #[.int .i64 1] 3)) := by
    have := (((h.box1 #[.pointer (some ⟨g, 0, none⟩)] 29).box1 #[.int .i64 1] 3).rot3)
    simp only [size_alloc] at this
    exact this
  have HI2 := hide I2
  have Hbl := hide hbl
  have Hin := hide hin
  have Hl := hide hl
  have hn : n ≤ 65536 := by omega
  obtain ⟨PR, hPR⟩ : ∃ PR, T.put true bs = PR := ⟨_, rfl⟩
  have HP := hide hPR
  rw [hPR]
  clear h I2 hbl hin hl hPR
  go_enter Tryz.func176, Tryz.ntmps176
  go_upto_region 1 with fail
  generalize ((w.alloc (.cells #[.pointer (some ⟨g, 0, none⟩)] 29)).alloc (.cells #[.int .i64 1] 3)) = W2 at *
  generalize w.heap.size + 1 = p4 at *
  generalize w.heap.size = p3 at *
  go_upto_region 2 with fail
  go_loopw [12] (fun i wr => Hid (∃ (j : Nat) (H' : Bool → Value), j ≤ n ∧ i = .int .i64 j ∧ T.can j = true ∧ Its w0 (.tape w0.heap.size g H' ((T.use j).setA true (T.A true ++ bs.take j)) :: .box p4 #[.int .i64 1] 3 :: .box p3 #[.pointer (some ⟨g, 0, none⟩)] 29 :: .row byE w0.heap.size (.slice a n c) bs :: l) wr)) (fun i _ => n - (intOf i).toNat)
  case atStart =>
    refine hide ⟨0, H, Nat.zero_le _, rfl, by unfold Tp.can; simp, ?_⟩
    rw [use_zero, List.take_zero, List.append_nil, setA_same]
    exact HI2.out
  case round =>
    obtain ⟨k, H1, hk, rfl, hc, h1⟩ := hrel.out
    have HI := hide h1
    have Hc := hide hc
    clear hrel h1 hc HI2
    by_cases hlt : k < n
    · obtain ⟨x, hx⟩ : ∃ x, bs[k]? = some x := ⟨_, List.getElem?_eq_getElem (by rw [Hbl.out]; exact hlt)⟩
      obtain ⟨b, off, rfl, c0⟩ := by_at (El.Own.rd (HI.out.four)) k x hx
      have Hx := hide hx
      have j0 : (0 : Int) ≤ (k : Int) := by omega
      have j1 : (k : Int) < (n : Int) := by omega
      have Ht : Hid (bs.take (k + 1) = bs.take k ++ [x]) := hide (by rw [List.take_add_one, hx]; rfl)
      clear hx
      go_upto_region 4 with fail
      have I3 : Hid (Its w0 (.tape w0.heap.size g H1 ((T.use k).setA true (T.A true ++ bs.take k)) :: .box wr.heap.size #[.int .u8 x] 5 :: .box p4 #[.int .i64 1] 3 :: .box p3 #[.pointer (some ⟨g, 0, none⟩)] 29 :: .row byE w0.heap.size (.slice (some ⟨b, off, none⟩) n c) bs :: l) (wr.alloc (.cells #[.int .u8 x] 5))) := hide (HI.out.box1 _ _).swap
      generalize wr.alloc (.cells #[.int .u8 x] 5) = W3 at *
      generalize wr.heap.size = p8 at *
      clear c0
      have c3 : W3.cell? ⟨p3, 0, none⟩ = some (.pointer (some ⟨g, 0, none⟩)) := (cells_at I3.out.four 0).1
      have hmf : ∀ (fn : Fn) (first cap : Array Value) (w : World), (Instr.makeFunc fn first cap).run Tryz.prog w = .ok (.func fn first cap) w := fun _ _ _ _ => rfl
      cases hc1 : T.can (k + 1) with
      | false =>
        have hp := HP.out
        rw [put_no Hc.out hc1 (by rw [Hbl.out]; exact hlt) true] at hp
        have KW := hide (fun u => work_no I3.out (by rw [can_step Hc.out]; exact hc1) u)
        have HP2 := hide hp
        clear hp hc1
        go_wp2_with (go_at_call 142; refine (KW.out _).mono ?_; rintro e w1 ⟨rfl, h1⟩)
        go_ret
        rw [← HP2.out]
        exact ⟨rfl, H1, h1.swap.tail.drop2⟩
      | true =>
        have KW := hide (work_yes40 (T2 := (T.use (k + 1)).setA true (T.A true ++ bs.take (k + 1))) I3.out (by rw [can_step Hc.out]; exact hc1) (fun W hW => (unit_put1 hW (Hin.out x (List.mem_of_getElem? Hx.out)) (by
            have h1 := Hl.out
            have h2 := Hbl.out
            rw [use_A, setA_at, List.length_append, List.length_take]
            omega)).mono (by
          rintro e w1 ⟨rfl, H2, h2⟩
          refine ⟨rfl, H2, ?_⟩
          rw [setA_use, use_use, setA_at, setA_set, List.append_assoc, ← Ht.out] at h2
          exact h2)))
        have Hc1 := hide hc1
        clear hc1
        go_wp2_with (go_at_call 142; refine KW.out.mono ?_; rintro e w1 ⟨rfl, H2, h2⟩)
        go_roundw
        case rel => exact hide ⟨k + 1, H2, by omega, by go_num, Hc1.out, h2.swap.tail⟩
        case measure => simp [intOf]; omega
    · obtain rfl : k = n := by omega
      have j1 : ¬ (k : Int) < (k : Int) := by omega
      have hp := HP.out
      have hta : bs.take k = bs := List.take_of_length_le (by rw [Hbl.out]; exact Nat.le_refl _)
      rw [put_yes (by rw [Hbl.out]; exact Hc.out) true, Hbl.out] at hp
      have HI1 := HI.out
      rw [hta] at HI1
      have HI3 := hide HI1
      have HP2 := hide hp
      clear hp hta HI HI1
      go_wp2_with fail
      go_ret
      rw [← HP2.out]
      exact ⟨rfl, H1, HI3.out.drop2⟩
theorem tputS {a : Option Addr} {n c : Nat} {bs : List Int} (h : Its w0 (.tape w0.heap.size g H T :: .row byE w0.heap.size (.slice a n c) bs :: l) w) (hbl : bs.length = n) (hin : InB bs) (s : Bool) (hl : (T.A s).length + bs.length ≤ 65536) : Calls Tryz.prog 176 #[.pointer (some ⟨g, 0, none⟩), .int .i64 (bi s), .slice a n c] w fun e w' => e = .returned (.int .i64 (T.put s bs).1) ∧ ∃ H', Its w0 (.tape w0.heap.size g H' (T.put s bs).2 :: .row byE w0.heap.size (.slice a n c) bs :: l) w' := by
  cases s
  · exact put_0 h hbl hin hl
  · exact put_1 h hbl hin hl
end
open Go.RowKit
section
variable {w0 w : World} {g : Nat} {H : Bool → Value} {T : Tp} {l : List It}
theorem Its.tnew (h : Its w0 l w) {w1 : World} {H : Bool → Value} {T : Tp} (h1 : Its w0 (.area w0.heap.size (H false) (T.A false) :: .area w0.heap.size (H true) (T.A true) :: l) w1) (hok : T.Ok) : Its w0 (.tape w0.heap.size w1.heap.size H T :: l) (w1.alloc (.cells (tcells H T) 82)) :=
 Its.tshut (Its.rot3' (h1.box1 (tcells H T) 82)) hok
theorem newS (h : Its w0 l w) : Calls Tryz.prog 7 #[] w fun e w' => ∃ g H, e = .returned (.pointer (some ⟨g, 0, none⟩)) ∧ Its w0 (.tape w0.heap.size g H Tp.nw :: l) w' := by
 have HE : Hid (Its w0 (.tape w0.heap.size w.heap.size (fun _ => .slice none 0 0) Tp.nw :: l) (w.alloc (.cells #[.slice none 0 0, .slice none 0 0, .int .i64 0, .bool false, .int .i64 0, .bool false] 82))) := hide (by
  have h1 : Its w0 (.area w0.heap.size (.slice none 0 0) [] :: .area w0.heap.size (.slice none 0 0) [] :: l) w :=
   (h.new (x := .area w0.heap.size (.slice none 0 0) []) (Ar.nil _ _) (fun k hk => by cases hk) (Below.refl _ _)).new (x := .area w0.heap.size (.slice none 0 0) []) (Ar.nil _ _) (fun k hk => by cases hk) (Below.refl _ _)
  exact Its.tnew (T := Tp.nw) (H := fun _ => .slice none 0 0) h h1 Tp.Ok.nw)
 clear h
 go_enter Tryz.func7, Tryz.ntmps7
 go_wp2_with fail
 go_ret
 first | exact ⟨_, _, rfl, HE.out⟩ | exact ⟨_, rfl, _, HE.out⟩
set_option maxRecDepth 100000 in
theorem size_0 (h : (It.tape w0.heap.size g H T).P w) (hs : T.cn = false) : Calls Tryz.prog 13 #[.pointer (some ⟨g, 0, none⟩)] w fun e w' => e = .returned (.int .i64 (T.now.length : Int)) ∧ ∃ q, w' = w.drewN q := by
 obtain ⟨a, c, hv, hsl⟩ := (tp_ar h false).sl
 have d0 := (tp_cells h).1
 have d2 : w.cell? ⟨g, 2, none⟩ = some (.int .i64 0) := by have := (tp_cells h).2.2.1; rw [hs] at this; exact this
 have e : T.now = T.A false := by unfold Tp.now; rw [hs]
 rw [e]
 rw [hv] at d0
 generalize (T.A false).length = n at *
 clear hv hsl e hs h
 go_enter Tryz.func13, Tryz.ntmps13
 go_wp2_with fail
 go_quiet (fail)
 go_wp2_with fail
 go_ret
 exact ⟨rfl, _, rfl⟩
set_option maxRecDepth 100000 in
set_option maxHeartbeats 1000000 in
theorem good_0 (h : Its w0 (.tape w0.heap.size g H T :: l) w) (hs : T.cn = false) {got : List Nt} {r : List Int} (hr : NRds T.now got r) : Calls Tryz.prog 66 #[.pointer (some ⟨g, 0, none⟩)] w fun e w' => e = .returned (.int .i64 (tot got : Int)) ∧ Its w0 (.tape w0.heap.size g H T :: l) w' := by
 obtain ⟨a, c, hv, hsl⟩ := (tp_ar h.one false).sl
 have hok := tp_ok h.one
 have d0 := (tp_cells h.one).1
 have d2 : w.cell? ⟨g, 2, none⟩ = some (.int .i64 0) := by have := (tp_cells h.one).2.2.1; rw [hs] at this; exact this
 have e : T.now = T.A false := by unfold Tp.now; rw [hs]
 rw [e] at hr
 have KR := hide (read_any (w := w.drew) (hsl.keep (below_drew w 1)) (hok.inb false) (by have := hok.len false; omega))
 have Hr := hide hr
 have HI := hide h
 rw [hv] at d0
 obtain ⟨n, hn⟩ : ∃ n, (T.A false).length = n := ⟨_, rfl⟩
 rw [hn] at d0 KR
 clear hv hsl e hs h hok hr hn
 go_enter Tryz.func66, Tryz.ntmps66
 go_upto_region 1 with fail
 go_region_with (go_at_call 141; refine KR.out.mono ?_; rintro e W1 ⟨v, ns, r', rfl, hr, ho, hb⟩)
 go_wp2_with fail
 go_ret
 obtain ⟨e1, e2⟩ := Hr.out.uniq hr
 rw [← e1]
 exact ⟨rfl, HI.out.keep (Below.trans (below_drew w 1) (hb.mono (Nat.le_refl _)))⟩
def ReaV (w0 : World) (e : Ending) (got : List Nt) (l : List It) (w' : World) : Prop := ∃ v, e = .returned v ∧ Its w0 (.row ntE w0.heap.size v got :: l) w'
set_option maxRecDepth 100000 in
set_option maxHeartbeats 1000000 in
theorem read_0 (h : Its w0 (.tape w0.heap.size g H T :: l) w) (hs : T.cn = false) {got : List Nt} {r : List Int} (hr : NRds T.now got r) : Calls Tryz.prog 73 #[.pointer (some ⟨g, 0, none⟩)] w fun e w' => ReaV w0 e got (.tape w0.heap.size g H T :: l) w' := by
 obtain ⟨a, c, hv, hsl⟩ := (tp_ar h.one false).sl
 have hok := tp_ok h.one
 have d0 := (tp_cells h.one).1
 have d2 : w.cell? ⟨g, 2, none⟩ = some (.int .i64 0) := by have := (tp_cells h.one).2.2.1; rw [hs] at this; exact this
 have e : T.now = T.A false := by unfold Tp.now; rw [hs]
 rw [e] at hr
 have KR := hide (read_any (w := w.drew) (hsl.keep (below_drew w 1)) (hok.inb false) (by have := hok.len false; omega))
 have Hr := hide hr
 have HI := hide h
 rw [hv] at d0
 obtain ⟨n, hn⟩ : ∃ n, (T.A false).length = n := ⟨_, rfl⟩
 rw [hn] at d0 KR
 clear hv hsl e hs h hok hr hn
 go_enter Tryz.func73, Tryz.ntmps73
 go_upto_region 1 with fail
 go_region_with (go_at_call 141; refine KR.out.mono ?_; rintro e W1 ⟨v, ns, r', rfl, hr, ho, hb⟩)
 go_wp2_with fail
 go_ret
 obtain ⟨e1, e2⟩ := Hr.out.uniq hr
 rw [← e1] at ho
 exact ⟨_, rfl, (HI.out.drew 1).fresh ho hb⟩
set_option maxRecDepth 100000 in
theorem size_1 (h : (It.tape w0.heap.size g H T).P w) (hs : T.cn = true) : Calls Tryz.prog 13 #[.pointer (some ⟨g, 0, none⟩)] w fun e w' => e = .returned (.int .i64 (T.now.length : Int)) ∧ ∃ q, w' = w.drewN q := by
 obtain ⟨a, c, hv, hsl⟩ := (tp_ar h true).sl
 have d0 := (tp_cells h).2.1
 have d2 : w.cell? ⟨g, 2, none⟩ = some (.int .i64 1) := by have := (tp_cells h).2.2.1; rw [hs] at this; exact this
 have e : T.now = T.A true := by unfold Tp.now; rw [hs]
 rw [e]
 rw [hv] at d0
 generalize (T.A true).length = n at *
 clear hv hsl e hs h
 go_enter Tryz.func13, Tryz.ntmps13
 go_wp2_with fail
 go_quiet (fail)
 go_wp2_with fail
 go_ret
 exact ⟨rfl, _, rfl⟩
set_option maxRecDepth 100000 in
set_option maxHeartbeats 1000000 in
theorem good_1 (h : Its w0 (.tape w0.heap.size g H T :: l) w) (hs : T.cn = true) {got : List Nt} {r : List Int} (hr : NRds T.now got r) : Calls Tryz.prog 66 #[.pointer (some ⟨g, 0, none⟩)] w fun e w' => e = .returned (.int .i64 (tot got : Int)) ∧ Its w0 (.tape w0.heap.size g H T :: l) w' := by
 obtain ⟨a, c, hv, hsl⟩ := (tp_ar h.one true).sl
 have hok := tp_ok h.one
 have d0 := (tp_cells h.one).2.1
 have d2 : w.cell? ⟨g, 2, none⟩ = some (.int .i64 1) := by have := (tp_cells h.one).2.2.1; rw [hs] at this; exact this
 have e : T.now = T.A true := by unfold Tp.now; rw [hs]
 rw [e] at hr
 have KR := hide (read_any (w := w.drew) (hsl.keep (below_drew w 1)) (hok.inb true) (by have := hok.len true; omega))
 have Hr := hide hr
 have HI := hide h
 rw [hv] at d0
 obtain ⟨n, hn⟩ : ∃ n, (T.A true).length = n := ⟨_, rfl⟩
 rw [hn] at d0 KR
 clear hv hsl e hs h hok hr hn
 go_enter Tryz.func66, Tryz.ntmps66
 go_upto_region 1 with fail
 go_region_with (go_at_call 141; refine KR.out.mono ?_; rintro e W1 ⟨v, ns, r', rfl, hr, ho, hb⟩)
 go_wp2_with fail
 go_ret
 obtain ⟨e1, e2⟩ := Hr.out.uniq hr
 rw [← e1]
 exact ⟨rfl, HI.out.keep (Below.trans (below_drew w 1) (hb.mono (Nat.le_refl _)))⟩
set_option maxRecDepth 100000 in
set_option maxHeartbeats 1000000 in
theorem read_1 (h : Its w0 (.tape w0.heap.size g H T :: l) w) (hs : T.cn = true) {got : List Nt} {r : List Int} (hr : NRds T.now got r) : Calls Tryz.prog 73 #[.pointer (some ⟨g, 0, none⟩)] w fun e w' => ReaV w0 e got (.tape w0.heap.size g H T :: l) w' := by
 obtain ⟨a, c, hv, hsl⟩ := (tp_ar h.one true).sl
 have hok := tp_ok h.one
 have d0 := (tp_cells h.one).2.1
 have d2 : w.cell? ⟨g, 2, none⟩ = some (.int .i64 1) := by have := (tp_cells h.one).2.2.1; rw [hs] at this; exact this
 have e : T.now = T.A true := by unfold Tp.now; rw [hs]
 rw [e] at hr
 have KR := hide (read_any (w := w.drew) (hsl.keep (below_drew w 1)) (hok.inb true) (by have := hok.len true; omega))
 have Hr := hide hr
 have HI := hide h
 rw [hv] at d0
 obtain ⟨n, hn⟩ : ∃ n, (T.A true).length = n := ⟨_, rfl⟩
 rw [hn] at d0 KR
 clear hv hsl e hs h hok hr hn
 go_enter Tryz.func73, Tryz.ntmps73
 go_upto_region 1 with fail
 go_region_with (go_at_call 141; refine KR.out.mono ?_; rintro e W1 ⟨v, ns, r', rfl, hr, ho, hb⟩)
 go_wp2_with fail
 go_ret
 obtain ⟨e1, e2⟩ := Hr.out.uniq hr
 rw [← e1] at ho
 exact ⟨_, rfl, (HI.out.drew 1).fresh ho hb⟩
theorem sizeP (h : (It.tape w0.heap.size g H T).P w) : Calls Tryz.prog 13 #[.pointer (some ⟨g, 0, none⟩)] w fun e w' => e = .returned (.int .i64 (T.now.length : Int)) ∧ ∃ q, w' = w.drewN q := by
  cases hs : T.cn
  · exact size_0 h hs
  · exact size_1 h hs
theorem sizeS (h : Its w0 (.tape w0.heap.size g H T :: l) w) : Calls Tryz.prog 13 #[.pointer (some ⟨g, 0, none⟩)] w fun e w' => e = .returned (.int .i64 (T.now.length : Int)) ∧ Its w0 (.tape w0.heap.size g H T :: l) w' :=
 (sizeP h.one).mono (by rintro e w' ⟨rfl, q, rfl⟩; exact ⟨rfl, h.drew q⟩)
theorem goodS (h : Its w0 (.tape w0.heap.size g H T :: l) w) {got : List Nt} {r : List Int} (hr : NRds T.now got r) : Calls Tryz.prog 66 #[.pointer (some ⟨g, 0, none⟩)] w fun e w' => e = .returned (.int .i64 (tot got : Int)) ∧ Its w0 (.tape w0.heap.size g H T :: l) w' := by
  cases hs : T.cn
  · exact good_0 h hs hr
  · exact good_1 h hs hr
theorem readS (h : Its w0 (.tape w0.heap.size g H T :: l) w) {got : List Nt} {r : List Int} (hr : NRds T.now got r) : Calls Tryz.prog 73 #[.pointer (some ⟨g, 0, none⟩)] w fun e w' => ReaV w0 e got (.tape w0.heap.size g H T :: l) w' := by
  cases hs : T.cn
  · exact read_0 h hs hr
  · exact read_1 h hs hr
end
open Go.RowKit
theorem all_ok {ns : List Nt} (h : ∀ n ∈ ns, n.ok = true) : ns.all Nt.ok = true := List.all_eq_true.2 h
theorem all_no {ns : List Nt} (h : ∃ n ∈ ns, n.ok = false) : ns.all Nt.ok = false := by
 obtain ⟨n, hn, h⟩ := h
 cases e : ns.all Nt.ok with
 | false => rfl
 | true => rw [List.all_eq_true.1 e n hn] at h; cases h
theorem rds_len {l r : List Int} {ns : List Nt} (h : NRds l ns r) : l.length = tot ns + r.length := by
 have := congrArg List.length h.eq
 rw [List.length_append] at this
 exact this
section
variable {w0 w : World} {g : Nat} {H : Bool → Value} {T : Tp} {l : List It}
theorem app_dead (h : T.dd = true) (r : List Int) (ns : List Nt) : T.app r ns = (190, T) := by unfold Tp.app; rw [if_pos h]
theorem app_note (h : T.dd = false) (r : List Int) {ns : List Nt} (h1 : ns.all Nt.ok = false) : T.app r ns = (180, T) := by unfold Tp.app; rw [if_neg (by rw [h]; decide), if_pos h1]
theorem app_state (h : T.dd = false) {r : List Int} {ns : List Nt} (h1 : ns.all Nt.ok = true) (h2 : r ≠ []) : T.app r ns = (140, T) := by unfold Tp.app; rw [if_neg (by rw [h]; decide), if_neg (by rw [h1]; decide), if_pos h2]
theorem app_full (h : T.dd = false) {ns : List Nt} (h1 : ns.all Nt.ok = true) (h3 : 65536 < T.now.length + tot ns) : T.app [] ns = (5, T) := by unfold Tp.app; rw [if_neg (by rw [h]; decide), if_neg (by rw [h1]; decide), if_neg (by simp), if_pos h3]
theorem app_put (h : T.dd = false) {ns : List Nt} (h1 : ns.all Nt.ok = true) (h3 : ¬ 65536 < T.now.length + tot ns) : T.app [] ns = T.put T.cn (ns.flatMap Nt.bts) := by unfold Tp.app; rw [if_neg (by rw [h]; decide), if_neg (by rw [h1]; decide), if_neg (by simp), if_neg h3]
set_option maxRecDepth 100000 in
set_option maxHeartbeats 2000000 in
theorem appendS (h : Its w0 (.tape w0.heap.size g H T :: l) w) {a : Option Addr} {N c : Nat} {ns : List Nt} (hn : ntE.Rd w (.slice a N c) ns) (hl : ns.length = N) (hN : N ≤ 10000) {got : List Nt} {r : List Int} (hr : NRds T.now got r) :
    Calls Tryz.prog 116 #[.pointer (some ⟨g, 0, none⟩), .slice a N c] w fun e w' => e = .returned (.int .i64 (T.app r ns).1) ∧ ∃ H', Its w0 (.tape w0.heap.size g H' (T.app r ns).2 :: l) w' := by
  have d5 := (tp_cells h.one).2.2.2.2.2
  have hok := tp_ok h.one
  have HI := hide h
  obtain ⟨PR, hPR⟩ : ∃ PR, T.app r ns = PR := ⟨_, rfl⟩
  have HP := hide hPR
  rw [hPR]
  clear hPR
  cases hd : T.dd with
  | true =>
    have hp := HP.out
    rw [app_dead hd] at hp
    have HP2 := hide hp
    rw [hd] at d5
    clear h hd hok hr hn hl hN hp
    go_enter Tryz.func116, Tryz.ntmps116
    go_wp2_with fail
    go_ret
    rw [← HP2.out]
    exact ⟨rfl, H, HI.out⟩
  | false =>
    rw [hd] at d5
    have K26 := hide (write_any hn hl hN)
    have Hd := hide hd
    have Hr := hide hr
    have Hok := hide hok
    have hnow : T.now.length ≤ 65536 := hok.len T.cn
    have hnl : ns.length ≤ 10000 := by omega
    clear h hd hok hr hn hl
    go_enter Tryz.func116, Tryz.ntmps116
    go_upto_region 4 with (go_at_call 175; refine K26.out.mono ?_; rintro e w1 ⟨v, cc, rfl, hw, hb⟩)
    clear d5
    rcases hw with ⟨hk, rfl, ho⟩ | ⟨hk, rfl, rfl⟩
    · have I1 := (HI.out.fresh ho hb).swap
      have hk1 := all_ok hk
      have hin := flat_bts_in hk
      have hlen := flat_bts_len hk
      obtain ⟨a1, c1, rfl, _⟩ := Sl.own ho
      have HI := hide I1
      have KG : Hid (∀ W, Its w0 (.tape w0.heap.size g H T :: .row byE w0.heap.size (.slice a1 (ns.flatMap Nt.bts).length c1) (ns.flatMap Nt.bts) :: l) W → Calls Tryz.prog 66 #[.pointer (some ⟨g, 0, none⟩)] W fun e w' => e = .returned (.int .i64 (tot got : Int)) ∧ Its w0 (.tape w0.heap.size g H T :: .row byE w0.heap.size (.slice a1 (ns.flatMap Nt.bts).length c1) (ns.flatMap Nt.bts) :: l) w') := hide (fun W hW => goodS hW Hr.out)
      have KZ : Hid (∀ W, Its w0 (.tape w0.heap.size g H T :: .row byE w0.heap.size (.slice a1 (ns.flatMap Nt.bts).length c1) (ns.flatMap Nt.bts) :: l) W → Calls Tryz.prog 13 #[.pointer (some ⟨g, 0, none⟩)] W fun e w' => e = .returned (.int .i64 (T.now.length : Int)) ∧ Its w0 (.tape w0.heap.size g H T :: .row byE w0.heap.size (.slice a1 (ns.flatMap Nt.bts).length c1) (ns.flatMap Nt.bts) :: l) w') := hide (fun W hW => sizeS hW)
      have KP : Hid (∀ W, Its w0 (.tape w0.heap.size g H T :: .row byE w0.heap.size (.slice a1 (ns.flatMap Nt.bts).length c1) (ns.flatMap Nt.bts) :: l) W → ¬ 65536 < T.now.length + tot ns → Calls Tryz.prog 176 #[.pointer (some ⟨g, 0, none⟩), .int .i64 (bi T.cn), .slice a1 (ns.flatMap Nt.bts).length c1] W fun e w' => e = .returned (.int .i64 (T.put T.cn (ns.flatMap Nt.bts)).1) ∧ ∃ H', Its w0 (.tape w0.heap.size g H' (T.put T.cn (ns.flatMap Nt.bts)).2 :: .row byE w0.heap.size (.slice a1 (ns.flatMap Nt.bts).length c1) (ns.flatMap Nt.bts) :: l) w') := hide (fun W hW hx => tputS hW rfl hin T.cn (by
        have e1 : T.A T.cn = T.now := rfl
        have e2 : tot ns = (ns.flatMap Nt.bts).length := rfl
        rw [e1]; omega))
      have KC : Hid (∀ W, Its w0 (.tape w0.heap.size g H T :: .row byE w0.heap.size (.slice a1 (ns.flatMap Nt.bts).length c1) (ns.flatMap Nt.bts) :: l) W → W.cell? ⟨g, 1 + 1, none⟩ = some (.int .i64 (bi T.cn))) := hide (fun W hW => (tp_cells hW.one).2.2.1)
      have hgl := rds_len Hr.out
      have et : tot ns = (ns.flatMap Nt.bts).length := rfl
      have Hk1 := hide hk1
      have hpo : r ≠ [] → PR = (140, T) := fun h2 => by rw [← HP.out]; exact app_state Hd.out hk1 h2
      have hp5 : r = [] → 65536 < T.now.length + tot ns → PR = (5, T) := fun h2 h3 => by rw [← HP.out, h2]; exact app_full Hd.out hk1 h3
      have hpp : r = [] → ¬ 65536 < T.now.length + tot ns → PR = T.put T.cn (ns.flatMap Nt.bts) := fun h2 h3 => by rw [← HP.out, h2]; exact app_put Hd.out hk1 h3
      have Hpo := hide hpo
      have Hp5 := hide hp5
      have Hpp := hide hpp
      clear hpo hp5 hpp hk hk1 ho I1 hb K26 HP Hok hin
      obtain ⟨M, hM⟩ : ∃ M, (ns.flatMap Nt.bts).length = M := ⟨_, rfl⟩
      obtain ⟨G, hG⟩ : ∃ G, tot got = G := ⟨_, rfl⟩
      obtain ⟨Z, hZ⟩ : ∃ Z, T.now.length = Z := ⟨_, rfl⟩
      obtain ⟨R, hR⟩ : ∃ R, r.length = R := ⟨_, rfl⟩
      have HR : Hid (r = [] ↔ R = 0) := hide (by rw [← hR]; exact List.length_eq_zero_iff.symm)
      rw [et, hM] at KP Hp5 Hpp
      rw [hM] at HI KG KZ KC hlen ⊢
      rw [hG] at KG
      rw [hZ] at KZ KP Hp5 Hpp hnow
      rw [hG, hZ, hR] at hgl
      generalize bi T.cn = bc at *
      clear et hM hG hZ hR
      by_cases hr0 : R = 0
      · have j0 : ¬ ((G : Int) < (Z : Int)) := by omega
        obtain ⟨x, hx⟩ : ∃ x : Int, (Z : Int) + (M : Int) = x := ⟨_, rfl⟩
        have j1 : wrap64 x = x := by unfold wrap64; omega
        by_cases h5 : 65536 < Z + M
        · have hp := Hp5.out (HR.out.2 hr0) h5
          have j2 : 65536 < x := by omega
          have HP2 := hide hp
          have Hx := hide hx
          clear hp h5 hr0 hgl hx
          go_upto_region 8 with (first
            | (go_at_call 66; refine (KG.out _ HI.out).mono ?_; rintro e w2 ⟨rfl, h2⟩; have HI := hide h2; clear h2)
            | (go_at_call 13; refine (KZ.out _ HI.out).mono ?_; rintro e w3 ⟨rfl, h3⟩; have HI := hide h3; clear h3))
          have hx := Hx.out
          go_wp2_with (go_at_call 13; refine (KZ.out _ HI.out).mono ?_; rintro e w4 ⟨rfl, h4⟩; have HI := hide h4; clear h4)
          go_ret
          rw [HP2.out]
          exact ⟨rfl, H, HI.out.swap.tail⟩
        · have hp := Hpp.out (HR.out.2 hr0) h5
          have j2 : ¬ (65536 < x) := by omega
          have HP2 := hide hp
          have H5 := hide h5
          have Hx := hide hx
          clear hp h5 hr0 hgl hx
          go_upto_region 8 with (first
            | (go_at_call 66; refine (KG.out _ HI.out).mono ?_; rintro e w2 ⟨rfl, h2⟩; have HI := hide h2; clear h2)
            | (go_at_call 13; refine (KZ.out _ HI.out).mono ?_; rintro e w3 ⟨rfl, h3⟩; have HI := hide h3; clear h3))
          have hx := Hx.out
          go_upto_region 10 with (go_at_call 13; refine (KZ.out _ HI.out).mono ?_; rintro e w4 ⟨rfl, h4⟩; have HI := hide h4; clear h4)
          have d2 := KC.out _ HI.out
          go_wp2_with (go_at_call 176; refine (KP.out _ HI.out H5.out).mono ?_; rintro e w5 ⟨rfl, H5, h5⟩; have HI := hide h5; clear h5)
          go_ret
          rw [HP2.out]
          exact ⟨rfl, H5, HI.out.swap.tail⟩
      · have j0 : (G : Int) < (Z : Int) := by omega
        have hp := Hpo.out (fun e => hr0 (HR.out.1 e))
        have HP2 := hide hp
        clear hp hr0 hgl
        go_wp2_with (first
          | (go_at_call 66; refine (KG.out _ HI.out).mono ?_; rintro e w2 ⟨rfl, h2⟩; have HI := hide h2; clear h2)
          | (go_at_call 13; refine (KZ.out _ HI.out).mono ?_; rintro e w3 ⟨rfl, h3⟩; have HI := hide h3; clear h3))
        go_ret
        rw [HP2.out]
        exact ⟨rfl, H, HI.out.swap.tail⟩
    · have I1 := hide (HI.out.keep hb)
      have hp := HP.out
      rw [app_note Hd.out r (all_no hk)] at hp
      have HP2 := hide hp
      clear hp hk hb K26
      go_wp2_with fail
      go_ret
      rw [← HP2.out]
      exact ⟨rfl, H, I1.out⟩
end
open Go.RowKit
section
variable {w0 w : World} {g : Nat} {H : Bool → Value} {T : Tp} {l : List It}
theorem cut_code (T : Tp) (s : Bool) (n : Nat) : (T.cut s n).1 = 0 ∨ (T.cut s n).1 = 190 := by
  unfold Tp.cut
  split
  · exact .inl rfl
  · split
    · exact .inl rfl
    · exact .inr rfl
set_option maxRecDepth 100000 in
set_option maxHeartbeats 2000000 in
theorem repairS (h : Its w0 (.tape w0.heap.size g H T :: l) w) {got : List Nt} {r : List Int} (hr : NRds T.now got r) :
    Calls Tryz.prog 24 #[.pointer (some ⟨g, 0, none⟩)] w fun e w' => e = .returned (.tuple #[.int .i64 (T.rep r).1, .int .i64 (T.rep r).2.1]) ∧ ∃ H', Its w0 (.tape w0.heap.size g H' (T.rep r).2.2 :: l) w' := by
  have d5 := (tp_cells h.one).2.2.2.2.2
  have hok := tp_ok h.one
  have HI := hide h
  obtain ⟨PR, hPR⟩ : ∃ PR, T.rep r = PR := ⟨_, rfl⟩
  have HP := hide hPR
  rw [hPR]
  clear hPR
  cases hd : T.dd with
  | true =>
    have hp := HP.out
    unfold Tp.rep at hp
    rw [if_pos hd] at hp
    have HP2 := hide hp
    rw [hd] at d5
    clear h hd hok hr hp
    go_enter Tryz.func24, Tryz.ntmps24
    go_wp2_with fail
    go_ret2
    rw [← HP2.out]
    exact ⟨rfl, H, HI.out⟩
  | false =>
    rw [hd] at d5
    have hp := HP.out
    unfold Tp.rep at hp
    rw [if_neg (by rw [hd]; decide)] at hp
    have hgl := rds_len hr
    have hnow : T.now.length ≤ 65536 := hok.len T.cn
    rw [show T.now.length - r.length = tot got by omega] at hp
    have hcc := cut_code T T.cn (tot got)
    have KG : Hid (∀ W, Its w0 (.tape w0.heap.size g H T :: l) W → Calls Tryz.prog 66 #[.pointer (some ⟨g, 0, none⟩)] W fun e w' => e = .returned (.int .i64 (tot got : Int)) ∧ Its w0 (.tape w0.heap.size g H T :: l) w') := hide (fun W hW => goodS hW hr)
    have KZ : Hid (∀ W, Its w0 (.tape w0.heap.size g H T :: l) W → Calls Tryz.prog 13 #[.pointer (some ⟨g, 0, none⟩)] W fun e w' => e = .returned (.int .i64 (T.now.length : Int)) ∧ Its w0 (.tape w0.heap.size g H T :: l) w') := hide (fun W hW => sizeS hW)
    have KT : Hid (∀ W, Its w0 (.tape w0.heap.size g H T :: l) W → Calls Tryz.prog 67 #[.pointer (some ⟨g, 0, none⟩), .int .i64 (bi T.cn), .int .i64 (tot got : Int)] W fun e w' => e = .returned (.int .i64 (T.cut T.cn (tot got)).1) ∧ ∃ H', Its w0 (.tape w0.heap.size g H' (T.cut T.cn (tot got)).2 :: l) w') := hide (fun W hW => cutS hW T.cn (tot got) (by show tot got ≤ T.now.length; omega))
    have KC : Hid (∀ W, Its w0 (.tape w0.heap.size g H T :: l) W → W.cell? ⟨g, 1 + 1, none⟩ = some (.int .i64 (bi T.cn))) := hide (fun W hW => (tp_cells hW.one).2.2.1)
    generalize T.cut T.cn (tot got) = CP at *
    obtain ⟨G, hG⟩ : ∃ G, tot got = G := ⟨_, rfl⟩
    obtain ⟨Z, hZ⟩ : ∃ Z, T.now.length = Z := ⟨_, rfl⟩
    obtain ⟨R, hR⟩ : ∃ R, r.length = R := ⟨_, rfl⟩
    rw [hG] at KG KT
    rw [hZ] at KZ hnow
    rw [hG, hZ, hR] at hgl
    rw [hR] at hp
    generalize bi T.cn = bc at *
    have j1 : wrap64 ((Z : Int) - (G : Int)) = (R : Int) := by unfold wrap64; omega
    have Hd := hide hd
    clear h hd hok hr hG hZ hR
    obtain ⟨CC, T1⟩ := CP
    simp only at hcc hp KT
    rcases hcc with rfl | rfl
    · rw [if_pos rfl] at hp
      have HP2 := hide hp
      clear hp hgl
      go_enter Tryz.func24, Tryz.ntmps24
      go_upto_region 5 with (first
        | (go_at_call 66; refine (KG.out _ HI.out).mono ?_; rintro e w2 ⟨rfl, h2⟩; have HI := hide h2; clear h2)
        | (go_at_call 13; refine (KZ.out _ HI.out).mono ?_; rintro e w3 ⟨rfl, h3⟩; have HI := hide h3; clear h3))
      have d2 := KC.out _ HI.out
      go_wp2_with (go_at_call 67; refine (KT.out _ HI.out).mono ?_; rintro e w5 ⟨rfl, H5, h5⟩; have HI := hide h5; clear h5)
      go_ret2
      rw [← HP2.out]
      exact ⟨rfl, H5, HI.out⟩
    · rw [if_neg (by decide)] at hp
      have HP2 := hide hp
      clear hp hgl
      go_enter Tryz.func24, Tryz.ntmps24
      go_upto_region 5 with (first
        | (go_at_call 66; refine (KG.out _ HI.out).mono ?_; rintro e w2 ⟨rfl, h2⟩; have HI := hide h2; clear h2)
        | (go_at_call 13; refine (KZ.out _ HI.out).mono ?_; rintro e w3 ⟨rfl, h3⟩; have HI := hide h3; clear h3))
      have d2 := KC.out _ HI.out
      go_wp2_with (go_at_call 67; refine (KT.out _ HI.out).mono ?_; rintro e w5 ⟨rfl, H5, h5⟩; have HI := hide h5; clear h5)
      go_ret2
      rw [← HP2.out]
      exact ⟨rfl, H5, HI.out⟩
end
open Go.RowKit
theorem put_fact (T : Tp) (s : Bool) (bs : List Int) : (T.put s bs).2.cn = T.cn ∧ (∀ q, q ≠ s → (T.put s bs).2.A q = T.A q) ∧ (((T.put s bs).1 = 0 ∧ (T.put s bs).2.A s = T.A s ++ bs ∧ (T.put s bs).2.dd = T.dd) ∨ ((T.put s bs).1 = 190 ∧ (T.put s bs).2.A s = T.A s ++ bs.take T.bd ∧ T.bd < bs.length ∧ T.ar = true ∧ (T.put s bs).2.dd = true)) := by
  unfold Tp.put
  split
  · exact ⟨rfl, fun q hq => setA_off _ hq _, .inl ⟨rfl, setA_at _ _ _, rfl⟩⟩
  · rename_i h
    refine ⟨rfl, fun q hq => setA_off _ hq _, .inr ⟨rfl, setA_at _ _ _, ?_, ?_, rfl⟩⟩
    · unfold Tp.can at h
      simp at h
      omega
    · unfold Tp.can at h
      simp at h
      exact h.1
open Go.RowKit
def Tp.Free (T : Tp) : Prop := T.ar = false ∧ T.dd = false
theorem free_nw : Tp.nw.Free := ⟨rfl, rfl⟩
theorem can_free {T : Tp} (h : T.ar = false) (n : Nat) : T.can n = true := by unfold Tp.can; rw [h]; rfl
theorem put_free {T : Tp} (h : T.Free) (s : Bool) (bs : List Int) : ∃ T', T.put s bs = (0, T') ∧ T'.Free ∧ T'.cn = T.cn ∧ T'.A s = T.A s ++ bs ∧ ∀ q, q ≠ s → T'.A q = T.A q := by
 unfold Tp.put
 rw [if_pos (can_free h.1 _)]
 exact ⟨_, rfl, ⟨h.1, h.2⟩, rfl, setA_at _ _ _, fun q hq => setA_off _ hq _⟩
theorem cut_free {T : Tp} (h : T.Free) (s : Bool) (n : Nat) (hn : n ≤ (T.A s).length) : ∃ T', T.cut s n = (0, T') ∧ T'.Free ∧ T'.cn = T.cn ∧ T'.A s = (T.A s).take n ∧ ∀ q, q ≠ s → T'.A q = T.A q := by
  unfold Tp.cut
  by_cases e : (T.A s).length = n
  · rw [if_pos e]
    exact ⟨_, rfl, h, rfl, by rw [← e, List.take_length], fun _ _ => rfl⟩
  · rw [if_neg e, if_pos (can_free h.1 _)]
    exact ⟨_, rfl, ⟨h.1, h.2⟩, rfl, setA_at _ _ _, fun q hq => setA_off _ hq _⟩
theorem app_free {T : Tp} (h : T.Free) {ns : List Nt} (hk : ns.all Nt.ok = true) (hl : T.now.length + tot ns ≤ 65536) : ∃ T', T.app [] ns = (0, T') ∧ T'.Free ∧ T'.now = T.now ++ ns.flatMap Nt.bts := by
 rw [app_put h.2 hk (by omega)]
 obtain ⟨T', e, h1, h2, h3, _⟩ := put_free h T.cn (ns.flatMap Nt.bts)
 exact ⟨T', e, h1, by show T'.A T'.cn = _; rw [h2, h3]; rfl⟩
theorem rep_free {T : Tp} (h : T.Free) {got : List Nt} {r : List Int} (hr : NRds T.now got r) : ∃ T', T.rep r = ((r.length : Int), 0, T') ∧ T'.Free ∧ T'.now = got.flatMap Nt.bts := by
 have hl := rds_len hr
 obtain ⟨T', e, h1, h2, h3, _⟩ := cut_free h T.cn (T.now.length - r.length) (by show _ ≤ T.now.length; omega)
 unfold Tp.rep
 rw [if_neg (by rw [h.2]; decide), e, if_pos rfl]
 refine ⟨T', rfl, h1, ?_⟩
 show T'.A T'.cn = _
 rw [h2, h3]
 show T.now.take _ = _
 rw [show T.now.length - r.length = (got.flatMap Nt.bts).length by show _ = tot got; omega, hr.eq, List.take_left]
theorem app_codes (T : Tp) (r : List Int) (ns : List Nt) : (T.app r ns).2.now = T.now ∨ (T.dd = false ∧ ns.all Nt.ok = true ∧ r = [] ∧ ¬ 65536 < T.now.length + tot ns ∧ T.app r ns = T.put T.cn (ns.flatMap Nt.bts)) := by
  cases hd : T.dd
  · cases ha : ns.all Nt.ok
    · rw [app_note hd _ ha]; exact .inl rfl
    · by_cases hr : r = []
      · subst hr
        by_cases hl : 65536 < T.now.length + tot ns
        · rw [app_full hd ha hl]; exact .inl rfl
        · exact .inr ⟨rfl, rfl, rfl, hl, app_put hd ha hl⟩
      · rw [app_state hd ha hr]; exact .inl rfl
  · rw [app_dead hd]; exact .inl rfl
theorem put_now (T : Tp) (bs : List Int) : (T.put T.cn bs).2.now = (T.put T.cn bs).2.A T.cn := by
 show (T.put T.cn bs).2.A (T.put T.cn bs).2.cn = _
 rw [(put_fact T T.cn bs).1]
theorem rds_app {l : List Int} {got ns : List Nt} (h : NRds l got []) (hk : ns.all Nt.ok = true) : NRds (l ++ ns.flatMap Nt.bts) (got ++ ns) [] := by
  have e : l = got.flatMap Nt.bts := by rw [h.eq, List.append_nil]
  have := rds_all (ns := got ++ ns) (fun n hn => by
    rcases List.mem_append.1 hn with q | q
    · exact h.ok n q
    · exact List.all_eq_true.1 hk n q)
  rw [List.flatMap_append, ← e] at this
  exact this
structure Rq where
 id : Int
 st : Int
 tt : Int
deriving DecidableEq
structure En where
 r : Rq
 en : Int
deriving DecidableEq
structure Bk where
 all : List En
 done : List Int
deriving DecidableEq
def fnd (l : List En) (x : Int) : Option En := l.find? (fun e => e.r.id == x)
def ops (l : List En) : List Rq := (l.filter (fun e => e.en == 1)).map (·.r)
def fst (l : List En) (s : Int) : Option Rq := (ops l).find? (fun r => r.st == s)
def wnt (l : List En) (t : Int) : Option Rq := (ops l).find? (fun r => r.tt == t)
def rng (r : Rq) : Prop := 0 ≤ r.st ∧ r.st ≤ 39 ∧ 1 ≤ r.tt ∧ r.tt ≤ 30
instance (r : Rq) : Decidable (rng r) := by unfold rng; infer_instance
def setE (l : List En) (x v : Int) : List En := l.map (fun e => if e.r.id = x then ⟨e.r, v⟩ else e)
def stn (l : List En) (x : Int) : Int := match fnd l x with | some e => e.r.st | none => -1
namespace Bk
def adC (S : Bk) (r : Rq) : Int := if rng r then (match fnd S.all r.id with
 | some e => if e.r = r then 0 else 2
 | none => if (wnt S.all r.tt).isSome then 160 else if 64 ≤ (ops S.all).length then 5 else 0) else 1
def adY (S : Bk) (r : Rq) : Bool := decide (S.adC r = 0) && (fnd S.all r.id).isNone
def ad (S : Bk) (r : Rq) : Bk := if S.adY r = true then ⟨S.all ++ [⟨r, 1⟩], S.done⟩ else S
def sta (S : Bk) (x : Int) : Int := match fnd S.all x with | some e => e.en | none => 0
def caC (S : Bk) (x : Int) : Int := match fnd S.all x with | some e => if e.en = 2 then 140 else 0 | none => 4
def caY (S : Bk) (x : Int) : Bool := decide (S.sta x = 1)
def ca (S : Bk) (x : Int) : Bk := if S.caY x = true then ⟨setE S.all x 3, S.done⟩ else S
def seC (S : Bk) (x : Int) : Int := match fnd S.all x with
 | some e => if e.en = 1 then (if fst S.all e.r.st = some e.r then 0 else 110) else 140
 | none => 4
def se (S : Bk) (x : Int) : Bk := if S.seC x = 0 then ⟨setE S.all x 2, S.done ++ [x]⟩ else S
def sv (S : Bk) (s : Int) : List Int := S.done.filter (fun x => stn S.all x == s)
def new : Bk := ⟨[], []⟩
structure Ok (S : Bk) : Prop where
 nd : (S.all.map (·.r.id)).Nodup
 en : ∀ e ∈ S.all, e.en = 1 ∨ e.en = 2 ∨ e.en = 3
 rg : ∀ e ∈ S.all, rng e.r ∧ I64 e.r.id
 tt : ((ops S.all).map (·.tt)).Nodup
 dn : ∀ x ∈ S.done, ∃ e ∈ S.all, e.r.id = x ∧ e.en = 2
 dd : S.done.Nodup
end Bk
theorem fnd_some {l : List En} {x : Int} {e : En} (h : fnd l x = some e) : e ∈ l ∧ e.r.id = x := ⟨List.mem_of_find?_eq_some h, by have := List.find?_some h; simpa using this⟩
theorem fnd_none {l : List En} {x : Int} : fnd l x = none ↔ ∀ e ∈ l, e.r.id ≠ x := by simp [fnd]
theorem fnd_of {l : List En} (hn : (l.map (·.r.id)).Nodup) {e : En} (he : e ∈ l) : fnd l e.r.id = some e := by
  induction l with
  | nil => cases he
  | cons a l ih =>
    rw [List.map_cons, List.nodup_cons] at hn
    unfold fnd
    rw [List.find?_cons]
    rcases List.mem_cons.1 he with rfl | he
    · simp
    · have : (a.r.id == e.r.id) = false := by
        rw [beq_eq_false_iff_ne]
        intro q
        exact hn.1 (List.mem_map.2 ⟨e, he, q.symm⟩)
      rw [this]
      exact ih hn.2 he
theorem fnd_add (l : List En) (a : En) (x : Int) : fnd (l ++ [a]) x = (fnd l x).or (if a.r.id = x then some a else none) := by
  unfold fnd
  rw [List.find?_append]
  congr 1
  by_cases h : a.r.id = x
  · simp [h]
  · simp [h]
theorem fnd_set (l : List En) (y v x : Int) : fnd (setE l y v) x = (fnd l x).map (fun e => if e.r.id = y then ⟨e.r, v⟩ else e) := by
 unfold fnd setE
 rw [List.find?_map]
 congr 2
 funext e
 simp only [Function.comp]
 split <;> rfl
theorem setE_ids (l : List En) (y v : Int) : (setE l y v).map (·.r.id) = l.map (·.r.id) := by
 unfold setE
 rw [List.map_map]
 apply List.map_congr_left
 intro e _
 simp only [Function.comp]
 split <;> rfl
theorem setE_mem {l : List En} {y v : Int} {e : En} (h : e ∈ setE l y v) : ∃ e' ∈ l, e.r = e'.r ∧ ((e'.r.id = y ∧ e.en = v) ∨ (e'.r.id ≠ y ∧ e.en = e'.en)) := by
  obtain ⟨e', h1, h2⟩ := List.mem_map.1 h
  subst h2
  by_cases q : e'.r.id = y
  · exact ⟨e', h1, by rw [if_pos q], .inl ⟨q, by rw [if_pos q]⟩⟩
  · exact ⟨e', h1, by rw [if_neg q], .inr ⟨q, by rw [if_neg q]⟩⟩
theorem stn_set (l : List En) (y v x : Int) : stn (setE l y v) x = stn l x := by
 unfold stn
 rw [fnd_set]
 cases fnd l x with
 | none => rfl
 | some e => simp only [Option.map_some]; split <;> rfl
theorem ops_add (l : List En) (r : Rq) : ops (l ++ [⟨r, 1⟩]) = ops l ++ [r] := by simp [ops]
theorem ops_set {l : List En} (hn : (l.map (·.r.id)).Nodup) (y v : Int) (hv : v ≠ 1) : ops (setE l y v) = (ops l).filter (fun r => r.id != y) := by
  induction l with
  | nil => rfl
  | cons a l ih =>
    rw [List.map_cons, List.nodup_cons] at hn
    have ih := ih hn.2
    unfold ops setE at *
    rw [List.map_cons]
    by_cases q : a.r.id = y
    · rw [if_pos q]
      have e1 : ((⟨a.r, v⟩ : En).en == 1) = false := by simpa using hv
      rw [List.filter_cons, e1, List.filter_cons]
      by_cases p : a.en = 1
      · simp [p, q, ih]
      · simp [p, ih]
    · rw [if_neg q, List.filter_cons, List.filter_cons]
      by_cases p : a.en = 1
      · simp [p, q, ih]
      · simp [p, ih]
theorem ops_mem {l : List En} {r : Rq} : r ∈ ops l ↔ ∃ e ∈ l, e.en = 1 ∧ e.r = r := by
 simp [ops, and_assoc]
namespace Bk
theorem new_ok : new.Ok := ⟨.nil, by simp [new], by simp [new], .nil, by simp [new], .nil⟩
theorem ad_no {S : Bk} {r : Rq} (h : S.adY r = false) : S.ad r = S := by unfold ad; rw [h]; rfl
theorem ad_yes {S : Bk} {r : Rq} (h : S.adY r = true) : S.ad r = ⟨S.all ++ [⟨r, 1⟩], S.done⟩ := if_pos h
theorem adY_iff {S : Bk} {r : Rq} : S.adY r = true ↔ rng r ∧ fnd S.all r.id = none ∧ wnt S.all r.tt = none ∧ (ops S.all).length < 64 := by
  unfold adY adC
  constructor
  · intro h
    rw [Bool.and_eq_true, decide_eq_true_eq, Option.isNone_iff_eq_none] at h
    obtain ⟨h1, h2⟩ := h
    by_cases hr : rng r
    · rw [if_pos hr, h2] at h1
      simp only at h1
      by_cases hw : (wnt S.all r.tt).isSome
      · rw [if_pos hw] at h1; cases h1
      · rw [if_neg hw] at h1
        by_cases h6 : 64 ≤ (ops S.all).length
        · rw [if_pos h6] at h1; cases h1
        · exact ⟨hr, h2, by simpa using hw, by omega⟩
    · rw [if_neg hr] at h1; cases h1
  · rintro ⟨hr, h2, h3, h4⟩
    rw [if_pos hr, h2, h3]
    simp
    omega
theorem Ok.ad {S : Bk} (h : S.Ok) {r : Rq} (hiB : I64 r.id) : (S.ad r).Ok := by
  cases hy : S.adY r with
  | false => rw [ad_no hy]; exact h
  | true =>
    rw [ad_yes hy]
    obtain ⟨h1, h2, h3, _⟩ := adY_iff.1 hy
    rw [fnd_none] at h2
    refine ⟨?_, ?_, ?_, ?_, ?_, h.dd⟩
    · show ((S.all ++ [_]).map _).Nodup
      rw [List.map_append, List.nodup_append]
      refine ⟨h.nd, by simp, fun a ha b hb => ?_⟩
      obtain ⟨e, he, rfl⟩ := List.mem_map.1 ha
      simp at hb
      subst hb
      exact h2 e he
    · intro e he
      rcases List.mem_append.1 he with he | he
      · exact h.en e he
      · simp at he; subst he; exact .inl rfl
    · intro e he
      rcases List.mem_append.1 he with he | he
      · exact h.rg e he
      · simp at he; subst he; exact ⟨h1, hiB⟩
    · show ((ops (S.all ++ [_])).map _).Nodup
      rw [ops_add, List.map_append, List.nodup_append]
      refine ⟨h.tt, by simp, fun a ha b hb => ?_⟩
      obtain ⟨e, he, rfl⟩ := List.mem_map.1 ha
      simp at hb
      subst hb
      have := List.find?_eq_none.1 h3 e he
      simpa using this
    · intro x hx
      obtain ⟨e, he, q⟩ := h.dn x hx
      exact ⟨e, List.mem_append.2 (.inl he), q⟩
theorem Ok.set {S : Bk} (h : S.Ok) {x v : Int} (hv : v = 2 ∨ v = 3) (hx : S.sta x = 1) (D : List Int) (hD : D = S.done ∨ v = 2 ∧ D = S.done ++ [x]) : Ok ⟨setE S.all x v, D⟩ := by
  obtain ⟨e, he⟩ : ∃ e, fnd S.all x = some e := by
    unfold sta at hx
    cases q : fnd S.all x with
    | none => rw [q] at hx; cases hx
    | some e => exact ⟨e, rfl⟩
  have h1 : e.en = 1 := by unfold sta at hx; rw [he] at hx; exact hx
  obtain ⟨he1, he2⟩ := fnd_some he
  have old : ∀ y ∈ S.done, ∃ e ∈ setE S.all x v, e.r.id = y ∧ e.en = 2 := by
    intro y hy
    obtain ⟨e', h3, h4, h5⟩ := h.dn y hy
    have hne : e'.r.id ≠ x := fun q => by
      have := fnd_of h.nd h3
      rw [q, he] at this
      cases this
      omega
    exact ⟨e', List.mem_map.2 ⟨e', h3, if_neg hne⟩, h4, h5⟩
  have hxd : x ∉ S.done := fun hy => by
    obtain ⟨e', h3, h4, h5⟩ := h.dn x hy
    have := fnd_of h.nd h3
    rw [h4, he] at this
    cases this
    omega
  refine ⟨?_, ?_, ?_, ?_, ?_, ?_⟩
  · show ((setE S.all x v).map _).Nodup
    rw [setE_ids]; exact h.nd
  · intro e he
    obtain ⟨e', q1, q2, q3⟩ := setE_mem he
    rcases q3 with q3 | q3
    · rw [q3.2]; rcases hv with rfl | rfl
      · exact .inr (.inl rfl)
      · exact .inr (.inr rfl)
    · rw [q3.2]; exact h.en e' q1
  · intro e he
    obtain ⟨e', q1, q2, q3⟩ := setE_mem he
    rw [q2]; exact h.rg e' q1
  · show ((ops (setE S.all x v)).map _).Nodup
    rw [ops_set h.nd x v (by rcases hv with rfl | rfl <;> decide)]
    exact h.tt.sublist (List.filter_sublist.map _)
  · intro y hy
    rcases hD with rfl | ⟨rfl, rfl⟩
    · exact old y hy
    · rcases List.mem_append.1 hy with hy | hy
      · exact old y hy
      · simp at hy
        subst hy
        exact ⟨⟨e.r, 2⟩, List.mem_map.2 ⟨e, he1, if_pos he2⟩, he2, rfl⟩
  · show D.Nodup
    rcases hD with rfl | ⟨rfl, rfl⟩
    · exact h.dd
    · rw [List.nodup_append]
      exact ⟨h.dd, by simp, fun a ha b hb => by simp at hb; subst hb; exact fun q => hxd (q ▸ ha)⟩
theorem ca_no {S : Bk} {x : Int} (h : S.caY x = false) : S.ca x = S := by unfold ca; rw [h]; rfl
theorem ca_yes {S : Bk} {x : Int} (h : S.caY x = true) : S.ca x = ⟨setE S.all x 3, S.done⟩ := if_pos h
theorem se_no {S : Bk} {x : Int} (h : S.seC x ≠ 0) : S.se x = S := if_neg h
theorem se_yes {S : Bk} {x : Int} (h : S.seC x = 0) : S.se x = ⟨setE S.all x 2, S.done ++ [x]⟩ := if_pos h
theorem sta_of {S : Bk} {x : Int} {e : En} (h : fnd S.all x = some e) : S.sta x = e.en := by unfold sta; rw [h]
theorem nodup_len : ∀ (n : Nat) (l : List Int), l.Nodup → (∀ x ∈ l, 1 ≤ x ∧ x ≤ (n : Int)) → l.length ≤ n
 | 0, l, _, h => by
  cases l with
  | nil => simp
  | cons x l => have := h x (by simp); omega
 | n + 1, l, hn, h => by
  have h1 := nodup_len n (l.erase ((n : Int) + 1)) (hn.erase _) (fun x hx => by
   have h2 := h x (List.mem_of_mem_erase hx)
   have h3 : x ≠ (n : Int) + 1 := fun e => by subst e; exact (List.Nodup.not_mem_erase hn) hx
   omega)
  have h2 := List.length_erase (a := (n : Int) + 1) (l := l)
  split at h2 <;> omega
theorem Ok.few {S : Bk} (h : S.Ok) : (ops S.all).length ≤ 30 := by
 have := nodup_len 30 ((ops S.all).map (·.tt)) h.tt (fun x hx => by
  obtain ⟨r, hr, rfl⟩ := List.mem_map.1 hx
  obtain ⟨e, he, _, rfl⟩ := ops_mem.1 hr
  obtain ⟨⟨_, _, h3, h4⟩, _⟩ := h.rg e he
  exact ⟨h3, h4⟩)
 simpa using this
theorem size_ad (S : Bk) (r : Rq) : (S.ad r).all.length ≤ S.all.length + 1 ∧ (S.ad r).done = S.done := by
 cases hy : S.adY r with
 | false => rw [ad_no hy]; exact ⟨by omega, rfl⟩
 | true => rw [ad_yes hy]; exact ⟨by simp, rfl⟩
theorem size_ca (S : Bk) (x : Int) : (S.ca x).all.length = S.all.length ∧ (S.ca x).done = S.done := by
 cases hy : S.caY x with
 | false => rw [ca_no hy]; exact ⟨rfl, rfl⟩
 | true => rw [ca_yes hy]; exact ⟨by simp [setE], rfl⟩
theorem size_se (S : Bk) (x : Int) : (S.se x).all.length = S.all.length ∧ (S.se x).done.length ≤ S.done.length + 1 := by
  by_cases hy : S.seC x = 0
  · rw [se_yes hy]; exact ⟨by simp [setE], by simp⟩
  · rw [se_no hy]; exact ⟨rfl, by omega⟩
end Bk
open Go.RowKit
def boolE : El Tryz.prog Bool where
 t := 171
 e := 4
 k := 1
 by' := 1
 z := .bool false
 enc x := [.bool x]
 ht := Tryz.underlying171
 info := by kernel_rfl
 zc := rfl
 kpos := by omega
 bsm := by omega
 len _ := rfl
 one x v hv := by simp at hv; subst hv; rfl
theorem bool_at {w : World} {a : Option Addr} {n c : Nat} {xs : List Bool} (h : boolE.Rd w (.slice a n c) xs) (i : Nat) (p : Bool) (hp : xs[i]? = some p) : ∃ b off, a = some ⟨b, off, none⟩ ∧ w.cell? ⟨b, off + i, none⟩ = some (.bool p) := by
 obtain ⟨b, off, h1, h2⟩ := h.at i p hp
 refine ⟨b, off, h1, ?_⟩
 have := h2 0 (by show 0 < 1; omega)
 simpa [boolE] using this
theorem made_bools (w : World) (n : Nat) (hn : n ≤ 100000) : ∃ w', (Instr.makeSlice 171 (.int .i64 (n : Int)) (.int .i64 (n : Int))).run Tryz.prog w = .ok (.slice (some ⟨w.heap.size, 0, none⟩) n n) w' ∧
  boolE.Own w' w.heap.size (.slice (some ⟨w.heap.size, 0, none⟩) n n) (List.replicate n false) ∧ Below w.heap.size w w' ∧ w.heap.size < w'.heap.size := by
 obtain ⟨i, hi, he⟩ := Option.map_eq_some_iff.1 boolE.info
 have e1 : i.zero = some (.bool false) := congrArg Prod.fst he
 have e2 : i.size = 1 := congrArg (fun p => p.2.1) he
 have e3 : i.bytes = 1 := congrArg (fun p => p.2.2) he
 obtain ⟨w', h1, h2, h3⟩ := run_make_full (P := Tryz.prog) w w.heap.size 171 4 i (.bool false) 1 Tryz.underlying171 hi e1 e2 .i64 .i64 n (by rw [e3]; omega) (by unfold maxLen; omega) (Nat.le_refl _)
 have ho : boolE.Own w' w.heap.size (.slice (some ⟨w.heap.size, 0, none⟩) n n) (List.replicate n false) := by
  unfold El.Own
  rw [fl_map boolE Value.bool (fun _ => rfl), List.length_replicate, show (List.replicate n false).map Value.bool = (madeCells #[Value.bool false] (n * 1)).toList by rw [toList_madeCells_one, Nat.mul_one, List.map_replicate]]
  exact h2
 refine ⟨w', h1, ho, (Below.refl _ _).grown h3 (Nat.le_refl _) (by simp), ?_⟩
 exact ho.lt w.heap.size rfl
set_option maxRecDepth 100000 in
theorem w_isPlace_any (a a' : Option Addr) (n c m c' : Nat) (i : Int) (w : World) : Calls Tryz.prog 113 #[.agg #[.slice a n c, .slice a' m c'], .int .i64 i] w fun e w' => e = .returned (.bool (decide (0 ≤ i ∧ i < (n : Int)))) ∧ Below w.heap.size w w' := by
  have hB : Hid (Below w.heap.size w (w.alloc (.cells #[.slice a n c, .slice a' m c'] 25))) := hide ((Below.refl _ _).alloc (Nat.le_refl _) _)
  by_cases h1 : 0 ≤ i
  · by_cases h2 : i < (n : Int)
    · rw [decide_eq_true ⟨h1, h2⟩]
      go_enter Tryz.func113, Tryz.ntmps113
      go_wp2_with fail
      go_ret
      exact ⟨rfl, hB.out⟩
    · rw [decide_eq_false (fun h => h2 h.2)]
      go_enter Tryz.func113, Tryz.ntmps113
      go_wp2_with fail
      go_ret
      exact ⟨rfl, hB.out⟩
  · rw [decide_eq_false (fun h => h1 h.1)]
    go_enter Tryz.func113, Tryz.ntmps113
    go_wp2_with fail
    go_ret
    exact ⟨rfl, hB.out⟩
def clo (m : Nat) (ms : List Int) : List Bool := (List.range m).map (fun i => decide (((i + 1 : Nat) : Int) ∈ ms))
theorem clo_len (m : Nat) (ms : List Int) : (clo m ms).length = m := by simp [clo]
theorem clo_at (m : Nat) (ms : List Int) (i : Nat) (h : i < m) : (clo m ms)[i]? = some (decide (((i + 1 : Nat) : Int) ∈ ms)) := by simp [clo, h]
theorem clo_nil (m : Nat) : clo m [] = List.replicate m false := by
  apply List.ext_getElem?
  intro i
  rcases Nat.lt_or_ge i m with h | h
  · rw [clo_at m [] i h, List.getElem?_replicate, if_pos h]; simp
  · rw [List.getElem?_eq_none (by rw [clo_len]; exact h), List.getElem?_eq_none (by simpa using h)]
theorem clo_in (m : Nat) (ms : List Int) (d : Int) (h1 : 1 ≤ d) (h2 : d ≤ m) : clo m (ms ++ [d]) = (clo m ms).set (d - 1).toNat true := by
  apply List.ext_getElem?
  intro i
  rcases Nat.lt_or_ge i m with h | h
  · rw [clo_at m _ i h, List.getElem?_set]
    by_cases e : (d - 1).toNat = i
    · subst e
      rw [if_pos rfl, if_pos (by rw [clo_len]; exact h)]
      simp only [Option.some.injEq, decide_eq_true_eq, List.mem_append, List.mem_singleton]
      exact .inr (by omega)
    · rw [if_neg e, clo_at m _ i h]
      simp only [Option.some.injEq, decide_eq_decide, List.mem_append, List.mem_singleton]
      exact ⟨fun h => h.elim id (fun h => by omega), .inl⟩
  · rw [List.getElem?_eq_none (by rw [clo_len]; exact h), List.getElem?_eq_none (by rw [List.length_set, clo_len]; exact h)]
theorem clo_off (m : Nat) (ms : List Int) (d : Int) (h : ¬ (1 ≤ d ∧ d ≤ m)) : clo m (ms ++ [d]) = clo m ms := by
  apply List.ext_getElem?
  intro i
  rcases Nat.lt_or_ge i m with h' | h'
  · rw [clo_at m _ i h', clo_at m _ i h']
    simp only [Option.some.injEq, decide_eq_decide, List.mem_append, List.mem_singleton]
    exact ⟨fun h => h.elim id (fun h => by omega), .inl⟩
  · rw [List.getElem?_eq_none (by rw [clo_len]; exact h'), List.getElem?_eq_none (by rw [clo_len]; exact h')]
set_option maxRecDepth 100000 in
set_option maxHeartbeats 2000000 in
theorem closed_any (a a' aM : Option Addr) (c c' cM n m k0 : Nat) (ms : List Int) (w : World) (hn : ms.length = k0) (hv : intE.Rd w (.slice aM k0 cM) ms) (hl : k0 ≤ 100000) (hm : m ≤ 100000) :
    Calls Tryz.prog 115 #[.agg #[.slice a n c, .slice a' m c'], .slice aM k0 cM] w fun e w' => (∃ g, e = .returned (.slice (some ⟨g, 0, none⟩) m m) ∧ boolE.Own w' w.heap.size (.slice (some ⟨g, 0, none⟩) m m) (clo m ms)) ∧ Below w.heap.size w w' := by
  obtain ⟨W0, hW0⟩ : ∃ W0, w.alloc (.cells #[.slice a n c, .slice a' m c'] 25) = W0 := ⟨_, rfl⟩
  have bA : Below w.heap.size w W0 := by rw [← hW0]; exact (Below.refl _ _).alloc (Nat.le_refl _) _
  have hbox : W0.heap[w.heap.size]? = some (.cells #[.slice a n c, .slice a' m c'] 25) := by rw [← hW0]; exact heap_new _ _
  have d1 := (cells_at hbox 1).1
  simp at d1
  obtain ⟨W1, hmk, ho1, hb1, hs1⟩ := made_bools W0 m hm
  have HA := hide bA
  have Hb := hide (bA.trans (hb1.mono bA.size))
  have Ho := hide (ho1.mono bA.size)
  have HRW : Hid (∀ W, Below w.heap.size w W → intE.Rd W (.slice aM k0 cM) ms) := hide (fun W h => hv.keep h)
  have Hn := hide hn
  have HW0 := hide hW0
  have i0 : (k0 : Int) ≤ 100000 := by omega
  have i1 : (m : Int) ≤ 100000 := by omega
  obtain ⟨g, hg⟩ : ∃ g, W0.heap.size = g := ⟨_, rfl⟩
  rw [hg] at hmk
  rw [hg] at Ho
  have Hg : Hid (w.heap.size ≤ g) := hide (by rw [← hg]; exact bA.size)
  clear hv hl hm hn hbox bA hW0 ho1 hb1 hs1 hg
  go_enter Tryz.func115, Tryz.ntmps115
  go_upto_region 1 with fail
  rw [HW0.out]
  clear HW0
  go_wp2_with fail
  go_loopw [14] (fun v14 wr => ∃ k : Nat, k ≤ k0 ∧ v14 = .int .i64 k ∧ Hid (boolE.Own wr w.heap.size (.slice (some ⟨g, 0, none⟩) m m) (clo m (ms.take k))) ∧ Hid (Below w.heap.size w wr)) (fun v14 _ => k0 - (intOf v14).toNat)
  case atStart => exact ⟨0, by omega, rfl, by rw [List.take_zero, clo_nil]; exact Ho, Hb⟩
  case round =>
    obtain ⟨k, hk, rfl, HO, HB⟩ := hrel
    by_cases hlt : k < k0
    · obtain ⟨p, hp⟩ : ∃ p, ms[k]? = some p := ⟨_, List.getElem?_eq_getElem (by rw [Hn.out]; exact hlt)⟩
      obtain ⟨b, off, rfl, c0⟩ := int_at (HRW.out wr HB.out) k p hp
      have j0 : (0 : Int) ≤ (k : Int) := by omega
      have j1 : (k : Int) < (k0 : Int) := by omega
      have Htk : Hid (ms.take (k + 1) = ms.take k ++ [p]) := hide (by rw [List.take_add_one, hp]; rfl)
      clear hp
      by_cases hin : 1 ≤ p ∧ p ≤ (m : Int)
      · obtain ⟨q, hq⟩ := Int.eq_ofNat_of_zero_le (show 0 ≤ p - 1 by omega)
        have hpq : p = (q : Int) + 1 := by omega
        subst hpq
        have q0 : ((1 : Int) ≤ (q : Int) + 1) := hin.1
        have q1 : ((q : Int) + 1 ≤ (m : Int)) := hin.2
        have q2 : (q : Int) < (m : Int) := by omega
        have hq' : q < (clo m (ms.take k)).length := by rw [clo_len]; omega
        obtain ⟨y0, f0⟩ := HO.out.at1 Value.bool (fun _ => rfl) rfl q _ (List.getElem?_eq_getElem hq')
        generalize (clo m (ms.take k))[q] = old at y0
        have HO1 : Hid (boolE.Own (wr.setCell ⟨g, q, none⟩ (.bool true)) w.heap.size (.slice (some ⟨g, 0, none⟩) m m) (clo m (ms.take (k + 1)))) := hide (by
          rw [Htk.out, clo_in m _ _ q0 q1]
          have := HO.out.set Value.bool (fun _ => rfl) rfl q true
          rwa [show ((q : Int) + 1 - 1).toNat = q by omega])
        have HB1 : Hid (Below w.heap.size w (wr.setCell ⟨g, q, none⟩ (.bool true))) := hide (HB.out.setCell (p := ⟨g, q, none⟩) Hg.out _)
        clear hin hq hq' Htk
        go_wp2_with fail
        go_roundw
        case rel => exact ⟨k + 1, by omega, by go_num, HO1, HB1⟩
        case measure => simp [intOf]; omega
      · have HO1 : Hid (boolE.Own wr w.heap.size (.slice (some ⟨g, 0, none⟩) m m) (clo m (ms.take (k + 1)))) := hide (by rw [Htk.out, clo_off m _ _ hin]; exact HO.out)
        clear Htk
        by_cases q0 : 1 ≤ p
        · have q1 : ¬ p ≤ (m : Int) := fun h => hin ⟨q0, h⟩
          clear hin
          go_wp2_with fail
          go_roundw
          case rel => exact ⟨k + 1, by omega, by go_num, HO1, HB⟩
          case measure => simp [intOf]; omega
        · clear hin
          go_wp2_with fail
          go_roundw
          case rel => exact ⟨k + 1, by omega, by go_num, HO1, HB⟩
          case measure => simp [intOf]; omega
    · obtain rfl : k = k0 := by omega
      have j1 : ¬ (k : Int) < (k : Int) := by omega
      have e1 : Hid (ms.take k = ms) := hide (List.take_of_length_le (by rw [Hn.out]; omega))
      go_wp2_with fail
      go_ret
      refine ⟨⟨_, rfl, ?_⟩, HB.out⟩
      have := HO.out
      rwa [e1.out] at this
open Go.RowKit
set_option maxRecDepth 100000 in
set_option maxHeartbeats 2000000 in
theorem w_idx_any (a : Option Addr) (c n : Nat) (ms : List Int) (d : Int) (w : World) (hn : ms.length = n) (hv : intE.Rd w (.slice a n c) ms) (hl : n ≤ 100000) :
    Calls Tryz.prog 112 #[.slice a n c, .int .i64 d] w fun e w' => (∃ i : Int, e = .returned (.int .i64 i) ∧ decide (0 ≤ i) = decide (d ∈ ms)) ∧ w' = w := by
  have Hn := hide hn
  have Hv := hide hv
  have i0 : (n : Int) ≤ 100000 := by omega
  have yes : Hid (∀ k : Nat, ms[k]? = some d → decide (d ∈ ms) = true) := hide (fun k h => decide_eq_true (List.mem_of_getElem? h))
  have no : Hid ((∀ k : Nat, k < n → ms[k]? ≠ some d) → decide (d ∈ ms) = false) := hide (fun h => decide_eq_false (fun h' => by
    obtain ⟨k, hk⟩ := List.getElem?_of_mem h'
    refine h k ?_ hk
    rcases Nat.lt_or_ge k ms.length with g | g
    · omega
    · rw [List.getElem?_eq_none g] at hk; cases hk))
  generalize decide (d ∈ ms) = res at *
  clear hn hv hl
  go_enter Tryz.func112, Tryz.ntmps112
  go_wp2_with fail
  go_loopw [8] (fun v8 wr => ∃ k : Nat, wr = w ∧ v8 = .int .i64 k ∧ k ≤ n ∧ Hid (∀ i : Nat, i < k → ms[i]? ≠ some d)) (fun v8 _ => n - (intOf v8).toNat)
  case atStart => exact ⟨0, rfl, rfl, Nat.zero_le _, hide (fun i hi => by omega)⟩
  case round =>
    obtain ⟨k, rfl, rfl, hk, HX⟩ := hrel
    by_cases hlt : k < n
    · obtain ⟨p, hp⟩ : ∃ p, ms[k]? = some p := ⟨_, List.getElem?_eq_getElem (by rw [Hn.out]; exact hlt)⟩
      obtain ⟨b, off, rfl, c0⟩ := int_at Hv.out k p hp
      have j0 : (0 : Int) ≤ (k : Int) := by omega
      have j1 : (k : Int) < (n : Int) := by omega
      have Hp := hide hp
      clear hp
      by_cases he : d = p
      · subst he
        have e1 := yes.out k Hp.out
        subst e1
        go_wp2_with fail
        go_ret
        exact ⟨⟨_, rfl, by omega⟩, rfl⟩
      · have hbe : (d == p) = false := beq_eq_false_iff_ne.2 he
        have HX1 : Hid (∀ i : Nat, i < k + 1 → ms[i]? ≠ some d) := hide (fun i hi h => by
          rcases Nat.lt_or_ge i k with g | g
          · exact HX.out i g h
          · obtain rfl : i = k := by omega
            rw [Hp.out] at h; exact he (Option.some.inj h).symm)
        go_wp2_with fail
        go_roundw
        case rel => exact ⟨k + 1, trivial, by go_num, by omega, HX1⟩
        case measure => simp [intOf]; omega
    · obtain rfl : k = n := by omega
      have j1 : ¬ (k : Int) < (k : Int) := by omega
      have e1 := no.out HX.out
      subst e1
      go_wp2_with fail
      go_ret
      exact ⟨⟨_, rfl, by decide⟩, rfl⟩
set_option maxRecDepth 100000 in
theorem w_contains_any (a : Option Addr) (c n : Nat) (ms : List Int) (d : Int) (w : World) (hn : ms.length = n) (hv : intE.Rd w (.slice a n c) ms) (hl : n ≤ 100000) :
  Calls Tryz.prog 130 #[.slice a n c, .int .i64 d] w fun e w' => e = .returned (.bool (decide (d ∈ ms))) ∧ w' = w := by
 have K49 := hide (w_idx_any a c n ms d w hn hv hl)
 clear hn hv hl
 generalize decide (d ∈ ms) = res at *
 go_enter Tryz.func130, Tryz.ntmps130
 go_wp2_with (go_at_call 112; refine (K49.out).mono ?_; rintro e W1 ⟨⟨r, rfl, hr⟩, rfl⟩; have Hr := hide hr; clear hr)
 go_ret
 exact ⟨by rw [← Hr.out]; rfl, rfl⟩
theorem own_room (w : World) (B G : Nat) (hB : B ≤ w.heap.size) (hG : G ≤ maxLen) (zs : Array Value) (hz : zs.size = G) : intE.Own (w.alloc (.cells zs 3)) B (.slice (some ⟨w.heap.size, 0, none⟩) 0 G) [] :=
 ⟨by simp [El.fl], .inr ⟨w.heap.size, G, zs, rfl, hB, heap_new _ _, Nat.zero_le _, hG, by rw [hz]; show G = G * 1; omega, by simp [El.fl]⟩⟩
set_option maxRecDepth 100000 in
set_option maxHeartbeats 2000000 in
theorem grow_nil (n : Nat) (w : World) (hn : n ≤ 1000000) :
    Calls Tryz.prog 238 #[.slice none 0 0, .int .i64 (n : Int)] w fun e w' => (∃ v, e = .returned v ∧ intE.Own w' w.heap.size v []) ∧ Below w.heap.size w w' := by
  have h1 : ¬ ((n : Int) < 0) := by omega
  have h5 : (n : Int) ≤ 1000000 := by omega
  by_cases h0 : n = 0
  · subst h0
    go_enter Tryz.func238, Tryz.ntmps238
    go_wp2_with fail
    go_ret
    exact ⟨⟨_, rfl, El.Own.nil _ _ _⟩, Below.refl _ _⟩
  obtain ⟨i, hi, he⟩ := Option.map_eq_some_iff.1 intE.info
  have e1 : i.zero = some (.int .i64 0) := congrArg Prod.fst he
  have e2 : i.size = 1 := congrArg (fun p => p.2.1) he
  have e3 : i.bytes = 8 := congrArg (fun p => p.2.2) he
  have hr := fun ty => Lib.run_append_nil_zeros (P := Tryz.prog) w 40 3 ty 3 i (.int .i64 0) .i64 .i64 Tryz.underlying40 Tryz.underlying3 hi e1 n (by omega) (by rw [e2]; omega) (by omega) (by rw [e3]; omega)
  obtain ⟨G, hG⟩ : ∃ G, grownCap w n 0 3 = G := ⟨_, rfl⟩
  have hGn : n ≤ G := by rw [← hG]; exact grownCap_ge w _ _ _
  have hGm : G ≤ maxLen := by rw [← hG]; exact grownCap_le_maxLen w _ _ _ (by unfold maxLen; omega)
  rw [hG] at hr
  have Hb : Hid (∀ zs : Array Value, Below w.heap.size w (w.drew.alloc (.cells zs 3))) := hide (fun zs => ((Below.refl _ _).drew).alloc (Nat.le_refl _) _)
  have Ho : Hid (∀ zs : Array Value, zs.size = G → intE.Own (w.drew.alloc (.cells zs 3)) w.heap.size (.slice (some ⟨w.heap.size, 0, none⟩) 0 G) []) := hide (fun zs hz => own_room w.drew w.heap.size G (Nat.le_refl _) hGm zs hz)
  have Hz : Hid ((Builtin.zeroCells (Value.int .i64 0).cells n ++ Builtin.zeroCells (Value.int .i64 0).cells (G - n)).size = G) := hide (by
    rw [Array.size_append, size_zeroCells, size_zeroCells]; show n * 1 + (G - n) * 1 = G; omega)
  obtain ⟨zs, hzs⟩ : ∃ zs, Builtin.zeroCells (Value.int .i64 0).cells n ++ Builtin.zeroCells (Value.int .i64 0).cells (G - n) = zs := ⟨_, rfl⟩
  rw [hzs] at Hz hr
  have h2 : (n : Int) > 0 := by omega
  have hG6 : (G : Int) ≤ 9223372036854775807 := by unfold maxLen at hGm; omega
  have hGn' : (n : Int) ≤ (G : Int) := by omega
  have Hr := hide hr
  clear hi he e1 e2 e3 hG hGm hzs hr h0 hn hGn
  go_enter Tryz.func238, Tryz.ntmps238
  go_wp2_with (at_builtin; refine Lib.wpList_append_run _ rfl _ _ _ _ rfl _ _ rfl rfl _ _ (Hr.out _) ?_; have Hr := True.intro)
  go_ret
  exact ⟨⟨_, rfl, Ho.out _ Hz.out⟩, Hb.out _⟩
set_option maxRecDepth 100000 in
set_option maxHeartbeats 4000000 in
theorem concat_any (g : Nat) (a b : Option Addr) (n c m d : Nat) (xs ys : List Int) (w : World) (hn : xs.length = n) (hm : ys.length = m) (c0 : w.cell? ⟨g, 0, none⟩ = some (.slice a n c)) (c1 : w.cell? ⟨g, 1, none⟩ = some (.slice b m d))
    (hv : intE.Rd w (.slice a n c) xs) (hu : intE.Rd w (.slice b m d) ys) (hl : n ≤ 100000) (hl' : m ≤ 100000) :
    Calls Tryz.prog 216 #[.slice (some ⟨g, 0, none⟩) 2 2] w fun e w' => (∃ v, e = .returned v ∧ intE.Own w' w.heap.size v (xs ++ ys)) ∧ Below w.heap.size w w' := by
  have HC : Hid (∀ W, Below w.heap.size w W → W.cell? ⟨g, 0, none⟩ = some (.slice a n c) ∧ W.cell? ⟨g, 1, none⟩ = some (.slice b m d)) := hide (fun W h => by
    rw [h.cell (p := ⟨g, 0, none⟩) (cell_lt c0), h.cell (p := ⟨g, 1, none⟩) (cell_lt c1)]; exact ⟨c0, c1⟩)
  have HR : Hid (∀ W, Below w.heap.size w W → intE.Rd W (.slice a n c) xs ∧ intE.Rd W (.slice b m d) ys) := hide (fun W h => ⟨hv.keep h, hu.keep h⟩)
  have K44 := hide (grow_nil (n + m) w (by omega))
  rw [show ((n + m : Nat) : Int) = (n : Int) + (m : Int) by omega] at K44
  have Hn := hide hn
  have Hm := hide hm
  have i0 : (n : Int) ≤ 100000 := by omega
  have i1 : (m : Int) ≤ 100000 := by omega
  have i2 : (0 : Int) ≤ (n : Int) := by omega
  have i3 : (0 : Int) ≤ (m : Int) := by omega
  clear hv hu hn hm hl hl'
  go_enter Tryz.func216, Tryz.ntmps216
  go_upto_region 3 with fail
  go_loopw [3, 11] (fun v3 v11 wr => ∃ k : Nat, k ≤ 2 ∧ v11 = .int .i64 k ∧ wr = w ∧ v3 = .int .i64 (if k = 0 then 0 else if k = 1 then (n : Int) else (n : Int) + (m : Int))) (fun _ v11 _ => 2 - (intOf v11).toNat)
  case atStart => exact ⟨0, by omega, rfl, rfl, rfl⟩
  case round =>
    obtain ⟨k, hk, rfl, hw, rfl⟩ := hrel
    have hw' := hw.symm
    clear hw
    subst hw'
    rcases k with _ | _ | _ | k
    · go_wp2_with fail
      go_roundw
      case rel => exact ⟨1, by omega, rfl, trivial, by simp⟩
      case measure => simp [intOf]
    · have q1 : ¬ ((n : Int) + (m : Int) < 0) := by omega
      go_wp2_with fail
      go_roundw
      case rel => exact ⟨2, by omega, rfl, trivial, by simp⟩
      case measure => simp [intOf]
    · go_upto_region 11 with (go_at_call 238; refine (K44.out).mono ?_; rintro e W1 ⟨⟨v6, rfl, ho⟩, hb⟩; have Ho := hide ho; have Hb := hide hb; clear ho hb)
      go_loopw [6, 27] (fun v6 v27 wr => ∃ k : Nat, k ≤ 2 ∧ v27 = .int .i64 k ∧ Hid (Below w.heap.size w wr) ∧ Hid (intE.Own wr w.heap.size v6 (if k = 0 then [] else if k = 1 then xs else xs ++ ys))) (fun _ v27 _ => 2 - (intOf v27).toNat)
      case atStart => exact ⟨0, by omega, rfl, Hb, Ho⟩
      case round =>
        obtain ⟨k, hk, rfl, HB, HO⟩ := hrel
        obtain ⟨x0, x1⟩ := HC.out _ HB.out
        rcases k with _ | _ | _ | k
        · go_wp2_with (at_builtin; refine intE.wp (w0 := w) HB.out (by rfl) _ _ rfl _ _ rfl rfl [] xs HO.out (HR.out _ HB.out).1 (by rw [Hn.out]; simp; omega) ?_; intro v1 w2 ho2 _ _ hb2; refine Hid.out ?_)
          refine hide ?_
          have HO3 := hide ho2
          have HB3 := hide hb2
          clear ho2 hb2
          go_wp2_with fail
          go_roundw
          case rel => exact ⟨1, by omega, rfl, HB3, HO3⟩
          case measure => simp [intOf]
        · go_wp2_with (at_builtin; refine intE.wp (w0 := w) HB.out (by rfl) _ _ rfl _ _ rfl rfl xs ys HO.out (HR.out _ HB.out).2 (by rw [Hn.out, Hm.out]; omega) ?_; intro v1 w2 ho2 _ _ hb2; refine Hid.out ?_)
          refine hide ?_
          have HO3 := hide ho2
          have HB3 := hide hb2
          clear ho2 hb2
          go_wp2_with fail
          go_roundw
          case rel => exact ⟨2, by omega, rfl, HB3, HO3⟩
          case measure => simp [intOf]
        · go_wp2_with fail
          go_ret
          exact ⟨⟨_, rfl, HO.out⟩, HB.out⟩
        · omega
    · omega
open Go.RowKit
set_option maxRecDepth 100000 in
set_option maxHeartbeats 2000000 in
theorem places_any (a a' aX : Option Addr) (n c m c' k cX : Nat) (xs : List Int) (w : World) (hk : xs.length = k) (hv : intE.Rd w (.slice aX k cX) xs) (hl : k ≤ 100000) :
    Calls Tryz.prog 214 #[.agg #[.slice a n c, .slice a' m c'], .slice aX k cX] w fun e w' => e = .returned (.bool (decide (∀ x ∈ xs, 0 ≤ x ∧ x < (n : Int)))) ∧ Below w.heap.size w w' := by
  obtain ⟨W0, hW0⟩ : ∃ W0, w.alloc (.cells #[.slice a n c, .slice a' m c'] 25) = W0 := ⟨_, rfl⟩
  have bA : Below w.heap.size w W0 := by rw [← hW0]; exact (Below.refl _ _).alloc (Nat.le_refl _) _
  have hbox : W0.heap[w.heap.size]? = some (.cells #[.slice a n c, .slice a' m c'] 25) := by rw [← hW0]; exact heap_new _ _
  have d0 := (cells_at hbox 0).1
  simp at d0
  have HA := hide bA
  have Hv := hide (hv.keep bA)
  have Hk := hide hk
  have HW0 := hide hW0
  have i0 : (k : Int) ≤ 100000 := by omega
  have no : Hid (∀ (j : Nat) (x : Int), xs[j]? = some x → ¬ (0 ≤ x ∧ x < (n : Int)) → decide (∀ x ∈ xs, 0 ≤ x ∧ x < (n : Int)) = false) := hide (fun j x h h' => decide_eq_false (fun g => h' (g x (List.mem_of_getElem? h))))
  have yes : Hid ((∀ (j : Nat), j < k → ∀ x, xs[j]? = some x → 0 ≤ x ∧ x < (n : Int)) → decide (∀ x ∈ xs, 0 ≤ x ∧ x < (n : Int)) = true) := hide (fun h => decide_eq_true (fun x hx => by
    obtain ⟨j, hj⟩ := List.getElem?_of_mem hx
    refine h j ?_ x hj
    rcases Nat.lt_or_ge j xs.length with g | g
    · omega
    · rw [List.getElem?_eq_none g] at hj; cases hj))
  generalize decide (∀ x ∈ xs, 0 ≤ x ∧ x < (n : Int)) = res at *
  clear hk hv hl hbox bA hW0
  go_enter Tryz.func214, Tryz.ntmps214
  go_upto_region 1 with fail
  rw [HW0.out]
  clear HW0
  go_wp2_with fail
  go_loopw [9] (fun v9 wr => ∃ i : Nat, wr = W0 ∧ v9 = .int .i64 i ∧ i ≤ k ∧ Hid (∀ j : Nat, j < i → ∀ x, xs[j]? = some x → 0 ≤ x ∧ x < (n : Int))) (fun v9 _ => k - (intOf v9).toNat)
  case atStart => exact ⟨0, rfl, rfl, Nat.zero_le _, hide (fun i hi => by omega)⟩
  case round =>
    obtain ⟨i, rfl, rfl, hi, HX⟩ := hrel
    by_cases hlt : i < k
    · obtain ⟨p, hp⟩ : ∃ p, xs[i]? = some p := ⟨_, List.getElem?_eq_getElem (by rw [Hk.out]; exact hlt)⟩
      obtain ⟨b, off, rfl, c0⟩ := int_at Hv.out i p hp
      have j0 : (0 : Int) ≤ (i : Int) := by omega
      have j1 : (i : Int) < (k : Int) := by omega
      have Hp := hide hp
      clear hp
      by_cases h1 : p < 0
      · have e1 := no.out i p Hp.out (fun h => by omega)
        subst e1
        go_wp2_with fail
        go_ret
        exact ⟨rfl, HA.out⟩
      · by_cases h2 : p ≥ (n : Int)
        · have e1 := no.out i p Hp.out (fun h => by omega)
          subst e1
          go_wp2_with fail
          go_ret
          exact ⟨rfl, HA.out⟩
        · have HX1 : Hid (∀ j : Nat, j < i + 1 → ∀ x, xs[j]? = some x → 0 ≤ x ∧ x < (n : Int)) := hide (fun j hj x h => by
            rcases Nat.lt_or_ge j i with g | g
            · exact HX.out j g x h
            · obtain rfl : j = i := by omega
              rw [Hp.out] at h; obtain rfl := Option.some.inj h; omega)
          go_wp2_with fail
          go_roundw
          case rel => exact ⟨i + 1, trivial, by go_num, by omega, HX1⟩
          case measure => simp [intOf]; omega
    · obtain rfl : i = k := by omega
      have j1 : ¬ (i : Int) < (i : Int) := by omega
      have e1 := yes.out HX.out
      subst e1
      go_wp2_with fail
      go_ret
      exact ⟨rfl, HA.out⟩
theorem place1 (x : Int) (n : Nat) : decide (∀ y ∈ [x], 0 ≤ y ∧ y < (n : Int)) = decide (0 ≤ x ∧ x < (n : Int)) := by simp
theorem place2 (x y : Int) (n : Nat) : decide (∀ z ∈ [x, y], 0 ≤ z ∧ z < (n : Int)) = decide ((0 ≤ x ∧ x < (n : Int)) ∧ 0 ≤ y ∧ y < (n : Int)) := by simp
set_option maxRecDepth 100000 in
theorem lplace_any (a : Option Addr) (n c : Nat) (i : Int) (w : World) : Calls Tryz.prog 193 #[.slice a n c, .int .i64 i] w fun e w' => e = .returned (.bool (decide (0 ≤ i ∧ i < (n : Int)))) ∧ w' = w := by
  by_cases h1 : 0 ≤ i
  · by_cases h2 : i < (n : Int)
    · rw [decide_eq_true ⟨h1, h2⟩]
      go_enter Tryz.func193, Tryz.ntmps193
      go_wp2_with fail
      go_ret
      exact ⟨rfl, rfl⟩
    · rw [decide_eq_false (fun h => h2 h.2)]
      go_enter Tryz.func193, Tryz.ntmps193
      go_wp2_with fail
      go_ret
      exact ⟨rfl, rfl⟩
  · rw [decide_eq_false (fun h => h1 h.1)]
    go_enter Tryz.func193, Tryz.ntmps193
    go_wp2_with fail
    go_ret
    exact ⟨rfl, rfl⟩
def dvs (es : List Ed) (p : Ed → Prop) [DecidablePred p] : Nat → List Int
 | 0 => []
 | k + 1 => dvs es p k ++ (match es[k]? with
  | some e => if p e then [((k + 1 : Nat) : Int)] else []
  | none => [])
theorem dvs_len (es : List Ed) (p : Ed → Prop) [DecidablePred p] : ∀ k, (dvs es p k).length ≤ k
  | 0 => by simp [dvs]
  | k + 1 => by
    have := dvs_len es p k
    unfold dvs
    split
    · split <;> simp <;> omega
    · simp; omega
theorem dvs_mem (es : List Ed) (p : Ed → Prop) [DecidablePred p] (d : Int) : ∀ k, d ∈ dvs es p k ↔ ∃ (i : Nat) (e : Ed), i < k ∧ d = ((i + 1 : Nat) : Int) ∧ es[i]? = some e ∧ p e
  | 0 => by simp [dvs]
  | k + 1 => by
    have ih := dvs_mem es p d k
    have hs : d ∈ dvs es p (k + 1) ↔ d ∈ dvs es p k ∨ ∃ e, d = ((k + 1 : Nat) : Int) ∧ es[k]? = some e ∧ p e := by
      show d ∈ dvs es p k ++ _ ↔ _
      rw [List.mem_append]
      cases h : es[k]? with
      | none => simp
      | some e => by_cases hp : p e <;> simp [hp]
    rw [hs, ih]
    constructor
    · rintro (⟨i, e, h1, h2⟩ | ⟨e, h1, h2⟩)
      · exact ⟨i, e, by omega, h2⟩
      · exact ⟨k, e, by omega, h1, h2⟩
    · rintro ⟨i, e, h1, h2, h3⟩
      rcases Nat.lt_or_ge i k with g | g
      · exact .inl ⟨i, e, g, h2, h3⟩
      · obtain rfl : i = k := by omega
        exact .inr ⟨e, h2, h3⟩
def outs (es : List Ed) (x : Int) : List Int := dvs es (fun e => e.1 = x) es.length
def shut (es : List Ed) (b : Int) (full : List Int) : List Int := dvs es (fun e => e.2 ≠ b ∧ e.2 ∈ full) es.length
set_option maxRecDepth 100000 in
set_option maxHeartbeats 2000000 in
theorem out_any (a a' : Option Addr) (c c' n m : Nat) (es : List Ed) (x : Int) (w : World) (hm : es.length = m) (hu : edE.Rd w (.slice a' m c') es) (hl : m ≤ 100000) (hx : 0 ≤ x ∧ x < (n : Int)) :
    Calls Tryz.prog 251 #[.agg #[.slice a n c, .slice a' m c'], .int .i64 x] w fun e w' => (∃ v, e = .returned v ∧ intE.Own w' w.heap.size v (outs es x)) ∧ Below w.heap.size w w' := by
  obtain ⟨W0, hW0⟩ : ∃ W0, w.alloc (.cells #[.slice a n c, .slice a' m c'] 25) = W0 := ⟨_, rfl⟩
  have bA : Below w.heap.size w W0 := by rw [← hW0]; exact (Below.refl _ _).alloc (Nat.le_refl _) _
  have K33 := hide (fun i W => lplace_any a n c i W)
  have HA := hide bA
  have HE : Hid (outs es x = dvs es (fun e => e.1 = x) m) := hide (by rw [← hm]; rfl)
  have tx : decide (0 ≤ x ∧ x < (n : Int)) = true := decide_eq_true hx
  have Hu := hide (hu.keep bA)
  have HuW : Hid (∀ W, Below w.heap.size w W → edE.Rd W (.slice a' m c') es) := hide (fun W h => hu.keep h)
  have Hm := hide hm
  have HW0 := hide hW0
  have i0 : (m : Int) ≤ 100000 := by omega
  have i1 : (0 : Int) ≤ (m : Int) := by omega
  clear hx hu hm hl hW0 bA
  generalize outs es x = oes at *
  go_enter Tryz.func251, Tryz.ntmps251
  go_wp2_with (go_at_call 193; refine (K33.out _ _).mono ?_; rintro e W1 ⟨rfl, rfl⟩; rw [tx])
  rw [HW0.out]
  clear HW0 tx K33
  go_loopw [5, 16] (fun v5 v16 wr => ∃ k : Nat, k ≤ m ∧ v16 = .int .i64 k ∧ Hid (intE.Own wr w.heap.size v5 (dvs es (fun e => e.1 = x) k)) ∧ Hid (Below w.heap.size w wr)) (fun _ v16 _ => m - (intOf v16).toNat)
  case atStart => exact ⟨0, by omega, rfl, hide (El.Own.nil _ _ _), HA⟩
  case round =>
    obtain ⟨k, hk, rfl, HO, HB⟩ := hrel
    by_cases hlt : k < m
    · obtain ⟨p, hp⟩ : ∃ p, es[k]? = some p := ⟨_, List.getElem?_eq_getElem (by rw [Hm.out]; exact hlt)⟩
      obtain ⟨y, z⟩ := p
      obtain ⟨b, off, rfl, c0, c1⟩ := ed_at (HuW.out wr HB.out) k (y, z) hp
      simp only at c0 c1
      have j0 : (0 : Int) ≤ (k : Int) := by omega
      have j1 : (k : Int) < (m : Int) := by omega
      have Hno : Hid (¬ y = x → dvs es (fun e => e.1 = x) (k + 1) = dvs es (fun e => e.1 = x) k) := hide (fun h => by show dvs es (fun e => e.1 = x) k ++ _ = _; rw [hp]; simp [h])
      have Hye : Hid (y = x → dvs es (fun e => e.1 = x) (k + 1) = dvs es (fun e => e.1 = x) k ++ [((k + 1 : Nat) : Int)]) := hide (fun h => by show dvs es (fun e => e.1 = x) k ++ _ = _; rw [hp]; simp [h])
      have Hln := hide (dvs_len es (fun e => e.1 = x) k)
      have Hm2 := hide (And.intro hlt i0)
      clear hp
      by_cases he : y = x
      · have Hnx := hide (Hye.out he)
        subst he
        have b1 := HB.out.alloc HB.out.size (.cells #[.int .i64 y, .int .i64 z] 65)
        have Hb2 := hide (b1.alloc b1.size (.cells #[.int .i64 ((k : Int) + 1)] 3))
        have Ho2 : Hid (intE.Own ((wr.alloc (.cells #[.int .i64 y, .int .i64 z] 65)).alloc (.cells #[.int .i64 ((k : Int) + 1)] 3)) w.heap.size u5 (dvs es (fun e => e.1 = y) k)) := hide (World.ownsRow.alloc (World.ownsRow.alloc HO.out _) _)
        clear b1 Hno Hye
        generalize dvs es (fun e => e.1 = y) k = xs at *
        go_wp2_with (at_builtin; refine intE.wp (w0 := w) Hb2.out (by rfl) _ _ rfl _ _ rfl rfl xs [(k : Int) + 1] Ho2.out (int_new _ _ _ (by simp)) (by have := Hln.out; have := Hm2.out; simp; omega) ?_; intro v1 w2 ho2 _ _ hb2; refine Hid.out ?_)
        refine hide ?_
        have HO3 := hide ho2
        have HB3 := hide hb2
        clear ho2 hb2
        go_wp2_with fail
        go_roundw
        case rel => exact ⟨k + 1, by omega, by go_num, by rw [Hnx.out]; exact HO3, HB3⟩
        case measure => simp [intOf]; omega
      · have Hnx := hide (Hno.out he)
        have hbe : (y == x) = false := beq_eq_false_iff_ne.2 he
        have HO2 : Hid (intE.Own (wr.alloc (.cells #[.int .i64 y, .int .i64 z] 65)) w.heap.size u5 (dvs es (fun e => e.1 = x) k)) := hide (World.ownsRow.alloc HO.out _)
        have HB2 : Hid (Below w.heap.size w (wr.alloc (.cells #[.int .i64 y, .int .i64 z] 65))) := hide (HB.out.alloc HB.out.size _)
        clear Hno Hye
        go_wp2_with fail
        go_roundw
        case rel => exact ⟨k + 1, by omega, by go_num, by rw [Hnx.out]; exact HO2, HB2⟩
        case measure => simp [intOf]; omega
    · obtain rfl : k = m := by omega
      have j1 : ¬ (k : Int) < (k : Int) := by omega
      go_wp2_with fail
      go_ret
      exact ⟨⟨_, rfl, by rw [HE.out]; exact HO.out⟩, HB.out⟩
set_option maxRecDepth 100000 in
set_option maxHeartbeats 2000000 in
theorem shut_any (a a' aX : Option Addr) (c c' n m kX cX : Nat) (es : List Ed) (b : Int) (fs : List Int) (w : World) (hm : es.length = m) (hu : edE.Rd w (.slice a' m c') es) (hl : m ≤ 100000) (hk : fs.length = kX) (hv : intE.Rd w (.slice aX kX cX) fs) (hl' : kX ≤ 100000) :
    Calls Tryz.prog 217 #[.agg #[.slice a n c, .slice a' m c'], .int .i64 b, .slice aX kX cX] w fun e w' => (∃ v, e = .returned v ∧ intE.Own w' w.heap.size v (shut es b fs)) ∧ Below w.heap.size w w' := by
  obtain ⟨W0, hW0⟩ : ∃ W0, w.alloc (.cells #[.slice a n c, .slice a' m c'] 25) = W0 := ⟨_, rfl⟩
  have bA : Below w.heap.size w W0 := by rw [← hW0]; exact (Below.refl _ _).alloc (Nat.le_refl _) _
  have hbox : W0.heap[w.heap.size]? = some (.cells #[.slice a n c, .slice a' m c'] 25) := by rw [← hW0]; exact heap_new _ _
  have d1 := (cells_at hbox 1).1
  simp at d1
  have HA := hide bA
  have HE : Hid (shut es b fs = dvs es (fun e => e.2 ≠ b ∧ e.2 ∈ fs) m) := hide (by rw [← hm]; rfl)
  have HuW : Hid (∀ W, Below w.heap.size w W → edE.Rd W (.slice a' m c') es) := hide (fun W h => hu.keep h)
  have K42 : Hid (∀ W x, Below w.heap.size w W → Calls Tryz.prog 130 #[.slice aX kX cX, .int .i64 x] W fun e w' => e = .returned (.bool (decide (x ∈ fs))) ∧ w' = W) := hide (fun W x h => w_contains_any aX cX kX fs x W hk (hv.keep h) hl')
  have Hm := hide hm
  have HW0 := hide hW0
  have i0 : (m : Int) ≤ 100000 := by omega
  have i1 : (0 : Int) ≤ (m : Int) := by omega
  clear hu hm hl hW0 bA hbox hk hv hl'
  generalize shut es b fs = oes at *
  obtain ⟨P, hP⟩ : ∃ P : Nat → List Int, P = dvs es (fun e => e.2 ≠ b ∧ e.2 ∈ fs) := ⟨_, rfl⟩
  have HP0 : Hid (P 0 = []) := hide (by rw [hP]; rfl)
  have HPn : Hid (∀ (k : Nat) (y z : Int), es[k]? = some (y, z) → P (k + 1) = P k ++ (if z ≠ b ∧ z ∈ fs then [((k + 1 : Nat) : Int)] else [])) := hide (fun k y z h => by rw [hP]; show dvs es _ k ++ _ = _; rw [h])
  have HPl : Hid (∀ k, (P k).length ≤ k) := hide (fun k => by rw [hP]; exact dvs_len _ _ _)
  have HE : Hid (oes = P m) := hide (by rw [hP]; exact HE.out)
  clear hP
  go_enter Tryz.func217, Tryz.ntmps217
  go_upto_region 1 with fail
  rw [HW0.out]
  clear HW0
  go_wp2_with fail
  go_loopw [7, 13] (fun v7 v13 wr => ∃ k : Nat, k ≤ m ∧ v13 = .int .i64 k ∧ Hid (intE.Own wr w.heap.size v7 (P k)) ∧ Hid (Below w.heap.size w wr)) (fun _ v13 _ => m - (intOf v13).toNat)
  case atStart => exact ⟨0, by omega, rfl, hide (by rw [HP0.out]; exact El.Own.nil _ _ _), HA⟩
  case round =>
    obtain ⟨k, hk, rfl, HO, HB⟩ := hrel
    by_cases hlt : k < m
    · obtain ⟨p, hp⟩ : ∃ p, es[k]? = some p := ⟨_, List.getElem?_eq_getElem (by rw [Hm.out]; exact hlt)⟩
      obtain ⟨y, z⟩ := p
      obtain ⟨bb, off, rfl, c0, c1⟩ := ed_at (HuW.out wr HB.out) k (y, z) hp
      simp only at c0 c1
      have j0 : (0 : Int) ≤ (k : Int) := by omega
      have j1 : (k : Int) < (m : Int) := by omega
      have Hnx := hide (HPn.out k y z hp)
      have Hln := hide (HPl.out k)
      have Hm2 := hide (And.intro hlt i0)
      have b1 := hide (HB.out.alloc HB.out.size (.cells #[.int .i64 y, .int .i64 z] 65))
      have HO2 : Hid (intE.Own (wr.alloc (.cells #[.int .i64 y, .int .i64 z] 65)) w.heap.size u7 (P k)) := hide (World.ownsRow.alloc HO.out _)
      clear hp
      by_cases he : z = b
      · have Hnx : Hid (P (k + 1) = P k) := hide (by rw [Hnx.out, if_neg (fun h => h.1 he), List.append_nil])
        have hbe : (z != b) = false := by rw [he]; exact bne_self_eq_false _
        clear he
        go_wp2_with fail
        go_roundw
        case rel => exact ⟨k + 1, by omega, by go_num, by rw [Hnx.out]; exact HO2, b1⟩
        case measure => simp [intOf]; omega
      · have hbe : (z != b) = true := bne_iff_ne.2 he
        by_cases hf : z ∈ fs
        · have Hnx : Hid (P (k + 1) = P k ++ [((k + 1 : Nat) : Int)]) := hide (by rw [Hnx.out, if_pos ⟨he, hf⟩])
          have tf : decide (z ∈ fs) = true := decide_eq_true hf
          have Hb2 := hide (b1.out.alloc b1.out.size (.cells #[.int .i64 ((k : Int) + 1)] 3))
          have Ho2 : Hid (intE.Own ((wr.alloc (.cells #[.int .i64 y, .int .i64 z] 65)).alloc (.cells #[.int .i64 ((k : Int) + 1)] 3)) w.heap.size u7 (P k)) := hide (World.ownsRow.alloc HO2.out _)
          clear he hf
          go_upto_region 6 with (go_at_call 130; refine (K42.out _ _ b1.out).mono ?_; rintro e W1 ⟨rfl, rfl⟩; rw [tf])
          go_wp2_with (at_builtin; refine intE.wp (w0 := w) Hb2.out (by rfl) _ _ rfl _ _ rfl rfl (P k) [(k : Int) + 1] Ho2.out (int_new _ _ _ (by simp)) (by have := Hln.out; have := Hm2.out; simp; omega) ?_; intro v1 w2 ho2 _ _ hb2; refine Hid.out ?_)
          refine hide ?_
          have HO3 := hide ho2
          have HB3 := hide hb2
          clear ho2 hb2
          go_wp2_with fail
          go_roundw
          case rel => exact ⟨k + 1, by omega, by go_num, by rw [Hnx.out]; exact HO3, HB3⟩
          case measure => simp [intOf]; omega
        · have Hnx : Hid (P (k + 1) = P k) := hide (by rw [Hnx.out, if_neg (fun h => hf h.2), List.append_nil])
          have tf : decide (z ∈ fs) = false := decide_eq_false hf
          clear he hf
          go_wp2_with (go_at_call 130; refine (K42.out _ _ b1.out).mono ?_; rintro e W1 ⟨rfl, rfl⟩; rw [tf])
          go_roundw
          case rel => exact ⟨k + 1, by omega, by go_num, by rw [Hnx.out]; exact HO2, b1⟩
          case measure => simp [intOf]; omega
    · obtain rfl : k = m := by omega
      have j1 : ¬ (k : Int) < (k : Int) := by omega
      go_wp2_with fail
      go_ret
      exact ⟨⟨_, rfl, by rw [HE.out]; exact HO.out⟩, HB.out⟩
inductive Way (E : Nat → Nat → Prop) (T : Nat → Prop) (s : Nat) : Nat → Nat → Prop
 | here : Way E T s 0 s
 | step {k u v : Nat} : Way E T s k u → (u = s ∨ T u) → E u v → Way E T s (k + 1) v
section
variable {E : Nat → Nat → Prop} {T : Nat → Prop} {s : Nat}
def Dst (E : Nat → Nat → Prop) (T : Nat → Prop) (s v : Nat) (d : Int) : Prop :=
 (d = -1 ∧ ∀ k, ¬ Way E T s k v) ∨ ∃ k : Nat, d = k ∧ Way E T s k v ∧ ∀ j, Way E T s j v → k ≤ j
theorem Dst.uniq {v : Nat} {d d' : Int} (h : Dst E T s v d) (h' : Dst E T s v d') : d = d' := by
  rcases h with ⟨rfl, h1⟩ | ⟨k, rfl, h2, h3⟩ <;> rcases h' with ⟨rfl, h1'⟩ | ⟨k', rfl, h2', h3'⟩
  · rfl
  · exact absurd h2' (h1 _)
  · exact absurd h2 (h1' _)
  · have := h3 _ h2'
    have := h3' _ h2
    omega
def va (l : List Int) (v : Nat) : Int := l[v]?.getD (-1)
theorem va_set (l : List Int) (i : Nat) (x : Int) (v : Nat) (hi : i < l.length) : va (l.set i x) v = if v = i then x else va l v := by
  unfold va
  rw [List.getElem?_set]
  by_cases h : i = v
  · subst h; simp [hi]
  · rw [if_neg h, if_neg (fun e => h e.symm)]
theorem va_out (l : List Int) (v : Nat) (h : l.length ≤ v) : va l v = -1 := by
 unfold va; rw [List.getElem?_eq_none h]; rfl
theorem va_at (l : List Int) (v : Nat) (h : v < l.length) : l[v]? = some (va l v) := by
 unfold va; rw [List.getElem?_eq_getElem h]; rfl
theorem va_ext {l l' : List Int} (h0 : l.length = l'.length) (h : ∀ v, v < l.length → va l v = va l' v) : l = l' := by
  apply List.ext_getElem?
  intro i
  rcases Nat.lt_or_ge i l.length with hi | hi
  · rw [va_at l i hi, va_at l' i (by omega), h i hi]
  · rw [List.getElem?_eq_none hi, List.getElem?_eq_none (by omega)]
def Far (E : Nat → Nat → Prop) (T : Nat → Prop) (s n : Nat) (l : List Int) : Prop := l.length = n ∧ ∀ v, v < n → Dst E T s v (va l v)
theorem Far.uniq {n : Nat} {l l' : List Int} (h : Far E T s n l) (h' : Far E T s n l') : l = l' :=
 va_ext (by rw [h.1, h'.1]) fun v hv => (h.2 v (by rw [h.1] at hv; exact hv)).uniq (h'.2 v (by rw [h.1] at hv; exact hv))
structure Fnd (E : Nat → Nat → Prop) (T : Nat → Prop) (s n : Nat) (l : List Int) : Prop where
 len : l.length = n
 lt : s < n
 zero : va l s = 0
 low : ∀ v, -1 ≤ va l v
 way : ∀ v (k : Nat), va l v = k → Way E T s k v
def Don (l : List Int) (u v : Nat) : Prop := 0 ≤ va l v ∧ va l v ≤ va l u + 1
theorem Fnd.far {n : Nat} {l : List Int} (h : Fnd E T s n l) (hE : ∀ u v, E u v → (u = s ∨ T u) → 0 ≤ va l u → Don l u v) : Far E T s n l := by
  have key : ∀ {k v}, Way E T s k v → 0 ≤ va l v ∧ va l v ≤ k := by
    intro k v hw
    induction hw with
    | here => rw [h.zero]; omega
    | @step k u v _ h2 h3 ih =>
      have := hE _ _ h3 h2 ih.1
      unfold Don at this
      omega
  refine ⟨h.len, fun v hv => ?_⟩
  by_cases h0 : 0 ≤ va l v
  · obtain ⟨k, hk⟩ := Int.eq_ofNat_of_zero_le h0
    exact .inr ⟨k, hk, h.way v k hk, fun j hj => by have := (key hj).2; omega⟩
  · refine .inl ⟨by have := h.low v; omega, fun k hk => h0 (key hk).1⟩
theorem Fnd.set {n : Nat} {l : List Int} (h : Fnd E T s n l) (u v : Nat) (hu : 0 ≤ va l u) (hT : u = s ∨ T u) (hE : E u v) (hv : v < n) (hs : v ≠ s) : Fnd E T s n (l.set v (va l u + 1)) := by
  have hl : v < l.length := by rw [h.len]; exact hv
  refine ⟨by rw [List.length_set]; exact h.len, h.lt, ?_, fun x => ?_, fun x k hx => ?_⟩
  · rw [va_set _ _ _ _ hl, if_neg (fun e => hs e.symm)]; exact h.zero
  · rw [va_set _ _ _ _ hl]
    split
    · omega
    · exact h.low x
  · rw [va_set _ _ _ _ hl] at hx
    split at hx
    · subst x
      obtain ⟨j, hj⟩ := Int.eq_ofNat_of_zero_le hu
      have := h.way u j hj
      obtain rfl : k = j + 1 := by omega
      exact .step this hT hE
    · exact h.way x k hx
theorem va_start (n s : Nat) (h : s < n) (v : Nat) : va ((List.replicate n (-1)).set s 0) v = if v = s then 0 else -1 := by
  rw [va_set _ _ _ _ (by simpa using h)]
  unfold va
  rw [List.getElem?_replicate]
  split
  · rfl
  · split <;> rfl
theorem Fnd.start (n : Nat) (h : s < n) : Fnd E T s n ((List.replicate n (-1)).set s 0) := by
  refine ⟨by simp, h, by rw [va_start n s h, if_pos rfl], fun v => ?_, fun v k hv => ?_⟩
  · rw [va_start n s h]; split <;> omega
  · rw [va_start n s h] at hv
    split at hv
    · subst v; obtain rfl : k = 0 := by omega
      exact .here
    · omega
def cn (x : Int) : Nat := if 0 ≤ x then 1 else 0
def wt (n : Nat) (x : Int) : Nat := if 0 ≤ x then x.toNat else n
structure Que (T : Nat → Prop) (E : Nat → Nat → Prop) (s n : Nat) (l : List Int) (q : List Nat) (k : Nat) : Prop where
 fnd : Fnd E T s n l
 nodup : q.Nodup
 mem : ∀ v, v ∈ q ↔ 0 ≤ va l v
 rise : ∀ (i j u v : Nat), i ≤ j → q[i]? = some u → q[j]? = some v → va l u ≤ va l v
 near : ∀ (i j u v : Nat), k ≤ i → q[i]? = some u → q[j]? = some v → va l v ≤ va l u + 1
 idx : ∀ (i u : Nat), q[i]? = some u → va l u ≤ i
 don : ∀ (i u v : Nat), i < k → q[i]? = some u → E u v → (u = s ∨ T u) → Don l u v
theorem Que.lt {n : Nat} {l : List Int} {q : List Nat} {k : Nat} (h : Que T E s n l q k) {v : Nat} (hv : v ∈ q) : v < n := by
  have := (h.mem v).1 hv
  rcases Nat.lt_or_ge v n with h' | h'
  · exact h'
  · rw [va_out l v (by rw [h.fnd.len]; exact h')] at this; omega
theorem nodup_len : ∀ (n : Nat) (q : List Nat), q.Nodup → (∀ v ∈ q, v < n) → q.length ≤ n := by
 intro n
 induction n with
 | zero =>
  intro q _ h
  cases q with
  | nil => simp
  | cons x q => exact absurd (h x (by simp)) (by omega)
 | succ n ih =>
  intro q hq h
  have h1 := ih (q.erase n) (hq.erase n) (fun v hv => by
   have hv' := (hq.mem_erase_iff).1 hv
   have := h v hv'.2
   omega)
  rw [List.length_erase] at h1
  split at h1 <;> omega
theorem Que.size {n : Nat} {l : List Int} {q : List Nat} {k : Nat} (h : Que T E s n l q k) : q.length ≤ n := nodup_len n q h.nodup (fun _ hv => h.lt hv)
theorem Que.start (n : Nat) (h : s < n) : Que T E s n ((List.replicate n (-1)).set s 0) [s] 0 := by
  refine ⟨Fnd.start n h, by simp, fun v => ?_, fun i j u v hij hi hj => ?_, fun i j u v _ hi hj => ?_, fun i u hi => ?_, fun i u v hi => by omega⟩
  · rw [va_start n s h, List.mem_singleton]
    split <;> simp_all
  · have e1 : u = s := by have := List.mem_of_getElem? hi; simpa using this
    have e2 : v = s := by have := List.mem_of_getElem? hj; simpa using this
    subst e1; subst e2; omega
  · have e1 : u = s := by have := List.mem_of_getElem? hi; simpa using this
    have e2 : v = s := by have := List.mem_of_getElem? hj; simpa using this
    subst e1; subst e2; omega
  · have e1 : u = s := by have := List.mem_of_getElem? hi; simpa using this
    subst e1
    rw [va_start n u h, if_pos rfl]
    omega
theorem Que.far {n : Nat} {l : List Int} {q : List Nat} (h : Que T E s n l q q.length) : Far E T s n l :=
  h.fnd.far fun u v hE hT hu => by
    obtain ⟨i, hi⟩ := List.getElem?_of_mem ((h.mem u).2 hu)
    have : i < q.length := by
      rcases Nat.lt_or_ge i q.length with h' | h'
      · exact h'
      · rw [List.getElem?_eq_none h'] at hi; cases hi
    exact h.don i u v this hi hE hT
theorem Que.next {n : Nat} {l : List Int} {q : List Nat} {k u : Nat} (h : Que T E s n l q k) (hk : q[k]? = some u) (hd : ∀ v, E u v → (u = s ∨ T u) → Don l u v) : Que T E s n l q (k + 1) := by
  refine ⟨h.fnd, h.nodup, h.mem, h.rise, fun i j x y hi => h.near i j x y (by omega), h.idx, fun i x y hi hx hE hT => ?_⟩
  rcases Nat.lt_or_ge i k with h' | h'
  · exact h.don i x y h' hx hE hT
  · obtain rfl : i = k := by omega
    rw [hk] at hx
    cases hx
    exact hd y hE hT
theorem Que.old {n : Nat} {l : List Int} {q : List Nat} {k u v : Nat} (h : Que T E s n l q k) (hk : q[k]? = some u) (hv : va l v ≠ -1) : Don l u v := by
 have h0 : 0 ≤ va l v := by have := h.fnd.low v; omega
 obtain ⟨i, hi⟩ := List.getElem?_of_mem ((h.mem v).2 h0)
 exact ⟨h0, h.near k i u v (by omega) hk hi⟩
theorem Que.put {n : Nat} {l : List Int} {q : List Nat} {k u v : Nat} (h : Que T E s n l q k) (hk : q[k]? = some u) (hT : u = s ∨ T u) (hE : E u v) (hv : va l v = -1) (hn : v < n) :
    Que T E s n (l.set v (va l u + 1)) (q ++ [v]) k ∧ (∀ x y, Don l x y → x ≠ v → Don (l.set v (va l u + 1)) x y) ∧ Don (l.set v (va l u + 1)) u v ∧ u ≠ v ∧ (q ++ [v])[k]? = some u := by
  have hl : v < l.length := by rw [h.fnd.len]; exact hn
  have hu : 0 ≤ va l u := (h.mem u).1 (List.mem_of_getElem? hk)
  have huv : u ≠ v := fun e => by subst e; omega
  have hkl : k < q.length := by
    rcases Nat.lt_or_ge k q.length with h' | h'
    · exact h'
    · rw [List.getElem?_eq_none h'] at hk; cases hk
  have hvs : v ≠ s := fun e => by have := h.fnd.zero; subst e; omega
  have hvq : v ∉ q := fun e => by have := (h.mem v).1 e; omega
  have V : ∀ x, va (l.set v (va l u + 1)) x = if x = v then va l u + 1 else va l x := fun x => va_set l v _ x hl
  have inq : ∀ {i x : Nat}, (q ++ [v])[i]? = some x → (i < q.length ∧ q[i]? = some x ∧ x ≠ v) ∨ (i = q.length ∧ x = v) := by
    intro i x hx
    rcases Nat.lt_or_ge i q.length with h' | h'
    · rw [List.getElem?_append_left h'] at hx
      exact .inl ⟨h', hx, fun e => hvq (e ▸ List.mem_of_getElem? hx)⟩
    · rw [List.getElem?_append_right h'] at hx
      have : i - q.length = 0 := by
        rcases Nat.eq_zero_or_pos (i - q.length) with h | h
        · exact h
        · rw [List.getElem?_eq_none (by simp; omega)] at hx; cases hx
      rw [this] at hx
      simp at hx
      exact .inr ⟨by omega, hx.symm⟩
  have dn : ∀ x y, Don l x y → x ≠ v → Don (l.set v (va l u + 1)) x y := fun x y hd hx => by
    have hy : y ≠ v := fun e => by subst e; unfold Don at hd; omega
    unfold Don
    rw [V, V, if_neg hy, if_neg hx]
    exact hd
  refine ⟨⟨h.fnd.set u v hu hT hE hn hvs, ?_, fun x => ?_, fun i j x y hij hi hj => ?_, fun i j x y hki hi hj => ?_, fun i x hi => ?_, fun i x y hi hx hE' hT' => ?_⟩, dn, ?_, huv, by rw [List.getElem?_append_left hkl]; exact hk⟩
  · rw [List.nodup_append]
    exact ⟨h.nodup, by simp, fun a ha b hb => by simp at hb; subst hb; exact fun e => hvq (e ▸ ha)⟩
  · rw [List.mem_append, List.mem_singleton, V, h.mem]
    by_cases hx : x = v
    · subst hx; simp; omega
    · simp [hx]
  · rw [V, V]
    rcases inq hi with ⟨h1, h2, h3⟩ | ⟨h1, rfl⟩ <;> rcases inq hj with ⟨g1, g2, g3⟩ | ⟨g1, rfl⟩
    · rw [if_neg h3, if_neg g3]; exact h.rise i j x y hij h2 g2
    · rw [if_neg h3, if_pos rfl]; exact h.near k i u x (Nat.le_refl _) hk h2
    · omega
    · rw [if_pos rfl]; omega
  · rw [V, V]
    rcases inq hi with ⟨h1, h2, h3⟩ | ⟨h1, rfl⟩ <;> rcases inq hj with ⟨g1, g2, g3⟩ | ⟨g1, rfl⟩
    · rw [if_neg h3, if_neg g3]; exact h.near i j x y hki h2 g2
    · rw [if_neg h3, if_pos rfl]
      have := h.rise k i u x hki hk h2
      omega
    · rw [if_neg g3, if_pos rfl]
      have := h.near k j u y (Nat.le_refl _) hk g2
      omega
    · rw [if_pos rfl]; omega
  · rw [V]
    rcases inq hi with ⟨h1, h2, h3⟩ | ⟨h1, rfl⟩
    · rw [if_neg h3]; exact h.idx i x h2
    · rw [if_pos rfl]
      have := h.idx k u hk
      omega
  · rcases inq hx with ⟨h1, h2, h3⟩ | ⟨h1, rfl⟩
    · exact dn x y (h.don i x y hi h2 hE' hT') h3
    · omega
  · unfold Don
    rw [V, V, if_pos rfl, if_neg huv]
    omega
end
end Go.Proofs.YtocmngpoemfpkabGreatDoor
