/- cut and put. -/
import Derived.Test.YtgdoagmnhmfjkaaTpb
namespace Go.Proofs.Ytgdoagmnhmfjkaa
open Go.RowKit
set_option linter.unusedVariables false

theorem can_step {T : Tp} {j : Nat} (h : T.can j = true) (s : Bool) (xs : List Int) : ((T.use j).setA s xs).can 1 = T.can (j + 1) := by
  obtain ⟨A, cn, ar, bd, dd⟩ := T
  unfold Tp.can at h ⊢
  unfold Tp.use Tp.setA
  cases ar
  · rfl
  · simp at h ⊢
    omega
theorem put_no {T : Tp} {j : Nat} {bs : List Int} (h : T.can j = true) (h1 : T.can (j + 1) = false) (hj : j < bs.length) (s : Bool) : T.put s bs = (190, ((T.use j).setA s (T.A s ++ bs.take j)).die) := by
  obtain ⟨A, cn, ar, bd, dd⟩ := T
  unfold Tp.can at h h1
  unfold Tp.put Tp.can
  cases ar
  · simp at h1
  · simp at h h1
    obtain rfl : bd = j := by omega
    have : ¬ (bs.length ≤ bd) := by omega
    simp [this]
theorem size_alloc (w : World) (o : Obj) : (w.alloc o).heap.size = w.heap.size + 1 := by simp
theorem put_yes {T : Tp} {bs : List Int} (h : T.can bs.length = true) (s : Bool) : T.put s bs = (0, (T.use bs.length).setA s (T.A s ++ bs)) := by
  unfold Tp.put
  rw [if_pos h]
section
variable {w0 w : World} {g : Nat} {H : Bool → Value} {T : Tp} {l : List It}
/-- three to the front, past one -/
theorem Its.cutorder {x a b c d : It} (h : Its w0 (x :: a :: b :: c :: d :: l) w) : Its w0 (x :: c :: d :: b :: a :: l) w :=
  h.perm (.cons x (((List.Perm.swap b a (c :: d :: l)).trans ((List.Perm.cons b ((List.Perm.swap c a (d :: l)).trans (.cons c (.swap d a l)))).trans ((List.Perm.swap c b (d :: a :: l)).trans (.cons c (.swap d b (a :: l))))))))
theorem Its.drop4 {x a b c d : It} (h : Its w0 (x :: a :: b :: c :: d :: l) w) : Its w0 (x :: l) w :=
  h.swap.tail.swap.tail.swap.tail.swap.tail
theorem Its.drop2 {x a b : It} (h : Its w0 (x :: a :: b :: l) w) : Its w0 (x :: l) w := h.swap.tail.swap.tail

set_option maxRecDepth 100000 in
set_option maxHeartbeats 1000000 in
theorem cut_0 (h : Its w0 (.tape w0.heap.size g H T :: l) w) (m : Nat) (hm : m ≤ (T.A false).length) : Calls Try.prog 33 #[.pointer (some ⟨g, 0, none⟩), .int .i64 0, .int .i64 (m : Int)] w fun e w' => e = .returned (.int .i64 (T.cut false m).1) ∧ ∃ H', Its w0 (.tape w0.heap.size g H' (T.cut false m).2 :: l) w' := by
  have har := tp_ar h.one false
  obtain ⟨a, c, hv, hsl⟩ := har.sl
  obtain ⟨n, hn⟩ : ∃ n, (T.A false).length = n := ⟨_, rfl⟩
  have hlen := (tp_ok h.one).len false
  rw [hn] at hv hm hlen
  have I3 : Its w0 (.tape w0.heap.size g H T :: .box (w.heap.size + 2) #[.int .i64 (m : Int)] 3 :: .box (w.heap.size + 1) #[.int .i64 0] 3 :: .box w.heap.size #[.pointer (some ⟨g, 0, none⟩)] 23 :: l) (((w.alloc (.cells #[.pointer (some ⟨g, 0, none⟩)] 23)).alloc (.cells #[.int .i64 0] 3)).alloc (.cells #[.int .i64 (m : Int)] 3)) := by
    have := ((((h.box1 #[.pointer (some ⟨g, 0, none⟩)] 23).box1 #[.int .i64 0] 3).box1 #[.int .i64 (m : Int)] 3).rot4)
    simp only [size_alloc] at this
    exact this
  have HI3 := hide I3
  have Hv := hide hv
  have Hn := hide hn
  have ha := har.form
  rw [hv] at ha
  have Hne : Hid (n ≠ m → ∃ b, a = some ⟨b, 0, none⟩) := hide (fun h => by
    obtain ⟨b, c', e, _⟩ := ha (by intro e; rw [e] at hn; simp at hn; omega)
    simp only [Value.slice.injEq] at e
    exact ⟨b, e.1⟩)
  clear h har hsl I3 hv hn ha
  by_cases he : n = m
  · have ec : T.cut false m = (0, T) := by unfold Tp.cut; rw [if_pos (by rw [Hn.out]; exact he)]
    rw [ec]
    have he' := he.symm
    clear he Hne
    subst he'
    clear ec hm
    go_enter Try.func33, Try.ntmps33
    go_upto_region 1 with fail
    generalize (((w.alloc (.cells #[.pointer (some ⟨g, 0, none⟩)] 23)).alloc (.cells #[.int .i64 0] 3)).alloc (.cells #[.int .i64 (m : Int)] 3)) = W3 at *
    generalize w.heap.size + 2 = p5 at *
    generalize w.heap.size + 1 = p4 at *
    generalize w.heap.size = p3 at *
    have I4 := HI3.out.alloc (.cells #[.slice none 0 0] 57)
    have g3 : (W3.alloc (.cells #[.slice none 0 0] 57)).cell? ⟨p3, 0, none⟩ = some (.pointer (some ⟨g, 0, none⟩)) := (cells_at I4.four 0).1
    have g4 : (W3.alloc (.cells #[.slice none 0 0] 57)).cell? ⟨p4, 0, none⟩ = some (.int .i64 0) := (cells_at I4.three 0).1
    have g0 : (W3.alloc (.cells #[.slice none 0 0] 57)).cell? ⟨g, 0, none⟩ = some (.slice a m c) := by rw [← Hv.out]; exact (tp_cells I4.one).1
    have c4 : W3.cell? ⟨p4, 0, none⟩ = some (.int .i64 0) := (cells_at HI3.out.three 0).1
    have c3 : W3.cell? ⟨p3, 0, none⟩ = some (.pointer (some ⟨g, 0, none⟩)) := (cells_at HI3.out.four 0).1
    have d0 : W3.cell? ⟨g, 0, none⟩ = some (.slice a m c) := by rw [← Hv.out]; exact (tp_cells HI3.out.one).1
    have I5 : Hid (Its w0 (.tape w0.heap.size g H T :: .box W3.heap.size #[.slice a m c] 57 :: .box p5 #[.int .i64 (m : Int)] 3 :: .box p4 #[.int .i64 0] 3 :: .box p3 #[.pointer (some ⟨g, 0, none⟩)] 23 :: l) (W3.alloc (.cells #[.slice a m c] 57)).drew) := hide ((HI3.out.drew 1).box1 _ _).swap
    clear I4 HI3
    go_region
    clear g3 g4 g0 c4 c3 d0
    generalize (W3.alloc (.cells #[.slice a m c] 57)).drew = W5 at *
    generalize W3.heap.size = p7 at *
    have c7 : W5.cell? ⟨p7, 0, none⟩ = some (.slice a m c) := (cells_at I5.out.two 0).1
    have c5 : W5.cell? ⟨p5, 0, none⟩ = some (.int .i64 (m : Int)) := (cells_at I5.out.three 0).1
    have c3 : W5.cell? ⟨p3, 0, none⟩ = some (.pointer (some ⟨g, 0, none⟩)) := (cells_at (I5.out.all (.box p3 #[.pointer (some ⟨g, 0, none⟩)] 23) (by simp)) 0).1
    have hmf : ∀ (fn : Fn) (first cap : Array Value) (w : World), (Instr.makeFunc fn first cap).run Try.prog w = .ok (.func fn first cap) w := fun _ _ _ _ => rfl
    go_wp2_with fail
    go_ret
    exact ⟨rfl, H, I5.out.drop4⟩
  · obtain ⟨b, rfl⟩ := Hne.out he
    have hbe : ((n : Int) == (m : Int)) = false := beq_eq_false_iff_ne.2 (by omega)
    have he2 : ¬ ((n : Int) = (m : Int)) := by omega
    have Hm := hide hm
    cases hc : T.can 1 with
    | false =>
      have ec : T.cut false m = (190, T.die) := by unfold Tp.cut; rw [if_neg (by rw [Hn.out]; exact he), if_neg (by rw [hc]; decide)]
      rw [ec]
      have Hc := hide hc
      clear ec hm he hc Hne
      go_enter Try.func33, Try.ntmps33
      go_upto_region 1 with fail
      generalize (((w.alloc (.cells #[.pointer (some ⟨g, 0, none⟩)] 23)).alloc (.cells #[.int .i64 0] 3)).alloc (.cells #[.int .i64 (m : Int)] 3)) = W3 at *
      generalize w.heap.size + 2 = p5 at *
      generalize w.heap.size + 1 = p4 at *
      generalize w.heap.size = p3 at *
      have I4 := HI3.out.alloc (.cells #[.slice none 0 0] 57)
      have g3 : (W3.alloc (.cells #[.slice none 0 0] 57)).cell? ⟨p3, 0, none⟩ = some (.pointer (some ⟨g, 0, none⟩)) := (cells_at I4.four 0).1
      have g4 : (W3.alloc (.cells #[.slice none 0 0] 57)).cell? ⟨p4, 0, none⟩ = some (.int .i64 0) := (cells_at I4.three 0).1
      have g0 : (W3.alloc (.cells #[.slice none 0 0] 57)).cell? ⟨g, 0, none⟩ = some (.slice (some ⟨b, 0, none⟩) n c) := by rw [← Hv.out]; exact (tp_cells I4.one).1
      have c4 : W3.cell? ⟨p4, 0, none⟩ = some (.int .i64 0) := (cells_at HI3.out.three 0).1
      have c3 : W3.cell? ⟨p3, 0, none⟩ = some (.pointer (some ⟨g, 0, none⟩)) := (cells_at HI3.out.four 0).1
      have d0 : W3.cell? ⟨g, 0, none⟩ = some (.slice (some ⟨b, 0, none⟩) n c) := by rw [← Hv.out]; exact (tp_cells HI3.out.one).1
      have I5 : Hid (Its w0 (.tape w0.heap.size g H T :: .box W3.heap.size #[.slice (some ⟨b, 0, none⟩) n c] 57 :: .box p5 #[.int .i64 (m : Int)] 3 :: .box p4 #[.int .i64 0] 3 :: .box p3 #[.pointer (some ⟨g, 0, none⟩)] 23 :: l) (W3.alloc (.cells #[.slice (some ⟨b, 0, none⟩) n c] 57)).drew) := hide ((HI3.out.drew 1).box1 _ _).swap
      clear I4 HI3
      go_region
      clear g3 g4 g0 c4 c3 d0
      generalize (W3.alloc (.cells #[.slice (some ⟨b, 0, none⟩) n c] 57)).drew = W5 at *
      generalize W3.heap.size = p7 at *
      have c7 : W5.cell? ⟨p7, 0, none⟩ = some (.slice (some ⟨b, 0, none⟩) n c) := (cells_at I5.out.two 0).1
      have c5 : W5.cell? ⟨p5, 0, none⟩ = some (.int .i64 (m : Int)) := (cells_at I5.out.three 0).1
      have c3 : W5.cell? ⟨p3, 0, none⟩ = some (.pointer (some ⟨g, 0, none⟩)) := (cells_at (I5.out.all (.box p3 #[.pointer (some ⟨g, 0, none⟩)] 23) (by simp)) 0).1
      have hmf : ∀ (fn : Fn) (first cap : Array Value) (w : World), (Instr.makeFunc fn first cap).run Try.prog w = .ok (.func fn first cap) w := fun _ _ _ _ => rfl
      have KW := hide (fun u => work_no I5.out Hc.out u)
      go_wp2_with (go_at_call 34; refine (KW.out _).mono ?_; rintro e w1 ⟨rfl, h1⟩)
      go_ret
      exact ⟨rfl, H, h1.drop4⟩
    | true =>
      have ec : T.cut false m = (0, (T.use 1).setA false ((T.A false).take m)) := by unfold Tp.cut; rw [if_neg (by rw [Hn.out]; exact he), if_pos hc]
      rw [ec]
      have Hc := hide hc
      clear ec hm he hc Hne
      go_enter Try.func33, Try.ntmps33
      go_upto_region 1 with fail
      generalize (((w.alloc (.cells #[.pointer (some ⟨g, 0, none⟩)] 23)).alloc (.cells #[.int .i64 0] 3)).alloc (.cells #[.int .i64 (m : Int)] 3)) = W3 at *
      generalize w.heap.size + 2 = p5 at *
      generalize w.heap.size + 1 = p4 at *
      generalize w.heap.size = p3 at *
      have I4 := HI3.out.alloc (.cells #[.slice none 0 0] 57)
      have g3 : (W3.alloc (.cells #[.slice none 0 0] 57)).cell? ⟨p3, 0, none⟩ = some (.pointer (some ⟨g, 0, none⟩)) := (cells_at I4.four 0).1
      have g4 : (W3.alloc (.cells #[.slice none 0 0] 57)).cell? ⟨p4, 0, none⟩ = some (.int .i64 0) := (cells_at I4.three 0).1
      have g0 : (W3.alloc (.cells #[.slice none 0 0] 57)).cell? ⟨g, 0, none⟩ = some (.slice (some ⟨b, 0, none⟩) n c) := by rw [← Hv.out]; exact (tp_cells I4.one).1
      have c4 : W3.cell? ⟨p4, 0, none⟩ = some (.int .i64 0) := (cells_at HI3.out.three 0).1
      have c3 : W3.cell? ⟨p3, 0, none⟩ = some (.pointer (some ⟨g, 0, none⟩)) := (cells_at HI3.out.four 0).1
      have d0 : W3.cell? ⟨g, 0, none⟩ = some (.slice (some ⟨b, 0, none⟩) n c) := by rw [← Hv.out]; exact (tp_cells HI3.out.one).1
      have I5 : Hid (Its w0 (.tape w0.heap.size g H T :: .box W3.heap.size #[.slice (some ⟨b, 0, none⟩) n c] 57 :: .box p5 #[.int .i64 (m : Int)] 3 :: .box p4 #[.int .i64 0] 3 :: .box p3 #[.pointer (some ⟨g, 0, none⟩)] 23 :: l) (W3.alloc (.cells #[.slice (some ⟨b, 0, none⟩) n c] 57)).drew) := hide ((HI3.out.drew 1).box1 _ _).swap
      clear I4 HI3
      go_region
      clear g3 g4 g0 c4 c3 d0
      generalize (W3.alloc (.cells #[.slice (some ⟨b, 0, none⟩) n c] 57)).drew = W5 at *
      generalize W3.heap.size = p7 at *
      have c7 : W5.cell? ⟨p7, 0, none⟩ = some (.slice (some ⟨b, 0, none⟩) n c) := (cells_at I5.out.two 0).1
      have c5 : W5.cell? ⟨p5, 0, none⟩ = some (.int .i64 (m : Int)) := (cells_at I5.out.three 0).1
      have c3 : W5.cell? ⟨p3, 0, none⟩ = some (.pointer (some ⟨g, 0, none⟩)) := (cells_at (I5.out.all (.box p3 #[.pointer (some ⟨g, 0, none⟩)] 23) (by simp)) 0).1
      have hmf : ∀ (fn : Fn) (first cap : Array Value) (w : World), (Instr.makeFunc fn first cap).run Try.prog w = .ok (.func fn first cap) w := fun _ _ _ _ => rfl
      have KW := hide (work_yes43 (T2 := (T.use 1).setA false ((T.A false).take m)) I5.out.cutorder Hc.out (fun W hW => unit_cut0 (T := T.use 1) Hv.out hW (by rw [use_A, Hn.out]; exact Hm.out)))
      go_wp2_with (go_at_call 34; refine KW.out.mono ?_; rintro e w1 ⟨rfl, H1, h1⟩)
      go_ret
      exact ⟨rfl, H1, h1.drop4⟩

set_option maxRecDepth 100000 in
set_option maxHeartbeats 1000000 in
theorem cut_1 (h : Its w0 (.tape w0.heap.size g H T :: l) w) (m : Nat) (hm : m ≤ (T.A true).length) : Calls Try.prog 33 #[.pointer (some ⟨g, 0, none⟩), .int .i64 1, .int .i64 (m : Int)] w fun e w' => e = .returned (.int .i64 (T.cut true m).1) ∧ ∃ H', Its w0 (.tape w0.heap.size g H' (T.cut true m).2 :: l) w' := by
  have har := tp_ar h.one true
  obtain ⟨a, c, hv, hsl⟩ := har.sl
  obtain ⟨n, hn⟩ : ∃ n, (T.A true).length = n := ⟨_, rfl⟩
  have hlen := (tp_ok h.one).len true
  rw [hn] at hv hm hlen
  have I3 : Its w0 (.tape w0.heap.size g H T :: .box (w.heap.size + 2) #[.int .i64 (m : Int)] 3 :: .box (w.heap.size + 1) #[.int .i64 1] 3 :: .box w.heap.size #[.pointer (some ⟨g, 0, none⟩)] 23 :: l) (((w.alloc (.cells #[.pointer (some ⟨g, 0, none⟩)] 23)).alloc (.cells #[.int .i64 1] 3)).alloc (.cells #[.int .i64 (m : Int)] 3)) := by
    have := ((((h.box1 #[.pointer (some ⟨g, 0, none⟩)] 23).box1 #[.int .i64 1] 3).box1 #[.int .i64 (m : Int)] 3).rot4)
    simp only [size_alloc] at this
    exact this
  have HI3 := hide I3
  have Hv := hide hv
  have Hn := hide hn
  have ha := har.form
  rw [hv] at ha
  have Hne : Hid (n ≠ m → ∃ b, a = some ⟨b, 0, none⟩) := hide (fun h => by
    obtain ⟨b, c', e, _⟩ := ha (by intro e; rw [e] at hn; simp at hn; omega)
    simp only [Value.slice.injEq] at e
    exact ⟨b, e.1⟩)
  clear h har hsl I3 hv hn ha
  by_cases he : n = m
  · have ec : T.cut true m = (0, T) := by unfold Tp.cut; rw [if_pos (by rw [Hn.out]; exact he)]
    rw [ec]
    have he' := he.symm
    clear he Hne
    subst he'
    clear ec hm
    go_enter Try.func33, Try.ntmps33
    go_upto_region 1 with fail
    generalize (((w.alloc (.cells #[.pointer (some ⟨g, 0, none⟩)] 23)).alloc (.cells #[.int .i64 1] 3)).alloc (.cells #[.int .i64 (m : Int)] 3)) = W3 at *
    generalize w.heap.size + 2 = p5 at *
    generalize w.heap.size + 1 = p4 at *
    generalize w.heap.size = p3 at *
    have I4 := HI3.out.alloc (.cells #[.slice none 0 0] 57)
    have g3 : (W3.alloc (.cells #[.slice none 0 0] 57)).cell? ⟨p3, 0, none⟩ = some (.pointer (some ⟨g, 0, none⟩)) := (cells_at I4.four 0).1
    have g4 : (W3.alloc (.cells #[.slice none 0 0] 57)).cell? ⟨p4, 0, none⟩ = some (.int .i64 1) := (cells_at I4.three 0).1
    have g0 : (W3.alloc (.cells #[.slice none 0 0] 57)).cell? ⟨g, 1, none⟩ = some (.slice a m c) := by rw [← Hv.out]; exact (tp_cells I4.one).2.1
    have c4 : W3.cell? ⟨p4, 0, none⟩ = some (.int .i64 1) := (cells_at HI3.out.three 0).1
    have c3 : W3.cell? ⟨p3, 0, none⟩ = some (.pointer (some ⟨g, 0, none⟩)) := (cells_at HI3.out.four 0).1
    have d0 : W3.cell? ⟨g, 1, none⟩ = some (.slice a m c) := by rw [← Hv.out]; exact (tp_cells HI3.out.one).2.1
    have I5 : Hid (Its w0 (.tape w0.heap.size g H T :: .box W3.heap.size #[.slice a m c] 57 :: .box p5 #[.int .i64 (m : Int)] 3 :: .box p4 #[.int .i64 1] 3 :: .box p3 #[.pointer (some ⟨g, 0, none⟩)] 23 :: l) (W3.alloc (.cells #[.slice a m c] 57)).drew) := hide ((HI3.out.drew 1).box1 _ _).swap
    clear I4 HI3
    go_region
    clear g3 g4 g0 c4 c3 d0
    generalize (W3.alloc (.cells #[.slice a m c] 57)).drew = W5 at *
    generalize W3.heap.size = p7 at *
    have c7 : W5.cell? ⟨p7, 0, none⟩ = some (.slice a m c) := (cells_at I5.out.two 0).1
    have c5 : W5.cell? ⟨p5, 0, none⟩ = some (.int .i64 (m : Int)) := (cells_at I5.out.three 0).1
    have c3 : W5.cell? ⟨p3, 0, none⟩ = some (.pointer (some ⟨g, 0, none⟩)) := (cells_at (I5.out.all (.box p3 #[.pointer (some ⟨g, 0, none⟩)] 23) (by simp)) 0).1
    have hmf : ∀ (fn : Fn) (first cap : Array Value) (w : World), (Instr.makeFunc fn first cap).run Try.prog w = .ok (.func fn first cap) w := fun _ _ _ _ => rfl
    go_wp2_with fail
    go_ret
    exact ⟨rfl, H, I5.out.drop4⟩
  · obtain ⟨b, rfl⟩ := Hne.out he
    have hbe : ((n : Int) == (m : Int)) = false := beq_eq_false_iff_ne.2 (by omega)
    have he2 : ¬ ((n : Int) = (m : Int)) := by omega
    have Hm := hide hm
    cases hc : T.can 1 with
    | false =>
      have ec : T.cut true m = (190, T.die) := by unfold Tp.cut; rw [if_neg (by rw [Hn.out]; exact he), if_neg (by rw [hc]; decide)]
      rw [ec]
      have Hc := hide hc
      clear ec hm he hc Hne
      go_enter Try.func33, Try.ntmps33
      go_upto_region 1 with fail
      generalize (((w.alloc (.cells #[.pointer (some ⟨g, 0, none⟩)] 23)).alloc (.cells #[.int .i64 1] 3)).alloc (.cells #[.int .i64 (m : Int)] 3)) = W3 at *
      generalize w.heap.size + 2 = p5 at *
      generalize w.heap.size + 1 = p4 at *
      generalize w.heap.size = p3 at *
      have I4 := HI3.out.alloc (.cells #[.slice none 0 0] 57)
      have g3 : (W3.alloc (.cells #[.slice none 0 0] 57)).cell? ⟨p3, 0, none⟩ = some (.pointer (some ⟨g, 0, none⟩)) := (cells_at I4.four 0).1
      have g4 : (W3.alloc (.cells #[.slice none 0 0] 57)).cell? ⟨p4, 0, none⟩ = some (.int .i64 1) := (cells_at I4.three 0).1
      have g0 : (W3.alloc (.cells #[.slice none 0 0] 57)).cell? ⟨g, 1, none⟩ = some (.slice (some ⟨b, 0, none⟩) n c) := by rw [← Hv.out]; exact (tp_cells I4.one).2.1
      have c4 : W3.cell? ⟨p4, 0, none⟩ = some (.int .i64 1) := (cells_at HI3.out.three 0).1
      have c3 : W3.cell? ⟨p3, 0, none⟩ = some (.pointer (some ⟨g, 0, none⟩)) := (cells_at HI3.out.four 0).1
      have d0 : W3.cell? ⟨g, 1, none⟩ = some (.slice (some ⟨b, 0, none⟩) n c) := by rw [← Hv.out]; exact (tp_cells HI3.out.one).2.1
      have I5 : Hid (Its w0 (.tape w0.heap.size g H T :: .box W3.heap.size #[.slice (some ⟨b, 0, none⟩) n c] 57 :: .box p5 #[.int .i64 (m : Int)] 3 :: .box p4 #[.int .i64 1] 3 :: .box p3 #[.pointer (some ⟨g, 0, none⟩)] 23 :: l) (W3.alloc (.cells #[.slice (some ⟨b, 0, none⟩) n c] 57)).drew) := hide ((HI3.out.drew 1).box1 _ _).swap
      clear I4 HI3
      go_region
      clear g3 g4 g0 c4 c3 d0
      generalize (W3.alloc (.cells #[.slice (some ⟨b, 0, none⟩) n c] 57)).drew = W5 at *
      generalize W3.heap.size = p7 at *
      have c7 : W5.cell? ⟨p7, 0, none⟩ = some (.slice (some ⟨b, 0, none⟩) n c) := (cells_at I5.out.two 0).1
      have c5 : W5.cell? ⟨p5, 0, none⟩ = some (.int .i64 (m : Int)) := (cells_at I5.out.three 0).1
      have c3 : W5.cell? ⟨p3, 0, none⟩ = some (.pointer (some ⟨g, 0, none⟩)) := (cells_at (I5.out.all (.box p3 #[.pointer (some ⟨g, 0, none⟩)] 23) (by simp)) 0).1
      have hmf : ∀ (fn : Fn) (first cap : Array Value) (w : World), (Instr.makeFunc fn first cap).run Try.prog w = .ok (.func fn first cap) w := fun _ _ _ _ => rfl
      have KW := hide (fun u => work_no I5.out Hc.out u)
      go_wp2_with (go_at_call 34; refine (KW.out _).mono ?_; rintro e w1 ⟨rfl, h1⟩)
      go_ret
      exact ⟨rfl, H, h1.drop4⟩
    | true =>
      have ec : T.cut true m = (0, (T.use 1).setA true ((T.A true).take m)) := by unfold Tp.cut; rw [if_neg (by rw [Hn.out]; exact he), if_pos hc]
      rw [ec]
      have Hc := hide hc
      clear ec hm he hc Hne
      go_enter Try.func33, Try.ntmps33
      go_upto_region 1 with fail
      generalize (((w.alloc (.cells #[.pointer (some ⟨g, 0, none⟩)] 23)).alloc (.cells #[.int .i64 1] 3)).alloc (.cells #[.int .i64 (m : Int)] 3)) = W3 at *
      generalize w.heap.size + 2 = p5 at *
      generalize w.heap.size + 1 = p4 at *
      generalize w.heap.size = p3 at *
      have I4 := HI3.out.alloc (.cells #[.slice none 0 0] 57)
      have g3 : (W3.alloc (.cells #[.slice none 0 0] 57)).cell? ⟨p3, 0, none⟩ = some (.pointer (some ⟨g, 0, none⟩)) := (cells_at I4.four 0).1
      have g4 : (W3.alloc (.cells #[.slice none 0 0] 57)).cell? ⟨p4, 0, none⟩ = some (.int .i64 1) := (cells_at I4.three 0).1
      have g0 : (W3.alloc (.cells #[.slice none 0 0] 57)).cell? ⟨g, 1, none⟩ = some (.slice (some ⟨b, 0, none⟩) n c) := by rw [← Hv.out]; exact (tp_cells I4.one).2.1
      have c4 : W3.cell? ⟨p4, 0, none⟩ = some (.int .i64 1) := (cells_at HI3.out.three 0).1
      have c3 : W3.cell? ⟨p3, 0, none⟩ = some (.pointer (some ⟨g, 0, none⟩)) := (cells_at HI3.out.four 0).1
      have d0 : W3.cell? ⟨g, 1, none⟩ = some (.slice (some ⟨b, 0, none⟩) n c) := by rw [← Hv.out]; exact (tp_cells HI3.out.one).2.1
      have I5 : Hid (Its w0 (.tape w0.heap.size g H T :: .box W3.heap.size #[.slice (some ⟨b, 0, none⟩) n c] 57 :: .box p5 #[.int .i64 (m : Int)] 3 :: .box p4 #[.int .i64 1] 3 :: .box p3 #[.pointer (some ⟨g, 0, none⟩)] 23 :: l) (W3.alloc (.cells #[.slice (some ⟨b, 0, none⟩) n c] 57)).drew) := hide ((HI3.out.drew 1).box1 _ _).swap
      clear I4 HI3
      go_region
      clear g3 g4 g0 c4 c3 d0
      generalize (W3.alloc (.cells #[.slice (some ⟨b, 0, none⟩) n c] 57)).drew = W5 at *
      generalize W3.heap.size = p7 at *
      have c7 : W5.cell? ⟨p7, 0, none⟩ = some (.slice (some ⟨b, 0, none⟩) n c) := (cells_at I5.out.two 0).1
      have c5 : W5.cell? ⟨p5, 0, none⟩ = some (.int .i64 (m : Int)) := (cells_at I5.out.three 0).1
      have c3 : W5.cell? ⟨p3, 0, none⟩ = some (.pointer (some ⟨g, 0, none⟩)) := (cells_at (I5.out.all (.box p3 #[.pointer (some ⟨g, 0, none⟩)] 23) (by simp)) 0).1
      have hmf : ∀ (fn : Fn) (first cap : Array Value) (w : World), (Instr.makeFunc fn first cap).run Try.prog w = .ok (.func fn first cap) w := fun _ _ _ _ => rfl
      have KW := hide (work_yes43 (T2 := (T.use 1).setA true ((T.A true).take m)) I5.out.cutorder Hc.out (fun W hW => unit_cut1 (T := T.use 1) Hv.out hW (by rw [use_A, Hn.out]; exact Hm.out)))
      go_wp2_with (go_at_call 34; refine KW.out.mono ?_; rintro e w1 ⟨rfl, H1, h1⟩)
      go_ret
      exact ⟨rfl, H1, h1.drop4⟩

theorem cutS (h : Its w0 (.tape w0.heap.size g H T :: l) w) (s : Bool) (m : Nat) (hm : m ≤ (T.A s).length) : Calls Try.prog 33 #[.pointer (some ⟨g, 0, none⟩), .int .i64 (bi s), .int .i64 (m : Int)] w fun e w' => e = .returned (.int .i64 (T.cut s m).1) ∧ ∃ H', Its w0 (.tape w0.heap.size g H' (T.cut s m).2 :: l) w' := by
  cases s
  · exact cut_0 h m hm
  · exact cut_1 h m hm
end
end Go.Proofs.Ytgdoagmnhmfjkaa
