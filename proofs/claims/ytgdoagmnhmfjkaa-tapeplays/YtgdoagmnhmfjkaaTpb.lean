/- What cut and Compact hand to work; work. -/
import Derived.Test.YtgdoagmnhmfjkaaTpa
namespace Go.Proofs.Ytgdoagmnhmfjkaa
open Go.RowKit
set_option linter.unusedVariables false

section
variable {w0 w : World} {B g : Nat} {H : Bool → Value} {T : Tp} {l : List It}
/-- another area counts -/
def Tp.to (T : Tp) (s : Bool) : Tp := ⟨T.A, s, T.ar, T.bd, T.dd⟩
theorem Tp.Ok.to {T : Tp} (h : T.Ok) (s : Bool) : (T.to s).Ok := ⟨h.inb, h.len, h.bud⟩
theorem unit_turn {p7 p2 : Nat} (s : Bool) (h : Its w0 (.tape B g H T :: .box p7 #[.int .i64 (bi s)] 3 :: .box p2 #[.pointer (some ⟨g, 0, none⟩)] 23 :: l) w) :
    Calls Try.prog 35 #[.pointer (some ⟨p7, 0, none⟩), .pointer (some ⟨p2, 0, none⟩)] w fun e w' => e = .returned (.tuple #[]) ∧ ∃ H', Its w0 (.tape B g H' (T.to s) :: .box p7 #[.int .i64 (bi s)] 3 :: .box p2 #[.pointer (some ⟨g, 0, none⟩)] 23 :: l) w' := by
  have c7 : w.cell? ⟨p7, 0, none⟩ = some (.int .i64 (bi s)) := (cells_at h.two 0).1
  have c2 : w.cell? ⟨p2, 0, none⟩ = some (.pointer (some ⟨g, 0, none⟩)) := (cells_at h.three 0).1
  obtain ⟨_, _, d2, _, _, _⟩ := tp_cells h.one
  have f2 := tp_frozen h.one 2
  have HE := hide (h.tcell (T' := T.to s) rfl ((tp_ok h.one).to s) 2 (.int .i64 (bi s)) rfl)
  generalize bi s = x at *
  generalize bi T.cn = y at *
  clear h
  go_enter Try.func35, Try.ntmps35
  go_wp2_with fail
  refine bodyPost_end (results_none rfl _ _ _) rfl ?_
  exact ⟨rfl, H, HE.out⟩

set_option maxRecDepth 100000 in
set_option maxHeartbeats 1000000 in
theorem unit_cut0 {p7 p5 p3 p4 b n c m : Nat} (hv : H false = .slice (some ⟨b, 0, none⟩) n c) (h : Its w0 (.tape B g H T :: .box p4 #[.int .i64 0] 3 :: .box p3 #[.pointer (some ⟨g, 0, none⟩)] 23 :: .box p5 #[.int .i64 (m : Int)] 3 :: .box p7 #[.slice (some ⟨b, 0, none⟩) n c] 57 :: l) w) (hm : m ≤ (T.A false).length) :
    Calls Try.prog 43 #[.pointer (some ⟨p7, 0, none⟩), .pointer (some ⟨p5, 0, none⟩), .pointer (some ⟨p3, 0, none⟩), .pointer (some ⟨p4, 0, none⟩)] w fun e w' => e = .returned (.tuple #[]) ∧ ∃ H', Its w0 (.tape B g H' (T.setA false ((T.A false).take m)) :: .box p4 #[.int .i64 0] 3 :: .box p3 #[.pointer (some ⟨g, 0, none⟩)] 23 :: .box p5 #[.int .i64 (m : Int)] 3 :: .box p7 #[.slice (some ⟨b, 0, none⟩) n c] 57 :: l) w' := by
  have c4 : w.cell? ⟨p4, 0, none⟩ = some (.int .i64 0) := (cells_at h.two 0).1
  have c3 : w.cell? ⟨p3, 0, none⟩ = some (.pointer (some ⟨g, 0, none⟩)) := (cells_at h.three 0).1
  have c5 : w.cell? ⟨p5, 0, none⟩ = some (.int .i64 (m : Int)) := (cells_at h.four 0).1
  have c7 : w.cell? ⟨p7, 0, none⟩ = some (.slice (some ⟨b, 0, none⟩) n c) := (cells_at (h.all (.box p7 #[.slice (some ⟨b, 0, none⟩) n c] 57) (by simp)) 0).1
  obtain ⟨d0, d1, _, _, _, _⟩ := tp_cells h.one
  have fz := tp_frozen h.one 0
  have hok := tp_ok h.one
  have har := tp_ar h.one false
  rw [hv] at har
  have hnc : n ≤ c ∧ (T.A false).length = n := by
    obtain ⟨a', c', e, q⟩ := har.sl
    simp only [Value.slice.injEq] at e
    have := q.cap
    exact ⟨by omega, by omega⟩
  have HE : Hid (∃ H', Its w0 (.tape B g H' (T.setA false ((T.A false).take m)) :: .box p4 #[.int .i64 0] 3 :: .box p3 #[.pointer (some ⟨g, 0, none⟩)] 23 :: .box p5 #[.int .i64 (m : Int)] 3 :: .box p7 #[.slice (some ⟨b, 0, none⟩) n c] 57 :: l) (w.drew.setCell ⟨g, 0, none⟩ (.slice (some ⟨b, 0, none⟩) m m))) := hide (by
    have I1 := h.drew 1
    have h2 := I1.tmid false (w1 := w.drew) ((har.st (w' := w.drew) (fun _ _ => rfl)).cut m hm) (Frm.refl _ _) (fun k hk => .inl (by rw [hv]; exact hk))
    exact ⟨_, h2.tend false hok ((hok.inb false).take m) (by have := hok.len false; rw [List.length_take]; omega)⟩)
  have m0 : (0 : Int) ≤ (m : Int) := by omega
  have m1 : (m : Int) ≤ (c : Int) := by omega
  clear h har hok hnc hm hv
  go_enter Try.func43, Try.ntmps43
  go_upto_region 0 with fail
  go_region
  go_wp2_with fail
  refine bodyPost_end (results_none rfl _ _ _) rfl ?_
  exact ⟨rfl, HE.out⟩

set_option maxRecDepth 100000 in
set_option maxHeartbeats 1000000 in
theorem unit_cut1 {p7 p5 p3 p4 b n c m : Nat} (hv : H true = .slice (some ⟨b, 0, none⟩) n c) (h : Its w0 (.tape B g H T :: .box p4 #[.int .i64 1] 3 :: .box p3 #[.pointer (some ⟨g, 0, none⟩)] 23 :: .box p5 #[.int .i64 (m : Int)] 3 :: .box p7 #[.slice (some ⟨b, 0, none⟩) n c] 57 :: l) w) (hm : m ≤ (T.A true).length) :
    Calls Try.prog 43 #[.pointer (some ⟨p7, 0, none⟩), .pointer (some ⟨p5, 0, none⟩), .pointer (some ⟨p3, 0, none⟩), .pointer (some ⟨p4, 0, none⟩)] w fun e w' => e = .returned (.tuple #[]) ∧ ∃ H', Its w0 (.tape B g H' (T.setA true ((T.A true).take m)) :: .box p4 #[.int .i64 1] 3 :: .box p3 #[.pointer (some ⟨g, 0, none⟩)] 23 :: .box p5 #[.int .i64 (m : Int)] 3 :: .box p7 #[.slice (some ⟨b, 0, none⟩) n c] 57 :: l) w' := by
  have c4 : w.cell? ⟨p4, 0, none⟩ = some (.int .i64 1) := (cells_at h.two 0).1
  have c3 : w.cell? ⟨p3, 0, none⟩ = some (.pointer (some ⟨g, 0, none⟩)) := (cells_at h.three 0).1
  have c5 : w.cell? ⟨p5, 0, none⟩ = some (.int .i64 (m : Int)) := (cells_at h.four 0).1
  have c7 : w.cell? ⟨p7, 0, none⟩ = some (.slice (some ⟨b, 0, none⟩) n c) := (cells_at (h.all (.box p7 #[.slice (some ⟨b, 0, none⟩) n c] 57) (by simp)) 0).1
  obtain ⟨d0, d1, _, _, _, _⟩ := tp_cells h.one
  have fz := tp_frozen h.one 1
  have hok := tp_ok h.one
  have har := tp_ar h.one true
  rw [hv] at har
  have hnc : n ≤ c ∧ (T.A true).length = n := by
    obtain ⟨a', c', e, q⟩ := har.sl
    simp only [Value.slice.injEq] at e
    have := q.cap
    exact ⟨by omega, by omega⟩
  have HE : Hid (∃ H', Its w0 (.tape B g H' (T.setA true ((T.A true).take m)) :: .box p4 #[.int .i64 1] 3 :: .box p3 #[.pointer (some ⟨g, 0, none⟩)] 23 :: .box p5 #[.int .i64 (m : Int)] 3 :: .box p7 #[.slice (some ⟨b, 0, none⟩) n c] 57 :: l) (w.drew.setCell ⟨g, 1, none⟩ (.slice (some ⟨b, 0, none⟩) m m))) := hide (by
    have I1 := h.drew 1
    have h2 := I1.tmid true (w1 := w.drew) ((har.st (w' := w.drew) (fun _ _ => rfl)).cut m hm) (Frm.refl _ _) (fun k hk => .inl (by rw [hv]; exact hk))
    exact ⟨_, h2.tend true hok ((hok.inb true).take m) (by have := hok.len true; rw [List.length_take]; omega)⟩)
  have m0 : (0 : Int) ≤ (m : Int) := by omega
  have m1 : (m : Int) ≤ (c : Int) := by omega
  clear h har hok hnc hm hv
  go_enter Try.func43, Try.ntmps43
  go_upto_region 0 with fail
  go_region
  go_wp2_with fail
  refine bodyPost_end (results_none rfl _ _ _) rfl ?_
  exact ⟨rfl, HE.out⟩

theorem can_no {T : Tp} (h : T.can 1 = false) : T.ar = true ∧ T.bd = 0 := by
  unfold Tp.can at h
  cases ha : T.ar
  · rw [ha] at h; simp at h
  · rw [ha] at h; simp at h; exact ⟨rfl, by omega⟩
theorem can_yes {T : Tp} (h : T.can 1 = true) : T.ar = false ∨ (T.ar = true ∧ 1 ≤ T.bd) := by
  unfold Tp.can at h
  cases ha : T.ar
  · exact .inl rfl
  · rw [ha] at h; simp at h; exact .inr ⟨rfl, by omega⟩
set_option maxRecDepth 100000 in
set_option maxHeartbeats 1000000 in
theorem work_no (h : Its w0 (.tape B g H T :: l) w) (hc : T.can 1 = false) (u : Value) : Calls Try.prog 34 #[.pointer (some ⟨g, 0, none⟩), u] w fun e w' => e = .returned (.int .i64 190) ∧ Its w0 (.tape B g H T.die :: l) w' := by
  obtain ⟨ha, hb⟩ := can_no hc
  obtain ⟨_, _, _, d3, d4, d5⟩ := tp_cells h.one
  rw [ha] at d3
  rw [hb] at d4
  have f5 := tp_frozen h.one 5
  have HE := hide (h.tcell (T' := T.die) rfl (tp_ok h.one).die 5 (.bool true) rfl)
  rw [show (((0 : Nat) : Nat) : Int) = 0 from rfl] at d4
  clear h hc ha hb
  go_enter Try.func34, Try.ntmps34
  go_wp2_with fail
  go_ret
  exact ⟨rfl, HE.out⟩

set_option maxRecDepth 100000 in
set_option maxHeartbeats 1000000 in
theorem work_yes40 (h : Its w0 (.tape B g H T :: l) w) (hc : T.can 1 = true) {q0 q1 q2 : Nat} {T2 : Tp} (hU : ∀ W, Its w0 (.tape B g H (T.use 1) :: l) W → Calls Try.prog 40 #[.pointer (some ⟨q0, 0, none⟩), .pointer (some ⟨q1, 0, none⟩), .pointer (some ⟨q2, 0, none⟩)] W fun e w' => e = .returned (.tuple #[]) ∧ ∃ H', Its w0 (.tape B g H' T2 :: l) w') :
    Calls Try.prog 34 #[.pointer (some ⟨g, 0, none⟩), .func (.func 40) #[] #[.pointer (some ⟨q0, 0, none⟩), .pointer (some ⟨q1, 0, none⟩), .pointer (some ⟨q2, 0, none⟩)]] w fun e w' => e = .returned (.int .i64 0) ∧ ∃ H', Its w0 (.tape B g H' T2 :: l) w' := by
  obtain ⟨_, _, _, d3, d4, _⟩ := tp_cells h.one
  have f4 := tp_frozen h.one 4
  have hok := tp_ok h.one
  rcases can_yes hc with ha | ⟨ha, hb⟩
  · have e : T.use 1 = T := by
      obtain ⟨A, cn, ar, bd, dd⟩ := T
      simp only at ha
      subst ha
      rfl
    rw [e] at hU
    have KU := hide (hU w h)
    rw [ha] at d3
    clear h hc hU e d4 f4 hok ha
    go_enter Try.func34, Try.ntmps34
    go_wp2_with (go_at_call 40; refine KU.out.mono ?_; rintro e w1 ⟨rfl, H1, h1⟩)
    go_ret
    exact ⟨rfl, H1, h1⟩
  · have eb : (T.use 1).bd = T.bd - 1 := by unfold Tp.use; rw [ha]; rfl
    have hbud := hok.bud
    obtain ⟨x, hx⟩ : ∃ x : Int, (T.bd : Int) = x := ⟨_, rfl⟩
    obtain ⟨y, hy⟩ : ∃ y : Int, (((T.use 1).bd : Nat) : Int) = y := ⟨_, rfl⟩
    have b0 : (x == 0) = false := beq_eq_false_iff_ne.2 (by omega)
    have b1 : wrap64 (x - 1) = y := by unfold wrap64; omega
    have he : (tcells H T).setIfInBounds 4 (.int .i64 y) = tcells H (T.use 1) := by rw [← hy]; rfl
    have KU := hide (hU _ (h.tcell (T' := T.use 1) rfl (hok.use 1) 4 (.int .i64 y) he))
    rw [ha] at d3
    rw [hx] at d4
    clear h hc hU eb hok ha hb hbud hx hy he
    go_enter Try.func34, Try.ntmps34
    go_wp2_with (go_at_call 40; refine KU.out.mono ?_; rintro e w1 ⟨rfl, H1, h1⟩)
    go_ret
    exact ⟨rfl, H1, h1⟩

set_option maxRecDepth 100000 in
set_option maxHeartbeats 1000000 in
theorem work_yes43 (h : Its w0 (.tape B g H T :: l) w) (hc : T.can 1 = true) {q0 q1 q2 q3 : Nat} {T2 : Tp} (hU : ∀ W, Its w0 (.tape B g H (T.use 1) :: l) W → Calls Try.prog 43 #[.pointer (some ⟨q0, 0, none⟩), .pointer (some ⟨q1, 0, none⟩), .pointer (some ⟨q2, 0, none⟩), .pointer (some ⟨q3, 0, none⟩)] W fun e w' => e = .returned (.tuple #[]) ∧ ∃ H', Its w0 (.tape B g H' T2 :: l) w') :
    Calls Try.prog 34 #[.pointer (some ⟨g, 0, none⟩), .func (.func 43) #[] #[.pointer (some ⟨q0, 0, none⟩), .pointer (some ⟨q1, 0, none⟩), .pointer (some ⟨q2, 0, none⟩), .pointer (some ⟨q3, 0, none⟩)]] w fun e w' => e = .returned (.int .i64 0) ∧ ∃ H', Its w0 (.tape B g H' T2 :: l) w' := by
  obtain ⟨_, _, _, d3, d4, _⟩ := tp_cells h.one
  have f4 := tp_frozen h.one 4
  have hok := tp_ok h.one
  rcases can_yes hc with ha | ⟨ha, hb⟩
  · have e : T.use 1 = T := by
      obtain ⟨A, cn, ar, bd, dd⟩ := T
      simp only at ha
      subst ha
      rfl
    rw [e] at hU
    have KU := hide (hU w h)
    rw [ha] at d3
    clear h hc hU e d4 f4 hok ha
    go_enter Try.func34, Try.ntmps34
    go_wp2_with (go_at_call 43; refine KU.out.mono ?_; rintro e w1 ⟨rfl, H1, h1⟩)
    go_ret
    exact ⟨rfl, H1, h1⟩
  · have eb : (T.use 1).bd = T.bd - 1 := by unfold Tp.use; rw [ha]; rfl
    have hbud := hok.bud
    obtain ⟨x, hx⟩ : ∃ x : Int, (T.bd : Int) = x := ⟨_, rfl⟩
    obtain ⟨y, hy⟩ : ∃ y : Int, (((T.use 1).bd : Nat) : Int) = y := ⟨_, rfl⟩
    have b0 : (x == 0) = false := beq_eq_false_iff_ne.2 (by omega)
    have b1 : wrap64 (x - 1) = y := by unfold wrap64; omega
    have he : (tcells H T).setIfInBounds 4 (.int .i64 y) = tcells H (T.use 1) := by rw [← hy]; rfl
    have KU := hide (hU _ (h.tcell (T' := T.use 1) rfl (hok.use 1) 4 (.int .i64 y) he))
    rw [ha] at d3
    rw [hx] at d4
    clear h hc hU eb hok ha hb hbud hx hy he
    go_enter Try.func34, Try.ntmps34
    go_wp2_with (go_at_call 43; refine KU.out.mono ?_; rintro e w1 ⟨rfl, H1, h1⟩)
    go_ret
    exact ⟨rfl, H1, h1⟩

set_option maxRecDepth 100000 in
set_option maxHeartbeats 1000000 in
theorem work_yes35 (h : Its w0 (.tape B g H T :: l) w) (hc : T.can 1 = true) {q0 q1 : Nat} {T2 : Tp} (hU : ∀ W, Its w0 (.tape B g H (T.use 1) :: l) W → Calls Try.prog 35 #[.pointer (some ⟨q0, 0, none⟩), .pointer (some ⟨q1, 0, none⟩)] W fun e w' => e = .returned (.tuple #[]) ∧ ∃ H', Its w0 (.tape B g H' T2 :: l) w') :
    Calls Try.prog 34 #[.pointer (some ⟨g, 0, none⟩), .func (.func 35) #[] #[.pointer (some ⟨q0, 0, none⟩), .pointer (some ⟨q1, 0, none⟩)]] w fun e w' => e = .returned (.int .i64 0) ∧ ∃ H', Its w0 (.tape B g H' T2 :: l) w' := by
  obtain ⟨_, _, _, d3, d4, _⟩ := tp_cells h.one
  have f4 := tp_frozen h.one 4
  have hok := tp_ok h.one
  rcases can_yes hc with ha | ⟨ha, hb⟩
  · have e : T.use 1 = T := by
      obtain ⟨A, cn, ar, bd, dd⟩ := T
      simp only at ha
      subst ha
      rfl
    rw [e] at hU
    have KU := hide (hU w h)
    rw [ha] at d3
    clear h hc hU e d4 f4 hok ha
    go_enter Try.func34, Try.ntmps34
    go_wp2_with (go_at_call 35; refine KU.out.mono ?_; rintro e w1 ⟨rfl, H1, h1⟩)
    go_ret
    exact ⟨rfl, H1, h1⟩
  · have eb : (T.use 1).bd = T.bd - 1 := by unfold Tp.use; rw [ha]; rfl
    have hbud := hok.bud
    obtain ⟨x, hx⟩ : ∃ x : Int, (T.bd : Int) = x := ⟨_, rfl⟩
    obtain ⟨y, hy⟩ : ∃ y : Int, (((T.use 1).bd : Nat) : Int) = y := ⟨_, rfl⟩
    have b0 : (x == 0) = false := beq_eq_false_iff_ne.2 (by omega)
    have b1 : wrap64 (x - 1) = y := by unfold wrap64; omega
    have he : (tcells H T).setIfInBounds 4 (.int .i64 y) = tcells H (T.use 1) := by rw [← hy]; rfl
    have KU := hide (hU _ (h.tcell (T' := T.use 1) rfl (hok.use 1) 4 (.int .i64 y) he))
    rw [ha] at d3
    rw [hx] at d4
    clear h hc hU eb hok ha hb hbud hx hy he
    go_enter Try.func34, Try.ntmps34
    go_wp2_with (go_at_call 35; refine KU.out.mono ?_; rintro e w1 ⟨rfl, H1, h1⟩)
    go_ret
    exact ⟨rfl, H1, h1⟩
end
end Go.Proofs.Ytgdoagmnhmfjkaa
