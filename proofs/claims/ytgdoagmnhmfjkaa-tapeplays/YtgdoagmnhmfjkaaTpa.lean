/- A tape as it lies in memory; what put hands to work. -/
import Derived.Test.YtgdoagmnhmfjkaaTar
import Derived.Test.YtgdoagmnhmfjkaaExc
import Derived.BigRegion
namespace Go.Proofs.Ytgdoagmnhmfjkaa
open Go.RowKit
set_option linter.unusedVariables false

def bi (s : Bool) : Int := if s = true then 1 else 0
def bn (s : Bool) : Nat := if s = true then 1 else 0
def updH (H : Bool → Value) (s : Bool) (v : Value) : Bool → Value := fun q => if q = s then v else H q
def tcells (H : Bool → Value) (T : Tp) : Array Value := #[H false, H true, .int .i64 (bi T.cn), .bool T.ar, .int .i64 (T.bd : Int), .bool T.dd]
def tparts (B g : Nat) (H : Bool → Value) (T : Tp) : List It := [.area B (H false) (T.A false), .area B (H true) (T.A true), .box g (tcells H T) 60]
/-- a tape: g its box, H where its areas lie -/
def It.tape (B g : Nat) (H : Bool → Value) (T : Tp) : It := .grp (.fact T.Ok :: tparts B g H T)
section
variable {w0 w w1 : World} {B g : Nat} {H : Bool → Value} {T : Tp} {l : List It}
theorem tp_ok (h : (It.tape B g H T).P w) : T.Ok := h.1 (.fact T.Ok) (by simp)
theorem tp_box (h : (It.tape B g H T).P w) : w.heap[g]? = some (.cells (tcells H T) 60) := h.1 (.box g (tcells H T) 60) (by simp [tparts])
theorem tp_ar (h : (It.tape B g H T).P w) (s : Bool) : Ar w B (H s) (T.A s) := by
  cases s
  · exact h.1 (.area B (H false) (T.A false)) (by simp [tparts])
  · exact h.1 (.area B (H true) (T.A true)) (by simp [tparts])
theorem tp_cells (h : (It.tape B g H T).P w) : w.cell? ⟨g, 0, none⟩ = some (H false) ∧ w.cell? ⟨g, 1, none⟩ = some (H true) ∧ w.cell? ⟨g, 2, none⟩ = some (.int .i64 (bi T.cn)) ∧ w.cell? ⟨g, 3, none⟩ = some (.bool T.ar) ∧ w.cell? ⟨g, 4, none⟩ = some (.int .i64 (T.bd : Int)) ∧ w.cell? ⟨g, 5, none⟩ = some (.bool T.dd) :=
  ⟨(cells_at (tp_box h) 0).1, (cells_at (tp_box h) 1).1, (cells_at (tp_box h) 2).1, (cells_at (tp_box h) 3).1, (cells_at (tp_box h) 4).1, (cells_at (tp_box h) 5).1⟩
theorem tp_frozen (h : (It.tape B g H T).P w) (i : Nat) : w.frozen? ⟨g, i, none⟩ = false := (cells_at (tp_box h) i).2
theorem Its.topen (h : Its w0 (.tape B g H T :: l) w) : Its w0 (tparts B g H T ++ l) w := h.opn.tail
theorem Its.tshut (h : Its w0 (tparts B g H T ++ l) w) (hok : T.Ok) : Its w0 (.tape B g H T :: l) w :=
  Its.shut (a := .fact T.Ok :: tparts B g H T) (h.new (x := .fact T.Ok) hok (fun k hk => hk.elim) (Below.refl _ _))
/-- a cell that is no area is written -/
theorem Its.tcell (h : Its w0 (.tape B g H T :: l) w) {T' : Tp} (hA : T'.A = T.A) (hok : T'.Ok) (i : Nat) (u : Value) (he : (tcells H T).setIfInBounds i u = tcells H T') : Its w0 (.tape B g H T' :: l) (w.setCell ⟨g, i, none⟩ u) := by
  have h1 := (Its.rot3 h.topen).put i u
  rw [he] at h1
  have h2 := Its.rot3' h1
  rw [← hA] at h2
  exact Its.tshut h2 hok
/-- an area is another one -/
theorem Its.tmid (h : Its w0 (.tape B g H T :: l) w) (s : Bool) {v' : Value} {xs : List Int} (ho : Ar w1 B v' xs) (hfr : Frm (fun k => (H s).ownBlock = some k) w w1) (hb : ∀ k, v'.ownBlock = some k → (H s).ownBlock = some k ∨ w.heap.size ≤ k) :
    Its w0 (.area B v' xs :: .area B (H !s) (T.A !s) :: .box g (tcells H T) 60 :: l) w1 := by
  cases s
  · exact Its.chg (x' := .area B v' xs) h.topen ho hb hfr
  · exact Its.chg (x' := .area B v' xs) (Its.swap h.topen) ho hb hfr
theorem Its.tend (s : Bool) {v' : Value} {xs : List Int} (h : Its w0 (.area B v' xs :: .area B (H !s) (T.A !s) :: .box g (tcells H T) 60 :: l) w1) (hok : T.Ok) (hx : InB xs) (hl : xs.length ≤ 65536) :
    Its w0 (.tape B g (updH H s v') (T.setA s xs) :: l) (w1.setCell ⟨g, bn s, none⟩ v') := by
  have hk := hok.setA s hx hl
  have h1 := Its.rot3' (h.rot3.put (bn s) v')
  cases s
  · exact Its.tshut h1 hk
  · exact Its.tshut h1.swap hk
/-- its box among the parts -/
theorem Its.tbox (s : Bool) {v' : Value} {xs : List Int} (h : Its w0 (.area B v' xs :: .area B (H !s) (T.A !s) :: .box g (tcells H T) 60 :: l) w1) : w1.heap[g]? = some (.cells (tcells H T) 60) := h.three
end

/-- append at the operation, where it is known what it does -/
theorem app_step {w w' : World} {ops : Array Oper} {o : Oper} {a : Act} {K : Act → World → Prop} {Q : Exit → Act → World → Prop} {F : Prop} (hgd : o.guard = none) (s x : Operand)
    (ho : o.op = .call { callee := .builtin .append, args := #[s, x], argTypes := #[57, 57] }) (hty : o.type = 57) {v u v' : Value} (hs : a.eval s = v) (hx : a.eval x = u)
    (hr : (Builtin.append_ #[57, 57] 57 #[v, u]).run Try.prog w = .ok v' w') (h : K (a.put o.dst v') w') :
    if Region.wanted o (yielded ops a.tmps) = true then Oper.wp Try.prog o a w K Q else F := by
  have hw : Region.wanted o (yielded ops a.tmps) = true := by simp [Region.wanted, hgd]
  rw [if_pos hw]
  unfold Oper.wp execOp
  simp only [ho, hty, resolve, invoke, builtin, Sem.run_bind, Sem.run_pure, Result.andThen_ok, List.map_toArray, List.map_cons, List.map_nil, hs, hx, hr]
  exact h

set_option maxRecDepth 100000 in
set_option maxHeartbeats 1000000 in
theorem unit_put0 {w0 w : World} {g p3 p4 p8 : Nat} {H : Bool → Value} {T : Tp} {x : Int} {l : List It} (h : Its w0 (.tape w0.heap.size g H T :: .box p8 #[.int .u8 x] 5 :: .box p4 #[.int .i64 0] 3 :: .box p3 #[.pointer (some ⟨g, 0, none⟩)] 23 :: l) w) (hx : 0 ≤ x ∧ x ≤ 255) (hl : (T.A false).length < 65536) :
    Calls Try.prog 40 #[.pointer (some ⟨p3, 0, none⟩), .pointer (some ⟨p4, 0, none⟩), .pointer (some ⟨p8, 0, none⟩)] w fun e w' => e = .returned (.tuple #[]) ∧ ∃ H', Its w0 (.tape w0.heap.size g H' (T.setA false (T.A false ++ [x])) :: .box p8 #[.int .u8 x] 5 :: .box p4 #[.int .i64 0] 3 :: .box p3 #[.pointer (some ⟨g, 0, none⟩)] 23 :: l) w' := by
  have hb0 := tp_box h.one
  have hb8 : w.heap[p8]? = some (.cells #[.int .u8 x] 5) := h.two
  have hb4 : w.heap[p4]? = some (.cells #[.int .i64 0] 3) := h.three
  have hb3 : w.heap[p3]? = some (.cells #[.pointer (some ⟨g, 0, none⟩)] 23) := h.four
  have hok := tp_ok h.one
  obtain ⟨v, hv⟩ : ∃ v, H false = v := ⟨_, rfl⟩
  obtain ⟨SS, hSS⟩ : ∃ SS : World → Prop, SS = fun W => W.heap[g]? = some (.cells (tcells H T) 60) ∧ W.heap[p8]? = some (.cells #[.int .u8 x] 5) ∧ W.heap[p4]? = some (.cells #[.int .i64 0] 3) ∧ W.heap[p3]? = some (.cells #[.pointer (some ⟨g, 0, none⟩)] 23) := ⟨_, rfl⟩
  have s1 : ∀ W, SS W → W.cell? ⟨g, 0, none⟩ = some v := fun W hW => by
    rw [hSS] at hW
    rw [← hv]
    exact (cells_at hW.1 0).1
  have s2 : ∀ W, SS W → W.cell? ⟨p8, 0, none⟩ = some (.int .u8 x) := fun W hW => by
    rw [hSS] at hW
    exact (cells_at hW.2.1 0).1
  have s3 : ∀ W, SS W → W.cell? ⟨p4, 0, none⟩ = some (.int .i64 0) := fun W hW => by
    rw [hSS] at hW
    exact (cells_at hW.2.2.1 0).1
  have s4 : ∀ W, SS W → W.cell? ⟨p3, 0, none⟩ = some (.pointer (some ⟨g, 0, none⟩)) := fun W hW => by
    rw [hSS] at hW
    exact (cells_at hW.2.2.2 0).1
  have hS0 : SS w.drew := by rw [hSS]; exact ⟨hb0, hb8, hb4, hb3⟩
  have I1 := ((h.drew 1).alloc (.cells #[.int .u8 x] 5))
  have hS1 : SS (w.drew.alloc (.cells #[.int .u8 x] 5)) := by
    rw [hSS]
    exact ⟨tp_box I1.one, I1.two, I1.three, I1.four⟩
  have HA : Hid (∃ v' w', (Builtin.append_ #[57, 57] 57 #[v, .slice (some ⟨w.heap.size, 0, none⟩) 1 1]).run Try.prog (w.drew.alloc (.cells #[.int .u8 x] 5)) = .ok v' w' ∧ SS w' ∧ w'.frozen? ⟨g, 0, none⟩ = false ∧ w'.cell? ⟨g, 0, none⟩ = some v ∧ (∃ a c, v' = .slice a (T.A false ++ [x]).length c) ∧ ∃ H', Its w0 (.tape w0.heap.size g H' (T.setA false (T.A false ++ [x])) :: .box p8 #[.int .u8 x] 5 :: .box p4 #[.int .i64 0] 3 :: .box p3 #[.pointer (some ⟨g, 0, none⟩)] 23 :: l) (w'.setCell ⟨g, 0, none⟩ v')) := hide (by
    have ha := tp_ar I1.one false
    rw [hv] at ha
    obtain ⟨v', w', r1, r2, r3, r4⟩ := ha.run I1.size (by_new1 w.drew x _ rfl) (by omega) 57
    have I2 := I1.tmid false (.inl r2 : Ar w' _ v' _) (by rw [hv]; exact Frm.of_grown r3) (fun k hk => by
      rw [hv]
      rcases r4 with q | q
      · exact .inl (q ▸ hk)
      · rw [q] at hk
        cases hk
        exact .inr (Nat.le_refl _))
    have hgx := I2.tbox
    refine ⟨v', w', r1, ?_, (cells_at hgx 0).2, ?_, ?_, _, I2.tend false hok ((hok.inb false).append (InB.cons hx InB.nil)) (by rw [List.length_append]; simp; omega)⟩
    · rw [hSS]
      exact ⟨hgx, I2.all (.box p8 #[.int .u8 x] 5) (by simp), I2.all (.box p4 #[.int .i64 0] 3) (by simp), I2.all (.box p3 #[.pointer (some ⟨g, 0, none⟩)] 23) (by simp)⟩
    · rw [← hv]; exact (cells_at hgx 0).1
    · obtain ⟨a, c, e, _⟩ := Sl.own r2
      exact ⟨a, c, e⟩)
  obtain ⟨v', w', r1, hS2, f0, f1, ⟨a', c', rfl⟩, H', HE⟩ := HA.out
  have HE := hide HE
  obtain ⟨n', hn'⟩ : ∃ n', (T.A false ++ [x]).length = n' := ⟨_, rfl⟩
  rw [hn'] at r1 HE
  clear HA hn' hb0 hb8 hb4 hb3 hok hv hSS I1 h hx hl
  go_enter Try.func40, Try.ntmps40
  go_upto_region 0 with fail
  refine wp_region_E SS 14 (by kernel_rfl) ?_
  refine wpAnyE_take (i := 0) (v := .pointer (some ⟨g, 0, none⟩)) rfl (by kernel_rfl) (by kernel_rfl) (by kernel_rfl) (by kernel_rfl) (fun _ _ _ h => h) (Or.inl ⟨by rfl, fun W' hW => by have z0 := s4 W' hW; go_simp⟩) hS0 ?_
  refine wpAnyE_take (i := 1) (v := .int .i64 0) rfl (by kernel_rfl) (by kernel_rfl) (by kernel_rfl) (by kernel_rfl) (fun _ _ _ h => h) (Or.inl ⟨by rfl, fun W' hW => by have z0 := s3 W' hW; go_simp⟩) hS0 ?_
  refine wpAnyE_take (i := 2) (v := .pointer (some ⟨g, 0, none⟩)) rfl (by kernel_rfl) (by kernel_rfl) (by kernel_rfl) (by kernel_rfl) (fun _ _ _ h => h) (Or.inl ⟨by rfl, fun W' hW => by have z0 := s4 W' hW; go_simp⟩) hS0 ?_
  refine wpAnyE_take (i := 3) (v := .int .i64 0) rfl (by kernel_rfl) (by kernel_rfl) (by kernel_rfl) (by kernel_rfl) (fun _ _ _ h => h) (Or.inl ⟨by rfl, fun W' hW => by have z0 := s3 W' hW; go_simp⟩) hS0 ?_
  refine wpAnyE_take (i := 4) (v := .pointer (some ⟨g, 0, none⟩)) rfl (by kernel_rfl) (by kernel_rfl) (by kernel_rfl) (by kernel_rfl) (fun _ _ _ h => h) (Or.inl ⟨by rfl, fun W' hW => by go_simp⟩) hS0 ?_
  refine wpAnyE_take (i := 5) (v := .pointer (some ⟨g, 0, none⟩)) rfl (by kernel_rfl) (by kernel_rfl) (by kernel_rfl) (by kernel_rfl) (fun _ _ _ h => h) (Or.inl ⟨by rfl, fun W' hW => by go_simp⟩) hS0 ?_
  refine wpAnyE_take (i := 6) (v := .pointer (some ⟨g, 0, none⟩)) rfl (by kernel_rfl) (by kernel_rfl) (by kernel_rfl) (by kernel_rfl) (fun _ _ _ h => h) (Or.inl ⟨by rfl, fun W' hW => by go_simp⟩) hS0 ?_
  refine wpAnyE_take (i := 7) (v := v) rfl (by kernel_rfl) (by kernel_rfl) (by kernel_rfl) (by kernel_rfl) (fun _ _ _ h => h) (Or.inl ⟨by rfl, fun W' hW => by have z0 := s1 W' hW; go_simp⟩) hS0 ?_
  refine wpAnyE_take (i := 8) (v := .int .u8 x) rfl (by kernel_rfl) (by kernel_rfl) (by kernel_rfl) (by kernel_rfl) (fun _ _ _ h => h) (Or.inl ⟨by rfl, fun W' hW => by have z0 := s2 W' hW; go_simp⟩) hS0 ?_
  refine wpAnyE_takeC [12, 13, 14] (i := 11) (v := .pointer (some ⟨g, 0, none⟩)) rfl (by kernel_rfl) (by kernel_rfl) (by kernel_rfl) (by kernel_rfl) (fun _ _ _ h => h) (Or.inl ⟨by rfl, fun W' hW => by go_simp⟩) hS0 ?_
  refine wpAnyE_takeC [13, 14] (i := 12) (v := .pointer (some ⟨g, 0, none⟩)) rfl (by kernel_rfl) (by kernel_rfl) (by kernel_rfl) (by kernel_rfl) (fun _ _ _ h => h) (Or.inl ⟨by rfl, fun W' hW => by go_simp⟩) hS0 ?_
  refine wpAnyE_ready (rs := [9]) (by kernel_rfl) (by simp) ?_
  refine AllReadyE.cons rfl (fun K hK => ?_) AllReadyE.nil
  go_simp
  refine hK.out _ _ (fun _ => hS1) ?_
  clear hK K
  refine wpAnyE_ready (rs := [10]) (by kernel_rfl) (by simp) ?_
  refine AllReadyE.cons rfl (fun K hK => ?_) AllReadyE.nil
  refine app_step rfl _ _ rfl rfl rfl rfl r1 ?_
  refine hK.out _ _ (fun _ => hS2) ?_
  clear hK K
  refine wpAnyE_ready (rs := [13]) (by kernel_rfl) (by simp) ?_
  refine AllReadyE.cons rfl (fun K hK => ?_) AllReadyE.nil
  go_simp
  refine hK.out _ _ (fun _ => hS2) ?_
  clear hK K
  refine wpAnyE_ready (rs := [14]) (by kernel_rfl) (by simp) ?_
  refine AllReadyE.cons rfl (fun K hK => ?_) AllReadyE.nil
  go_simp
  refine hK.out _ _ (fun h => absurd rfl h) ?_
  clear hK K
  refine wpAnyE_done (by kernel_rfl) ?_ _
  go_wp2_with fail
  refine bodyPost_end (results_none rfl _ _ _) rfl ?_
  exact ⟨rfl, H', HE.out⟩

set_option maxRecDepth 100000 in
set_option maxHeartbeats 1000000 in
theorem unit_put1 {w0 w : World} {g p3 p4 p8 : Nat} {H : Bool → Value} {T : Tp} {x : Int} {l : List It} (h : Its w0 (.tape w0.heap.size g H T :: .box p8 #[.int .u8 x] 5 :: .box p4 #[.int .i64 1] 3 :: .box p3 #[.pointer (some ⟨g, 0, none⟩)] 23 :: l) w) (hx : 0 ≤ x ∧ x ≤ 255) (hl : (T.A true).length < 65536) :
    Calls Try.prog 40 #[.pointer (some ⟨p3, 0, none⟩), .pointer (some ⟨p4, 0, none⟩), .pointer (some ⟨p8, 0, none⟩)] w fun e w' => e = .returned (.tuple #[]) ∧ ∃ H', Its w0 (.tape w0.heap.size g H' (T.setA true (T.A true ++ [x])) :: .box p8 #[.int .u8 x] 5 :: .box p4 #[.int .i64 1] 3 :: .box p3 #[.pointer (some ⟨g, 0, none⟩)] 23 :: l) w' := by
  have hb0 := tp_box h.one
  have hb8 : w.heap[p8]? = some (.cells #[.int .u8 x] 5) := h.two
  have hb4 : w.heap[p4]? = some (.cells #[.int .i64 1] 3) := h.three
  have hb3 : w.heap[p3]? = some (.cells #[.pointer (some ⟨g, 0, none⟩)] 23) := h.four
  have hok := tp_ok h.one
  obtain ⟨v, hv⟩ : ∃ v, H true = v := ⟨_, rfl⟩
  obtain ⟨SS, hSS⟩ : ∃ SS : World → Prop, SS = fun W => W.heap[g]? = some (.cells (tcells H T) 60) ∧ W.heap[p8]? = some (.cells #[.int .u8 x] 5) ∧ W.heap[p4]? = some (.cells #[.int .i64 1] 3) ∧ W.heap[p3]? = some (.cells #[.pointer (some ⟨g, 0, none⟩)] 23) := ⟨_, rfl⟩
  have s1 : ∀ W, SS W → W.cell? ⟨g, 1, none⟩ = some v := fun W hW => by
    rw [hSS] at hW
    rw [← hv]
    exact (cells_at hW.1 1).1
  have s2 : ∀ W, SS W → W.cell? ⟨p8, 0, none⟩ = some (.int .u8 x) := fun W hW => by
    rw [hSS] at hW
    exact (cells_at hW.2.1 0).1
  have s3 : ∀ W, SS W → W.cell? ⟨p4, 0, none⟩ = some (.int .i64 1) := fun W hW => by
    rw [hSS] at hW
    exact (cells_at hW.2.2.1 0).1
  have s4 : ∀ W, SS W → W.cell? ⟨p3, 0, none⟩ = some (.pointer (some ⟨g, 0, none⟩)) := fun W hW => by
    rw [hSS] at hW
    exact (cells_at hW.2.2.2 0).1
  have hS0 : SS w.drew := by rw [hSS]; exact ⟨hb0, hb8, hb4, hb3⟩
  have I1 := ((h.drew 1).alloc (.cells #[.int .u8 x] 5))
  have hS1 : SS (w.drew.alloc (.cells #[.int .u8 x] 5)) := by
    rw [hSS]
    exact ⟨tp_box I1.one, I1.two, I1.three, I1.four⟩
  have HA : Hid (∃ v' w', (Builtin.append_ #[57, 57] 57 #[v, .slice (some ⟨w.heap.size, 0, none⟩) 1 1]).run Try.prog (w.drew.alloc (.cells #[.int .u8 x] 5)) = .ok v' w' ∧ SS w' ∧ w'.frozen? ⟨g, 1, none⟩ = false ∧ w'.cell? ⟨g, 1, none⟩ = some v ∧ (∃ a c, v' = .slice a (T.A true ++ [x]).length c) ∧ ∃ H', Its w0 (.tape w0.heap.size g H' (T.setA true (T.A true ++ [x])) :: .box p8 #[.int .u8 x] 5 :: .box p4 #[.int .i64 1] 3 :: .box p3 #[.pointer (some ⟨g, 0, none⟩)] 23 :: l) (w'.setCell ⟨g, 1, none⟩ v')) := hide (by
    have ha := tp_ar I1.one true
    rw [hv] at ha
    obtain ⟨v', w', r1, r2, r3, r4⟩ := ha.run I1.size (by_new1 w.drew x _ rfl) (by omega) 57
    have I2 := I1.tmid true (.inl r2 : Ar w' _ v' _) (by rw [hv]; exact Frm.of_grown r3) (fun k hk => by
      rw [hv]
      rcases r4 with q | q
      · exact .inl (q ▸ hk)
      · rw [q] at hk
        cases hk
        exact .inr (Nat.le_refl _))
    have hgx := I2.tbox
    refine ⟨v', w', r1, ?_, (cells_at hgx 1).2, ?_, ?_, _, I2.tend true hok ((hok.inb true).append (InB.cons hx InB.nil)) (by rw [List.length_append]; simp; omega)⟩
    · rw [hSS]
      exact ⟨hgx, I2.all (.box p8 #[.int .u8 x] 5) (by simp), I2.all (.box p4 #[.int .i64 1] 3) (by simp), I2.all (.box p3 #[.pointer (some ⟨g, 0, none⟩)] 23) (by simp)⟩
    · rw [← hv]; exact (cells_at hgx 1).1
    · obtain ⟨a, c, e, _⟩ := Sl.own r2
      exact ⟨a, c, e⟩)
  obtain ⟨v', w', r1, hS2, f0, f1, ⟨a', c', rfl⟩, H', HE⟩ := HA.out
  have HE := hide HE
  obtain ⟨n', hn'⟩ : ∃ n', (T.A true ++ [x]).length = n' := ⟨_, rfl⟩
  rw [hn'] at r1 HE
  clear HA hn' hb0 hb8 hb4 hb3 hok hv hSS I1 h hx hl
  go_enter Try.func40, Try.ntmps40
  go_upto_region 0 with fail
  refine wp_region_E SS 14 (by kernel_rfl) ?_
  refine wpAnyE_take (i := 0) (v := .pointer (some ⟨g, 0, none⟩)) rfl (by kernel_rfl) (by kernel_rfl) (by kernel_rfl) (by kernel_rfl) (fun _ _ _ h => h) (Or.inl ⟨by rfl, fun W' hW => by have z0 := s4 W' hW; go_simp⟩) hS0 ?_
  refine wpAnyE_take (i := 1) (v := .int .i64 1) rfl (by kernel_rfl) (by kernel_rfl) (by kernel_rfl) (by kernel_rfl) (fun _ _ _ h => h) (Or.inl ⟨by rfl, fun W' hW => by have z0 := s3 W' hW; go_simp⟩) hS0 ?_
  refine wpAnyE_take (i := 2) (v := .pointer (some ⟨g, 0, none⟩)) rfl (by kernel_rfl) (by kernel_rfl) (by kernel_rfl) (by kernel_rfl) (fun _ _ _ h => h) (Or.inl ⟨by rfl, fun W' hW => by have z0 := s4 W' hW; go_simp⟩) hS0 ?_
  refine wpAnyE_take (i := 3) (v := .int .i64 1) rfl (by kernel_rfl) (by kernel_rfl) (by kernel_rfl) (by kernel_rfl) (fun _ _ _ h => h) (Or.inl ⟨by rfl, fun W' hW => by have z0 := s3 W' hW; go_simp⟩) hS0 ?_
  refine wpAnyE_take (i := 4) (v := .pointer (some ⟨g, 0, none⟩)) rfl (by kernel_rfl) (by kernel_rfl) (by kernel_rfl) (by kernel_rfl) (fun _ _ _ h => h) (Or.inl ⟨by rfl, fun W' hW => by go_simp⟩) hS0 ?_
  refine wpAnyE_take (i := 5) (v := .pointer (some ⟨g, 0, none⟩)) rfl (by kernel_rfl) (by kernel_rfl) (by kernel_rfl) (by kernel_rfl) (fun _ _ _ h => h) (Or.inl ⟨by rfl, fun W' hW => by go_simp⟩) hS0 ?_
  refine wpAnyE_take (i := 6) (v := .pointer (some ⟨g, 1, none⟩)) rfl (by kernel_rfl) (by kernel_rfl) (by kernel_rfl) (by kernel_rfl) (fun _ _ _ h => h) (Or.inl ⟨by rfl, fun W' hW => by go_simp⟩) hS0 ?_
  refine wpAnyE_take (i := 7) (v := v) rfl (by kernel_rfl) (by kernel_rfl) (by kernel_rfl) (by kernel_rfl) (fun _ _ _ h => h) (Or.inl ⟨by rfl, fun W' hW => by have z0 := s1 W' hW; go_simp⟩) hS0 ?_
  refine wpAnyE_take (i := 8) (v := .int .u8 x) rfl (by kernel_rfl) (by kernel_rfl) (by kernel_rfl) (by kernel_rfl) (fun _ _ _ h => h) (Or.inl ⟨by rfl, fun W' hW => by have z0 := s2 W' hW; go_simp⟩) hS0 ?_
  refine wpAnyE_takeC [12, 13, 14] (i := 11) (v := .pointer (some ⟨g, 0, none⟩)) rfl (by kernel_rfl) (by kernel_rfl) (by kernel_rfl) (by kernel_rfl) (fun _ _ _ h => h) (Or.inl ⟨by rfl, fun W' hW => by go_simp⟩) hS0 ?_
  refine wpAnyE_takeC [13, 14] (i := 12) (v := .pointer (some ⟨g, 0, none⟩)) rfl (by kernel_rfl) (by kernel_rfl) (by kernel_rfl) (by kernel_rfl) (fun _ _ _ h => h) (Or.inl ⟨by rfl, fun W' hW => by go_simp⟩) hS0 ?_
  refine wpAnyE_ready (rs := [9]) (by kernel_rfl) (by simp) ?_
  refine AllReadyE.cons rfl (fun K hK => ?_) AllReadyE.nil
  go_simp
  refine hK.out _ _ (fun _ => hS1) ?_
  clear hK K
  refine wpAnyE_ready (rs := [10]) (by kernel_rfl) (by simp) ?_
  refine AllReadyE.cons rfl (fun K hK => ?_) AllReadyE.nil
  refine app_step rfl _ _ rfl rfl rfl rfl r1 ?_
  refine hK.out _ _ (fun _ => hS2) ?_
  clear hK K
  refine wpAnyE_ready (rs := [13]) (by kernel_rfl) (by simp) ?_
  refine AllReadyE.cons rfl (fun K hK => ?_) AllReadyE.nil
  go_simp
  refine hK.out _ _ (fun _ => hS2) ?_
  clear hK K
  refine wpAnyE_ready (rs := [14]) (by kernel_rfl) (by simp) ?_
  refine AllReadyE.cons rfl (fun K hK => ?_) AllReadyE.nil
  go_simp
  refine hK.out _ _ (fun h => absurd rfl h) ?_
  clear hK K
  refine wpAnyE_done (by kernel_rfl) ?_ _
  go_wp2_with fail
  refine bodyPost_end (results_none rfl _ _ _) rfl ?_
  exact ⟨rfl, H', HE.out⟩
end Go.Proofs.Ytgdoagmnhmfjkaa
