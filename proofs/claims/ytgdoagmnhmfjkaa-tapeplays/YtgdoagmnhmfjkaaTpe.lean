/- New, Arm, Size, good, Read; bytes.Clone. -/
import Derived.Test.YtgdoagmnhmfjkaaTpd
namespace Go.Proofs.Ytgdoagmnhmfjkaa
open Go.RowKit
set_option linter.unusedVariables false

theorem clone_nil (w : World) : Calls Try.prog 36 #[.slice none 0 0] w fun e w' => ∃ v, e = .returned v ∧ byE.Own w' w.heap.size v [] ∧ Below w.heap.size w w' := by
  have hq : ∀ W a n c, (binOp .eql 57 (.slice a n c) (.slice none 0 0)).run Try.prog W = .ok (.bool a.isNone) W := fun W a n c => Lib.run_eql_slice_nil W 57 5 a n c 0 0 Try.underlying57
  go_enter Try.func36, Try.ntmps36
  go_wp2_with fail
  go_ret
  exact ⟨_, rfl, El.Own.nil _ _ _, Below.refl _ _⟩
set_option maxRecDepth 100000 in
theorem clone_some {w : World} {x : Addr} {n c : Nat} {xs : List Int} (h : byE.Rd w (.slice (some x) n c) xs) (hl : xs.length ≤ 65536) : Calls Try.prog 36 #[.slice (some x) n c] w fun e w' => ∃ v, e = .returned v ∧ byE.Own w' w.heap.size v xs ∧ Below w.heap.size w w' := by
  have hb := below_new w (.cells #[] 5)
  have ho : byE.Own (w.alloc (.cells #[] 5)) w.heap.size (.slice (some ⟨w.heap.size, 0, none⟩) 0 0) [] := El.Own.new byE w w.heap.size (Nat.le_refl _) #[] [] rfl (by simp) _ _ _ rfl rfl rfl
  have hr := h.keep hb
  have HL : Hid (([] : List Int).length + xs.length ≤ 1000000) := hide (by simp; omega)
  clear h hl
  have hq : ∀ W a n c, (binOp .eql 57 (.slice a n c) (.slice none 0 0)).run Try.prog W = .ok (.bool a.isNone) W := fun W a n c => Lib.run_eql_slice_nil W 57 5 a n c 0 0 Try.underlying57
  go_enter Try.func36, Try.ntmps36
  go_wp2_with (at_builtin; refine byE.wp hb (by rfl) _ _ rfl _ _ rfl rfl [] xs ho hr HL.out ?_; intro v1 w6 hown1 hg1 hs1 hb6; refine Hid.out ?_)
  refine hide ?_
  clear hg1 hs1
  rw [List.nil_append] at hown1
  go_wp2_with fail
  go_ret
  exact ⟨_, rfl, hown1, hb6⟩
theorem clone_any {w : World} {v : Value} {xs : List Int} (h : byE.Rd w v xs) (hl : xs.length ≤ 65536) : Calls Try.prog 36 #[v] w fun e w' => ∃ u, e = .returned u ∧ byE.Own w' w.heap.size u xs ∧ Below w.heap.size w w' := by
  rcases h with ⟨rfl, rfl⟩ | ⟨x, c, rfl, hc⟩
  · exact clone_nil w
  · exact clone_some (.inr ⟨x, c, rfl, hc⟩) hl

section
variable {w0 w : World} {g : Nat} {H : Bool → Value} {T : Tp} {l : List It}
/-- a tape that is made -/
theorem Its.tnew (h : Its w0 l w) {w1 : World} {H : Bool → Value} {T : Tp} (h1 : Its w0 (.area w0.heap.size (H false) (T.A false) :: .area w0.heap.size (H true) (T.A true) :: l) w1) (hok : T.Ok) : Its w0 (.tape w0.heap.size w1.heap.size H T :: l) (w1.alloc (.cells (tcells H T) 60)) :=
  Its.tshut (Its.rot3' (h1.box1 (tcells H T) 60)) hok
theorem newS (h : Its w0 l w) : Calls Try.prog 9 #[] w fun e w' => ∃ g H, e = .returned (.pointer (some ⟨g, 0, none⟩)) ∧ Its w0 (.tape w0.heap.size g H Tp.nw :: l) w' := by
  have HE : Hid (Its w0 (.tape w0.heap.size w.heap.size (fun _ => .slice none 0 0) Tp.nw :: l) (w.alloc (.cells #[.slice none 0 0, .slice none 0 0, .int .i64 0, .bool false, .int .i64 0, .bool false] 60))) := hide (by
    have h1 : Its w0 (.area w0.heap.size (.slice none 0 0) [] :: .area w0.heap.size (.slice none 0 0) [] :: l) w :=
      (h.new (x := .area w0.heap.size (.slice none 0 0) []) (Ar.nil _ _) (fun k hk => by cases hk) (Below.refl _ _)).new (x := .area w0.heap.size (.slice none 0 0) []) (Ar.nil _ _) (fun k hk => by cases hk) (Below.refl _ _)
    exact Its.tnew (T := Tp.nw) (H := fun _ => .slice none 0 0) h h1 Tp.Ok.nw)
  clear h
  go_enter Try.func9, Try.ntmps9
  go_wp2_with fail
  go_ret
  first | exact ⟨_, _, rfl, HE.out⟩ | exact ⟨_, rfl, _, HE.out⟩
set_option maxRecDepth 100000 in
theorem armS (h : Its w0 (.tape w0.heap.size g H T :: l) w) (n : Int) : Calls Try.prog 12 #[.pointer (some ⟨g, 0, none⟩), .int .i64 n] w fun e w' => e = .returned (.int .i64 (T.arm n).1) ∧ Its w0 (.tape w0.heap.size g H (T.arm n).2 :: l) w' := by
  obtain ⟨_, _, _, d3, d4, d5⟩ := tp_cells h.one
  have f3 := tp_frozen h.one 3
  have f4 := tp_frozen h.one 4
  have hok := tp_ok h.one
  have HI := hide h
  cases hd : T.dd with
  | true =>
    have ec : T.arm n = (190, T) := by unfold Tp.arm; rw [if_pos hd]
    rw [ec]
    rw [hd] at d5
    clear h hd ec hok d3 d4 f3 f4
    go_enter Try.func12, Try.ntmps12
    go_wp2_with fail
    go_ret
    exact ⟨rfl, HI.out⟩
  | false =>
    rw [hd] at d5
    by_cases h0 : n < 0
    · have ec : T.arm n = (1, T) := by unfold Tp.arm; rw [if_neg (by rw [hd]; decide), if_pos (.inl h0)]
      rw [ec]
      clear h hd ec hok d3 d4 f3 f4
      go_enter Try.func12, Try.ntmps12
      go_wp2_with fail
      go_ret
      exact ⟨rfl, HI.out⟩
    · by_cases h1 : 1099511627776 < n
      · have ec : T.arm n = (1, T) := by unfold Tp.arm; rw [if_neg (by rw [hd]; decide), if_pos (.inr h1)]
        rw [ec]
        clear h hd ec hok d3 d4 f3 f4
        go_enter Try.func12, Try.ntmps12
        go_wp2_with fail
        go_ret
        exact ⟨rfl, HI.out⟩
      · have ec : T.arm n = (0, ⟨T.A, T.cn, true, n.toNat, T.dd⟩) := by unfold Tp.arm; rw [if_neg (by rw [hd]; decide), if_neg (by omega)]
        rw [ec]
        have e1 := h.tcell (T' := ⟨T.A, T.cn, true, T.bd, T.dd⟩) rfl ⟨hok.inb, hok.len, hok.bud⟩ 3 (.bool true) rfl
        have HE := hide (e1.tcell (T' := ⟨T.A, T.cn, true, n.toNat, T.dd⟩) rfl ⟨hok.inb, hok.len, by simp only; omega⟩ 4 (.int .i64 n) (by
          unfold tcells
          simp only
          rw [show ((n.toNat : Nat) : Int) = n by omega]
          rfl))
        have f5 := tp_frozen e1.one 4
        have d6 := (tp_cells e1.one).2.2.2.2.1
        clear h hd ec hok e1
        go_enter Try.func12, Try.ntmps12
        go_wp2_with fail
        go_ret
        exact ⟨rfl, HE.out⟩

set_option maxRecDepth 100000 in
theorem size_0 (h : (It.tape w0.heap.size g H T).P w) (hs : T.cn = false) : Calls Try.prog 25 #[.pointer (some ⟨g, 0, none⟩)] w fun e w' => e = .returned (.int .i64 (T.now.length : Int)) ∧ ∃ q, w' = w.drewN q := by
  obtain ⟨a, c, hv, hsl⟩ := (tp_ar h false).sl
  have d0 := (tp_cells h).1
  have d2 : w.cell? ⟨g, 2, none⟩ = some (.int .i64 0) := by have := (tp_cells h).2.2.1; rw [hs] at this; exact this
  have e : T.now = T.A false := by unfold Tp.now; rw [hs]
  rw [e]
  rw [hv] at d0
  generalize (T.A false).length = n at *
  clear hv hsl e hs h
  go_enter Try.func25, Try.ntmps25
  go_wp2_with fail
  go_quiet (fail)
  go_wp2_with fail
  go_ret
  exact ⟨rfl, _, rfl⟩

set_option maxRecDepth 100000 in
set_option maxHeartbeats 1000000 in
theorem good_0 (h : Its w0 (.tape w0.heap.size g H T :: l) w) (hs : T.cn = false) {got : List Nt} {r : List Int} (hr : Rds T.now got r) : Calls Try.prog 27 #[.pointer (some ⟨g, 0, none⟩)] w fun e w' => e = .returned (.int .i64 (tot got : Int)) ∧ Its w0 (.tape w0.heap.size g H T :: l) w' := by
  obtain ⟨a, c, hv, hsl⟩ := (tp_ar h.one false).sl
  have hok := tp_ok h.one
  have d0 := (tp_cells h.one).1
  have d2 : w.cell? ⟨g, 2, none⟩ = some (.int .i64 0) := by have := (tp_cells h.one).2.2.1; rw [hs] at this; exact this
  have e : T.now = T.A false := by unfold Tp.now; rw [hs]
  rw [e] at hr
  have KR := hide (read_any (w := w.drew) (hsl.keep (below_drew w 1)) (hok.inb false) (by have := hok.len false; omega))
  have Hr := hide hr
  have HI := hide h
  rw [hv] at d0
  obtain ⟨n, hn⟩ : ∃ n, (T.A false).length = n := ⟨_, rfl⟩
  rw [hn] at d0 KR
  clear hv hsl e hs h hok hr hn
  go_enter Try.func27, Try.ntmps27
  go_upto_region 1 with fail
  go_region_with (go_at_call 38; refine KR.out.mono ?_; rintro e W1 ⟨v, ns, r', rfl, hr, ho, hb⟩)
  go_wp2_with fail
  go_ret
  obtain ⟨e1, e2⟩ := Hr.out.uniq hr
  rw [← e1]
  exact ⟨rfl, HI.out.keep (Below.trans (below_drew w 1) (hb.mono (Nat.le_refl _)))⟩

def ReaV (w0 : World) (e : Ending) (got : List Nt) (l : List It) (w' : World) : Prop := ∃ v, e = .returned v ∧ Its w0 (.row ntE w0.heap.size v got :: l) w'

set_option maxRecDepth 100000 in
set_option maxHeartbeats 1000000 in
theorem read_0 (h : Its w0 (.tape w0.heap.size g H T :: l) w) (hs : T.cn = false) {got : List Nt} {r : List Int} (hr : Rds T.now got r) : Calls Try.prog 24 #[.pointer (some ⟨g, 0, none⟩)] w fun e w' => ReaV w0 e got (.tape w0.heap.size g H T :: l) w' := by
  obtain ⟨a, c, hv, hsl⟩ := (tp_ar h.one false).sl
  have hok := tp_ok h.one
  have d0 := (tp_cells h.one).1
  have d2 : w.cell? ⟨g, 2, none⟩ = some (.int .i64 0) := by have := (tp_cells h.one).2.2.1; rw [hs] at this; exact this
  have e : T.now = T.A false := by unfold Tp.now; rw [hs]
  rw [e] at hr
  have KR := hide (read_any (w := w.drew) (hsl.keep (below_drew w 1)) (hok.inb false) (by have := hok.len false; omega))
  have Hr := hide hr
  have HI := hide h
  rw [hv] at d0
  obtain ⟨n, hn⟩ : ∃ n, (T.A false).length = n := ⟨_, rfl⟩
  rw [hn] at d0 KR
  clear hv hsl e hs h hok hr hn
  go_enter Try.func24, Try.ntmps24
  go_upto_region 1 with fail
  go_region_with (go_at_call 38; refine KR.out.mono ?_; rintro e W1 ⟨v, ns, r', rfl, hr, ho, hb⟩)
  go_wp2_with fail
  go_ret
  obtain ⟨e1, e2⟩ := Hr.out.uniq hr
  rw [← e1] at ho
  exact ⟨_, rfl, (HI.out.drew 1).fresh ho hb⟩

set_option maxRecDepth 100000 in
theorem size_1 (h : (It.tape w0.heap.size g H T).P w) (hs : T.cn = true) : Calls Try.prog 25 #[.pointer (some ⟨g, 0, none⟩)] w fun e w' => e = .returned (.int .i64 (T.now.length : Int)) ∧ ∃ q, w' = w.drewN q := by
  obtain ⟨a, c, hv, hsl⟩ := (tp_ar h true).sl
  have d0 := (tp_cells h).2.1
  have d2 : w.cell? ⟨g, 2, none⟩ = some (.int .i64 1) := by have := (tp_cells h).2.2.1; rw [hs] at this; exact this
  have e : T.now = T.A true := by unfold Tp.now; rw [hs]
  rw [e]
  rw [hv] at d0
  generalize (T.A true).length = n at *
  clear hv hsl e hs h
  go_enter Try.func25, Try.ntmps25
  go_wp2_with fail
  go_quiet (fail)
  go_wp2_with fail
  go_ret
  exact ⟨rfl, _, rfl⟩

set_option maxRecDepth 100000 in
set_option maxHeartbeats 1000000 in
theorem good_1 (h : Its w0 (.tape w0.heap.size g H T :: l) w) (hs : T.cn = true) {got : List Nt} {r : List Int} (hr : Rds T.now got r) : Calls Try.prog 27 #[.pointer (some ⟨g, 0, none⟩)] w fun e w' => e = .returned (.int .i64 (tot got : Int)) ∧ Its w0 (.tape w0.heap.size g H T :: l) w' := by
  obtain ⟨a, c, hv, hsl⟩ := (tp_ar h.one true).sl
  have hok := tp_ok h.one
  have d0 := (tp_cells h.one).2.1
  have d2 : w.cell? ⟨g, 2, none⟩ = some (.int .i64 1) := by have := (tp_cells h.one).2.2.1; rw [hs] at this; exact this
  have e : T.now = T.A true := by unfold Tp.now; rw [hs]
  rw [e] at hr
  have KR := hide (read_any (w := w.drew) (hsl.keep (below_drew w 1)) (hok.inb true) (by have := hok.len true; omega))
  have Hr := hide hr
  have HI := hide h
  rw [hv] at d0
  obtain ⟨n, hn⟩ : ∃ n, (T.A true).length = n := ⟨_, rfl⟩
  rw [hn] at d0 KR
  clear hv hsl e hs h hok hr hn
  go_enter Try.func27, Try.ntmps27
  go_upto_region 1 with fail
  go_region_with (go_at_call 38; refine KR.out.mono ?_; rintro e W1 ⟨v, ns, r', rfl, hr, ho, hb⟩)
  go_wp2_with fail
  go_ret
  obtain ⟨e1, e2⟩ := Hr.out.uniq hr
  rw [← e1]
  exact ⟨rfl, HI.out.keep (Below.trans (below_drew w 1) (hb.mono (Nat.le_refl _)))⟩

set_option maxRecDepth 100000 in
set_option maxHeartbeats 1000000 in
theorem read_1 (h : Its w0 (.tape w0.heap.size g H T :: l) w) (hs : T.cn = true) {got : List Nt} {r : List Int} (hr : Rds T.now got r) : Calls Try.prog 24 #[.pointer (some ⟨g, 0, none⟩)] w fun e w' => ReaV w0 e got (.tape w0.heap.size g H T :: l) w' := by
  obtain ⟨a, c, hv, hsl⟩ := (tp_ar h.one true).sl
  have hok := tp_ok h.one
  have d0 := (tp_cells h.one).2.1
  have d2 : w.cell? ⟨g, 2, none⟩ = some (.int .i64 1) := by have := (tp_cells h.one).2.2.1; rw [hs] at this; exact this
  have e : T.now = T.A true := by unfold Tp.now; rw [hs]
  rw [e] at hr
  have KR := hide (read_any (w := w.drew) (hsl.keep (below_drew w 1)) (hok.inb true) (by have := hok.len true; omega))
  have Hr := hide hr
  have HI := hide h
  rw [hv] at d0
  obtain ⟨n, hn⟩ : ∃ n, (T.A true).length = n := ⟨_, rfl⟩
  rw [hn] at d0 KR
  clear hv hsl e hs h hok hr hn
  go_enter Try.func24, Try.ntmps24
  go_upto_region 1 with fail
  go_region_with (go_at_call 38; refine KR.out.mono ?_; rintro e W1 ⟨v, ns, r', rfl, hr, ho, hb⟩)
  go_wp2_with fail
  go_ret
  obtain ⟨e1, e2⟩ := Hr.out.uniq hr
  rw [← e1] at ho
  exact ⟨_, rfl, (HI.out.drew 1).fresh ho hb⟩

theorem sizeP (h : (It.tape w0.heap.size g H T).P w) : Calls Try.prog 25 #[.pointer (some ⟨g, 0, none⟩)] w fun e w' => e = .returned (.int .i64 (T.now.length : Int)) ∧ ∃ q, w' = w.drewN q := by
  cases hs : T.cn
  · exact size_0 h hs
  · exact size_1 h hs
theorem sizeS (h : Its w0 (.tape w0.heap.size g H T :: l) w) : Calls Try.prog 25 #[.pointer (some ⟨g, 0, none⟩)] w fun e w' => e = .returned (.int .i64 (T.now.length : Int)) ∧ Its w0 (.tape w0.heap.size g H T :: l) w' :=
  (sizeP h.one).mono (by rintro e w' ⟨rfl, q, rfl⟩; exact ⟨rfl, h.drew q⟩)
theorem goodS (h : Its w0 (.tape w0.heap.size g H T :: l) w) {got : List Nt} {r : List Int} (hr : Rds T.now got r) : Calls Try.prog 27 #[.pointer (some ⟨g, 0, none⟩)] w fun e w' => e = .returned (.int .i64 (tot got : Int)) ∧ Its w0 (.tape w0.heap.size g H T :: l) w' := by
  cases hs : T.cn
  · exact good_0 h hs hr
  · exact good_1 h hs hr
theorem readS (h : Its w0 (.tape w0.heap.size g H T :: l) w) {got : List Nt} {r : List Int} (hr : Rds T.now got r) : Calls Try.prog 24 #[.pointer (some ⟨g, 0, none⟩)] w fun e w' => ReaV w0 e got (.tape w0.heap.size g H T :: l) w' := by
  cases hs : T.cn
  · exact read_0 h hs hr
  · exact read_1 h hs hr
end
end Go.Proofs.Ytgdoagmnhmfjkaa
