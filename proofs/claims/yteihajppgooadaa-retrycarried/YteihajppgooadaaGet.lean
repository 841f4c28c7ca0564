/- New, Ready, Get. -/
import Derived.Test.YteihajppgooadaaObj
namespace Go.Proofs.Yteihajppgooadaa
open Go.Conc Go.RowKit Go.Maps Go.ChangeMaps
set_option linter.unusedVariables false

theorem info33 : (Try.prog.info? 36).map (fun i => i.bytes) = some 24 := by kernel_rfl
theorem run_mc (w : World) (n : Int) (h0 : 0 ≤ n) (h1 : n ≤ 1000) : (Instr.makeChan 97 (.int .i64 n)).run Try.prog w = .ok (.chan (some w.heap.size)) (w.alloc (.chan n.toNat #[] false 0 0 false)) := by
  obtain ⟨i, hi, he⟩ := Option.map_eq_some_iff.1 info33
  obtain ⟨m, rfl⟩ := Int.eq_ofNat_of_zero_le h0
  exact Conc.run_makeChan Try.underlying97 hi .i64 m (by omega) (by rw [he]; omega)

set_option maxRecDepth 100000 in
set_option maxHeartbeats 1000000 in
theorem new_no (win first : Int) (w : World) (h : win < 1 ∨ 64 < win) : Calls Try.prog 25 #[.int .i64 win, .int .u16 first] w fun e w' => e = .returned (.tuple #[.pointer none, .int .i64 1]) ∧ w' = w := by
  by_cases h0 : win < 1
  · clear h
    go_enter Try.func25, Try.ntmps25
    go_wp2_with fail
    go_ret2
    exact ⟨rfl, rfl⟩
  · have h1 : 64 < win := by omega
    clear h
    go_enter Try.func25, Try.ntmps25
    go_wp2_with fail
    go_ret2
    exact ⟨rfl, rfl⟩

/-- a new intake -/
def Ik.new (win first : Int) : Ik := ⟨win, first, fun _ => none, [], 0⟩
/-- where it lies -/
def hdAt (n : Nat) : Hd := ⟨n + 2, n, n + 1⟩

theorem heap3 (w : World) (a b c : Obj) : (((w.alloc a).alloc b).alloc c).heap[w.heap.size]? = some a ∧ (((w.alloc a).alloc b).alloc c).heap[w.heap.size + 1]? = some b ∧ (((w.alloc a).alloc b).alloc c).heap[w.heap.size + 2]? = some c := by
  refine ⟨?_, ?_, ?_⟩
  · rw [Below.heap_alloc _ _ _ (by simp; omega), Below.heap_alloc _ _ _ (by simp)]
    show (w.heap.push a)[w.heap.size]? = _
    simp
  · rw [Below.heap_alloc _ _ _ (by simp)]
    show ((w.alloc a).heap.push b)[w.heap.size + 1]? = _
    rw [show w.heap.size + 1 = (w.alloc a).heap.size by simp]
    exact Array.getElem?_push_size
  · show (((w.alloc a).alloc b).heap.push c)[w.heap.size + 2]? = _
    rw [show w.heap.size + 2 = ((w.alloc a).alloc b).heap.size by simp]
    exact Array.getElem?_push_size

theorem new_has (w : World) (win first : Int) (h0 : 1 ≤ win) (h1 : win ≤ 64) (f0 : 0 ≤ first) (f1 : first ≤ 65535) :
    Has (((w.alloc (.map #[] 0)).alloc (.chan (2 * win - 1).toNat #[] false 0 0 false)).alloc (.cells #[.int .i64 win, .int .u16 first, .map (some w.heap.size), .chan (some (w.heap.size + 1))] 99)) (hdAt w.heap.size) (Ik.new win first) := by
  obtain ⟨k1, k2, k3⟩ := heap3 w (.map #[] 0) (.chan (2 * win - 1).toNat #[] false 0 0 false) (.cells #[.int .i64 win, .int .u16 first, .map (some w.heap.size), .chan (some (w.heap.size + 1))] 99)
  exact { win := ⟨h0, h1⟩, nx := ⟨f0, f1⟩, box := k3, map := ⟨.map [], ((World.ownsMap_made w Try.prog 22 raw).alloc _).alloc _, fun x _ _ => rfl⟩, chan := ⟨[], 0, 0, k2, .nil⟩ }

set_option maxRecDepth 100000 in
set_option maxHeartbeats 1000000 in
theorem new_ok (win first : Int) (w : World) (h0 : 1 ≤ win) (h1 : win ≤ 64) (f0 : 0 ≤ first) (f1 : first ≤ 65535) : Calls Try.prog 25 #[.int .i64 win, .int .u16 first] w fun e w' =>
    e = .returned (.tuple #[.pointer (some ⟨w.heap.size + 2, 0, none⟩), .int .i64 0]) ∧ Has w' (hdAt w.heap.size) (Ik.new win first) ∧ Below w.heap.size w w' ∧ w'.heap.size = w.heap.size + 3 := by
  have hm := run_mc (w.alloc (.map #[] 0)) (2 * win - 1) (by omega) (by omega)
  have hH := hide (new_has w win first h0 h1 f0 f1)
  obtain ⟨m, em⟩ : ∃ m, (2 * win - 1).toNat = m := ⟨_, rfl⟩
  rw [em] at hm hH
  clear em
  have hk : ∀ t W, (Instr.makeMap t none).run Try.prog W = .ok (.map (some W.heap.size)) (W.alloc (.map #[] 0)) := fun t W => run_makeMap t W
  have hB : ∀ o o' o'', Below w.heap.size w (((w.alloc o).alloc o').alloc o'') := fun o o' o'' => (((Below.refl _ _).alloc (Nat.le_refl _) o).alloc (by simp) o').alloc (by simp; omega) o''
  go_enter Try.func25, Try.ntmps25
  go_wp2_with fail
  exact bodyPost_ret (v := .tuple #[.pointer (some ⟨w.heap.size + 2, 0, none⟩), .int .i64 0]) (by simp [results, Try.results25, go_sem]) rfl ⟨rfl, hH.out, hB _ _ _, by simp⟩

set_option maxRecDepth 100000 in
set_option maxHeartbeats 1000000 in
theorem ready_any {w : World} {h : Hd} {S : Ik} (H : Has w h S) : Calls Try.prog 41 #[.pointer (some ⟨h.g, 0, none⟩)] w fun e w' => e = .returned (.int .i64 S.q.length) ∧ w' = w := by
  obtain ⟨c0, c1, c2, c3⟩ := H.cells
  obtain ⟨buf, s, r, hc, hq⟩ := H.chan
  have hl := hq.len
  have hr : ∀ ty, (Builtin.len_ #[97] ty #[.chan (some h.c)]).run Try.prog w = .ok (.int .i64 S.q.length) w := by
    intro ty
    rw [run_len_chan 97 ty Try.underlying97 hc]
    simp [goInt, hl]
  clear H hc hq hl
  go_enter Try.func41, Try.ntmps41
  go_wp2_with fail
  go_ret
  exact ⟨rfl, rfl⟩

theorem chan_has {w : World} {h : Hd} {S : Ik} (H : Has w h S) (buf : List Value) (q : List Dt) (s r : Nat) (hq : Qs w buf q) : Has (w.setChan h.c (2 * S.win - 1).toNat buf.toArray false s r false) h { S with q := q } := by
  obtain ⟨a1, a2, a3⟩ := H.apart
  obtain ⟨D, ⟨es, clock, hb, hr⟩, hM⟩ := H.map
  obtain ⟨buf0, s0, r0, hc0, hq0⟩ := H.chan
  have hlt := heap_lt hc0
  have st : ∀ k, k ≠ h.c → (w.setChan h.c (2 * S.win - 1).toNat buf.toArray false s r false).heap[k]? = w.heap[k]? := fun k hk => by simp [World.setChan, hk.symm]
  have st' : ∀ k (cur : Array Value), w.heap[k]? = some (Obj.cells cur 5) → (w.setChan h.c (2 * S.win - 1).toNat buf.toArray false s r false).heap[k]? = w.heap[k]? := fun k cur hk => st k fun e => by rw [e, hc0] at hk; cases hk
  exact { win := H.win, nx := H.nx, box := by rw [st _ a2]; exact H.box, map := ⟨D, ⟨es, clock, by rw [st _ a3]; exact hb, hr⟩, hM.stay fun g cur hg _ => st' g cur hg⟩, chan := ⟨buf, s, r, heap_setChan w h.c _ _ false s r false hlt, hq.stay fun g cur hg _ => st' g cur hg⟩ }
theorem only_chan {w : World} {h : Hd} (cap : Nat) (buf : Array Value) (s r : Nat) : Only h w (w.setChan h.c cap buf false s r false) :=
  ⟨rfl, rfl, rfl, by simp [World.setChan], fun k _ _ _ hk => by simp [World.setChan, hk.symm]⟩

set_option maxRecDepth 100000 in
set_option maxHeartbeats 1000000 in
theorem get_some {w : World} {h : Hd} {S : Ik} {p : Dt} {q : List Dt} (H : Has w h S) (hq : S.q = p :: q) : Calls Try.prog 28 #[.pointer (some ⟨h.g, 0, none⟩)] w fun e w' =>
    ∃ v, e = .returned (.tuple #[v, .int .i64 0]) ∧ Dat w' v p ∧ Has w' h { S with q := q } ∧ Only h w w' ∧ w'.heap.size = w.heap.size := by
  obtain ⟨c0, c1, c2, h3⟩ := H.cells
  obtain ⟨buf0, s, r, hc, hqs⟩ := H.chan
  rw [hq] at hqs
  cases hqs with
  | @cons v _ buf _ hd hqs =>
  have hd' : Dat (w.setChan h.c (2 * S.win - 1).toNat buf.toArray false s (r + 1) false) v p := hd.stay fun g cur hg _ => by
    have : g ≠ h.c := fun e => by rw [e, hc] at hg; cases hg
    simp [World.setChan, this.symm]
  have HH := hide (chan_has H buf q s (r + 1) hqs)
  have HO := hide (only_chan (h := h) (w := w) (2 * S.win - 1).toNat buf.toArray s (r + 1))
  have Hz : Hid ((w.setChan h.c (2 * S.win - 1).toNat buf.toArray false s (r + 1) false).heap.size = w.heap.size) := hide (by simp [World.setChan])
  have HD := hide hd'
  generalize (2 * S.win - 1).toNat = cap at *
  clear H hqs hd hd' c0 c1 c2
  refine calls_lone Try.func28 rfl (fun cs => ?_) (fun w' h => by obtain ⟨v, h, _⟩ := h; cases h)
  simp only [Try.ntmps28, List.size_toArray, List.length_cons, List.length_nil, Nat.reduceAdd, Nat.reduceSub, Array.replicate_succ, Array.replicate_zero, List.push_toArray, List.append_toArray, List.nil_append, List.cons_append]
  refine LoneTo.step step_seq ?_
  refine loneTo_wp ?_
  go_wp2_with fail
  simp only [After]
  refine LoneTo.step step_seq ?_
  refine loneTo_wp ?_
  go_wp2_with fail
  simp only [After]
  refine LoneTo.step step_seq ?_
  refine loneTo_comm (by rfl) (by simp) (by simp [go_sem, execOp, Act.eval]; rfl) (fun fr es h => step_lone_select_recv_buf h hc (by simp)) ?_
  have e1 : (v :: buf).toArray.getD 0 undef = v := by simp
  have e2 : (v :: buf).toArray.extract 1 (v :: buf).toArray.size = buf.toArray := by simp
  rw [e1, e2]
  simp only [goInt]
  go_wp2_with fail
  simp only [After]
  refine loneTo_wp ?_
  go_wp2_with fail
  simp only [After]
  refine ret_lone Try.func28 rfl rfl ?_
  go_ret2
  exact ⟨v, rfl, HD.out, HH.out, HO.out, Hz.out⟩

set_option maxRecDepth 100000 in
set_option maxHeartbeats 1000000 in
theorem get_none {w : World} {h : Hd} {S : Ik} (H : Has w h S) (hq : S.q = []) : Calls Try.prog 28 #[.pointer (some ⟨h.g, 0, none⟩)] w fun e w' =>
    e = .returned (.tuple #[.slice none 0 0, .int .i64 4]) ∧ w' = w := by
  obtain ⟨c0, c1, c2, h3⟩ := H.cells
  obtain ⟨buf0, s, r, hc, hqs⟩ := H.chan
  rw [hq] at hqs
  cases hqs
  generalize (2 * S.win - 1).toNat = cap at *
  clear H c0 c1 c2
  refine calls_lone Try.func28 rfl (fun cs => ?_) (fun w' h => by cases h.1)
  simp only [Try.ntmps28, List.size_toArray, List.length_cons, List.length_nil, Nat.reduceAdd, Nat.reduceSub, Array.replicate_succ, Array.replicate_zero, List.push_toArray, List.append_toArray, List.nil_append, List.cons_append]
  refine LoneTo.step step_seq ?_
  refine loneTo_wp ?_
  go_wp2_with fail
  simp only [After]
  refine LoneTo.step step_seq ?_
  refine loneTo_wp ?_
  go_wp2_with fail
  simp only [After]
  refine LoneTo.step step_seq ?_
  refine loneTo_comm (by rfl) (by simp) (by simp [go_sem, execOp, Act.eval]; rfl) (fun fr es h => step_lone_select_default h hc) ?_
  simp only [goInt]
  go_wp2_with fail
  simp only [After]
  refine loneTo_wp ?_
  go_wp2_with fail
  simp only [After]
  refine ret_lone Try.func28 rfl rfl ?_
  go_ret2
  exact ⟨rfl, rfl⟩
end Go.Proofs.Yteihajppgooadaa
