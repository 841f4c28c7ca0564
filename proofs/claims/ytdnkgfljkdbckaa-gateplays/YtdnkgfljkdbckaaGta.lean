/- A gate as it lies in memory; New, Credits, Waiting, Inside, Leave. -/
import Derived.Test.YtdnkgfljkdbckaaIts
import Derived.Test.YtdnkgfljkdbckaaGmt
import Derived.Test.YtdnkgfljkdbckaaLone
import Derived.Conc.SmallLaws
namespace Go.Proofs.Ytdnkgfljkdbckaa
open Go.Conc Go.RowKit
set_option linter.unusedVariables false

/-- a gate: its box, its channel, the slice of those that wait -/
structure Gat (w : World) (B g c : Nat) (vw : Value) (S : Gt) : Prop where
  ok : S.Ok
  bg : B ≤ g
  bc : B ≤ c
  box : w.heap[g]? = some (.cells #[vw, .chan (some c)] 53)
  row : intE.Own w B vw S.wt
  ch : ∃ s r, w.heap[c]? = some (.chan S.cr (S.ins.map (Value.int .i64)).toArray false s r false)

def gf (g c : Nat) (vw : Value) (k : Nat) : Prop := k = g ∨ k = c ∨ vw.ownBlock = some k

theorem Gat.stay {w w' : World} {B g c : Nat} {vw : Value} {S : Gt} (h : Gat w B g c vw S) (hs : ∀ k, gf g c vw k → w'.heap[k]? = w.heap[k]?) : Gat w' B g c vw S where
  ok := h.ok
  bg := h.bg
  bc := h.bc
  box := by rw [hs g (.inl rfl)]; exact h.box
  row := own_stay h.row fun k hk _ => hs k (.inr (.inr hk))
  ch := by
    obtain ⟨s, r, hc⟩ := h.ch
    exact ⟨s, r, by rw [hs c (.inr (.inl rfl))]; exact hc⟩
theorem Gat.lt {w : World} {B g c : Nat} {vw : Value} {S : Gt} (h : Gat w B g c vw S) (k : Nat) (hk : gf g c vw k) : k < w.heap.size := by
  rcases hk with rfl | rfl | hk
  · exact heap_lt h.box
  · obtain ⟨s, r, hc⟩ := h.ch
    exact heap_lt hc
  · exact h.row.lt k hk
theorem Gat.keep {w w' : World} {B g c : Nat} {vw : Value} {S : Gt} (h : Gat w B g c vw S) (hb : Below w.heap.size w w') : Gat w' B g c vw S := h.stay fun k hk => hb.block k (h.lt k hk)
theorem Gat.ne {w : World} {B g c : Nat} {vw : Value} {S : Gt} (h : Gat w B g c vw S) : g ≠ c ∧ vw.ownBlock ≠ some g ∧ vw.ownBlock ≠ some c := by
  obtain ⟨s, r, hc⟩ := h.ch
  refine ⟨fun e => ?_, zown_ne h.row h.box (by decide), fun e => ?_⟩
  · subst e; rw [h.box] at hc; cases hc
  · obtain ⟨cur, hh⟩ := own_type h.row c e
    rw [hc] at hh; cases hh
theorem Gat.cells {w : World} {B g c : Nat} {vw : Value} {S : Gt} (h : Gat w B g c vw S) : w.cell? ⟨g, 0, none⟩ = some vw ∧ w.cell? ⟨g, 1, none⟩ = some (.chan (some c)) ∧ (∀ i, w.frozen? ⟨g, i, none⟩ = false) :=
  ⟨(cells_at h.box 0).1, (cells_at h.box 1).1, fun i => (cells_at h.box i).2⟩
theorem Gat.form {w : World} {B g c : Nat} {vw : Value} {S : Gt} (h : Gat w B g c vw S) : ∃ a p, vw = .slice a S.wt.length p := h.row.rd.form
/-- the channel's content anew -/
theorem Gat.chan {w : World} {B g c : Nat} {vw : Value} {S : Gt} (h : Gat w B g c vw S) (ns : List Int) (hok : Gt.Ok ⟨S.cr, S.wt, ns⟩) (s r : Nat) : Gat (w.setChan c S.cr (ns.map (Value.int .i64)).toArray false s r false) B g c vw ⟨S.cr, S.wt, ns⟩ := by
  obtain ⟨n1, n2, n3⟩ := h.ne
  have st : ∀ k, k ≠ c → (w.setChan c S.cr (ns.map (Value.int .i64)).toArray false s r false).heap[k]? = w.heap[k]? := fun k hk => by simp [World.setChan, hk.symm]
  obtain ⟨s0, r0, hc⟩ := h.ch
  exact ⟨hok, h.bg, h.bc, by rw [st g n1]; exact h.box, own_stay h.row fun k hk _ => st k (fun e => n3 (e ▸ hk)), s, r, heap_setChan w c _ _ false s r false (heap_lt hc)⟩
theorem frm_chan (w : World) (g c : Nat) (vw : Value) (cap : Nat) (buf : Array Value) (s r : Nat) : Frm (gf g c vw) w (w.setChan c cap buf false s r false) :=
  ⟨rfl, rfl, rfl, by simp [World.setChan], fun k _ hk => by
    have : k ≠ c := fun e => hk (.inr (.inl e))
    simp [World.setChan, this.symm]⟩

def It.gate (B g c : Nat) (vw : Value) (S : Gt) : It where
  P w := Gat w B g c vw S
  f := gf g c vw
  lt h k hk := h.lt k hk
  st h hs := h.stay hs

theorem info3 : (Try.prog.info? 3).map (fun i => i.bytes) = some 8 := by kernel_rfl
theorem run_mc (w : World) (n : Nat) (h1 : n ≤ 16) : (Instr.makeChan 51 (.int .i64 n)).run Try.prog w = .ok (.chan (some w.heap.size)) (w.alloc (.chan n #[] false 0 0 false)) := by
  obtain ⟨i, hi, he⟩ := Option.map_eq_some_iff.1 info3
  have := Conc.run_makeChan (w := w) Try.underlying51 hi .i64 n (by omega) (by rw [he]; omega)
  simpa using this

set_option maxHeartbeats 1000000 in
theorem new_no (n : Int) (w : World) (h : n < 1 ∨ 16 < n) : Calls Try.prog 10 #[.int .i64 n] w fun e w' => e = .returned (.tuple #[.pointer none, .int .i64 1]) ∧ w' = w := by
  by_cases h0 : n < 1
  · clear h
    go_enter Try.func10, Try.ntmps10
    go_wp2_with fail
    go_ret2
    exact ⟨rfl, rfl⟩
  · have h1 : 16 < n := by omega
    clear h
    go_enter Try.func10, Try.ntmps10
    go_wp2_with fail
    go_ret2
    exact ⟨rfl, rfl⟩

theorem heap2 (w : World) (a b : Obj) : ((w.alloc a).alloc b).heap[w.heap.size]? = some a ∧ ((w.alloc a).alloc b).heap[w.heap.size + 1]? = some b := by
  refine ⟨?_, ?_⟩
  · rw [Below.heap_alloc _ _ _ (by simp)]
    exact heap_new w a
  · rw [show w.heap.size + 1 = (w.alloc a).heap.size by simp]
    exact heap_new _ _

theorem new_gat (w : World) (B n : Nat) (hB : B ≤ w.heap.size) (h0 : 1 ≤ n) (h1 : n ≤ 16) : Gat ((w.alloc (.chan n #[] false 0 0 false)).alloc (.cells #[.slice none 0 0, .chan (some w.heap.size)] 53)) B (w.heap.size + 1) w.heap.size (.slice none 0 0) (Gt.new n) := by
  obtain ⟨k1, k2⟩ := heap2 w (.chan n #[] false 0 0 false) (.cells #[.slice none 0 0, .chan (some w.heap.size)] 53)
  exact ⟨Gt.new_ok h0 h1, by omega, hB, k2, El.Own.nil _ _ _, 0, 0, k1⟩

set_option maxHeartbeats 1000000 in
theorem new_ok (n : Nat) (w0 w : World) (l : List It) (h0 : 1 ≤ n) (h1 : n ≤ 16) (h : Its w0 l w) : Calls Try.prog 10 #[.int .i64 n] w fun e w' =>
    ∃ g c, e = .returned (.tuple #[.pointer (some ⟨g, 0, none⟩), .int .i64 0]) ∧ Its w0 (.gate w0.heap.size g c (.slice none 0 0) (Gt.new n) :: l) w' := by
  have hm := run_mc w n h1
  have H : Hid (Its w0 (.gate w0.heap.size (w.heap.size + 1) w.heap.size (.slice none 0 0) (Gt.new n) :: l) ((w.alloc (.chan n #[] false 0 0 false)).alloc (.cells #[.slice none 0 0, .chan (some w.heap.size)] 53))) := hide (h.new (new_gat w _ n h.size h0 h1) (fun k hk => by
    rcases hk with rfl | rfl | hk
    · omega
    · omega
    · cases hk) (((Below.refl _ _).alloc (Nat.le_refl _) _).alloc (by simp) _))
  have i0 : (1 : Int) ≤ (n : Int) := by omega
  have i1 : (n : Int) ≤ 16 := by omega
  clear h
  go_enter Try.func10, Try.ntmps10
  go_wp2_with fail
  exact bodyPost_ret (v := .tuple #[.pointer (some ⟨w.heap.size + 1, 0, none⟩), .int .i64 0]) (by simp [results, Try.results10, go_sem]) rfl ⟨_, _, rfl, H.out⟩

set_option maxHeartbeats 1000000 in
theorem credits_any {w : World} {B g c : Nat} {vw : Value} {S : Gt} (H : Gat w B g c vw S) : Calls Try.prog 21 #[.pointer (some ⟨g, 0, none⟩)] w fun e w' => e = .returned (.int .i64 ((S.cr : Int) - (S.ins.length : Int))) ∧ ∃ q, w' = w.drewN q := by
  obtain ⟨c0, c1, _⟩ := H.cells
  obtain ⟨s, r, hc⟩ := H.ch
  have i0 := H.ok.c1
  have i1 := H.ok.il
  obtain ⟨n, hn⟩ : ∃ n, S.ins.length = n := ⟨_, rfl⟩
  have hr : ∀ q ty, (Builtin.len_ #[51] ty #[.chan (some c)]).run Try.prog (w.drewN q) = .ok (.int .i64 n) (w.drewN q) := by
    intro q ty
    have hc' : (w.drewN q).heap[c]? = _ := hc
    rw [run_len_chan 51 ty Try.underlying51 hc']
    simp [goInt, hn]
  have hr2 : ∀ q ty, (Builtin.cap_ #[51] ty #[.chan (some c)]).run Try.prog (w.drewN q) = .ok (.int .i64 S.cr) (w.drewN q) := by
    intro q ty
    have hc' : (w.drewN q).heap[c]? = _ := hc
    rw [run_cap_chan 51 ty Try.underlying51 hc']
    simp [goInt]
  rw [hn] at i1 ⊢
  obtain ⟨m, hm⟩ : ∃ m, S.cr = m := ⟨_, rfl⟩
  rw [hm] at i0 i1 hr2 ⊢
  have j0 : (n : Int) ≤ (m : Int) := by omega
  have j1 : (m : Int) ≤ 16 := by omega
  have j2 : wrap64 ((m : Int) - (n : Int)) = (m : Int) - (n : Int) := by unfold wrap64; omega
  clear H hc hn hm
  go_enter Try.func21, Try.ntmps21
  go_upto_region 1 with fail
  go_quiet (fail)
  go_wp2_with fail
  go_ret
  exact ⟨rfl, _, rfl⟩
end Go.Proofs.Ytdnkgfljkdbckaa
