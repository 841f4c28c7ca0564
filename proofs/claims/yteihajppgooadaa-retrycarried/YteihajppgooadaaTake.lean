/- bytes.Clone; Take. -/
import Derived.Test.YteihajppgooadaaOver
import Derived.Deep.RegionWith
import Derived.Lib.SliceRun
namespace Go.Proofs.Yteihajppgooadaa
open Go.Conc Go.RowKit Go.Maps Go.ChangeMaps
set_option linter.unusedVariables false

theorem clone_any {w : World} {v : Value} {l : List Int} (hs : bytesE.Rd w v l) (hm : l.length ≤ 1000) :
    Calls Try.prog 31 #[v] w fun e w' => ∃ v', e = .returned v' ∧ bytesE.Own w' w.heap.size v' l ∧ Below w.heap.size w w' := by
  have hb0 : Below w.heap.size w (w.alloc (.cells #[] 5)) := (Below.refl _ _).alloc (Nat.le_refl _) _
  have hq : ∀ W a n c, (binOp .eql 36 (.slice a n c) (.slice none 0 0)).run Try.prog W = .ok (.bool a.isNone) W := fun W a n c => Lib.run_eql_slice_nil W 36 5 a n c 0 0 Try.underlying36
  rcases hs with ⟨rfl, rfl⟩ | ⟨x, cap, rfl, hc⟩
  · go_enter Try.func31, Try.ntmps31
    go_wp2_with fail
    go_ret
    exact ⟨_, rfl, El.Own.nil _ _ _, Below.refl _ _⟩
  · have Hs : Hid (bytesE.Rd w (.slice (some x) l.length cap) l) := hide (.inr ⟨x, cap, rfl, hc⟩)
    have Hm := hide hm
    clear hc hm
    go_enter Try.func31, Try.ntmps31
    go_wp2_with (at_builtin; refine bytesE.wp hb0 (by rfl) _ _ rfl _ _ rfl rfl [] l (El.Own.new bytesE _ _ (Nat.le_refl _) #[] [] rfl (by simp) _ _ _ rfl rfl rfl) (Hs.out.keep hb0) (by simp; have := Hm.out; omega) ?_; intro v1 w1 hown _ _ hb1; refine Hid.out ?_)
    refine hide ?_
    rw [List.nil_append] at hown
    go_wp2_with fail
    go_ret
    exact ⟨_, rfl, hown, hb1⟩

/-- what waits is within the window -/
def Ik.Inw (S : Ik) : Prop := ∀ x, 0 ≤ x → x ≤ 65535 → S.wait x ≠ none → up S.nx x < S.win
/-- a piece came -/
def Ik.put (S : Ik) (x : Int) (p : Dt) : Ik := { S with wait := fun y => if y = x then some p else S.wait y, n := S.n + 1 }
/-- what Take answers -/
def Ik.code (S : Ik) (x : Int) (len : Nat) : Int :=
  if 256 < len then 3 else if up ((S.nx - S.win) % 65536) x < S.win then 2 else if ¬ up S.nx x < S.win then 40 else if (S.wait x).isSome then 2 else if S.win ≤ (S.q.length : Int) then 40 else 0

theorem Ik.Inw.go {S : Ik} (h : S.Inw) (j : Nat) (hj : j < 60000) (hw : S.win ≤ 64) : (S.go j).Inw := by
  intro x h0 h1 hx
  have hx' : (if up S.nx x < (j : Int) then none else S.wait x) ≠ none := hx
  show up ((S.nx + j) % 65536) x < S.win
  by_cases h' : up S.nx x < j
  · rw [if_pos h'] at hx'; exact absurd rfl hx'
  · rw [if_neg h'] at hx'
    have := h x h0 h1 hx'
    unfold up at *
    omega
theorem Ik.Inw.put {S : Ik} (h : S.Inw) {x : Int} (hx : up S.nx x < S.win) (p : Dt) : (S.put x p).Inw := by
  intro y h0 h1 hy
  show up S.nx y < S.win
  by_cases e : y = x
  · rw [e]; exact hx
  · have hy' : (if y = x then some p else S.wait y) ≠ none := hy
    rw [if_neg e] at hy'
    exact h y h0 h1 hy'
theorem Ik.Inw.room {S : Ik} (h : S.Inw) (hq : (S.q.length : Int) < S.win) : S.Room := by
  intro x h0 h1 hx
  have := h x h0 h1 hx
  omega

theorem drewN_add (w : World) (a b : Nat) : (w.drewN a).drewN b = w.drewN (a + b) := by
  simp [World.drewN, Nat.add_assoc]

/-- what Take reads, in a world -/
structure Fx (W : World) (g mb c : Nat) (x win nx q : Int) (t : Bool) (vv : Value) : Prop where
  c0 : W.cell? ⟨g, 0, none⟩ = some (.int .i64 win)
  c1 : W.cell? ⟨g, 1, none⟩ = some (.int .u16 nx)
  c2 : W.cell? ⟨g, 2, none⟩ = some (.map (some mb))
  c3 : W.cell? ⟨g, 3, none⟩ = some (.chan (some c))
  look : ∀ n, (Instr.lookup 96 (.map (some mb)) (.int .u16 x) true).run Try.prog (W.drewN n) = .ok (.tuple #[vv, .bool t]) (W.drewN n)
  ready : ∀ n, Calls Try.prog 41 #[.pointer (some ⟨g, 0, none⟩)] (W.drewN n) fun e w' => e = .returned (.int .i64 q) ∧ w' = W.drewN n
theorem Fx.drewN {W : World} {g mb c : Nat} {x win nx q : Int} {t : Bool} {vv : Value} (h : Fx W g mb c x win nx q t vv) (n : Nat) : Fx (W.drewN n) g mb c x win nx q t vv :=
  ⟨h.c0, h.c1, h.c2, h.c3, fun m => by rw [drewN_add]; exact h.look _, fun m => by rw [drewN_add]; exact h.ready _⟩
theorem Has.fx {w : World} {h : Hd} {S : Ik} (H : Has w h S) {x : Int} (x0 : 0 ≤ x) (x1 : x ≤ 65535) : ∃ vv, Fx w h.g h.mb h.c x S.win S.nx S.q.length (S.wait x).isSome vv := by
  obtain ⟨c0, c1, c2, c3⟩ := H.cells
  obtain ⟨vv, hlook, _⟩ := H.look x0 x1
  exact ⟨vv, c0, c1, c2, c3, hlook, fun n => ready_any (H.drewN n)⟩

set_option maxRecDepth 100000 in
set_option maxHeartbeats 4000000 in
theorem take_no {w : World} {h : Hd} {S : Ik} (H : Has w h S) {v : Value} {l : List Int} (hv : bytesE.Rd w v l) (x : Int) (x0 : 0 ≤ x) (x1 : x ≤ 65535) (hm : l.length ≤ 1000000) (hc : S.code x l.length ≠ 0) :
    Calls Try.prog 27 #[.pointer (some ⟨h.g, 0, none⟩), .int .u16 x, v] w fun e w' => e = .returned (.int .i64 (S.code x l.length)) ∧ ∃ n, w' = w.drewN n := by
  obtain ⟨a, ca, rfl⟩ := hv.form
  clear hv
  obtain ⟨w0, w1⟩ := H.win
  obtain ⟨n0, n1⟩ := H.nx
  obtain ⟨vv, F⟩ := H.fx x0 x1
  unfold Ik.code at hc ⊢
  have e1 : IntKind.u16.wrap S.win = S.win := by unfold IntKind.wrap; simp [IntKind.bits, IntKind.signed]; omega
  have e2 : IntKind.u16.wrap (S.nx - S.win) = (S.nx - S.win) % 65536 := by unfold IntKind.wrap; simp [IntKind.bits, IntKind.signed]
  clear H
  generalize (S.q.length : Int) = q at *
  generalize (S.wait x).isSome = t at *
  generalize S.win = win at *
  generalize S.nx = nx at *
  have K18 := hide (fun W => within_any x ((nx - win) % 65536) win W)
  have K18' := hide (fun W => within_any x nx win W)
  generalize up ((nx - win) % 65536) x = u at *
  generalize up nx x = u' at *
  generalize (nx - win) % 65536 = lo at *
  generalize l.length = n at *
  generalize h.g = g at *
  generalize h.mb = mb at *
  generalize h.c = c at *
  have hm' : (n : Int) ≤ 1000000 := by omega
  have c0 := F.c0
  have c1 := F.c1
  by_cases h1 : 256 < n
  · have h1' : (256 : Int) < (n : Int) := by omega
    rw [if_pos h1]
    clear h1 hc
    go_enter Try.func27, Try.ntmps27
    go_wp2_with fail
    go_ret
    exact ⟨rfl, 0, rfl⟩
  · have h1' : ¬ (256 : Int) < (n : Int) := by omega
    rw [if_neg h1] at hc ⊢
    clear h1
    have HF0 := hide F
    clear F
    have c2 := HF0.out.c2
    have HE0 : Hid (∃ n, w = w.drewN n) := hide ⟨0, rfl⟩
    by_cases h2 : u < win
    · rw [if_pos h2]
      rw [decide_eq_true h2] at K18
      clear hc h2
      go_enter Try.func27, Try.ntmps27
      go_wp2_with fail
      go_quiet ((go_at_call 38; exact Calls.quiet_of_same (K18.out _)))
      have F1 := HF0.out.drewN nq
      have HE1 : Hid (∃ n, w.drewN nq = w.drewN n) := hide (by obtain ⟨n, hn⟩ := HE0.out; exact ⟨n + nq, by rw [← drewN_add, ← hn]⟩)
      generalize hW : w.drewN nq = W1 at *
      clear hW c0 c1 c2
      have c0 := F1.c0
      have c1 := F1.c1
      have c2 := F1.c2
      have HF1 := hide F1
      clear F1
      go_wp2_with fail
      go_quiet (fail)
      have F2 := HF1.out.drewN nq
      have HE2 : Hid (∃ n, W1.drewN nq = w.drewN n) := hide (by obtain ⟨n, hn⟩ := HE1.out; exact ⟨n + nq, by rw [← drewN_add, ← hn]⟩)
      generalize hW : W1.drewN nq = W2 at *
      clear hW c0 c1 c2
      have c0 := F2.c0
      have c1 := F2.c1
      have c2 := F2.c2
      have HF2 := hide F2
      have lk : (Instr.lookup 96 (.map (some mb)) (.int .u16 x) true).run Try.prog W2 = .ok (.tuple #[vv, .bool t]) W2 := F2.look 0
      have k15 := F2.ready
      clear F2
      clear k15
      go_wp2_with fail
      go_ret
      exact ⟨rfl, HE2.out⟩
    · rw [if_neg h2] at hc ⊢
      rw [decide_eq_false h2] at K18
      clear h2
      by_cases h3 : u' < win
      · rw [if_neg (by simpa using h3)] at hc ⊢
        rw [decide_eq_true h3] at K18'
        clear h3
        cases t with
        | true =>
          rw [if_pos rfl]
          clear hc
          go_enter Try.func27, Try.ntmps27
          go_wp2_with fail
          go_quiet ((go_at_call 38; exact Calls.quiet_of_same (K18.out _)))
          have F1 := HF0.out.drewN nq
          have HE1 : Hid (∃ n, w.drewN nq = w.drewN n) := hide (by obtain ⟨n, hn⟩ := HE0.out; exact ⟨n + nq, by rw [← drewN_add, ← hn]⟩)
          generalize hW : w.drewN nq = W1 at *
          clear hW c0 c1 c2
          have c0 := F1.c0
          have c1 := F1.c1
          have c2 := F1.c2
          have HF1 := hide F1
          clear F1
          go_wp2_with fail
          go_quiet ((go_at_call 38; exact Calls.quiet_of_same (K18'.out _)))
          have F2 := HF1.out.drewN nq
          have HE2 : Hid (∃ n, W1.drewN nq = w.drewN n) := hide (by obtain ⟨n, hn⟩ := HE1.out; exact ⟨n + nq, by rw [← drewN_add, ← hn]⟩)
          generalize hW : W1.drewN nq = W2 at *
          clear hW c0 c1 c2
          have c0 := F2.c0
          have c1 := F2.c1
          have c2 := F2.c2
          have HF2 := hide F2
          have lk : (Instr.lookup 96 (.map (some mb)) (.int .u16 x) true).run Try.prog W2 = .ok (.tuple #[vv, .bool true]) W2 := F2.look 0
          have k15 := F2.ready
          clear F2
          clear k15
          go_wp2_with fail
          go_ret
          exact ⟨rfl, HE2.out⟩
        | false =>
          rw [if_neg (by simp)] at hc ⊢
          by_cases h4 : win ≤ q
          · rw [if_pos h4]
            clear hc
            go_enter Try.func27, Try.ntmps27
            go_wp2_with fail
            go_quiet ((go_at_call 38; exact Calls.quiet_of_same (K18.out _)))
            have F1 := HF0.out.drewN nq
            have HE1 : Hid (∃ n, w.drewN nq = w.drewN n) := hide (by obtain ⟨n, hn⟩ := HE0.out; exact ⟨n + nq, by rw [← drewN_add, ← hn]⟩)
            generalize hW : w.drewN nq = W1 at *
            clear hW c0 c1 c2
            have c0 := F1.c0
            have c1 := F1.c1
            have c2 := F1.c2
            have HF1 := hide F1
            clear F1
            go_wp2_with fail
            go_quiet ((go_at_call 38; exact Calls.quiet_of_same (K18'.out _)))
            have F2 := HF1.out.drewN nq
            have HE2 : Hid (∃ n, W1.drewN nq = w.drewN n) := hide (by obtain ⟨n, hn⟩ := HE1.out; exact ⟨n + nq, by rw [← drewN_add, ← hn]⟩)
            generalize hW : W1.drewN nq = W2 at *
            clear hW c0 c1 c2
            have c0 := F2.c0
            have c1 := F2.c1
            have c2 := F2.c2
            have HF2 := hide F2
            have lk : (Instr.lookup 96 (.map (some mb)) (.int .u16 x) true).run Try.prog W2 = .ok (.tuple #[vv, .bool false]) W2 := F2.look 0
            have k15 := F2.ready
            clear F2
            go_wp2_with fail
            go_quiet ((go_at_call 41; exact Calls.quiet_of_same (k15 _)))
            have F3 := HF2.out.drewN nq
            have HE3 : Hid (∃ n, W2.drewN nq = w.drewN n) := hide (by obtain ⟨n, hn⟩ := HE2.out; exact ⟨n + nq, by rw [← drewN_add, ← hn]⟩)
            generalize hW : W2.drewN nq = W3 at *
            clear hW c0 c1 c2
            have c0 := F3.c0
            have c1 := F3.c1
            have c2 := F3.c2
            have HF3 := hide F3
            have lk : (Instr.lookup 96 (.map (some mb)) (.int .u16 x) true).run Try.prog W3 = .ok (.tuple #[vv, .bool false]) W3 := F3.look 0
            have k15 := F3.ready
            clear F3
            go_wp2_with fail
            go_ret
            exact ⟨rfl, HE3.out⟩
          · rw [if_neg h4] at hc; exact absurd rfl hc
      · rw [if_pos (by simpa using h3)]
        rw [decide_eq_false h3] at K18'
        clear h3 hc
        go_enter Try.func27, Try.ntmps27
        go_wp2_with fail
        go_quiet ((go_at_call 38; exact Calls.quiet_of_same (K18.out _)))
        have F1 := HF0.out.drewN nq
        have HE1 : Hid (∃ n, w.drewN nq = w.drewN n) := hide (by obtain ⟨n, hn⟩ := HE0.out; exact ⟨n + nq, by rw [← drewN_add, ← hn]⟩)
        generalize hW : w.drewN nq = W1 at *
        clear hW c0 c1 c2
        have c0 := F1.c0
        have c1 := F1.c1
        have c2 := F1.c2
        have HF1 := hide F1
        clear F1
        go_wp2_with fail
        go_quiet ((go_at_call 38; exact Calls.quiet_of_same (K18'.out _)))
        have F2 := HF1.out.drewN nq
        have HE2 : Hid (∃ n, W1.drewN nq = w.drewN n) := hide (by obtain ⟨n, hn⟩ := HE1.out; exact ⟨n + nq, by rw [← drewN_add, ← hn]⟩)
        generalize hW : W1.drewN nq = W2 at *
        clear hW c0 c1 c2
        have c0 := F2.c0
        have c1 := F2.c1
        have c2 := F2.c2
        have HF2 := hide F2
        have lk : (Instr.lookup 96 (.map (some mb)) (.int .u16 x) true).run Try.prog W2 = .ok (.tuple #[vv, .bool t]) W2 := F2.look 0
        have k15 := F2.ready
        clear F2
        clear k15 lk
        go_wp2_with fail
        go_ret
        exact ⟨rfl, HE2.out⟩
end Go.Proofs.Yteihajppgooadaa
