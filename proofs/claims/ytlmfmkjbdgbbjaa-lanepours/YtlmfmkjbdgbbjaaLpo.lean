/- LanePours: one lane poured into another. -/
import Derived.Test.YtlmfmkjbdgbbjaaLhw
namespace Go.Proofs.Ytlmfmkjbdgbbjaa
open Go.RowKit
set_option linter.unusedVariables false

/-- but for two lanes all is as it was -/
structure Two (x y : Nat) (w w' : World) : Prop where
  os : w'.os = w.os
  tape : w'.tape = w.tape
  output : w'.output = w.output
  size : w.heap.size ≤ w'.heap.size
  block : ∀ k, k < w.heap.size → k ≠ x → k ≠ y → w'.heap[k]? = w.heap[k]?
theorem Two.refl (x y : Nat) (w : World) : Two x y w w := ⟨rfl, rfl, rfl, Nat.le_refl _, fun _ _ _ _ => rfl⟩
theorem Two.drewN {x y : Nat} {w w' : World} (h : Two x y w w') (q : Nat) : Two x y w (w'.drewN q) := ⟨h.os, h.tape, h.output, h.size, h.block⟩
theorem Two.one {x y : Nat} {a w w' : World} (h : Two x y a w) (g : w.grownBy w' (some x)) : Two x y a w' :=
  ⟨g.os.trans h.os, g.tape.trans h.tape, g.output.trans h.output, Nat.le_trans h.size g.size, fun k hk h1 h2 => (g.block k (Nat.lt_of_lt_of_le hk h.size) (fun e => h1 (by cases e; rfl))).trans (h.block k hk h1 h2)⟩
theorem Two.two {x y : Nat} {a w w' : World} (h : Two x y a w) (g : w.grownBy w' (some y)) : Two x y a w' :=
  ⟨g.os.trans h.os, g.tape.trans h.tape, g.output.trans h.output, Nat.le_trans h.size g.size, fun k hk h1 h2 => (g.block k (Nat.lt_of_lt_of_le hk h.size) (fun e => h2 (by cases e; rfl))).trans (h.block k hk h1 h2)⟩
theorem Two.cell {x y : Nat} {w w' : World} (h : Two x y w w') {p : Addr} {v : Value} (hc : w.cell? p = some v) (h1 : p.block ≠ x) (h2 : p.block ≠ y) : w'.cell? p = some v := by
  rw [World.cell?_of_block (w := w) (h.block p.block (cell_lt hc) h1 h2)]; exact hc
theorem Two.own {x y B : Nat} {w w' : World} {v : Value} {xs : List Int} (h : Two x y w w') (ho : intE.Own w B v xs) (h1 : x < B) (h2 : y < B) : intE.Own w' B v xs :=
  own_stay ho fun k hk hlt => by
    have := ho.ge k hk
    exact h.block k hlt (by omega) (by omega)
theorem Two.below {x y B : Nat} {a w w' : World} (h : Two x y w w') (hb : Below B a w) (hB : B ≤ w.heap.size) (h1 : B ≤ x) (h2 : B ≤ y) : Below B a w' :=
  ⟨h.os.trans hb.os, h.tape.trans hb.tape, h.output.trans hb.output, Nat.le_trans hb.size h.size, fun k hk => (h.block k (by omega) (by omega) (by omega)).trans (hb.block k hk)⟩
/-- another lane stays -/
theorem Ln.other {w w' : World} {g x d : Nat} {xs : List Int} (h : Ln w g d xs) (hg : w.grownBy w' (some x)) (hne : g ≠ x) : Ln w' g d xs := h.stay (hg.block g h.lt (fun e => hne (by cases e; rfl)))

/-- totes, once each -/
def Tt (xs : List Int) : Prop := xs.Nodup ∧ ∀ x ∈ xs, 1 ≤ x ∧ x ≤ 30
theorem Tt.rev {xs : List Int} (h : Tt xs) : Tt xs.reverse := ⟨List.pairwise_reverse.2 (h.1.imp (fun hab e => hab e.symm)), fun x hx => h.2 x (List.mem_reverse.1 hx)⟩
theorem Tt.push {d : Nat} {xs : List Int} (h : Tt xs) (t : Int) : Tt (pushL d xs t) := by
  refine ⟨pushL_nodup t h.1, fun x hx => ?_⟩
  by_cases hc : pushC d xs t = 0
  · unfold pushL at hx
    rw [if_pos hc] at hx
    rcases List.mem_append.1 hx with hx | hx
    · exact h.2 x hx
    · simp at hx
      subst hx
      unfold pushC at hc
      split at hc
      · cases hc
      · omega
  · unfold pushL at hx; rw [if_neg hc] at hx; exact h.2 x hx
/-- the next tote goes over -/
theorem pour_step {d i n j : Nat} {xs : List Int} {p : Int} (h : Tt xs) (hn : xs.length = n) (hd : n ≤ d) (hp : xs[i]? = some p) (hj : i + 1 + j = n) : pushC d (xs.drop (i + 1)).reverse p = 0 ∧ pushL d (xs.drop (i + 1)).reverse p = (xs.drop i).reverse := by
  have hm : p ∉ (xs.drop (i + 1)).reverse := fun hm => by
    rw [List.mem_reverse] at hm
    obtain ⟨k, hk⟩ := List.getElem?_of_mem hm
    rw [List.getElem?_drop] at hk
    have := nodup_at h.1 hk hp
    omega
  have hr := h.2 p (List.mem_of_getElem? hp)
  have e : pushC d (xs.drop (i + 1)).reverse p = 0 := by
    unfold pushC
    rw [if_neg (by omega), if_neg hm, if_neg (by rw [List.length_reverse, List.length_drop]; omega)]
  refine ⟨e, ?_⟩
  unfold pushL
  rw [if_pos e, ahd_step hp]

set_option maxRecDepth 100000 in
set_option maxHeartbeats 4000000 in
theorem pour_any {w : World} {x y hw h0 N n c : Nat} {a : Option Addr} {xs : List Int} (hx : Ln w x N xs) (hy : Ln w y N []) (hxy : x ≠ y) (hb : w.cell? ⟨hw, 0, none⟩ = some (.slice a n c)) (hd : w.cell? ⟨h0, 0, none⟩ = some (.int .i64 N))
    (h1 : hw ≠ x) (h2 : hw ≠ y) (h3 : h0 ≠ x) (h4 : h0 ≠ y) (hn : xs.length = n) (ht : Tt xs) :
    Calls Try.prog 21 #[.pointer (some ⟨x, 0, none⟩), .pointer (some ⟨y, 0, none⟩), .pointer (some ⟨hw, 0, none⟩), .pointer (some ⟨h0, 0, none⟩)] w fun e w' => e = .returned (.bool true) ∧ Ln w' x N [] ∧ Ln w' y N xs.reverse ∧ Two x y w w' := by
  obtain ⟨w0, rfl⟩ : ∃ w0, w0 = w := ⟨_, rfl⟩
  have HX := hide hx
  have HY := hide hy
  have Hxy := hide hxy
  have Hd := hide hd
  have Hn := hide hn
  have Ht := hide ht
  have H3 := hide h3
  have H4 := hide h4
  have hle := hx.le
  rw [hn] at hle
  have s0 : (n : Int) ≤ 8 := by omega
  have s1 : (N : Int) ≤ 8 := by omega
  have Hle := hide hle
  clear hx hy hxy hd h1 h2 h3 h4 hn ht hle
  go_enter Try.func21, Try.ntmps21
  go_wp2_with fail
  go_loopw [11] (fun v11 wr => ∃ (j : Nat), v11 = .int .i64 j ∧ j ≤ n ∧ Hid (Ln wr x N (xs.take (n - j))) ∧ Hid (Ln wr y N (xs.drop (n - j)).reverse) ∧ Hid (Two x y w0 wr)) (fun v11 _ => n - (intOf v11).toNat)
  case atStart => exact ⟨0, rfl, Nat.zero_le _, hide (by rw [Nat.sub_zero, List.take_of_length_le (by rw [Hn.out]; exact Nat.le_refl _)]; exact HX.out), hide (by rw [Nat.sub_zero, List.drop_eq_nil_of_le (by rw [Hn.out]; exact Nat.le_refl _)]; exact HY.out), hide (Two.refl _ _ _)⟩
  case round =>
    obtain ⟨j, rfl, hjn, HX1, HY1, HT⟩ := hrel
    by_cases hj : j < n
    · obtain ⟨i, hi⟩ : ∃ i, n - j = i + 1 := ⟨n - j - 1, by omega⟩
      have hi2 : Hid (n - (j + 1) = i) := hide (by omega)
      obtain ⟨p, hp⟩ : ∃ p, xs[i]? = some p := ⟨_, List.getElem?_eq_getElem (by rw [Hn.out]; omega)⟩
      rw [hi] at HX1 HY1
      obtain ⟨e1, e2⟩ := take_last hp
      obtain ⟨e3, e4⟩ := pour_step (d := N) Ht.out Hn.out Hle.out.1 hp (show i + 1 + j = n by omega)
      have K12 := hide (pop_some wr HX1.out e1)
      rw [e2] at K12
      have K10 : Hid (∀ W, Ln W y N (xs.drop (i + 1)).reverse → Calls Try.prog 10 #[.pointer (some ⟨y, 0, none⟩), .int .i64 p] W fun e w' => e = .returned (.int .i64 0) ∧ Ln w' y N (xs.drop i).reverse ∧ W.grownBy w' (some y)) := hide (fun W h => by
        have := push_any p W h
        rw [e3, e4] at this
        exact this)
      have q0 : (j : Int) < (n : Int) := by omega
      clear hp e1 e2 e3 e4 hi hj
      go_wp2_with (first
        | (go_at_call 12; refine K12.out.mono ?_; rintro e W1 ⟨rfl, hL, hG⟩; have HX2 := hide hL; have HY2 := hide (HY1.out.other hG (fun e => Hxy.out e.symm)); have HT2 := hide (HT.out.one hG); clear hL hG)
        | (go_at_call 10; refine (K10.out _ HY2.out).mono ?_; rintro e W2 ⟨rfl, hL, hG⟩; have HY3 := hide hL; have HX3 := hide (HX2.out.other hG Hxy.out); have HT3 := hide (HT2.out.two hG); clear hL hG))
      go_roundw
      case rel => exact ⟨j + 1, by go_num, by omega, hide (by rw [hi2.out]; exact HX3.out), hide (by rw [hi2.out]; exact HY3.out), HT3⟩
      case measure => simp [intOf]; omega
    · obtain rfl : j = n := by omega
      rw [Nat.sub_self] at HX1 HY1
      have HX2 : Hid (Ln wr x N []) := hide (by simpa using HX1.out)
      have HY2 : Hid (Ln wr y N xs.reverse) := hide (by simpa using HY1.out)
      have K20 : Hid (∀ q, Calls Try.prog 20 #[.pointer (some ⟨x, 0, none⟩)] (wr.drewN q) fun e w' => e = .returned (.int .i64 (N : Int)) ∧ ∃ q', w' = (wr.drewN q).drewN q') := hide (fun q => room_any (wr.drewN q) (HX2.out.drewN q))
      have c0 : wr.cell? ⟨h0, 0, none⟩ = some (.int .i64 (N : Int)) := HT.out.cell Hd.out H3.out H4.out
      have q0 : ¬ (j : Int) < (j : Int) := by omega
      have q1 : ((N : Int) == (N : Int)) = true := beq_self_eq_true _
      clear hj
      go_upto_region 7 with fail
      go_quiet ((go_at_call 20; exact Calls.quiet_of (K20.out _)))
      go_wp2_with fail
      go_ret
      exact ⟨by first | rfl | simp, HX2.out.drewN _, HY2.out.drewN _, HT.out.drewN _⟩
end Go.Proofs.Ytlmfmkjbdgbbjaa
