import Derived.BigQuiet
import Derived.BigRegion
import Derived.Deep.CutRange
import Derived.Deep.DeepCutAuto
import Derived.Deep.QuietTactic
import Derived.Deep.RegionHeld3
import Derived.OwnWalk
import Derived.Test.YtocmngpoemfpkabGreatDoorControlSendsAC
import Derived.Test.YtocmngpoemfpkabGreatDoorControlSendsAD
import Derived.Test.YtocmngpoemfpkabGreatDoorControlSendsAF
import Derived.Test.YtocmngpoemfpkabGreatDoorControlSendsAG
import Derived.Test.YtocmngpoemfpkabGreatDoorControlSendsAI
set_option linter.unusedVariables false
namespace Go.Proofs.YtocmngpoemfpkabGreatDoor
open Go.ChangeShapes Go.WideShapes Go.ChangeAt Go.RowKit
structure Tl where
  k : Int
  d : Int
  s : Int
  a : Int
  b : Int
deriving DecidableEq
def Tl.In (t : Tl) : Prop := (0 ≤ t.k ∧ t.k ≤ 255) ∧ (0 ≤ t.d ∧ t.d ≤ 65535) ∧ (0 ≤ t.s ∧ t.s ≤ 65535) ∧ (0 ≤ t.a ∧ t.a ≤ 65535) ∧ (0 ≤ t.b ∧ t.b ≤ 65535)
def tc (t : Tl) : Array Value := #[.int .u8 t.k, .int .u16 t.d, .int .u16 t.s, .int .u16 t.a, .int .u16 t.b]
def tv (t : Tl) : Value := .agg #[.int .u8 t.k, .int .u16 t.d, .int .u16 t.s, .int .u16 t.a, .int .u16 t.b]
def wi (v lo hi : Int) : Bool := decide (lo ≤ v ∧ v ≤ hi)
def fit (k s a b : Int) : Bool :=
  if k = 1 ∨ k = 2 then wi a 1 30 && decide (b = 0)
  else if k = 3 then wi a 1 30 && wi b 1 3
  else if k = 4 ∨ k = 5 then decide (s = 0) && decide (a = 0) && decide (b = 0)
  else if k = 6 then decide (a = 0) && decide (b = 0)
  else wi b 0 30
def chk (t : Tl) : Int := if wi t.k 1 7 then (if wi t.d 1 200 && fit t.k t.s t.a t.b then 0 else 24) else 23
theorem ret_int {k : IntKind} {a b : Int} (h : a = b) : Ending.returned (.int k a) = .returned (.int k b) := by rw [h]
theorem beq_dec (x y : Int) : (x == y) = decide (x = y) := by
  by_cases h : x = y <;> simp [h]
theorem within_any (v lo hi : Int) (w : World) :
    Calls Tryz.prog 207 #[.int .u16 v, .int .u16 lo, .int .u16 hi] w fun e w' => e = .returned (.bool (wi v lo hi)) ∧ w' = w := by
  by_cases h1 : lo ≤ v
  · by_cases h2 : v ≤ hi
    · have : wi v lo hi = true := by simp [wi, h1, h2]
      rw [this]
      clear this
      go_enter Tryz.func207, Tryz.ntmps207
      go_wp2
      go_ret
      exact ⟨rfl, rfl⟩
    · have : wi v lo hi = false := by simp [wi, h1, h2]
      rw [this]
      clear this
      go_enter Tryz.func207, Tryz.ntmps207
      go_wp2
      go_ret
      exact ⟨rfl, rfl⟩
  · have : wi v lo hi = false := by simp [wi, h1]
    rw [this]
    clear this
    go_enter Tryz.func207, Tryz.ntmps207
    go_wp2
    go_ret
    exact ⟨rfl, rfl⟩
theorem fit_any (k d s a b : Int) (w : World) (h : 1 ≤ k ∧ k ≤ 7) :
    Calls Tryz.prog 208 #[.agg #[.int .u8 k, .int .u16 d, .int .u16 s, .int .u16 a, .int .u16 b]] w fun e w' => e = .returned (.bool (fit k s a b)) ∧ w' = w.alloc (.cells #[.int .u8 k, .int .u16 d, .int .u16 s, .int .u16 a, .int .u16 b] 78) := by
  have hk : k = 1 ∨ k = 2 ∨ k = 3 ∨ k = 4 ∨ k = 5 ∨ k = 6 ∨ k = 7 := by omega
  clear h
  rcases hk with rfl | rfl | rfl | rfl | rfl | rfl | rfl
  all_goals
    go_enter Tryz.func208, Tryz.ntmps208
    go_wp2_with (go_at_call 207; refine (within_any _ _ _ _).mono ?_; rintro e w' ⟨rfl, rfl⟩)
    all_goals go_ret
    all_goals refine ⟨?_, ?_⟩
    all_goals first | rfl | (simp [fit, beq_dec, *])
theorem tl_check_any (k d s a b : Int) (w : World) :
    Calls Tryz.prog 163 #[.agg #[.int .u8 k, .int .u16 d, .int .u16 s, .int .u16 a, .int .u16 b]] w fun e w' => e = .returned (.int .i64 (chk ⟨k, d, s, a, b⟩)) ∧ Below w.heap.size w w' := by
  by_cases h1 : 1 ≤ k
  · by_cases h7 : k ≤ 7
    · have hw : wi k 1 7 = true := by simp [wi, h1, h7]
      cases hd : wi d 1 200
      · have hc : Hid (chk ⟨k, d, s, a, b⟩ = 24) := by simp [Hid, chk, hw, hd]
        clear hw
        go_enter Tryz.func163, Tryz.ntmps163
        go_wp2_with (go_at_call 207; refine (within_any _ _ _ _).mono ?_; rw [hd]; rintro e w' ⟨rfl, rfl⟩)
        go_ret
        exact ⟨ret_int hc.out.symm, (Below.refl _ _).alloc (Nat.le_refl _) _⟩
      · cases hf : fit k s a b
        · have hc : Hid (chk ⟨k, d, s, a, b⟩ = 24) := by simp [Hid, chk, hw, hd, hf]
          clear hw
          go_enter Tryz.func163, Tryz.ntmps163
          go_wp2_with (first | (go_at_call 207; refine (within_any _ _ _ _).mono ?_; rw [hd]; rintro e w' ⟨rfl, rfl⟩) | (go_at_call 208; refine (fit_any _ _ _ _ _ _ ⟨h1, h7⟩).mono ?_; rw [hf]; rintro e w' ⟨rfl, rfl⟩))
          go_ret
          exact ⟨ret_int hc.out.symm, ((Below.refl _ _).alloc (Nat.le_refl _) _).alloc (by simp) _⟩
        · have hc : Hid (chk ⟨k, d, s, a, b⟩ = 0) := by simp [Hid, chk, hw, hd, hf]
          clear hw
          go_enter Tryz.func163, Tryz.ntmps163
          go_wp2_with (first | (go_at_call 207; refine (within_any _ _ _ _).mono ?_; rw [hd]; rintro e w' ⟨rfl, rfl⟩) | (go_at_call 208; refine (fit_any _ _ _ _ _ _ ⟨h1, h7⟩).mono ?_; rw [hf]; rintro e w' ⟨rfl, rfl⟩))
          go_ret
          exact ⟨ret_int hc.out.symm, ((Below.refl _ _).alloc (Nat.le_refl _) _).alloc (by simp) _⟩
    · have hc : Hid (chk ⟨k, d, s, a, b⟩ = 23) := by simp [Hid, chk, wi, h7]
      go_enter Tryz.func163, Tryz.ntmps163
      go_wp2_with fail
      go_ret
      exact ⟨ret_int hc.out.symm, (Below.refl _ _).alloc (Nat.le_refl _) _⟩
  · have hc : Hid (chk ⟨k, d, s, a, b⟩ = 23) := by simp [Hid, chk, wi, h1]
    go_enter Tryz.func163, Tryz.ntmps163
    go_wp2_with fail
    go_ret
    exact ⟨ret_int hc.out.symm, (Below.refl _ _).alloc (Nat.le_refl _) _⟩
end Go.Proofs.YtocmngpoemfpkabGreatDoor

namespace Go.Proofs.YtocmngpoemfpkabGreatDoor
open Go.ChangeShapes Go.WideShapes Go.ChangeAt Go.RowKit
def pre (t : Tl) (n : Nat) : List Int := 165 :: t.k :: ([t.d, t.s, t.a, t.b].take n).flatMap w2
def body (t : Tl) : List Int := pre t 4
def enc (t : Tl) : List Int := body t ++ w2 (uv (sm 0xFFFF#16 (body t)))
theorem pre_in (t : Tl) (h : t.In) (n : Nat) : InB (pre t n) := by
  obtain ⟨h0, h1, h2, h3, h4⟩ := h
  intro z hz
  unfold pre at hz
  rcases List.mem_cons.1 hz with rfl | hz
  · omega
  rcases List.mem_cons.1 hz with rfl | hz
  · omega
  obtain ⟨x, hx, hz⟩ := List.mem_flatMap.1 hz
  have hx' := List.mem_of_mem_take hx
  have : 0 ≤ x ∧ x ≤ 65535 := by
    simp at hx'
    rcases hx' with rfl | rfl | rfl | rfl <;> assumption
  unfold w2 at hz
  simp at hz
  rcases hz with rfl | rfl <;> omega
theorem tl_pre_len (t : Tl) (n : Nat) : (pre t n).length ≤ 10 := by
  unfold pre
  match n with
  | 0 => simp
  | 1 => simp [w2]
  | 2 => simp [w2]
  | 3 => simp [w2]
  | n + 4 => simp [w2]
theorem tl_body_len (t : Tl) : (body t).length = 10 := rfl
theorem cell_new (w : World) (C : Array Value) (t : TypeId) (fr : Nat × Nat) (o : Nat) : (w.alloc (.cells C t fr)).cell? ⟨w.heap.size, o, none⟩ = C[o]? := by
  have e : (w.alloc (.cells C t fr)).heap[w.heap.size]? = some (.cells C t fr) := by
    show (w.heap.push (.cells C t fr))[w.heap.size]? = _
    simp
  unfold World.cell?
  simp only [e]
  rfl
theorem Ow.mono {w : World} {B B' : Nat} {v : Value} {l : List Int} (h : Ow w B v l) (hB : B' ≤ B) : Ow w B' v l := by
  obtain ⟨h0, h⟩ := h
  refine ⟨h0, ?_⟩
  rcases h with h | ⟨g, cap, cur, h1, h2, h3⟩
  · exact .inl h
  · exact .inr ⟨g, cap, cur, h1, Nat.le_trans hB h2, h3⟩
theorem bs_two (w : World) (z y : Int) (n : Nat) (hn : n = w.heap.size) : Bs (w.alloc (.cells #[.int .u8 z, .int .u8 y] 5)) (.slice (some ⟨n, 0, none⟩) 2 2) [z, y] := by
  subst hn
  refine .inr ⟨⟨w.heap.size, 0, none⟩, 2, rfl, fun i hi => ?_⟩
  rw [add_plain, cell_new, Nat.zero_add]
  have : i = 0 ∨ i = 1 := by simp at hi; omega
  rcases this with rfl | rfl <;> rfl
set_option maxHeartbeats 1000000 in
theorem appw_any (v : Value) (l : List Int) (x : Int) (hx : 0 ≤ x ∧ x ≤ 65535) (w w0 : World) (hb : Below w0.heap.size w0 w) (hown : Ow w w0.heap.size v l) (hm : l.length ≤ 1000) :
    Calls Tryz.prog 184 #[v, .int .u16 x] w fun e w' => ∃ v', e = .returned v' ∧ Ow w' w0.heap.size v' (l ++ w2 x) ∧ Below w0.heap.size w0 w' := by
  have hm' := hide hm
  clear hm
  have hb0 : ∀ o, Below w0.heap.size w0 (w.alloc o) := fun o => hb.alloc hb.size o
  have hd : x / 256 ≤ 255 := by omega
  have hd0 : 0 ≤ x / 256 := by omega
  go_enter Tryz.func184, Tryz.ntmps184
  go_wp2_with (at_builtin; refine wpList_app (hb0 _) (by rfl) _ _ rfl _ _ rfl rfl l (w2 x) (World.ownsRow.alloc hown _) (bs_two _ _ _ _ rfl) (by simp [w2]; have := unhide hm'; omega) ?_; intro v1 w1 hown1 hb1; refine Hid.out ?_)
  refine hide ?_
  go_wp2_with fail
  go_ret
  exact ⟨_, rfl, hown1, hb1⟩
theorem tl_box_at {w w' : World} {C : Array Value} {t : TypeId} (hb : Below (w.alloc (.cells C t)).heap.size (w.alloc (.cells C t)) w') (i : Nat) : w'.cell? ⟨w.heap.size, i, none⟩ = C[i]? := by
  rw [hb.cell (by simp)]; exact cell_new _ _ _ _ _
theorem tl_pre_succ (t : Tl) (n : Nat) (x : Int) (hx : [t.d, t.s, t.a, t.b][n]? = some x) : pre t (n + 1) = pre t n ++ w2 x := by
  unfold pre
  rw [List.take_add_one, hx]
  simp
set_option maxHeartbeats 2000000 in
theorem tl_encode_yes (k d s a b : Int) (w : World) (hc : chk ⟨k, d, s, a, b⟩ = 0) (hin : Tl.In ⟨k, d, s, a, b⟩) :
    Calls Tryz.prog 129 #[.agg #[.int .u8 k, .int .u16 d, .int .u16 s, .int .u16 a, .int .u16 b]] w fun e w' => ∃ v, e = .returned (.tuple #[v, .int .i64 0]) ∧ Ow w' w.heap.size v (enc ⟨k, d, s, a, b⟩) ∧ Below w.heap.size w w' := by
  have Hz := hide hc
  clear hc
  have Hin := hide hin
  clear hin
  go_enter Tryz.func129, Tryz.ntmps129
  obtain ⟨i, hi, he⟩ := Option.map_eq_some_iff.1 info5
  have e1 : i.zero = some (.int .u8 0) := congrArg Prod.fst he
  have e2 : i.size = 1 := congrArg (fun p => p.2.1) he
  have e3 : i.bytes = 1 := congrArg (fun p => p.2.2) he
  have he1 := hide e1
  have he2 := hide e2
  have he3 := hide e3
  clear e1 e2 e3 he
  go_wp2_with (first | (go_at_call 163; refine (tl_check_any _ _ _ _ _ _).mono ?_; rintro e w1 ⟨rfl, hb1⟩; rw [Hz.out]) | (at_make; refine wpList_make_own _ rfl _ _ 54 rfl (w.alloc (.cells #[.int .u8 k, .int .u16 d, .int .u16 s, .int .u16 a, .int .u16 b] 78)).heap.size 5 i (.int .u8 0) 1 Tryz.underlying54 hi he1.out he2.out .i64 .i64 12 12 rfl rfl rfl (by rw [he3.out]; omega) (by unfold maxLen; omega) hb1.size ?_; intro w2 hown2 hg2; refine Hid.out ?_))
  refine hide ?_
  clear he1 he2 he3 hi
  have hb2 := hb1.grown hg2 hb1.size (fun k hk => by cases hk)
  have c0 : w2.cell? ⟨w.heap.size, 0, none⟩ = some (.int .u8 k) := tl_box_at hb2 0
  clear hg2
  go_wp2_with (at_builtin; refine wpList_app (hb2.alloc hb2.size _) (by rfl) _ _ rfl _ _ rfl rfl [] [165, k] (World.ownsRow.alloc hown2 _) (bs_two _ _ _ _ rfl) (by simp) ?_; intro v3 w3 hown3 hb3; refine Hid.out ?_)
  refine hide ?_
  have c1 : w3.cell? ⟨w.heap.size, 1, none⟩ = some (.int .u16 d) := tl_box_at hb3 1
  have c2 : w3.cell? ⟨w.heap.size, 2, none⟩ = some (.int .u16 s) := tl_box_at hb3 2
  have c3 : w3.cell? ⟨w.heap.size, 3, none⟩ = some (.int .u16 a) := tl_box_at hb3 3
  have c4 : w3.cell? ⟨w.heap.size, 4, none⟩ = some (.int .u16 b) := tl_box_at hb3 4
  clear c0 hown2 hb2 hb1
  go_wp2_with fail
  clear c1 c2 c3 c4
  have Hb0 := hide ((Below.refl w.heap.size w).alloc (Nat.le_refl _) (.cells #[.int .u8 k, .int .u16 d, .int .u16 s, .int .u16 a, .int .u16 b] 78))
  have Hs0 : Hid (w.heap.size ≤ (w.alloc (.cells #[.int .u8 k, .int .u16 d, .int .u16 s, .int .u16 a, .int .u16 b] 78)).heap.size) := hide (by simp)
  generalize w.alloc (.cells #[.int .u8 k, .int .u16 d, .int .u16 s, .int .u16 a, .int .u16 b] 78) = W0 at *
  go_loopw [5, 28] (fun v i wr => ∃ n : Nat, n ≤ 4 ∧ i = .int .i64 n ∧ Ow wr W0.heap.size v (pre ⟨k, d, s, a, b⟩ n) ∧ Below W0.heap.size W0 wr) (fun _ i _ => 4 - (intOf i).toNat)
  case atStart => exact ⟨0, by omega, rfl, hown3, hb3⟩
  case round =>
    obtain ⟨n, hn, rfl, hown, hb⟩ := hrel
    clear hown3 hb3
    by_cases hlt : n < 4
    · have h4 : n = 0 ∨ n = 1 ∨ n = 2 ∨ n = 3 := by omega
      rcases h4 with rfl | rfl | rfl | rfl
      · have q : ∀ w : World, (Instr.index 256 (.agg #[.int .u16 d, .int .u16 s, .int .u16 a, .int .u16 b]) (.int .i64 0)).run Tryz.prog w = .ok (.int .u16 d) w := fun _ => by kernel_rfl
        go_wp2_with (go_at_call 184; refine (appw_any _ _ _ Hin.out.2.1 _ _ hb hown (Nat.le_trans (tl_pre_len _ _) (by omega))).mono ?_; rintro e w' ⟨v', rfl, hown', hb'⟩)
        go_roundw
        case rel => exact ⟨1, by omega, by go_num, by rw [tl_pre_succ _ 0 d rfl]; exact hown', hb'⟩
        case measure => simp [intOf]
      · have q : ∀ w : World, (Instr.index 256 (.agg #[.int .u16 d, .int .u16 s, .int .u16 a, .int .u16 b]) (.int .i64 1)).run Tryz.prog w = .ok (.int .u16 s) w := fun _ => by kernel_rfl
        go_wp2_with (go_at_call 184; refine (appw_any _ _ _ Hin.out.2.2.1 _ _ hb hown (Nat.le_trans (tl_pre_len _ _) (by omega))).mono ?_; rintro e w' ⟨v', rfl, hown', hb'⟩)
        go_roundw
        case rel => exact ⟨2, by omega, by go_num, by rw [tl_pre_succ _ 1 s rfl]; exact hown', hb'⟩
        case measure => simp [intOf]
      · have q : ∀ w : World, (Instr.index 256 (.agg #[.int .u16 d, .int .u16 s, .int .u16 a, .int .u16 b]) (.int .i64 2)).run Tryz.prog w = .ok (.int .u16 a) w := fun _ => by kernel_rfl
        go_wp2_with (go_at_call 184; refine (appw_any _ _ _ Hin.out.2.2.2.1 _ _ hb hown (Nat.le_trans (tl_pre_len _ _) (by omega))).mono ?_; rintro e w' ⟨v', rfl, hown', hb'⟩)
        go_roundw
        case rel => exact ⟨3, by omega, by go_num, by rw [tl_pre_succ _ 2 a rfl]; exact hown', hb'⟩
        case measure => simp [intOf]
      · have q : ∀ w : World, (Instr.index 256 (.agg #[.int .u16 d, .int .u16 s, .int .u16 a, .int .u16 b]) (.int .i64 3)).run Tryz.prog w = .ok (.int .u16 b) w := fun _ => by kernel_rfl
        go_wp2_with (go_at_call 184; refine (appw_any _ _ _ Hin.out.2.2.2.2 _ _ hb hown (Nat.le_trans (tl_pre_len _ _) (by omega))).mono ?_; rintro e w' ⟨v', rfl, hown', hb'⟩)
        go_roundw
        case rel => exact ⟨4, by omega, by go_num, by rw [tl_pre_succ _ 3 b rfl]; exact hown', hb'⟩
        case measure => simp [intOf]
    · have : n = 4 := by omega
      subst this
      go_wp2_with (first | (go_at_call 161; refine (sum_bs (Bs.own hown) (pre_in _ Hin.out _) (Nat.le_trans (tl_pre_len _ _) (by omega))).mono ?_; rintro e w' ⟨rfl, rfl⟩) | (go_at_call 184; refine (appw_any _ _ _ ⟨uv_lo _, uv_hi _⟩ _ _ hb hown (Nat.le_trans (tl_pre_len _ _) (by omega))).mono ?_; rintro e w' ⟨v', rfl, hown', hb'⟩))
      go_ret2
      exact ⟨_, rfl, Ow.mono hown' Hs0.out, Hb0.out.trans (hb'.mono Hs0.out)⟩
end Go.Proofs.YtocmngpoemfpkabGreatDoor

namespace Go.Proofs.YtocmngpoemfpkabGreatDoor
open Go.RowKit
section
set_option maxRecDepth 100000
set_option maxHeartbeats 4000000
variable {w0 w : World} {l : List It} {B g n m : Nat} {E : Ev} {P : Kp} {c : Ct}
theorem note_J (x : Nt) : (c.note x).2.J = c.J := by
  unfold Ct.note
  split
  · rfl
  · split <;> rfl
end
end Go.Proofs.YtocmngpoemfpkabGreatDoor

namespace Go.Proofs.YtocmngpoemfpkabGreatDoor
open Go.ChangeShapes Go.WideShapes Go.ChangeAt Go.RowKit
theorem box5 {w w' : World} {k d s a b : Int} (hb : Below (w.alloc (.cells #[.int .u8 k, .int .u16 d, .int .u16 s, .int .u16 a, .int .u16 b] 78)).heap.size (w.alloc (.cells #[.int .u8 k, .int .u16 d, .int .u16 s, .int .u16 a, .int .u16 b] 78)) w') :
    w'.cell? ⟨w.heap.size, 0, none⟩ = some (.int .u8 k) ∧ w'.cell? ⟨w.heap.size, 1, none⟩ = some (.int .u16 d) ∧ w'.cell? ⟨w.heap.size, 2, none⟩ = some (.int .u16 s) ∧ w'.cell? ⟨w.heap.size, 3, none⟩ = some (.int .u16 a) ∧ w'.cell? ⟨w.heap.size, 4, none⟩ = some (.int .u16 b) :=
  ⟨tl_box_at hb 0, tl_box_at hb 1, tl_box_at hb 2, tl_box_at hb 3, tl_box_at hb 4⟩
end Go.Proofs.YtocmngpoemfpkabGreatDoor

namespace Go.Proofs.YtocmngpoemfpkabGreatDoor
def lo (st : Int) (t n : Nat) : List Rq := (List.range (n - t)).map (fun j : Nat => ⟨(t : Int) + 1 + (j : Int), st, (t : Int) + 1 + (j : Int)⟩)
def hiB (st : Int) (t : Nat) : List Rq := (List.range t).map (fun j : Nat => ⟨101 + (j : Int), st, 1 + (j : Int)⟩)
structure J1 (st : Int) (S : Bk) (t : Nat) : Prop where
  op : ops S.all = lo st 0 t
  dn : S.done = []
  ids : ∀ e ∈ S.all, 1 ≤ e.r.id ∧ e.r.id ≤ t
  sts : ∀ e ∈ S.all, e.r.st = st
  fn : ∀ i : Int, 1 ≤ i → i ≤ t → fnd S.all i = some ⟨⟨i, st, i⟩, 1⟩
  len : S.all.length = t
structure J2 (st : Int) (n : Nat) (S : Bk) (t : Nat) : Prop where
  op : ops S.all = lo st t n ++ hiB st t
  dn : S.done.length = (t + 1) / 2
  ids : ∀ e ∈ S.all, (1 ≤ e.r.id ∧ e.r.id ≤ n) ∨ (101 ≤ e.r.id ∧ e.r.id ≤ 100 + t)
  sts : ∀ e ∈ S.all, e.r.st = st
  fn : ∀ i : Int, t < i → i ≤ n → fnd S.all i = some ⟨⟨i, st, i⟩, 1⟩
  len : S.all.length = n + t
structure J3 (st : Int) (n : Nat) (S : Bk) (t : Nat) : Prop where
  op : ops S.all = lo st (t + 1) n ++ hiB st t
  dn : S.done.length = (t + 1 + 1) / 2
  ids : ∀ e ∈ S.all, (1 ≤ e.r.id ∧ e.r.id ≤ n) ∨ (101 ≤ e.r.id ∧ e.r.id ≤ 100 + t)
  sts : ∀ e ∈ S.all, e.r.st = st
  fn : ∀ i : Int, t + 1 < i → i ≤ n → fnd S.all i = some ⟨⟨i, st, i⟩, 1⟩
  len : S.all.length = n + t
end Go.Proofs.YtocmngpoemfpkabGreatDoor

namespace Go.Proofs.YtocmngpoemfpkabGreatDoor
open Go.RowKit
theorem Its.cells3 {w0 w : World} {b : Nat} {p q r : Value} {t : TypeId} {l : List It} (h : Its w0 (.box b #[p, q, r] t :: l) w) : w.cell? ⟨b, 0, none⟩ = some p ∧ w.cell? ⟨b, 1, none⟩ = some q ∧ w.cell? ⟨b, 2, none⟩ = some r := ⟨(cells_at h.one 0).1, (cells_at h.one 1).1, (cells_at h.one 2).1⟩
end Go.Proofs.YtocmngpoemfpkabGreatDoor

namespace Go.Proofs.YtocmngpoemfpkabGreatDoor
open Go.RowKit
section
set_option maxRecDepth 100000
set_option maxHeartbeats 4000000
variable {w0 w : World} {l : List It} {B g n m : Nat} {E : Ev} {P : Kp} {c : Ct}
theorem way_take {S : Mr} {t : Int} (k : Nat) (D : Dv) (hD : S.ds[k]? = some D) (h : takes t D = true) : S.way t = true := List.any_eq_true.2 ⟨D, List.mem_of_getElem? hD, h⟩
theorem isMoving_any (h : (It.ctl B g E n m P c).P w) (t : Int) (ht : t ≠ 0) : Calls Tryz.prog 126 #[.pointer (some ⟨g, 0, none⟩), .int .i64 t] w fun e w' => e = .returned (.bool (P.S.way t)) ∧ ∃ q, w' = w.drewN q := by
  obtain ⟨c0, c1, c2, c3, c4, c5, c37, c38⟩ := kt_c h
  have hl := mr_len (kt_m h)
  have KT : Hid (∀ (q k : Nat) (D : Dv), P.S.ds[k]? = some D → ∃ (x y : Int) (z : Bool), Calls Tryz.prog 58 #[.pointer (some ⟨P.gm, 0, none⟩), .int .i64 ((k : Int) + 1)] (w.drewN q) (fun e w' => e = .returned (.tuple #[.int .i64 x, .int .i64 y, .bool z]) ∧ ∃ q, w' = w.drewN q) ∧ (takes t D = true → z = true ∧ x = t) ∧ (takes t D = false → z = true → (x == t) = false)) := hide (fun q k D hD => by
    obtain ⟨e1, e2⟩ := Mr.dev_nat hD
    refine ⟨(P.S.told ((k : Int) + 1)).1, (P.S.told ((k : Int) + 1)).2.1, (P.S.told ((k : Int) + 1)).2.2, (told_m (w := w.drewN q) ((It.mir B P.gm P.Hm n m E.es P.S).st (kt_m h) fun _ _ => rfl) ((k : Int) + 1)).mono ?_, ?_, ?_⟩
    · rintro e w' ⟨rfl, q', rfl⟩
      exact ⟨rfl, q + q', by simp [World.drewN, Nat.add_assoc]⟩
    · intro hT
      have : D.tt = t := by unfold takes at hT; exact of_decide_eq_true hT
      unfold Mr.told
      rw [e1, if_pos ⟨e2, by omega⟩]
      exact ⟨rfl, this⟩
    · intro hT hz
      have hne : D.tt ≠ t := by unfold takes at hT; exact of_decide_eq_false hT
      unfold Mr.told at hz ⊢
      rw [e1] at hz ⊢
      by_cases q : P.S.isD ((k : Int) + 1) = true ∧ D.tt ≠ 0
      · rw [if_pos q]; exact beq_eq_false_iff_ne.2 hne
      · rw [if_neg q] at hz; cases hz)
  have yes : Hid (∀ (k : Nat) (D : Dv), P.S.ds[k]? = some D → takes t D = true → P.S.way t = true) := hide (fun k D h1 h2 => way_take k D h1 h2)
  have no : Hid ((∀ (j : Nat) (D : Dv), j < m → P.S.ds[j]? = some D → takes t D = false) → P.S.way t = false) := hide (fun hh => by
    unfold Mr.way
    rw [List.any_eq_false]
    intro D hD
    obtain ⟨j, hj⟩ := List.getElem?_of_mem hD
    rw [hh j D (by have := idx_lt hj; omega) hj]; simp)
  have hle := hide (show P.S.ds.length = m from hl.2.1)
  have i0 : (m : Int) ≤ 120 := by omega
  generalize hway : P.S.way t = res at *
  clear hway hl h ht
  go_enter Tryz.func126, Tryz.ntmps126
  go_wp2_with fail
  go_loopw [5] (fun v5 wr => ∃ k q : Nat, k ≤ m ∧ v5 = .int .i64 ((k : Int) + 1) ∧ wr = w.drewN q ∧ Hid (∀ j D, j < k → P.S.ds[j]? = some D → takes t D = false)) (fun v5 _ => m + 1 - (intOf v5).toNat)
  case atStart => exact ⟨0, 0, by omega, rfl, rfl, hide (fun j D h => by omega)⟩
  case round =>
    obtain ⟨k, q, hk, rfl, rfl, Hno⟩ := hrel
    by_cases hlt : k < m
    · obtain ⟨D, hD⟩ : ∃ D, P.S.ds[k]? = some D := ⟨_, List.getElem?_eq_getElem (by rw [hle.out]; exact hlt)⟩
      obtain ⟨x, y, z, K, hy, hn⟩ := KT.out q k D hD
      have K := hide K
      have j1 : (k : Int) + 1 ≤ (m : Int) := by omega
      have j2 : wrap64 ((k : Int) + 1 + 1) = (k : Int) + 1 + 1 := by unfold wrap64; omega
      have HD := hide hD
      clear hD
      cases he : takes t D with
      | true =>
        obtain ⟨rfl, rfl⟩ := hy he
        have e1 := yes.out k D HD.out he
        subst e1
        clear he hn hy
        go_wp2_with (go_at_call 58; refine K.out.mono ?_; rintro e w2 ⟨rfl, q', rfl⟩)
        go_ret
        exact ⟨rfl, _, rfl⟩
      | false =>
        have hn := hn he
        have HX1 : Hid (∀ j D, j < k + 1 → P.S.ds[j]? = some D → takes t D = false) := hide (fun j D' hj hd => by
          rcases Nat.lt_or_ge j k with g | g
          · exact Hno.out j D' g hd
          · obtain rfl : j = k := by omega
            rw [HD.out] at hd
            cases hd
            exact he)
        clear he hy
        cases z with
        | true =>
          have hn := hn rfl
          go_wp2_with (go_at_call 58; refine K.out.mono ?_; rintro e w2 ⟨rfl, q', rfl⟩)
          go_roundw
          case rel => exact ⟨k + 1, q', by omega, by go_num, rfl, HX1⟩
          case measure => simp [intOf]; omega
        | false =>
          clear hn
          go_wp2_with (go_at_call 58; refine K.out.mono ?_; rintro e w2 ⟨rfl, q', rfl⟩)
          go_roundw
          case rel => exact ⟨k + 1, q', by omega, by go_num, rfl, HX1⟩
          case measure => simp [intOf]; omega
    · obtain rfl : k = m := by omega
      have j1 : ¬ (k : Int) + 1 ≤ (k : Int) := by omega
      have e1 := no.out Hno.out
      subst e1
      go_wp2_with fail
      go_ret
      exact ⟨rfl, _, rfl⟩
theorem rests_any (h : (It.ctl B g E n m P c).P w) (t : Int) (ht : 1 ≤ t ∧ t ≤ 30) : Calls Tryz.prog 122 #[.pointer (some ⟨g, 0, none⟩), .int .i64 t] w fun e w' => e = .returned (.bool (decide (P.S.whr t ≠ -1) && (decide (c.J t = []) && !P.S.way t))) ∧ ∃ q, w' = w.drewN q := by
  obtain ⟨c0, c1, c2, c3, c4, c5, c37, c38⟩ := kt_c h
  have KW := hide (where_m (kt_m h) t)
  have KM := hide (isMoving_any h t (by omega))
  obtain ⟨k, rfl⟩ : ∃ k : Nat, t = (k : Int) := ⟨t.toNat, by omega⟩
  obtain ⟨a, cc, e, _⟩ := (kt_j h k (by omega)).form
  have hv := kt_vj h k (by omega)
  rw [e] at hv
  have t0 : (0 : Int) ≤ (k : Int) := by omega
  have t1 : (k : Int) < 31 := by omega
  have hJ : decide (c.J (k : Int) = []) = decide ((c.J (k : Int)).length = 0) := by simp [List.length_eq_zero_iff]
  rw [hJ]
  generalize (c.J (k : Int)).length = N at *
  generalize P.S.whr (k : Int) = wh at *
  generalize P.S.way (k : Int) = wy at *
  clear h ht e hJ
  by_cases h1 : wh = -1
  · subst h1
    clear KM
    go_enter Tryz.func122, Tryz.ntmps122
    go_wp2_with (go_at_call 47; refine KW.out.mono ?_; rintro e w1 ⟨rfl, rfl⟩)
    go_ret
    exact ⟨by simp, 0, rfl⟩
  have h1' : (wh == -1) = false := beq_eq_false_iff_ne.2 h1
  by_cases h2 : N = 0
  · subst h2
    go_enter Tryz.func122, Tryz.ntmps122
    go_wp2_with (first
      | (go_at_call 47; refine KW.out.mono ?_; rintro e w1 ⟨rfl, rfl⟩)
      | (go_at_call 126; refine KM.out.mono ?_; rintro e w2 ⟨rfl, q, rfl⟩))
    go_ret
    exact ⟨by simp [h1], q, rfl⟩
  have h2' : ((N : Int) == 0) = false := beq_eq_false_iff_ne.2 (by omega)
  have h2i : ¬ (N : Int) = 0 := by omega
  clear KM
  go_enter Tryz.func122, Tryz.ntmps122
  go_wp2_with (go_at_call 47; refine KW.out.mono ?_; rintro e w1 ⟨rfl, rfl⟩)
  go_ret
  exact ⟨by simp [h2], 0, rfl⟩
theorem isFirst_any (h : (It.ctl B g E n m P c).P w) (r : Rq) (hr : r.tt ≠ 0) : Calls Tryz.prog 121 #[.pointer (some ⟨g, 0, none⟩), .agg #[.int .i64 r.id, .int .i64 r.st, .int .i64 r.tt]] w fun e w' => e = .returned (.bool (decide (fst P.K.all r.st = some r))) ∧ Below w.heap.size w w' := by
  have I0 : Its w [.box w.heap.size #[.int .i64 r.id, .int .i64 r.st, .int .i64 r.tt] 53] (w.alloc (.cells #[.int .i64 r.id, .int .i64 r.st, .int .i64 r.tt] 53)) := (Its.nil w).boxN _ 53 rfl
  obtain ⟨w1, hw1⟩ : ∃ w1, w.alloc (.cells #[.int .i64 r.id, .int .i64 r.st, .int .i64 r.tt] 53) = w1 := ⟨_, rfl⟩
  rw [hw1] at I0
  have hb : Below w.heap.size w w1 := I0.bel
  have h1 : (It.ctl B g E n m P c).P w1 := (It.ctl B g E n m P c).st h fun k hk => hb.block k ((It.ctl B g E n m P c).lt h k hk)
  obtain ⟨c0, c1, c2, c3, c4, c5, c37, c38⟩ := kt_c h1
  have HI := hide I0
  obtain ⟨y0, y1, y2⟩ := Its.cells3 I0
  have KB : Hid (∀ W, Below w1.heap.size w1 W → Calls Tryz.prog 180 #[.pointer (some ⟨P.gb, 0, none⟩), .int .i64 r.st] W fun e w' => e = .returned (.tuple #[rqV (fst P.K.all r.st), .bool (fst P.K.all r.st).isSome]) ∧ Below W.heap.size W w') := hide (fun W hW => firstB_any (It.kept _ (kt_b h1) hW) r.st)
  have KQ : Hid (∀ W (a : Rq), (Op.equalIn 10000 53 (.agg #[.int .i64 a.id, .int .i64 a.st, .int .i64 a.tt]) (.agg #[.int .i64 r.id, .int .i64 r.st, .int .i64 r.tt])).run Tryz.prog W = .ok (decide (a = r)) W) := hide (fun W a => rq_equal W a r)
  obtain ⟨a, ha, hd⟩ : ∃ a : Rq, rqV (fst P.K.all r.st) = .agg #[.int .i64 a.id, .int .i64 a.st, .int .i64 a.tt] ∧ decide (a = r) = decide (fst P.K.all r.st = some r) := by
    cases hf : fst P.K.all r.st with
    | some a => exact ⟨a, rfl, by simp⟩
    | none => exact ⟨⟨0, 0, 0⟩, rfl, by
        rw [decide_eq_false (fun q => hr (by rw [← q])), decide_eq_false (by simp)]⟩
  have SB0 : Hid (∀ W, Below w1.heap.size w1 W → W.cell? ⟨g, 5, none⟩ = some (.pointer (some ⟨P.gb, 0, none⟩)) ∧ W.cell? ⟨w.heap.size, 1, none⟩ = some (.int .i64 r.st)) := hide (fun W hW => by
    have hk : w.heap.size < w1.heap.size := heap_lt HI.out.one
    have hg : g < w1.heap.size := heap_lt (kt_box h1)
    exact ⟨by rw [hW.cell (p := ⟨g, 5, none⟩) hg]; exact c5, by rw [hW.cell (p := ⟨w.heap.size, 1, none⟩) hk]; exact y1⟩)
  have SY : Hid (∀ W, Below w1.heap.size w1 W → W.cell? ⟨w.heap.size, 0, none⟩ = some (.int .i64 r.id) ∧ W.cell? ⟨w.heap.size, 1, none⟩ = some (.int .i64 r.st) ∧ W.cell? ⟨w.heap.size, 2, none⟩ = some (.int .i64 r.tt)) := hide (fun W hW => by
    have hk : w.heap.size < w1.heap.size := heap_lt HI.out.one
    exact ⟨by rw [hW.cell (p := ⟨w.heap.size, 0, none⟩) hk]; exact y0, by rw [hW.cell (p := ⟨w.heap.size, 1, none⟩) hk]; exact y1, by rw [hW.cell (p := ⟨w.heap.size, 2, none⟩) hk]; exact y2⟩)
  have Hbb := hide hb
  rw [ha] at KB
  rw [← hd]
  generalize (fst P.K.all r.st).isSome = ss at *
  generalize hdd : decide (a = r) = dd at *
  have Hdec := hide hdd
  clear h h1 ha hd hr hdd hb I0
  obtain ⟨ri, rs, rt⟩ := r
  obtain ⟨ai, as', at'⟩ := a
  dsimp only at *
  have KQ := hide (fun W => KQ.out W ⟨ai, as', at'⟩)
  rw [Hdec.out] at KQ
  go_enter Tryz.func121, Tryz.ntmps121
  have BW : Hid (∀ W W', Below w1.heap.size w1 W → W'.heap = W.heap → W'.os = W.os → W'.tape = W.tape → W'.output = W.output → Below w1.heap.size w1 W') := hide (fun W W' hb e1 e2 e3 e4 => ⟨e2.trans hb.os, e3.trans hb.tape, e4.trans hb.output, by rw [e1]; exact hb.size, fun k hk => by rw [e1]; exact hb.block k hk⟩)
  have SB : Hid (∀ W, Below w1.heap.size w1 W → W.cell? ⟨g, 5, none⟩ = some (.pointer (some ⟨P.gb, 0, none⟩)) ∧ W.cell? ⟨w.heap.size, 1, none⟩ = some (.int .i64 rs)) := SB0
  have B0 : Below w1.heap.size w1 w1 := Below.refl _ _
  have BA : ∀ o, Below w1.heap.size w1 (w1.alloc o) := fun o => below_new w1 o
  go_upto_region 1 with fail
  go_region_held3 (fun W => W.cell? ⟨g, 5, none⟩ = some (.pointer (some ⟨P.gb, 0, none⟩)) ∧ W.cell? ⟨w.heap.size, 1, none⟩ = some (.int .i64 rs)) (first | exact SB.out _ (BW.out w1 _ B0 rfl rfl rfl rfl) | exact SB.out _ (BW.out _ _ (BA _) rfl rfl rfl rfl) | exact SB.out _ B2 | exact SB.out _ (B2.alloc B2.size _) | exact SB.out _ (BW.out _ _ (B2.alloc B2.size _) rfl rfl rfl rfl) | exact SB.out _ (B3 _ _ _) | exact SB.out _ (BW.out _ _ (B3 _ _ _) rfl rfl rfl rfl) | fail)
    (first
      | (go_at_call 180; refine (KB.out _ ?_).mono ?_; exact BW.out w1 _ B0 rfl rfl rfl rfl; rintro e w2 ⟨rfl, q⟩; have B2 : Below w1.heap.size w1 w2 := (BW.out w1 w1.drew B0 rfl rfl rfl rfl).trans q; have Q2 := hide (B2.alloc B2.size (.cells #[.int .i64 ai, .int .i64 as', .int .i64 at'] 53)); have Z2 := hide (heap_new w2 (.cells #[.int .i64 ai, .int .i64 as', .int .i64 at'] 53)); clear q)
      | (go_at_call 180; refine (KB.out _ ?_).mono ?_; exact BW.out (w1.alloc (.cells #[.int .i64 0, .int .i64 0, .int .i64 0] 53)) _ (BA _) rfl rfl rfl rfl; rintro e w2 ⟨rfl, q⟩; have B2 : Below w1.heap.size w1 w2 := (BW.out (w1.alloc (.cells #[.int .i64 0, .int .i64 0, .int .i64 0] 53)) (w1.alloc (.cells #[.int .i64 0, .int .i64 0, .int .i64 0] 53)).drew (BA _) rfl rfl rfl rfl).trans (q.mono (BA _).size); have Z3 : w2.heap[w1.heap.size]? = some (.cells #[.int .i64 0, .int .i64 0, .int .i64 0] 53) := (q.block w1.heap.size (heap_lt (heap_new w1 (.cells #[.int .i64 0, .int .i64 0, .int .i64 0] 53)))).trans (heap_new w1 (.cells #[.int .i64 0, .int .i64 0, .int .i64 0] 53)); have z0 := (cells_at Z3 0); have z1 := (cells_at Z3 1); have z2 := (cells_at Z3 2); have z00 := z0.1; have z01 := z0.2; have z10 := z1.1; have z11 := z1.2; have z20 := z2.1; have z21 := z2.2; clear z0 z1 z2; have B3 := (fun a b c => ((B2.setCell (p := ⟨w1.heap.size, 0, none⟩) (Nat.le_refl _) a).setCell (p := ⟨w1.heap.size, 1, none⟩) (Nat.le_refl _) b).setCell (p := ⟨w1.heap.size, 2, none⟩) (Nat.le_refl _) c); clear q)
      | fail)
  all_goals (first
    | (have HC := put3 Z3 (.int .i64 ai) (.int .i64 as') (.int .i64 at'); have HBf := hide (B3 (.int .i64 ai) (.int .i64 as') (.int .i64 at')))
    | (have HC := Z2.out; have HBf := hide Q2.out))
  all_goals (
    have a0 := (cells_at HC 0).1
    have a1 := (cells_at HC 1).1
    have a2 := (cells_at HC 2).1
    obtain ⟨s0, s1, s2⟩ := SY.out _ HBf.out
    have KQw := KQ.out
    clear HC
    go_wp2_with fail
    go_ret
    exact ⟨rfl, Hbb.out.trans (HBf.out.mono Hbb.out.size)⟩)
end
end Go.Proofs.YtocmngpoemfpkabGreatDoor

namespace Go.Proofs.YtocmngpoemfpkabGreatDoor
open Go.RowKit
section
set_option maxRecDepth 100000
set_option maxHeartbeats 4000000
variable {w0 w : World} {l : List It} {B g n m : Nat} {E : Ev} {P : Kp} {c : Ct}
def hasRP (K : Bk) (t : Int) : Bool := match wnt K.all t with
  | some r => decide (fst K.all r.st = some r)
  | none => false
theorem hasReq_any (h : (It.ctl B g E n m P c).P w) (t : Int) (ht : t ≠ 0) : Calls Tryz.prog 125 #[.pointer (some ⟨g, 0, none⟩), .int .i64 t] w fun e w' => e = .returned (.bool (hasRP P.K t)) ∧ Below w.heap.size w w' := by
  obtain ⟨c0, c1, c2, c3, c4, c5, c37, c38⟩ := kt_c h
  have KW := hide (wanted_any (kt_b h) t)
  have KF : Hid (∀ W (r : Rq), r.tt ≠ 0 → Below w.heap.size w W → Calls Tryz.prog 121 #[.pointer (some ⟨g, 0, none⟩), .agg #[.int .i64 r.id, .int .i64 r.st, .int .i64 r.tt]] W fun e w' => e = .returned (.bool (decide (fst P.K.all r.st = some r))) ∧ Below W.heap.size W w') := hide (fun W r hr hW => isFirst_any (It.kept _ h hW) r hr)
  cases hw : wnt P.K.all t with
  | none =>
    rw [show hasRP P.K t = false by unfold hasRP; rw [hw]]
    rw [hw] at KW
    have KW2 : Hid (Calls Tryz.prog 110 #[.pointer (some ⟨P.gb, 0, none⟩), .int .i64 t] w fun e w' => e = .returned (.tuple #[.agg #[.int .i64 0, .int .i64 0, .int .i64 0], .bool false]) ∧ Below w.heap.size w w') := KW
    clear KW KF h hw
    go_enter Tryz.func125, Tryz.ntmps125
    go_wp2_with (go_at_call 110; refine KW2.out.mono ?_; rintro e w1 ⟨rfl, q⟩; have HB := hide q; clear q)
    go_ret
    exact ⟨rfl, HB.out.alloc HB.out.size _⟩
  | some r =>
    rw [show hasRP P.K t = decide (fst P.K.all r.st = some r) by unfold hasRP; rw [hw]]
    rw [hw] at KW
    have hr : r.tt ≠ 0 := by
      have := List.find?_some hw
      have : r.tt = t := by simpa using this
      omega
    have KF := hide (fun W => KF.out W r hr)
    have KW2 : Hid (Calls Tryz.prog 110 #[.pointer (some ⟨P.gb, 0, none⟩), .int .i64 t] w fun e w' => e = .returned (.tuple #[.agg #[.int .i64 r.id, .int .i64 r.st, .int .i64 r.tt], .bool true]) ∧ Below w.heap.size w w') := KW
    clear KW h hw hr
    generalize decide (fst P.K.all r.st = some r) = ff at *
    obtain ⟨ri, rs, rt⟩ := r
    dsimp only at *
    go_enter Tryz.func125, Tryz.ntmps125
    go_wp2_with (first
      | (go_at_call 110; refine KW2.out.mono ?_; rintro e w1 ⟨rfl, q⟩; have HB := hide q; have HB2 := hide (q.alloc q.size (.cells #[.int .i64 ri, .int .i64 rs, .int .i64 rt] 53)); clear q)
      | (go_at_call 121; refine (KF.out _ HB2.out).mono ?_; rintro e w2 ⟨rfl, q⟩; have HB3 := hide (HB2.out.trans (q.mono HB2.out.size)); clear q))
    go_ret
    exact ⟨rfl, HB3.out⟩
theorem nextQ_any (h : (It.ctl B g E n m P c).P w) (d : Int) (hq : 0 ≤ (P.S.last d).1 ∧ (P.S.last d).1 ≤ 65535) : Calls Tryz.prog 128 #[.pointer (some ⟨g, 0, none⟩), .int .i64 d] w fun e w' => e = .returned (.int .i64 (if (P.S.last d).2 = true then ((P.S.last d).1 + 1) % 65536 else 0)) ∧ ∃ q, w' = w.drewN q := by
  obtain ⟨c0, c1, c2, c3, c4, c5, c37, c38⟩ := kt_c h
  have KL := hide (last_m (kt_m h) d)
  clear h
  generalize P.S.last d = p at *
  obtain ⟨q, v⟩ := p
  dsimp only at *
  cases v with
  | false =>
    go_enter Tryz.func128, Tryz.ntmps128
    go_wp2_with (go_at_call 183; refine KL.out.mono ?_; rintro e w1 ⟨rfl, q', rfl⟩)
    go_ret
    exact ⟨by simp, _, rfl⟩
  | true =>
    have v1 : IntKind.u16.wrap q = q := by unfold IntKind.wrap; simp [IntKind.signed, IntKind.bits]; omega
    have v2 : IntKind.u16.wrap (q + 1) = (q + 1) % 65536 := by unfold IntKind.wrap; simp [IntKind.signed, IntKind.bits]
    have v3 : IntKind.i64.wrap ((q + 1) % 65536) = (q + 1) % 65536 := by unfold IntKind.wrap; simp [IntKind.signed, IntKind.bits]; omega
    generalize (q + 1) % 65536 = z at *
    go_enter Tryz.func128, Tryz.ntmps128
    go_wp2_with (go_at_call 183; refine KL.out.mono ?_; rintro e w1 ⟨rfl, q', rfl⟩)
    go_ret
    exact ⟨by simp, _, rfl⟩
def fulB (E : Ev) (P : Kp) (c : Ct) (t : Int) (k : Nat) : Bool := (P.S.tak (k : Int) && decide (P.S.whr t ≠ (k : Int))) || c.onP E (k : Int) t
def fulL (E : Ev) (P : Kp) (c : Ct) (t : Int) (k : Nat) : List Int := ((List.range k).filter (fulB E P c t)).map (fun i : Nat => (i : Int))
theorem fulL_succ (E : Ev) (P : Kp) (c : Ct) (t : Int) (k : Nat) : fulL E P c t (k + 1) = fulL E P c t k ++ (if fulB E P c t k = true then [(k : Int)] else []) := by
  unfold fulL
  rw [List.range_succ, List.filter_append, List.map_append]
  congr 1
  by_cases h : fulB E P c t k = true
  · simp [h]
  · simp [h]
theorem fulL_len (E : Ev) (P : Kp) (c : Ct) (t : Int) (k : Nat) : (fulL E P c t k).length ≤ k := by
  unfold fulL
  rw [List.length_map]
  exact Nat.le_trans (List.length_filter_le _ _) (by rw [List.length_range]; exact Nat.le_refl _)
theorem fullFor_any (h : (It.ctl B g E n m P c).P w) (hl : ∀ t, (c.J t).length ≤ 1000) (t : Int) : Calls Tryz.prog 124 #[.pointer (some ⟨g, 0, none⟩), .int .i64 t] w (OwnI w (fulL E P c t n)) := by
  obtain ⟨c0, c1, c2, c3, c4, c5, c37, c38⟩ := kt_c h
  have hn4 := (kt_ly h).n4
  have hgl : g < w.heap.size := heap_lt (kt_box h)
  have KC : Hid (∀ W, Below w.heap.size w W → W.cell? ⟨g, 4, none⟩ = some (.pointer (some ⟨P.gm, 0, none⟩))) := hide (fun W hW => by rw [hW.cell (p := ⟨g, 4, none⟩) hgl]; exact c4)
  have KT : Hid (∀ W (x : Int), Below w.heap.size w W → Calls Tryz.prog 182 #[.pointer (some ⟨P.gm, 0, none⟩), .int .i64 x] W fun e w' => e = .returned (.bool (P.S.tak x)) ∧ Below W.heap.size W w') := hide (fun W x hW => taken_m (It.kept _ (kt_m h) hW) x)
  have KW : Hid (∀ W, Below w.heap.size w W → Calls Tryz.prog 47 #[.pointer (some ⟨P.gm, 0, none⟩), .int .i64 t] W fun e w' => e = .returned (.int .i64 (P.S.whr t)) ∧ w' = W) := hide (fun W hW => where_m (It.kept _ (kt_m h) hW) t)
  have KO : Hid (∀ W (x : Int), Below w.heap.size w W → Calls Tryz.prog 51 #[.pointer (some ⟨g, 0, none⟩), .int .i64 x, .int .i64 t] W fun e w' => e = .returned (.bool (c.onP E x t)) ∧ Below W.heap.size W w') := hide (fun W x hW => isOnPath_any (It.kept _ h hW) hl x t)
  have HS := hide (fulL_succ E P c t)
  have HL := hide (fulL_len E P c t)
  have HB : Hid (∀ k, fulB E P c t k = ((P.S.tak (k : Int) && decide (P.S.whr t ≠ (k : Int))) || c.onP E (k : Int) t)) := hide (fun k => rfl)
  have H0 : Hid (fulL E P c t 0 = []) := hide rfl
  generalize fulL E P c t = FL at *
  generalize fulB E P c t = FB at *
  generalize P.S.whr t = wh at *
  have i0 : (n : Int) ≤ 1000 := by omega
  have HE := hide ((Its.nil w).empty intE)
  obtain ⟨W0, rfl⟩ : ∃ W, W = w := ⟨_, rfl⟩
  clear h hl hgl hn4
  go_enter Tryz.func124, Tryz.ntmps124
  go_wp2_with fail
  go_loopw [13, 5] (fun v13 v5 wr => ∃ (k : Nat) (a : Option Addr) (q p : Nat), v13 = .int .i64 k ∧ v5 = .slice a q p ∧ k ≤ n ∧ Hid ((FL k).length = q) ∧ Hid (Its W0 (.ints W0.heap.size (.slice a q p) (FL k) :: []) wr)) (fun v13 _ _ => n - (intOf v13).toNat)
  case atStart => exact ⟨0, none, 0, 0, rfl, rfl, Nat.zero_le _, hide (by rw [H0.out]; rfl), hide (by rw [H0.out]; exact HE.out)⟩
  case round =>
    obtain ⟨k, a, q, p, rfl, rfl, hk, HQ, HR⟩ := hrel
    by_cases hlt : k < n
    · have d4 := KC.out wr HR.out.bel
      have j0 : (0 : Int) ≤ (k : Int) := by omega
      have j1 : (k : Int) < (n : Int) := by omega
      have j2 : wrap64 ((k : Int) + 1) = (k : Int) + 1 := by unfold wrap64; omega
      have S1 := hide (HS.out k)
      have B1 := hide (HB.out k)
      have L1 := hide (HL.out k)
      have KTk := hide (fun W => KT.out W (k : Int))
      have KOk := hide (fun W => KO.out W (k : Int))
      generalize P.S.tak (k : Int) = tk at *
      generalize c.onP E (k : Int) t = op at *
      generalize hdl : FL k = dl at *
      have Hle : Hid (dl.length + [(k : Int)].length ≤ 1000000) := hide (by have := L1.out; simp only [List.length_singleton]; omega)
      clear hdl L1
      cases tk with
      | true =>
        by_cases hw : wh = (k : Int)
        · have hw' : (wh == (k : Int)) = true := by simp [hw]
          cases op with
          | true =>
            have S2 := hide (show FL (k + 1) = dl ++ [(k : Int)] by rw [S1.out, B1.out]; simp [hw])
            clear S1 B1
            go_wp2_with (first
              | (go_at_call 182; refine (KTk.out _ HR.out.bel).mono ?_; rintro e w1 ⟨rfl, q9⟩; have HR1 := hide (HR.out.keep q9); have e4 := KC.out w1 HR1.out.bel; clear q9)
              | (go_at_call 47; refine (KW.out _ HR1.out.bel).mono ?_; rintro e w8 ⟨rfl, rfl⟩)
              | (go_at_call 51; refine (KOk.out _ HR1.out.bel).mono ?_; rintro e w2 ⟨rfl, q9⟩; have HR2 := hide (HR1.out.keep q9); clear q9; have HX := hide (HR2.out.alloc (.cells #[.int .i64 (k : Int)] 3)); have HSX : Hid (intE.Rd (w2.alloc (.cells #[.int .i64 (k : Int)] 3)) (.slice (some ⟨w2.heap.size, 0, none⟩) 1 1) [(k : Int)]) := hide (int_new _ _ _ rfl))
              | (at_builtin; refine intE.wpB (B := W0.heap.size) HX.out.size (by rfl) _ _ rfl _ _ rfl rfl dl [(k : Int)] HX.out.one HSX.out Hle.out ?_; intro v4 W4 ho hg hs; obtain ⟨a4, p4, hf4⟩ := ho.rd.form; obtain ⟨n4, hn4⟩ : ∃ n4, (dl ++ [(k : Int)]).length = n4 := ⟨_, rfl⟩; rw [hn4] at hf4; subst hf4; have HI4 := hide (HX.out.grow ho hg hs); have Hn4 := hide hn4; clear ho hg hs hn4))
            go_roundw
            case rel => exact ⟨k + 1, a4, n4, p4, by go_num, rfl, by omega, hide (by rw [S2.out]; exact Hn4.out), hide (by rw [S2.out]; exact HI4.out)⟩
            case measure => simp [intOf]; omega
          | false =>
            have S2 := hide (show FL (k + 1) = dl by rw [S1.out, B1.out]; simp [hw])
            clear S1 B1
            go_wp2_with (first
              | (go_at_call 182; refine (KTk.out _ HR.out.bel).mono ?_; rintro e w1 ⟨rfl, q9⟩; have HR1 := hide (HR.out.keep q9); have e4 := KC.out w1 HR1.out.bel; clear q9)
              | (go_at_call 47; refine (KW.out _ HR1.out.bel).mono ?_; rintro e w8 ⟨rfl, rfl⟩)
              | (go_at_call 51; refine (KOk.out _ HR1.out.bel).mono ?_; rintro e w2 ⟨rfl, q9⟩; have HR2 := hide (HR1.out.keep q9); clear q9; have HX := hide (HR2.out.alloc (.cells #[.int .i64 (k : Int)] 3)); have HSX : Hid (intE.Rd (w2.alloc (.cells #[.int .i64 (k : Int)] 3)) (.slice (some ⟨w2.heap.size, 0, none⟩) 1 1) [(k : Int)]) := hide (int_new _ _ _ rfl)))
            go_roundw
            case rel => exact ⟨k + 1, a, q, p, by go_num, rfl, by omega, hide (by rw [S2.out]; exact HQ.out), hide (by rw [S2.out]; exact HR2.out)⟩
            case measure => simp [intOf]; omega
        · have hw' : (wh == (k : Int)) = false := beq_eq_false_iff_ne.2 hw
          have S2 := hide (show FL (k + 1) = dl ++ [(k : Int)] by rw [S1.out, B1.out]; simp [hw])
          clear S1 B1
          go_wp2_with (first
            | (go_at_call 182; refine (KTk.out _ HR.out.bel).mono ?_; rintro e w1 ⟨rfl, q9⟩; have HR1 := hide (HR.out.keep q9); have e4 := KC.out w1 HR1.out.bel; clear q9; have HX := hide (HR1.out.alloc (.cells #[.int .i64 (k : Int)] 3)); have HSX : Hid (intE.Rd (w1.alloc (.cells #[.int .i64 (k : Int)] 3)) (.slice (some ⟨w1.heap.size, 0, none⟩) 1 1) [(k : Int)]) := hide (int_new _ _ _ rfl))
            | (go_at_call 47; refine (KW.out _ HR1.out.bel).mono ?_; rintro e w8 ⟨rfl, rfl⟩)
            | (at_builtin; refine intE.wpB (B := W0.heap.size) HX.out.size (by rfl) _ _ rfl _ _ rfl rfl dl [(k : Int)] HX.out.one HSX.out Hle.out ?_; intro v4 W4 ho hg hs; obtain ⟨a4, p4, hf4⟩ := ho.rd.form; obtain ⟨n4, hn4⟩ : ∃ n4, (dl ++ [(k : Int)]).length = n4 := ⟨_, rfl⟩; rw [hn4] at hf4; subst hf4; have HI4 := hide (HX.out.grow ho hg hs); have Hn4 := hide hn4; clear ho hg hs hn4))
          go_roundw
          case rel => exact ⟨k + 1, a4, n4, p4, by go_num, rfl, by omega, hide (by rw [S2.out]; exact Hn4.out), hide (by rw [S2.out]; exact HI4.out)⟩
          case measure => simp [intOf]; omega
      | false =>
        cases op with
        | true =>
          have S2 := hide (show FL (k + 1) = dl ++ [(k : Int)] by rw [S1.out, B1.out]; simp)
          clear S1 B1
          go_wp2_with (first
            | (go_at_call 182; refine (KTk.out _ HR.out.bel).mono ?_; rintro e w1 ⟨rfl, q9⟩; have HR1 := hide (HR.out.keep q9); have e4 := KC.out w1 HR1.out.bel; clear q9)
            | (go_at_call 51; refine (KOk.out _ HR1.out.bel).mono ?_; rintro e w2 ⟨rfl, q9⟩; have HR2 := hide (HR1.out.keep q9); clear q9; have HX := hide (HR2.out.alloc (.cells #[.int .i64 (k : Int)] 3)); have HSX : Hid (intE.Rd (w2.alloc (.cells #[.int .i64 (k : Int)] 3)) (.slice (some ⟨w2.heap.size, 0, none⟩) 1 1) [(k : Int)]) := hide (int_new _ _ _ rfl))
            | (at_builtin; refine intE.wpB (B := W0.heap.size) HX.out.size (by rfl) _ _ rfl _ _ rfl rfl dl [(k : Int)] HX.out.one HSX.out Hle.out ?_; intro v4 W4 ho hg hs; obtain ⟨a4, p4, hf4⟩ := ho.rd.form; obtain ⟨n4, hn4⟩ : ∃ n4, (dl ++ [(k : Int)]).length = n4 := ⟨_, rfl⟩; rw [hn4] at hf4; subst hf4; have HI4 := hide (HX.out.grow ho hg hs); have Hn4 := hide hn4; clear ho hg hs hn4))
          go_roundw
          case rel => exact ⟨k + 1, a4, n4, p4, by go_num, rfl, by omega, hide (by rw [S2.out]; exact Hn4.out), hide (by rw [S2.out]; exact HI4.out)⟩
          case measure => simp [intOf]; omega
        | false =>
          have S2 := hide (show FL (k + 1) = dl by rw [S1.out, B1.out]; simp)
          clear S1 B1
          go_wp2_with (first
            | (go_at_call 182; refine (KTk.out _ HR.out.bel).mono ?_; rintro e w1 ⟨rfl, q9⟩; have HR1 := hide (HR.out.keep q9); have e4 := KC.out w1 HR1.out.bel; clear q9)
            | (go_at_call 51; refine (KOk.out _ HR1.out.bel).mono ?_; rintro e w2 ⟨rfl, q9⟩; have HR2 := hide (HR1.out.keep q9); clear q9; have HX := hide (HR2.out.alloc (.cells #[.int .i64 (k : Int)] 3)); have HSX : Hid (intE.Rd (w2.alloc (.cells #[.int .i64 (k : Int)] 3)) (.slice (some ⟨w2.heap.size, 0, none⟩) 1 1) [(k : Int)]) := hide (int_new _ _ _ rfl)))
          go_roundw
          case rel => exact ⟨k + 1, a, q, p, by go_num, rfl, by omega, hide (by rw [S2.out]; exact HQ.out), hide (by rw [S2.out]; exact HR2.out)⟩
          case measure => simp [intOf]; omega
    · obtain rfl : k = n := by omega
      have j1 : ¬ (k : Int) < (k : Int) := by omega
      go_wp2_with fail
      go_ret
      exact ⟨a, q, p, rfl, HQ.out, HR.out.one, HR.out.bel⟩
end
end Go.Proofs.YtocmngpoemfpkabGreatDoor

namespace Go.Proofs.YtocmngpoemfpkabGreatDoor
open Go.RowKit
def OwnV (w : World) (ds : List Int) (e : Ending) (w' : World) : Prop := ∃ v, e = .returned v ∧ intE.Own w' w.heap.size v ds ∧ Below w.heap.size w w'
section
set_option maxRecDepth 100000
set_option maxHeartbeats 4000000
variable {w0 w : World} {l : List It} {B g n m : Nat} {E : Ev} {P : Kp} {c : Ct}
theorem around_k {W : World} (hL : Ly W P.la P.lb P.lc P.le n m E.ns E.es) {aM aX : Option Addr} {k0 cM kX cX : Nat} {ms fs : List Int} (hM : Mk W aM cM k0 ms) (hF : Mk W aX cX kX fs) (hk : k0 ≤ 1000) (u t : Int) :
    Calls Tryz.prog 181 #[.agg #[.slice P.la n P.lc, .slice P.lb m P.le], .slice aM k0 cM, .int .i64 u, .int .i64 t, .slice aX kX cX] W fun e w' => ∃ v cd, e = .returned (.tuple #[v, .int .i64 cd]) ∧ intE.Own w' W.heap.size v (pathF E ms u t fs) ∧ Below W.heap.size W w' := by
  have hn := hL.hn
  by_cases h : (0 ≤ u ∧ u < (n : Int)) ∧ 0 ≤ t ∧ t < (n : Int)
  · obtain ⟨ku, rfl⟩ : ∃ ku : Nat, u = (ku : Int) := ⟨u.toNat, by omega⟩
    obtain ⟨kt, rfl⟩ : ∃ kt : Nat, t = (kt : Int) := ⟨t.toNat, by omega⟩
    refine (around_ok P.la P.lb aM aX P.lc P.le cM cX n m k0 kX ku kt E.ns E.es ms fs W hL hM hF hk (by omega) (by omega)).mono ?_
    rintro e w' ⟨⟨L, hG, q⟩, hb⟩
    have hG' : Gr E.ns E.es (ms ++ shut E.es (kt : Int) fs) L kt E.ns.length := by rw [hn]; exact hG
    rcases q with ⟨h1, rfl⟩ | ⟨k, v, h1, rfl, ho⟩
    · exact ⟨_, _, rfl, by rw [pathF_none hG' h1]; exact El.Own.nil _ _ _, hb⟩
    · exact ⟨_, _, rfl, by rw [pathF_some (by omega) (by omega) hG' h1]; exact ho, hb⟩
  · refine (around_no P.la P.lb aM P.lc P.le cM n m k0 u t (.slice aX kX cX) W h).mono ?_
    rintro e w' ⟨rfl, hb⟩
    exact ⟨_, _, rfl, by rw [pathF_no (by rw [hn]; exact h)]; exact El.Own.nil _ _ _, hb⟩
noncomputable def pathP (E : Ev) (S : Mr) (t x : Int) (fs : List Int) : List Int := if x ∈ fs then [] else pathF E S.down (S.whr t) x fs
theorem pathTo_any (h : (It.ctl B g E n m P c).P w) (t x : Int) {aX : Option Addr} {kX cX : Nat} {fs : List Int} (hfl : fs.length = kX) (hF : intE.Rd w (.slice aX kX cX) fs) (hk : kX ≤ 1000) :
    Calls Tryz.prog 123 #[.pointer (some ⟨g, 0, none⟩), .int .i64 t, .int .i64 x, .slice aX kX cX] w (OwnV w (pathP E P.S t x fs)) := by
  obtain ⟨c0, c1, c2, c3, c4, c5, c37, c38⟩ := kt_c h
  have hgl : g < w.heap.size := heap_lt (kt_box h)
  have hml := mr_len (kt_m h)
  have hdl := down_len P.S
  have KC := hide (contains_k aX cX kX fs x w hfl hF (by omega))
  have SB : Hid (∀ W, Below w.heap.size w W → W.cell? ⟨g, 0, none⟩ = some (.slice P.la n P.lc) ∧ W.cell? ⟨g, 1, none⟩ = some (.slice P.lb m P.le) ∧ W.cell? ⟨g, 4, none⟩ = some (.pointer (some ⟨P.gm, 0, none⟩))) := hide (fun W hW => ⟨by rw [hW.cell (p := ⟨g, 0, none⟩) hgl]; exact c0, by rw [hW.cell (p := ⟨g, 1, none⟩) hgl]; exact c1, by rw [hW.cell (p := ⟨g, 4, none⟩) hgl]; exact c4⟩)
  have BW : Hid (∀ W W', Below w.heap.size w W → W'.heap = W.heap → W'.os = W.os → W'.tape = W.tape → W'.output = W.output → Below w.heap.size w W') := hide (fun W W' hb e1 e2 e3 e4 => ⟨e2.trans hb.os, e3.trans hb.tape, e4.trans hb.output, by rw [e1]; exact hb.size, fun k hk => by rw [e1]; exact hb.block k hk⟩)
  have KD : Hid (∀ W, Below w.heap.size w W → Calls Tryz.prog 171 #[.pointer (some ⟨P.gm, 0, none⟩)] W (OwnI W P.S.down)) := hide (fun W hW => downP (It.kept _ (kt_m h) hW))
  have KW : Hid (∀ W, Below w.heap.size w W → Calls Tryz.prog 47 #[.pointer (some ⟨P.gm, 0, none⟩), .int .i64 t] W fun e w' => e = .returned (.int .i64 (P.S.whr t)) ∧ ∃ q, w' = W.drewN q) := hide (fun W hW => (where_m (It.kept _ (kt_m h) hW) t).mono (by rintro e w' ⟨rfl, rfl⟩; exact ⟨rfl, 0, rfl⟩))
  have KA : Hid (∀ W a1 n1 p1, Below w.heap.size w W → P.S.down.length = n1 → intE.Own W w.heap.size (.slice a1 n1 p1) P.S.down → Calls Tryz.prog 181 #[.agg #[.slice P.la n P.lc, .slice P.lb m P.le], .slice a1 n1 p1, .int .i64 (P.S.whr t), .int .i64 x, .slice aX kX cX] W fun e w' => ∃ v cd, e = .returned (.tuple #[v, .int .i64 cd]) ∧ intE.Own w' w.heap.size v (pathF E P.S.down (P.S.whr t) x fs) ∧ Below w.heap.size w w') := hide (fun W a1 n1 p1 hW hn1 ho => by
    refine (around_k (kt_ly (It.kept _ h hW)) ⟨hn1, ho.rd, by omega⟩ ((⟨hfl, hF, by omega⟩ : Mk w aX cX kX fs).keep hW) (by omega) _ x).mono ?_
    rintro e w' ⟨v, cd, rfl, q1, q2⟩
    exact ⟨v, cd, rfl, q1.mono hW.size, hW.trans (q2.mono hW.size)⟩)
  have B0 : Below w.heap.size w w := Below.refl _ _
  have HB0 := hide B0
  unfold pathP
  clear h hF hfl hk hdl hml hgl
  generalize pathF E P.S.down (P.S.whr t) x fs = pf at *
  generalize P.S.down = dw at *
  generalize P.S.whr t = wh at *
  by_cases hx : x ∈ fs
  · rw [if_pos hx]
    rw [decide_eq_true hx] at KC
    clear hx KA KW KD SB BW
    go_enter Tryz.func123, Tryz.ntmps123
    go_wp2_with (go_at_call 130; refine KC.out.mono ?_; rintro e w1 ⟨rfl, rfl⟩)
    go_ret
    exact ⟨_, rfl, El.Own.nil _ _ _, HB0.out⟩
  · rw [if_neg hx]
    rw [decide_eq_false hx] at KC
    clear hx
    go_enter Tryz.func123, Tryz.ntmps123
    go_upto_region 3 with (go_at_call 130; refine KC.out.mono ?_; rintro e w9 ⟨rfl, rfl⟩)
    go_region_held3 (fun W => W.cell? ⟨g, 0, none⟩ = some (.slice P.la n P.lc) ∧ W.cell? ⟨g, 1, none⟩ = some (.slice P.lb m P.le) ∧ W.cell? ⟨g, 4, none⟩ = some (.pointer (some ⟨P.gm, 0, none⟩))) (first | exact SB.out _ B2 | exact SB.out _ (BW.out w1 _ B1 rfl rfl rfl rfl) | exact SB.out w9 B0 | exact SB.out _ (BW.out w9 _ B0 rfl rfl rfl rfl) | fail)
      (first
        | (go_at_call 171; refine (KD.out _ ?_).mono ?_; exact BW.out w9 _ B0 rfl rfl rfl rfl; rintro e w1 ⟨a1, n1, p1, rfl, q1, q2, q3⟩; have B1 : Below w9.heap.size w9 w1 := (BW.out w9 w9.drew B0 rfl rfl rfl rfl).trans q3; have N1 := hide q1; have O1 := hide q2; clear q1 q2 q3)
        | (go_at_call 47; refine (KW.out _ ?_).mono ?_; (first | exact BW.out w1 _ B1 rfl rfl rfl rfl | exact BW.out w9 _ B0 rfl rfl rfl rfl | fail); rintro e w8 ⟨rfl, q8, rfl⟩)
        | (go_at_call 181; refine (KA.out _ a1 n1 p1 ?_ N1.out ?_).mono ?_; exact BW.out w1 _ B1 rfl rfl rfl rfl; exact O1.out; rintro e w2 ⟨v, cd, rfl, q1, q2⟩; have O2 := hide q1; have B2 := q2; clear q1 q2)
        | fail)
    all_goals (
      go_wp2_with fail
      go_ret
      exact ⟨v, rfl, O2.out, B2⟩)
end
end Go.Proofs.YtocmngpoemfpkabGreatDoor

namespace Go.Proofs.YtocmngpoemfpkabGreatDoor
open Go.RowKit
theorem wlk_dev {es : List Ed} : ∀ (p : List Int) (u t : Int), wlk es u p = some t → ∀ d ∈ p, 1 ≤ d ∧ d ≤ (es.length : Int)
  | [], _, _, _, d, hd => by cases hd
  | x :: p, u, t, h, d, hd => by
    unfold wlk at h
    split at h
    · rename_i hx
      split at h
      · split at h
        · rcases List.mem_cons.1 hd with rfl | q
          · exact hx
          · exact wlk_dev p _ _ h d q
        · cases h
      · cases h
    · cases h
theorem pathF_fact (E : Ev) (ms : List Int) (u t : Int) (fs : List Int) : (pathF E ms u t fs).length ≤ E.ns.length ∧ ∀ d ∈ pathF E ms u t fs, 1 ≤ d ∧ d ≤ (E.es.length : Int) := by
  unfold pathF
  split
  · rename_i hr
    obtain ⟨hu, ht⟩ := hr
    obtain ⟨ku, rfl⟩ : ∃ ku : Nat, u = (ku : Int) := ⟨u.toNat, by omega⟩
    obtain ⟨kt, rfl⟩ : ∃ kt : Nat, t = (kt : Int) := ⟨t.toNat, by omega⟩
    rw [show ((kt : Int)).toNat = kt by omega, show ((ku : Int)).toNat = ku by omega]
    by_cases hG : ∃ l, Gr E.ns E.es (ms ++ shut E.es (kt : Int) fs) l kt E.ns.length
    · obtain ⟨l, g⟩ := hG
      rw [lenF_of g]
      split
      · exact ⟨by simp, fun d hd => by cases hd⟩
      · rename_i h0
        obtain ⟨k, hk⟩ : ∃ k : Nat, va l ku = (k : Int) := ⟨(va l ku).toNat, by omega⟩
        rw [hk, show ((k : Int)).toNat = k by omega]
        have hh := g.high ku
        exact ⟨by rw [pth_len]; omega, wlk_dev _ _ _ (g.walk k ku hk)⟩
    · have e : lenF E (ms ++ shut E.es (kt : Int) fs) kt = [] := by
        unfold lenF
        rw [dif_neg hG]
      rw [e, if_pos (by simp [va])]
      exact ⟨by simp, fun d hd => by cases hd⟩
  · exact ⟨by simp, fun d hd => by cases hd⟩
theorem wayF_fact (c : Ct) (E : Ev) (t n : Int) (full : List Int) : (c.wayF E t n full).length ≤ E.ns.length ∧ ∀ d ∈ c.wayF E t n full, 1 ≤ d ∧ d ≤ (E.es.length : Int) := by
  unfold Ct.wayF
  split
  · exact ⟨by simp, fun d hd => by cases hd⟩
  · exact pathF_fact E _ _ _ _
theorem fulL_eq {E : Ev} {P : Kp} {c : Ct} {n : Nat} (hS : P.S = c.S) (hn : E.ns.length = n) (t : Int) : fulL E P c t n = c.fullL E t := by
  subst hn
  unfold fulL Ct.fullL
  rw [List.filter_map]
  congr 1
  apply List.filter_congr
  intro k hk
  unfold fulB
  rw [hS]
  rfl
theorem fetch1_keep (E : Ev) (c : Ct) (r : Rq) : (Ct.fetch1 E c r).S = c.S ∧ (Ct.fetch1 E c r).K = c.K ∧ (Ct.fetch1 E c r).dead = c.dead := by
  unfold Ct.fetch1
  split
  · exact ⟨rfl, rfl, rfl⟩
  · exact ⟨rfl, rfl, rfl⟩
theorem Gd.fetch1 {E : Ev} {c : Ct} {k : Nat} (h : Gd c k) (hn : E.ns.length ≤ 1000) (r : Rq) : Gd (Ct.fetch1 E c r) k := by
  unfold Ct.fetch1
  split
  · exact h.setJ _ (Nat.le_trans (wayF_fact _ _ _ _ _).1 hn)
  · exact h
theorem Gd.fetch {E : Ev} {c : Ct} {k : Nat} (h : Gd c k) (hn : E.ns.length ≤ 1000) : Gd (Ct.fetch E c) k := by
  unfold Ct.fetch
  generalize ops c.K.all = rs
  induction rs generalizing c with
  | nil => exact h
  | cons r rs ih => exact ih (h.fetch1 hn r)
def VoidP (w0 : World) (l : List It) (g : Nat) (E : Ev) (n m : Nat) (c : Ct) (e : Ending) (w' : World) : Prop := e = .returned (.tuple #[]) ∧ ∃ P', Liv P' c ∧ Its w0 (.ctl w0.heap.size g E n m P' c :: l) w'
section
set_option maxRecDepth 100000
set_option maxHeartbeats 4000000
variable {w0 w : World} {l : List It} {B g n m : Nat} {E : Ev} {P : Kp} {c : Ct}
theorem kfetchS (h : Its w0 (.ctl w0.heap.size g E n m P c :: l) w) (hv : Liv P c) (hd : c.dead = false) {kk : Nat} (hg : Gd c kk) :
    Calls Tryz.prog 53 #[.pointer (some ⟨g, 0, none⟩)] w (VoidP w0 l g E n m (Ct.fetch E c)) := by
  obtain ⟨eS, eK⟩ := hv hd
  obtain ⟨c0, c1, c2, c3, c4, c5, c37, c38⟩ := kt_c h.one
  have KB := hide (bopen_any (kt_b h.one))
  have hok := (bk_lie (kt_b h.one)).1
  have hfew := hok.few
  have hrg : Hid (∀ r ∈ ops P.K.all, 1 ≤ r.tt ∧ r.tt ≤ 30) := hide (fun r hr => by
    obtain ⟨e, he, _, rfl⟩ := ops_mem.1 hr
    have := (hok.rg e he).1
    unfold rng at this
    omega)
  have hn4 := (kt_ly h.one).n4
  have hnn := (kt_f h.one).hn
  have hmm := (kt_f h.one).hm
  have HE : Hid (E.ns.length ≤ 1000 ∧ E.ns.length = n ∧ E.es.length = m) := hide ⟨by omega, hnn, hmm⟩
  have HI := hide h
  have HG := hide hg
  obtain ⟨rs, hrs⟩ : ∃ rs, ops P.K.all = rs := ⟨_, rfl⟩
  obtain ⟨N, hN⟩ : ∃ N, rs.length = N := ⟨_, rfl⟩
  have Hfin : Hid ((rs.take N).foldl (Ct.fetch1 E) c = Ct.fetch E c) := hide (by
    unfold Ct.fetch
    rw [List.take_of_length_le (by omega), ← eK, hrs])
  rw [hrs] at KB hrg hfew
  rw [hN] at KB hfew
  have HN := hide hN
  have HSK : Hid (c.S = P.S ∧ c.K = P.K ∧ c.dead = false) := hide ⟨eS.symm, eK.symm, hd⟩
  have i0 : (N : Int) ≤ 30 := by omega
  have VP : Hid (∀ (P' : Kp) (w' : World), P'.S = P.S → P'.K = P.K → Its w0 (.ctl w0.heap.size g E n m P' ((rs.take N).foldl (Ct.fetch1 E) c) :: l) w' → ((rs.take N).foldl (Ct.fetch1 E) c).S = P.S ∧ ((rs.take N).foldl (Ct.fetch1 E) c).K = P.K → VoidP w0 l g E n m (Ct.fetch E c) (.returned (.tuple #[])) w') := hide (fun P' w' h1 h2 h3 h4 => by
    rw [Hfin.out] at h3 h4
    exact ⟨rfl, P', fun _ => ⟨h1.trans h4.1.symm, h2.trans h4.2.symm⟩, h3⟩)
  generalize VoidP w0 l g E n m (Ct.fetch E c) = R at *
  clear hN hrs hok hfew h hg hv hd eS eK hn4 hnn hmm Hfin
  go_enter Tryz.func53, Tryz.ntmps53
  go_wp2_with (go_at_call 120; refine KB.out.mono ?_; rintro e w1 ⟨a1, p1, rfl, q2, q3⟩; have HS := hide ((HI.out.fresh q2 q3).swap); clear q2 q3)
  go_loopw [10] (fun v10 wr => ∃ (k : Nat) (P' : Kp) (ck : Ct), v10 = .int .i64 k ∧ k ≤ N ∧ Hid (P'.S = P.S ∧ P'.K = P.K) ∧ Hid ((rs.take k).foldl (Ct.fetch1 E) c = ck) ∧ Hid (ck.S = P.S ∧ ck.K = P.K ∧ ck.dead = false) ∧ Hid (Gd ck kk) ∧ Hid (Its w0 (.ctl w0.heap.size g E n m P' ck :: .row rqE w0.heap.size (.slice a1 N p1) rs :: l) wr)) (fun v10 _ => N - (intOf v10).toNat)
  case atStart => exact ⟨0, P, c, rfl, Nat.zero_le _, hide ⟨rfl, rfl⟩, hide rfl, HSK, HG, HS⟩
  case round =>
    obtain ⟨k, P', ck, rfl, hk, HP, HC, HK, HGk, HR⟩ := hrel
    by_cases hlt : k < N
    · obtain ⟨r, hr⟩ : ∃ r, rs[k]? = some r := ⟨_, List.getElem?_eq_getElem (by rw [HN.out]; exact hlt)⟩
      obtain ⟨b, off, rfl, d0, d1, d2⟩ := rq_at HR.out.two.rd k r hr
      have j0 : (0 : Int) ≤ (k : Int) := by omega
      have j1 : (k : Int) < (N : Int) := by omega
      have j2 : wrap64 ((k : Int) + 1) = (k : Int) + 1 := by unfold wrap64; omega
      have Hrt := hide (hrg.out r (List.mem_of_getElem? hr))
      have HC1 : Hid ((rs.take (k + 1)).foldl (Ct.fetch1 E) c = Ct.fetch1 E ck r) := hide (by rw [List.take_add_one, hr, List.foldl_append, HC.out]; rfl)
      have HK1 : Hid ((Ct.fetch1 E ck r).S = P.S ∧ (Ct.fetch1 E ck r).K = P.K ∧ (Ct.fetch1 E ck r).dead = false) := hide (by
        obtain ⟨q1, q2, q3⟩ := fetch1_keep E ck r
        obtain ⟨q4, q5, q6⟩ := HK.out
        exact ⟨q1.trans q4, q2.trans q5, q3.trans q6⟩)
      have HG1 : Hid (Gd (Ct.fetch1 E ck r) kk) := hide (HGk.out.fetch1 HE.out.1 r)
      clear hr HC
      have KF : Hid (∀ W, Its w0 (.ctl w0.heap.size g E n m P' ck :: .row rqE w0.heap.size (.slice (some ⟨b, off, none⟩) N p1) rs :: l) W → Calls Tryz.prog 121 #[.pointer (some ⟨g, 0, none⟩), .agg #[.int .i64 r.id, .int .i64 r.st, .int .i64 r.tt]] W fun e w' => e = .returned (.bool (ck.isF r)) ∧ Below W.heap.size W w') := hide (fun W hW => by
        have := isFirst_any hW.one r (by have := Hrt.out; omega)
        rw [HP.out.2, ← HK.out.2.1] at this
        exact this)
      have KR : Hid (∀ W, Its w0 (.ctl w0.heap.size g E n m P' ck :: .row rqE w0.heap.size (.slice (some ⟨b, off, none⟩) N p1) rs :: l) W → Calls Tryz.prog 122 #[.pointer (some ⟨g, 0, none⟩), .int .i64 r.tt] W fun e w' => e = .returned (.bool (ck.rests r.tt)) ∧ ∃ q, w' = W.drewN q) := hide (fun W hW => by
        have := rests_any hW.one r.tt Hrt.out
        rw [HP.out.1, ← HK.out.1] at this
        exact this)
      have HX := hide (HR.out.alloc (.cells #[.int .i64 r.id, .int .i64 r.st, .int .i64 r.tt] 53))
      have hbx := ((HR.out.boxN #[.int .i64 r.id, .int .i64 r.st, .int .i64 r.tt] 53 rfl)).one
      have b0 := (cells_at hbx 0).1
      have b1 := (cells_at hbx 1).1
      have b2 := (cells_at hbx 2).1
      have HBX := hide hbx
      clear hbx
      by_cases hf : ck.isF r = true ∧ ck.rests r.tt = true
      · have KF2 : Hid (∀ W, Below wr.heap.size wr W → True) := hide (fun _ _ => trivial)
        rw [hf.1] at KF
        rw [hf.2] at KR
        have e1 : Hid (Ct.fetch1 E ck r = ck.setJ r.tt (ck.wayF E r.tt r.st (ck.fullL E r.tt))) := hide (by unfold Ct.fetch1; rw [if_pos (by rw [hf.1, hf.2]; rfl)])
        clear hf KF2
        obtain ⟨ri, rs', rt⟩ := r
        dsimp only at *
        obtain ⟨kt, hkt⟩ : ∃ kt : Nat, rt = (kt : Int) := ⟨rt.toNat, by have := Hrt.out; omega⟩
        subst hkt
        have t0 : (0 : Int) ≤ (kt : Int) := by omega
        have t1 : (kt : Int) < 31 := by have := Hrt.out; omega
        rw [e1.out] at HC1 HK1 HG1
        clear e1
        obtain ⟨FL, hFL⟩ : ∃ FL, ck.fullL E (kt : Int) = FL := ⟨_, rfl⟩
        rw [hFL] at HC1 HK1 HG1
        have HFL := hide hFL
        clear hFL
        have HWd := hide (wayF_fact ck E (kt : Int) rs' FL).2
        have HWp : Hid (pathP E P'.S (kt : Int) rs' FL = ck.wayF E (kt : Int) rs' FL) := hide (by rw [HP.out.1, ← HK.out.1]; rfl)
        generalize ck.wayF E (kt : Int) rs' FL = pw at *
        obtain ⟨l2, hl2⟩ : ∃ l2, It.box wr.heap.size #[.int .i64 ri, .int .i64 rs', .int .i64 (kt : Int)] 53 :: It.row rqE w0.heap.size (.slice (some ⟨b, off, none⟩) N p1) rs :: l = l2 := ⟨_, rfl⟩
        have HX2 : Hid (Its w0 (.ctl w0.heap.size g E n m P' ck :: l2) (wr.alloc (.cells #[.int .i64 ri, .int .i64 rs', .int .i64 (kt : Int)] 53))) := hide (by rw [← hl2]; exact (HR.out.boxN #[.int .i64 ri, .int .i64 rs', .int .i64 (kt : Int)] 53 rfl).swap)
        have SB : Hid (∀ W P2 c2, Its w0 (.ctl w0.heap.size g E n m P2 c2 :: l2) W → W.cell? ⟨wr.heap.size, 1, none⟩ = some (.int .i64 rs') ∧ W.cell? ⟨wr.heap.size, 2, none⟩ = some (.int .i64 (kt : Int)) ∧ W.frozen? ⟨g, 6 + kt, none⟩ = false) := hide (fun W P2 c2 hW => by
          subst hl2
          have hbx := hW.two
          exact ⟨(cells_at hbx 1).1, (cells_at hbx 2).1, kt_z hW.one _⟩)
        have drop : Hid (∀ W P2 c2, Its w0 (.ctl w0.heap.size g E n m P2 c2 :: l2) W → Its w0 (.ctl w0.heap.size g E n m P2 c2 :: .row rqE w0.heap.size (.slice (some ⟨b, off, none⟩) N p1) rs :: l) W) := hide (fun W P2 c2 hW => by subst hl2; exact hW.swap.tail)
        have KB2 : Hid (∀ W, Its w0 (.ctl w0.heap.size g E n m P' ck :: l2) W → Calls Tryz.prog 124 #[.pointer (some ⟨g, 0, none⟩), .int .i64 (kt : Int)] W (OwnI W FL)) := hide (fun W hW => by
          have := fullFor_any hW.one HGk.out.jl (kt : Int)
          rw [fulL_eq (HP.out.1.trans HK.out.1.symm) HE.out.2.1, HFL.out] at this
          exact this)
        have KP : Hid (∀ W a2 n2 p2, Its w0 (.ctl w0.heap.size g E n m P' ck :: l2) W → FL.length = n2 → intE.Rd W (.slice a2 n2 p2) FL → Calls Tryz.prog 123 #[.pointer (some ⟨g, 0, none⟩), .int .i64 (kt : Int), .int .i64 rs', .slice a2 n2 p2] W (fun e w' => ∃ a5 n5 p5, e = .returned (.slice a5 n5 p5) ∧ W.frozen? ⟨g, 6 + kt, none⟩ = W.frozen? ⟨g, 6 + kt, none⟩ ∧ Its w0 (.ctl w0.heap.size g E n m P' ck :: l2) w' ∧ Its w0 (.ctl w0.heap.size g E n m { P' with vJ := updJ P'.vJ kt (.slice a5 n5 p5) } (ck.setJ (kt : Int) pw) :: l2) (w'.setCell ⟨g, 6 + kt, none⟩ (.slice a5 n5 p5)))) := hide (fun W a2 n2 p2 hW hn2 hr2 => by
          have h1000 : n2 ≤ 1000 := by
            have := fulL_len E P' ck (kt : Int) n
            rw [fulL_eq (HP.out.1.trans HK.out.1.symm) HE.out.2.1, HFL.out] at this
            have := HE.out
            omega
          have := pathTo_any hW.one (kt : Int) rs' hn2 hr2 h1000
          rw [HWp.out] at this
          refine this.mono ?_
          rintro e w' ⟨v, rfl, q1, q2⟩
          obtain ⟨a5, p5, rfl⟩ := q1.rd.form
          exact ⟨a5, _, p5, rfl, rfl, hW.keep q2, (hW.fresh q1 q2).kjobN kt (by have := Hrt.out; omega) (fun d hd => by rw [← HE.out.2.2]; exact HWd.out d hd)⟩)
        have VJ : Hid (∀ W, Its w0 (.ctl w0.heap.size g E n m P' ck :: l2) W → W.cell? ⟨g, 6 + kt, none⟩ = some (P'.vJ kt)) := hide (fun W hW => kt_vj hW.one kt (by have := Hrt.out; omega))
        have HVf : Hid (∀ v, ({ P' with vJ := updJ P'.vJ kt v } : Kp).S = P.S ∧ ({ P' with vJ := updJ P'.vJ kt v } : Kp).K = P.K) := hide (fun v => HP.out)
        clear HWp HWd HFL
        go_upto_region 4 with (first
            | (go_at_call 121; refine (KF.out _ HX.out).mono ?_; rintro e w2 ⟨rfl, q9⟩; have HY := hide (HX.out.keep q9); have HY2 := hide (HX2.out.keep q9); obtain ⟨_, y2, _⟩ := SB.out _ _ _ HY2.out; clear q9)
            | (go_at_call 122; refine (KR.out _ HY.out).mono ?_; rintro e w3 ⟨rfl, q8, rfl⟩))
        clear b0 b1 b2 HBX d0 d1 d2 KF KR y2 hl2 HX HX2 HY
        go_region_held3 (fun W => W.cell? ⟨wr.heap.size, 1, none⟩ = some (.int .i64 rs') ∧ W.cell? ⟨wr.heap.size, 2, none⟩ = some (.int .i64 (kt : Int)) ∧ W.frozen? ⟨g, 6 + kt, none⟩ = false) (first | exact SB.out _ _ _ HZ6.out | exact SB.out _ _ _ HZ5.out | exact SB.out _ _ _ HZ4.out | exact SB.out _ _ _ (HY2.out.hp rfl rfl rfl rfl) | exact SB.out _ _ _ (HZ4.out.hp rfl rfl rfl rfl) | exact SB.out _ _ _ (HZ5.out.hp rfl rfl rfl rfl) | exact SB.out _ _ _ (HZ6.out.hp rfl rfl rfl rfl) | fail)
          (first
            | (go_at_call 124; refine (KB2.out _ ?_).mono ?_; exact HY2.out.hp rfl rfl rfl rfl; rintro e w4 ⟨a2, n2, p2, rfl, q1, q2, q3⟩; have N1 := hide q1; have O1 := hide q2; have HZ4 := hide (Its.keep (HY2.out.hp (w' := (w2.drewN q8).drew) rfl rfl rfl rfl) q3); clear q1 q2 q3)
            | (go_at_call 123; refine (KP.out _ a2 n2 p2 ?_ N1.out ?_).mono ?_; exact HZ4.out.hp rfl rfl rfl rfl; exact O1.out.rd; rintro e w5 ⟨a5, n5, p5, rfl, _, q1, q2⟩; have HZ5 := hide q1; have HZ6 := hide q2; have v5 := VJ.out _ q1; obtain ⟨_, _, z5⟩ := SB.out _ _ _ q1; clear q1 q2)
            | fail)
        all_goals (
          go_wp2_with fail
          go_roundw
          case rel => exact ⟨k + 1, { P' with vJ := updJ P'.vJ kt (.slice a5 n5 p5) }, _, by go_num, by omega, hide (HVf.out (.slice a5 n5 p5)), HC1, HK1, HG1, hide (drop.out _ _ _ (HZ6.out.hp rfl rfl rfl rfl))⟩
          case measure => simp [intOf]; omega)
      · have e1 : Ct.fetch1 E ck r = ck := by unfold Ct.fetch1; rw [if_neg (by simpa using hf)]
        rw [e1] at HC1 HK1 HG1
        cases hF : ck.isF r with
        | false =>
          rw [hF] at KF
          clear hf e1 KR hF
          go_wp2_with (go_at_call 121; refine (KF.out _ HX.out).mono ?_; rintro e w2 ⟨rfl, q9⟩; have HY := hide (HX.out.keep q9); clear q9)
          go_roundw
          case rel => exact ⟨k + 1, P', ck, by go_num, by omega, HP, HC1, HK1, HG1, HY⟩
          case measure => simp [intOf]; omega
        | true =>
          have hR : ck.rests r.tt = false := by
            cases q : ck.rests r.tt with
            | false => rfl
            | true => exact absurd ⟨hF, q⟩ hf
          rw [hF] at KF
          rw [hR] at KR
          clear hf e1 hR hF
          go_wp2_with (first
            | (go_at_call 121; refine (KF.out _ HX.out).mono ?_; rintro e w2 ⟨rfl, q9⟩; have HY := hide (HX.out.keep q9); have hbx := q9.block wr.heap.size (heap_lt HBX.out); rw [HBX.out] at hbx; have y2 := (cells_at hbx 2).1; clear q9 hbx)
            | (go_at_call 122; refine (KR.out _ HY.out).mono ?_; rintro e w3 ⟨rfl, q8, rfl⟩))
          go_roundw
          case rel => exact ⟨k + 1, P', ck, by go_num, by omega, HP, HC1, HK1, HG1, hide (HY.out.hp rfl rfl rfl rfl)⟩
          case measure => simp [intOf]; omega
    · obtain rfl : k = N := by omega
      have j1 : ¬ (k : Int) < (k : Int) := by omega
      have HF := hide (VP.out P' wr HP.out.1 HP.out.2 (by rw [HC.out]; exact HR.out.swap.tail) (by rw [HC.out]; exact ⟨HK.out.1, HK.out.2.1⟩))
      go_wp2_with fail
      refine bodyPost_end (results_none rfl _ _ _) rfl ?_
      exact HF.out
end
end Go.Proofs.YtocmngpoemfpkabGreatDoor
