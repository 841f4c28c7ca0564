/- A telegram's bytes: the program's Encode. -/
import Derived.Test.YtapbjfllcjfpaaaWords
import Derived.OwnWalk
namespace Go.Proofs.Ytapbjfllcjfpaaa
open Go.ChangeShapes Go.WideShapes Go.ChangeAt Go.RowKit


/-- a word's two bytes, the higher one first -/
def w2 (x : Int) : List Int := [x / 256, x % 256]

/-- the first bytes of a telegram, with n of its words -/
def pre (t : Tl) (n : Nat) : List Int := 165 :: t.k :: ([t.d, t.s, t.a, t.b].take n).flatMap w2
def body (t : Tl) : List Int := pre t 4
def enc (t : Tl) : List Int := body t ++ w2 (uv (sm 0xFFFF#16 (body t)))

theorem pre_in (t : Tl) (h : t.In) (n : Nat) : InB (pre t n) := by
  obtain ⟨h0, h1, h2, h3, h4⟩ := h
  intro z hz
  unfold pre at hz
  rcases List.mem_cons.1 hz with rfl | hz
  · omega
  rcases List.mem_cons.1 hz with rfl | hz
  · omega
  obtain ⟨x, hx, hz⟩ := List.mem_flatMap.1 hz
  have hx' := List.mem_of_mem_take hx
  have : 0 ≤ x ∧ x ≤ 65535 := by
    simp at hx'
    rcases hx' with rfl | rfl | rfl | rfl <;> assumption
  unfold w2 at hz
  simp at hz
  rcases hz with rfl | rfl <;> omega
theorem pre_len (t : Tl) (n : Nat) : (pre t n).length ≤ 10 := by
  unfold pre
  match n with
  | 0 => simp
  | 1 => simp [w2]
  | 2 => simp [w2]
  | 3 => simp [w2]
  | n + 4 => simp [w2]
theorem body_len (t : Tl) : (body t).length = 10 := rfl
theorem enc_len (t : Tl) : (enc t).length = 12 := rfl
theorem w2_in (x : BitVec 16) : InB (w2 (uv x)) := by
  intro z hz
  have := uv_lo x
  have := uv_hi x
  simp [w2] at hz
  rcases hz with rfl | rfl <;> omega
theorem InB.append {l m : List Int} (h : InB l) (k : InB m) : InB (l ++ m) := by
  intro z hz
  rcases List.mem_append.1 hz with h' | h'
  · exact h z h'
  · exact k z h'
theorem enc_in (t : Tl) (h : t.In) : InB (enc t) := (pre_in t h 4).append (w2_in _)

theorem Ow.mono {w : World} {B B' : Nat} {v : Value} {l : List Int} (h : Ow w B v l) (hB : B' ≤ B) : Ow w B' v l := by
  obtain ⟨h0, h⟩ := h
  refine ⟨h0, ?_⟩
  rcases h with h | ⟨g, cap, cur, h1, h2, h3⟩
  · exact .inl h
  · exact .inr ⟨g, cap, cur, h1, Nat.le_trans hB h2, h3⟩
theorem Ow.keep {w w' : World} {B : Nat} {v : Value} {l : List Int} (h : Ow w B v l) (hb : Below w.heap.size w w') : Ow w' B v l := by
  obtain ⟨h0, h⟩ := h
  refine ⟨h0, ?_⟩
  rcases h with h | ⟨g, cap, cur, h1, h2, h3, h4⟩
  · exact .inl h
  · refine .inr ⟨g, cap, cur, h1, h2, ?_, h4⟩
    have : g < w.heap.size := by
      rcases Nat.lt_or_ge g w.heap.size with h | h
      · exact h
      · rw [Array.getElem?_eq_none h] at h3; cases h3
    rw [hb.block _ this]; exact h3
theorem bs_two (w : World) (z y : Int) (n : Nat) (hn : n = w.heap.size) : Bs (w.alloc (.cells #[.int .u8 z, .int .u8 y] 5)) (.slice (some ⟨n, 0, none⟩) 2 2) [z, y] := by
  subst hn
  refine .inr ⟨⟨w.heap.size, 0, none⟩, 2, rfl, fun i hi => ?_⟩
  rw [add_plain, cell_new, Nat.zero_add]
  have : i = 0 ∨ i = 1 := by simp at hi; omega
  rcases this with rfl | rfl <;> rfl


set_option maxHeartbeats 1000000 in
theorem appw_any (v : Value) (l : List Int) (x : Int) (hx : 0 ≤ x ∧ x ≤ 65535) (w w0 : World) (hb : Below w0.heap.size w0 w) (hown : Ow w w0.heap.size v l) (hm : l.length ≤ 1000) :
    Calls Try.prog 9 #[v, .int .u16 x] w fun e w' => ∃ v', e = .returned v' ∧ Ow w' w0.heap.size v' (l ++ w2 x) ∧ Below w0.heap.size w0 w' := by
  have hm' := hide hm
  clear hm
  have hb0 : ∀ o, Below w0.heap.size w0 (w.alloc o) := fun o => hb.alloc hb.size o
  have hd : x / 256 ≤ 255 := by omega
  have hd0 : 0 ≤ x / 256 := by omega
  go_enter Try.func9, Try.ntmps9
  go_wp2_with (at_builtin; refine wpList_app (hb0 _) (by rfl) _ _ rfl _ _ rfl rfl l (w2 x) (World.ownsRow.alloc hown _) (bs_two _ _ _ _ rfl) (by simp [w2]; have := unhide hm'; omega) ?_; intro v1 w1 hown1 hb1; refine Hid.out ?_)
  refine hide ?_
  go_wp2_with fail
  go_ret
  exact ⟨_, rfl, hown1, hb1⟩

theorem box_at {w w' : World} {C : Array Value} {t : TypeId} (hb : Below (w.alloc (.cells C t)).heap.size (w.alloc (.cells C t)) w') (i : Nat) : w'.cell? ⟨w.heap.size, i, none⟩ = C[i]? := by
  rw [hb.cell (by simp)]; exact cell_new _ _ _ _ _

theorem encode_no (k d s a b : Int) (w : World) (hc : chk ⟨k, d, s, a, b⟩ ≠ 0) :
    Calls Try.prog 5 #[.agg #[.int .u8 k, .int .u16 d, .int .u16 s, .int .u16 a, .int .u16 b]] w fun e w' => e = .returned (.tuple #[.slice none 0 0, .int .i64 (chk ⟨k, d, s, a, b⟩)]) ∧ Below w.heap.size w w' := by
  generalize hz : chk ⟨k, d, s, a, b⟩ = z at *
  have Hz := hide hz
  clear hz
  go_enter Try.func5, Try.ntmps5
  go_wp2_with (go_at_call 8; refine (check_any _ _ _ _ _ _).mono ?_; rintro e w1 ⟨rfl, hb1⟩; rw [Hz.out])
  go_ret2
  exact ⟨rfl, ((Below.refl _ _).alloc (Nat.le_refl _) _).trans (hb1.mono (by simp))⟩

theorem pre_succ (t : Tl) (n : Nat) (x : Int) (hx : [t.d, t.s, t.a, t.b][n]? = some x) : pre t (n + 1) = pre t n ++ w2 x := by
  unfold pre
  rw [List.take_add_one, hx]
  simp


set_option maxHeartbeats 2000000 in
theorem encode_yes (k d s a b : Int) (w : World) (hc : chk ⟨k, d, s, a, b⟩ = 0) (hin : Tl.In ⟨k, d, s, a, b⟩) :
    Calls Try.prog 5 #[.agg #[.int .u8 k, .int .u16 d, .int .u16 s, .int .u16 a, .int .u16 b]] w fun e w' => ∃ v, e = .returned (.tuple #[v, .int .i64 0]) ∧ Ow w' w.heap.size v (enc ⟨k, d, s, a, b⟩) ∧ Below w.heap.size w w' := by
  have Hz := hide hc
  clear hc
  have Hin := hide hin
  clear hin
  go_enter Try.func5, Try.ntmps5
  obtain ⟨i, hi, he⟩ := Option.map_eq_some_iff.1 info5
  have e1 : i.zero = some (.int .u8 0) := congrArg Prod.fst he
  have e2 : i.size = 1 := congrArg (fun p => p.2.1) he
  have e3 : i.bytes = 1 := congrArg (fun p => p.2.2) he
  have he1 := hide e1
  have he2 := hide e2
  have he3 := hide e3
  clear e1 e2 e3 he
  go_wp2_with (first | (go_at_call 8; refine (check_any _ _ _ _ _ _).mono ?_; rintro e w1 ⟨rfl, hb1⟩; rw [Hz.out]) | (at_make; refine wpList_make_own _ rfl _ _ 25 rfl (w.alloc (.cells #[.int .u8 k, .int .u16 d, .int .u16 s, .int .u16 a, .int .u16 b] 28)).heap.size 5 i (.int .u8 0) 1 Try.underlying25 hi he1.out he2.out .i64 .i64 12 12 rfl rfl rfl (by rw [he3.out]; omega) (by unfold maxLen; omega) hb1.size ?_; intro w2 hown2 hg2; refine Hid.out ?_))
  refine hide ?_
  clear he1 he2 he3 hi
  have hb2 := hb1.grown hg2 hb1.size (fun k hk => by cases hk)
  have c0 : w2.cell? ⟨w.heap.size, 0, none⟩ = some (.int .u8 k) := box_at hb2 0
  clear hg2
  go_wp2_with (at_builtin; refine wpList_app (hb2.alloc hb2.size _) (by rfl) _ _ rfl _ _ rfl rfl [] [165, k] (World.ownsRow.alloc hown2 _) (bs_two _ _ _ _ rfl) (by simp) ?_; intro v3 w3 hown3 hb3; refine Hid.out ?_)
  refine hide ?_
  have c1 : w3.cell? ⟨w.heap.size, 1, none⟩ = some (.int .u16 d) := box_at hb3 1
  have c2 : w3.cell? ⟨w.heap.size, 2, none⟩ = some (.int .u16 s) := box_at hb3 2
  have c3 : w3.cell? ⟨w.heap.size, 3, none⟩ = some (.int .u16 a) := box_at hb3 3
  have c4 : w3.cell? ⟨w.heap.size, 4, none⟩ = some (.int .u16 b) := box_at hb3 4
  clear c0 hown2 hb2 hb1
  go_wp2_with fail
  clear c1 c2 c3 c4
  have Hb0 := hide ((Below.refl w.heap.size w).alloc (Nat.le_refl _) (.cells #[.int .u8 k, .int .u16 d, .int .u16 s, .int .u16 a, .int .u16 b] 28))
  have Hs0 : Hid (w.heap.size ≤ (w.alloc (.cells #[.int .u8 k, .int .u16 d, .int .u16 s, .int .u16 a, .int .u16 b] 28)).heap.size) := hide (by simp)
  generalize w.alloc (.cells #[.int .u8 k, .int .u16 d, .int .u16 s, .int .u16 a, .int .u16 b] 28) = W0 at *
  go_loopw [5, 28] (fun v i wr => ∃ n : Nat, n ≤ 4 ∧ i = .int .i64 n ∧ Ow wr W0.heap.size v (pre ⟨k, d, s, a, b⟩ n) ∧ Below W0.heap.size W0 wr) (fun _ i _ => 4 - (intOf i).toNat)
  case atStart => exact ⟨0, by omega, rfl, hown3, hb3⟩
  case round =>
    obtain ⟨n, hn, rfl, hown, hb⟩ := hrel
    clear hown3 hb3
    by_cases hlt : n < 4
    · have h4 : n = 0 ∨ n = 1 ∨ n = 2 ∨ n = 3 := by omega
      rcases h4 with rfl | rfl | rfl | rfl
      · have q : ∀ w : World, (Instr.index 38 (.agg #[.int .u16 d, .int .u16 s, .int .u16 a, .int .u16 b]) (.int .i64 0)).run Try.prog w = .ok (.int .u16 d) w := fun _ => by kernel_rfl
        go_wp2_with (go_at_call 9; refine (appw_any _ _ _ Hin.out.2.1 _ _ hb hown (Nat.le_trans (pre_len _ _) (by omega))).mono ?_; rintro e w' ⟨v', rfl, hown', hb'⟩)
        go_roundw
        case rel => exact ⟨1, by omega, by go_num, by rw [pre_succ _ 0 d rfl]; exact hown', hb'⟩
        case measure => simp [intOf]
      · have q : ∀ w : World, (Instr.index 38 (.agg #[.int .u16 d, .int .u16 s, .int .u16 a, .int .u16 b]) (.int .i64 1)).run Try.prog w = .ok (.int .u16 s) w := fun _ => by kernel_rfl
        go_wp2_with (go_at_call 9; refine (appw_any _ _ _ Hin.out.2.2.1 _ _ hb hown (Nat.le_trans (pre_len _ _) (by omega))).mono ?_; rintro e w' ⟨v', rfl, hown', hb'⟩)
        go_roundw
        case rel => exact ⟨2, by omega, by go_num, by rw [pre_succ _ 1 s rfl]; exact hown', hb'⟩
        case measure => simp [intOf]
      · have q : ∀ w : World, (Instr.index 38 (.agg #[.int .u16 d, .int .u16 s, .int .u16 a, .int .u16 b]) (.int .i64 2)).run Try.prog w = .ok (.int .u16 a) w := fun _ => by kernel_rfl
        go_wp2_with (go_at_call 9; refine (appw_any _ _ _ Hin.out.2.2.2.1 _ _ hb hown (Nat.le_trans (pre_len _ _) (by omega))).mono ?_; rintro e w' ⟨v', rfl, hown', hb'⟩)
        go_roundw
        case rel => exact ⟨3, by omega, by go_num, by rw [pre_succ _ 2 a rfl]; exact hown', hb'⟩
        case measure => simp [intOf]
      · have q : ∀ w : World, (Instr.index 38 (.agg #[.int .u16 d, .int .u16 s, .int .u16 a, .int .u16 b]) (.int .i64 3)).run Try.prog w = .ok (.int .u16 b) w := fun _ => by kernel_rfl
        go_wp2_with (go_at_call 9; refine (appw_any _ _ _ Hin.out.2.2.2.2 _ _ hb hown (Nat.le_trans (pre_len _ _) (by omega))).mono ?_; rintro e w' ⟨v', rfl, hown', hb'⟩)
        go_roundw
        case rel => exact ⟨4, by omega, by go_num, by rw [pre_succ _ 3 b rfl]; exact hown', hb'⟩
        case measure => simp [intOf]
    · have : n = 4 := by omega
      subst this
      go_wp2_with (first | (go_at_call 10; refine (sum_bs (Bs.own hown) (pre_in _ Hin.out _) (Nat.le_trans (pre_len _ _) (by omega))).mono ?_; rintro e w' ⟨rfl, rfl⟩) | (go_at_call 9; refine (appw_any _ _ _ ⟨uv_lo _, uv_hi _⟩ _ _ hb hown (Nat.le_trans (pre_len _ _) (by omega))).mono ?_; rintro e w' ⟨v', rfl, hown', hb'⟩))
      go_ret2
      exact ⟨_, rfl, Ow.mono hown' Hs0.out, Hb0.out.trans (hb'.mono Hs0.out)⟩

end Go.Proofs.Ytapbjfllcjfpaaa
