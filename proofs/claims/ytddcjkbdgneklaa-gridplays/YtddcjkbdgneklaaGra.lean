/- A rack as it lies in memory; has, Room, Where, Lane. -/
import Derived.Test.YtddcjkbdgneklaaGmt
import Derived.Test.YtddcjkbdgneklaaLnc
namespace Go.Proofs.Ytddcjkbdgneklaa
open Go.RowKit
set_option linter.unusedVariables false

def ptrE : El Try.prog Nat where
  t := 68
  e := 71
  k := 1
  by' := 8
  z := .pointer none
  enc g := [.pointer (some ⟨g, 0, none⟩)]
  ht := Try.underlying68
  info := by kernel_rfl
  zc := rfl
  kpos := by omega
  bsm := by omega
  len _ := rfl
  one x v hv := by simp at hv; subst hv; rfl
theorem ptr_at {w : World} {a : Option Addr} {n c : Nat} {gs : List Nat} (h : ptrE.Rd w (.slice a n c) gs) (i g : Nat) (hp : gs[i]? = some g) : ∃ b off, a = some ⟨b, off, none⟩ ∧ w.cell? ⟨b, off + i, none⟩ = some (.pointer (some ⟨g, 0, none⟩)) := by
  obtain ⟨b, off, h1, h2⟩ := h.at i g hp
  refine ⟨b, off, h1, ?_⟩
  have := h2 0 (by show 0 < 1; omega)
  simpa [ptrE] using this

/-- what a rack's methods may change: lanes from block B on -/
structure Fr (B : Nat) (w w' : World) : Prop where
  os : w'.os = w.os
  tape : w'.tape = w.tape
  output : w'.output = w.output
  size : w.heap.size ≤ w'.heap.size
  block : ∀ k, k < w.heap.size → (k < B ∨ ∀ C, w.heap[k]? ≠ some (.cells C 97)) → w'.heap[k]? = w.heap[k]?
theorem Fr.refl (B : Nat) (w : World) : Fr B w w := ⟨rfl, rfl, rfl, Nat.le_refl _, fun _ _ _ => rfl⟩
theorem Fr.trans {B : Nat} {a b c : World} (h : Fr B a b) (k : Fr B b c) : Fr B a c :=
  ⟨k.os.trans h.os, k.tape.trans h.tape, k.output.trans h.output, Nat.le_trans h.size k.size, fun i hi h' => by
    have e := h.block i hi h'
    rw [k.block i (Nat.lt_of_lt_of_le hi h.size) (h'.imp id (fun h' C => by rw [e]; exact h' C)), e]⟩
theorem Fr.of_below {B : Nat} {w w' : World} (h : Below w.heap.size w w') : Fr B w w' := ⟨h.os, h.tape, h.output, h.size, fun k hk _ => h.block k hk⟩
theorem Fr.of_lane {B g : Nat} {w w' : World} {d : Nat} {xs : List Int} (h : w.grownBy w' (some g)) (hl : Ln w g d xs) (hB : B ≤ g) : Fr B w w' :=
  ⟨h.os, h.tape, h.output, h.size, fun k hk h' => h.block k hk fun e => by
    cases e
    obtain ⟨s, hs⟩ := hl
    rcases h' with h' | h'
    · omega
    · exact h' _ hs.box⟩
theorem Fr.below {B : Nat} {w w' : World} (h : Fr B w w') (hB : B ≤ w.heap.size) : Below B w w' := ⟨h.os, h.tape, h.output, h.size, fun k hk => h.block k (by omega) (.inl hk)⟩
theorem Fr.drewN {B : Nat} {w w' : World} (h : Fr B w w') (q : Nat) : Fr B w (w'.drewN q) := ⟨h.os, h.tape, h.output, h.size, h.block⟩
/-- a block of another type stays -/
theorem Fr.other {B : Nat} {w w' : World} (h : Fr B w w') {k : Nat} {C : Array Value} {t : TypeId} (hk : w.heap[k]? = some (.cells C t)) (ht : t ≠ 97) : w'.heap[k]? = some (.cells C t) := by
  rw [h.block k (heap_lt hk) (.inr fun C' e => by rw [hk] at e; simp only [Option.some.injEq, Obj.cells.injEq] at e; exact ht e.2.1), hk]
theorem own_fr {α : Type} {E : El Try.prog α} {B B' : Nat} {w w' : World} {v : Value} {xs : List α} (h : E.Own w B v xs) (hf : Fr B' w w') (he : E.e ≠ 97) : E.Own w' B v xs :=
  own_chg h fun g cur _ hc => by rw [hf.other hc he, hc]

structure Rk (w : World) (B r : Nat) (a : Option Addr) (c : Nat) (gs : List Nat) (R : Rack) : Prop where
  box : w.heap[r]? = some (.cells #[.slice a gs.length c] 70)
  br : B ≤ r
  row : ptrE.Own w B (.slice a gs.length c) gs
  len : gs.length = R.length
  n32 : gs.length ≤ 32
  nd : gs.Nodup
  ge : ∀ g ∈ gs, B ≤ g
  lns : ∀ (i g : Nat) (l : Nat × List Int), gs[i]? = some g → R[i]? = some l → Ln w g l.1 l.2
section
variable {w w' : World} {B r : Nat} {a : Option Addr} {c : Nat} {gs : List Nat} {R : Rack}
theorem Rk.keep (h : Rk w B r a c gs R) (hb : Below w.heap.size w w') : Rk w' B r a c gs R :=
  ⟨by rw [hb.block _ (heap_lt h.box)]; exact h.box, h.br, h.row.keep hb, h.len, h.n32, h.nd, h.ge, fun i g l h1 h2 => (h.lns i g l h1 h2).keep hb⟩
theorem below_drewN (w : World) (q : Nat) : Below w.heap.size w (w.drewN q) := ⟨rfl, rfl, rfl, Nat.le_refl _, fun _ _ => rfl⟩
theorem Rk.drewN (h : Rk w B r a c gs R) (q : Nat) : Rk (w.drewN q) B r a c gs R := h.keep (below_drewN w q)
theorem Rk.lane (h : Rk w B r a c gs R) {i : Nat} {l : Nat × List Int} (hl : R[i]? = some l) : ∃ g b off, gs[i]? = some g ∧ a = some ⟨b, off, none⟩ ∧ w.cell? ⟨b, off + i, none⟩ = some (.pointer (some ⟨g, 0, none⟩)) ∧ Ln w g l.1 l.2 ∧ b < w.heap.size := by
  have hi : i < gs.length := by rw [h.len]; exact idx_lt hl
  have hg := List.getElem?_eq_getElem hi
  obtain ⟨b, off, h1, h2⟩ := ptr_at h.row.rd i _ hg
  exact ⟨_, b, off, hg, h1, h2, h.lns _ _ _ hg hl, cell_lt h2⟩
theorem Rk.cell (h : Rk w B r a c gs R) : w.cell? ⟨r, 0, none⟩ = some (.slice a R.length c) := by
  rw [← h.len, (cells_at h.box 0).1]; rfl
/-- a lane changes -/
theorem Rk.put (h : Rk w B r a c gs R) {i g : Nat} {l : Nat × List Int} {ys : List Int} (hl : R[i]? = some l) (hg : gs[i]? = some g) (hn : Ln w' g l.1 ys) (hb : w.grownBy w' (some g)) : Rk w' B r a c gs (R.set i (l.1, ys)) ∧ Fr B w w' := by
  have hL := h.lns i g l hg hl
  have hf : Fr B w w' := Fr.of_lane hb hL (h.ge g (List.mem_of_getElem? hg))
  refine ⟨⟨hf.other h.box (by decide), h.br, own_fr h.row hf (by decide), by simp [h.len], h.n32, h.nd, h.ge, fun j g' l' hj hl' => ?_⟩, hf⟩
  by_cases e : i = j
  · subst e
    rw [List.getElem?_set, if_pos rfl, if_pos (idx_lt hl)] at hl'
    cases hl'
    rw [hg] at hj
    cases hj
    exact hn
  · rw [List.getElem?_set, if_neg e] at hl'
    have hL' := h.lns j g' l' hj hl'
    refine hL'.stay (hb.block g' hL'.lt fun e' => e ?_)
    cases e'
    exact (List.getElem?_inj (idx_lt hg) h.nd).1 (hg.trans hj.symm)
end

section
variable {B r : Nat} {a : Option Addr} {c : Nat} {gs : List Nat} {R : Rack}
set_option maxRecDepth 100000 in
theorem has_any (i : Int) (w : World) (h : Rk w B r a c gs R) :
    Calls Try.prog 35 #[.pointer (some ⟨r, 0, none⟩), .int .i64 i] w fun e w' => e = .returned (.bool (decide (0 ≤ i ∧ i < (R.length : Int)))) ∧ w' = w := by
  have c0 := h.cell
  generalize R.length = n at *
  clear h
  by_cases h0 : 0 ≤ i
  · by_cases h1 : i < (n : Int)
    · have e1 : decide (0 ≤ i ∧ i < (n : Int)) = true := decide_eq_true ⟨h0, h1⟩
      rw [e1]
      clear e1
      have h0' : i ≥ 0 := h0
      go_enter Try.func35, Try.ntmps35
      go_wp2_with fail
      go_ret
      exact ⟨rfl, rfl⟩
    · have e1 : decide (0 ≤ i ∧ i < (n : Int)) = false := decide_eq_false fun h => h1 h.2
      rw [e1]
      clear e1
      have h0' : i ≥ 0 := h0
      go_enter Try.func35, Try.ntmps35
      go_wp2_with fail
      go_ret
      exact ⟨rfl, rfl⟩
  · have e1 : decide (0 ≤ i ∧ i < (n : Int)) = false := decide_eq_false fun h => h0 h.1
    rw [e1]
    clear e1
    have h0' : ¬ i ≥ 0 := h0
    go_enter Try.func35, Try.ntmps35
    go_wp2_with fail
    go_ret
    exact ⟨rfl, rfl⟩

theorem rm_take {R : Rack} {i : Nat} {l : Nat × List Int} (h : R[i]? = some l) : rm (R.take (i + 1)) = rm (R.take i) + (l.1 - l.2.length) := by
  unfold rm
  rw [List.take_add_one, h]
  simp
theorem rm_le {R : Rack} (h : ∀ (i : Nat) (l : Nat × List Int), R[i]? = some l → l.1 ≤ 8) : ∀ n, rm (R.take n) ≤ 8 * n
  | 0 => by simp [rm]
  | n + 1 => by
    have ih := rm_le h n
    rcases Nat.lt_or_ge n R.length with g | g
    · have hg := List.getElem?_eq_getElem g
      rw [rm_take hg]
      have := h _ _ hg
      omega
    · rw [List.take_of_length_le (by omega)]
      rw [List.take_of_length_le (by omega)] at ih
      omega

set_option maxRecDepth 100000 in
set_option maxHeartbeats 2000000 in
theorem room_rk (w : World) (h : Rk w B r a c gs R) :
    Calls Try.prog 24 #[.pointer (some ⟨r, 0, none⟩)] w fun e w' => e = .returned (.int .i64 (rm R : Int)) ∧ ∃ q, w' = w.drewN q := by
  have c0 := h.cell
  have h32 : R.length ≤ 32 := by rw [← h.len]; exact h.n32
  have H := hide h
  have HR : Hid (∀ n, rm (R.take n) ≤ 8 * n) := hide (rm_le fun i l hl => by
    obtain ⟨g, _, _, _, _, _, hL, _⟩ := h.lane hl
    exact hL.le.2)
  obtain ⟨n, hn⟩ : ∃ n, R.length = n := ⟨_, rfl⟩
  have Hn := hide hn
  rw [hn] at c0 h32
  have i0 : (n : Int) ≤ 32 := by omega
  obtain ⟨res, hres⟩ : ∃ res, rm R = res := ⟨_, rfl⟩
  have Hres : Hid (rm (R.take n) = res) := hide (by rw [List.take_of_length_le (by omega)]; exact hres)
  rw [hres]
  clear h hn hres
  go_enter Try.func24, Try.ntmps24
  go_wp2_with fail
  go_loopw [3, 11] (fun v3 v11 wr => ∃ k s q : Nat, v11 = .int .i64 k ∧ v3 = .int .i64 s ∧ k ≤ n ∧ wr = w.drewN q ∧ Hid (rm (R.take k) = s)) (fun v3 v11 _ => n - (intOf v11).toNat)
  case atStart => exact ⟨0, 0, 0, rfl, rfl, Nat.zero_le _, rfl, hide rfl⟩
  case round =>
    obtain ⟨k, s, q, rfl, rfl, hk, rfl, HS⟩ := hrel
    by_cases hlt : k < n
    · obtain ⟨l, hl⟩ : ∃ l, R[k]? = some l := ⟨_, List.getElem?_eq_getElem (by rw [Hn.out]; exact hlt)⟩
      obtain ⟨g, b, off, _, rfl, c1, hL, _⟩ := (H.out.drewN q).lane hl
      have hS1 := rm_take hl
      rw [HS.out] at hS1
      have hb1 := HR.out (k + 1)
      have hle := hL.le
      have K := hide (room_any _ hL)
      obtain ⟨x, hx⟩ : ∃ x, l.1 - l.2.length = x := ⟨_, rfl⟩
      rw [hx] at K hS1
      have Hs1 := hide hS1
      have j0 : (0 : Int) ≤ (k : Int) := by omega
      have j1 : (k : Int) < (n : Int) := by omega
      have j2 : (x : Int) ≤ 8 := by omega
      have j3 : (s : Int) + (x : Int) ≤ 300 := by omega
      clear hl hS1 hb1 hle hL hx HS
      go_wp2_with (go_at_call 36; refine K.out.mono ?_; rintro e W1 ⟨rfl, q', rfl⟩)
      go_roundw
      case rel => exact ⟨k + 1, s + x, q + q', by go_num, by go_num, by omega, by rfl, Hs1⟩
      case measure => simp [intOf]; omega
    · obtain rfl : k = n := by omega
      have j1 : ¬ (k : Int) < (k : Int) := by omega
      have e1 : s = res := by rw [← HS.out]; exact Hres.out
      subst e1
      go_wp2_with fail
      go_ret
      exact ⟨rfl, q, rfl⟩

set_option maxRecDepth 100000 in
set_option maxHeartbeats 2000000 in
theorem where_any (t : Int) (w : World) (h : Rk w B r a c gs R) :
    Calls Try.prog 22 #[.pointer (some ⟨r, 0, none⟩), .int .i64 t] w fun e w' => e = .returned (.int .i64 (whr R t)) ∧ Below w.heap.size w w' := by
  have c0 := h.cell
  have h32 : R.length ≤ 32 := by rw [← h.len]; exact h.n32
  have H := hide h
  obtain ⟨n, hn⟩ : ∃ n, R.length = n := ⟨_, rfl⟩
  have Hn := hide hn
  rw [hn] at c0 h32
  have i0 : (n : Int) ≤ 32 := by omega
  have yes : Hid (∀ (k : Nat) (l : Nat × List Int), R[k]? = some l → t ∈ l.2 → (∀ (i : Nat) (l' : Nat × List Int), i < k → R[i]? = some l' → t ∉ l'.2) → whr R t = k) := hide (fun k l h1 h2 h3 => whr_yes h1 h2 h3)
  have no : Hid ((∀ (i : Nat) (l' : Nat × List Int), i < n → R[i]? = some l' → t ∉ l'.2) → whr R t = -1) := hide (fun h => whr_no fun i l hl => h i l (by rw [← hn]; exact idx_lt hl) hl)
  generalize whr R t = res at *
  clear h hn
  go_enter Try.func22, Try.ntmps22
  go_wp2_with fail
  go_loopw [14] (fun v14 wr => ∃ k q : Nat, v14 = .int .i64 k ∧ k ≤ n ∧ wr = w.drewN q ∧ Hid (∀ (i : Nat) (l' : Nat × List Int), i < k → R[i]? = some l' → t ∉ l'.2)) (fun v14 _ => n - (intOf v14).toNat)
  case atStart => exact ⟨0, 0, rfl, Nat.zero_le _, rfl, hide (fun i l' hi => by omega)⟩
  case round =>
    obtain ⟨k, q, rfl, hk, rfl, HX⟩ := hrel
    by_cases hlt : k < n
    · obtain ⟨l, hl⟩ : ∃ l, R[k]? = some l := ⟨_, List.getElem?_eq_getElem (by rw [Hn.out]; exact hlt)⟩
      obtain ⟨g, b, off, _, rfl, c1, hL, _⟩ := (H.out.drewN q).lane hl
      have j0 : (0 : Int) ≤ (k : Int) := by omega
      have j1 : (k : Int) < (n : Int) := by omega
      by_cases hm : t ∈ l.2
      · obtain ⟨p, hp, _⟩ := loc_in hm
        have K := hide (ahead_yes _ hL hm hp)
        have e1 := yes.out k l hl hm HX.out
        subst e1
        clear hl hL hm hp
        go_wp2_with (go_at_call 33; refine K.out.mono ?_; rintro e W1 ⟨v, rfl, ho, hb⟩; have HB := hide hb; clear ho hb)
        go_ret
        exact ⟨rfl, (below_drewN w q).trans HB.out⟩
      · have K := hide (ahead_no t _ hL hm)
        have HX1 : Hid (∀ (i : Nat) (l' : Nat × List Int), i < k + 1 → R[i]? = some l' → t ∉ l'.2) := hide (fun i l' hi hl' => by
          rcases Nat.lt_or_ge i k with g | g
          · exact HX.out i l' g hl'
          · obtain rfl : i = k := by omega
            rw [hl] at hl'
            cases hl'
            exact hm)
        clear hl hL hm
        go_wp2_with (go_at_call 33; refine K.out.mono ?_; rintro e W1 ⟨rfl, q', rfl⟩)
        go_roundw
        case rel => exact ⟨k + 1, q + q', by go_num, by omega, by rfl, HX1⟩
        case measure => simp [intOf]; omega
    · obtain rfl : k = n := by omega
      have j1 : ¬ (k : Int) < (k : Int) := by omega
      have e1 := no.out HX.out
      subst e1
      go_wp2_with fail
      go_ret
      exact ⟨rfl, below_drewN w q⟩

set_option maxRecDepth 100000 in
set_option maxHeartbeats 2000000 in
theorem lane_any (i : Int) (w : World) (h : Rk w B r a c gs R) :
    Calls Try.prog 23 #[.pointer (some ⟨r, 0, none⟩), .int .i64 i] w fun e w' => ∃ v, e = .returned v ∧ intE.Own w' w.heap.size v (lnx R i) ∧ Below w.heap.size w w' := by
  have c0 := h.cell
  have K35 := hide (has_any i w h)
  by_cases hi : 0 ≤ i ∧ i < (R.length : Int)
  · obtain ⟨k, rfl⟩ : ∃ k : Nat, i = (k : Int) := ⟨i.toNat, by omega⟩
    obtain ⟨l, hl⟩ : ∃ l, R[k]? = some l := ⟨_, List.getElem?_eq_getElem (by omega)⟩
    obtain ⟨g, b, off, _, rfl, c1, hL, _⟩ := h.lane hl
    have e1 : lnx R (k : Int) = l.2 := by unfold lnx; rw [if_pos hi, Int.toNat_natCast, ln_at hl]
    rw [e1]
    have K40 := hide (totes_any w hL)
    rw [decide_eq_true hi] at K35
    have j0 := hi.1
    have j1 := hi.2
    generalize R.length = n at *
    clear h hL hl e1 hi
    go_enter Try.func23, Try.ntmps23
    go_wp2_with (first
      | (go_at_call 35; refine K35.out.mono ?_; rintro e W1 ⟨rfl, rfl⟩)
      | (go_at_call 40; refine K40.out.mono ?_; rintro e W1 ⟨v, rfl, ho, hb⟩; have HO := hide ho; have HB := hide hb; clear ho hb))
    go_ret
    exact ⟨_, rfl, HO.out, HB.out⟩
  · have e1 : lnx R i = [] := if_neg hi
    rw [e1]
    rw [decide_eq_false hi] at K35
    clear h e1 hi c0
    go_enter Try.func23, Try.ntmps23
    go_wp2_with (go_at_call 35; refine K35.out.mono ?_; rintro e W1 ⟨rfl, rfl⟩)
    go_ret
    exact ⟨_, rfl, El.Own.nil _ _ _, Below.refl _ _⟩
end
end Go.Proofs.Ytddcjkbdgneklaa
