/- Do. -/
import Derived.Test.YtddcjkbdgneklaaGre
namespace Go.Proofs.Ytddcjkbdgneklaa
open Go.RowKit
set_option linter.unusedVariables false

theorem fr_cell {B : Nat} {w w' : World} (h : Fr B w w') {k i : Nat} {C : Array Value} {t : TypeId} (hk : w.heap[k]? = some (.cells C t)) (ht : t ≠ 97) : w'.cell? ⟨k, i, none⟩ = w.cell? ⟨k, i, none⟩ := by
  rw [(cells_at hk i).1, (cells_at (h.other hk ht) i).1]
theorem Rk.blk {w : World} {B r : Nat} {b off : Nat} {c : Nat} {gs : List Nat} {R : Rack} (h : Rk w B r (some ⟨b, off, none⟩) c gs R) : ∃ cur, w.heap[b]? = some (.cells cur 71) := by
  rcases h.row.2 with ⟨h1, _⟩ | ⟨g, cap, cur, h1, _, hg, _⟩
  · cases h1
  · simp only [Value.slice.injEq, Option.some.injEq, Addr.mk.injEq] at h1
    obtain ⟨⟨rfl, _⟩, _⟩ := h1
    exact ⟨cur, hg⟩

/-- what Ahead answers, told as one -/
def ahC (xs : List Int) (t : Int) : Int := if t ∈ xs then 0 else 160
def ahN (xs : List Int) (t : Int) : Nat := if t ∈ xs then (ahd xs (loc xs t).toNat).length else 0
theorem ahead_any {g d : Nat} {xs : List Int} (t : Int) (w : World) (h : Ln w g d xs) :
    Calls Try.prog 33 #[.pointer (some ⟨g, 0, none⟩), .int .i64 t] w fun e w' => ∃ a' c', e = .returned (.tuple #[.slice a' (ahN xs t) c', .int .i64 (ahC xs t)]) ∧ Below w.heap.size w w' := by
  by_cases ht : t ∈ xs
  · obtain ⟨k, hk, _⟩ := loc_in ht
    refine (ahead_yes w h ht hk).mono ?_
    rintro e w' ⟨v, rfl, ho, hb⟩
    obtain ⟨a', c', rfl⟩ := ho.rd.form
    unfold ahN ahC
    rw [if_pos ht, if_pos ht, hk, Int.toNat_natCast]
    exact ⟨a', c', rfl, hb⟩
  · refine (ahead_no t w h ht).mono ?_
    rintro e w' ⟨rfl, q, rfl⟩
    unfold ahN ahC
    rw [if_neg ht, if_neg ht]
    exact ⟨none, 0, rfl, below_drewN w q⟩
theorem loc_last {xs : List Int} {t : Int} (hn : xs.Nodup) (h : xs.getLast? = some t) : t ∈ xs ∧ loc xs t = (xs.length : Int) - 1 := by
  have hm := List.mem_of_getLast? h
  refine ⟨hm, ?_⟩
  obtain ⟨k, hk, hl, hg⟩ := loc_in hm
  rw [List.getLast?_eq_getElem?] at h
  have := (List.getElem?_inj hl hn).1 (hg.trans h.symm)
  omega
theorem ah_mouth {xs : List Int} {t : Int} (hn : xs.Nodup) (h : xs.getLast? = some t) : ahC xs t = 0 ∧ ahN xs t = 0 := by
  obtain ⟨hm, hk⟩ := loc_last hn h
  have := List.length_pos_of_mem hm
  unfold ahC ahN
  rw [if_pos hm, if_pos hm, hk]
  refine ⟨rfl, ?_⟩
  simp [ahd]; omega
theorem ah_no {xs : List Int} {t : Int} (h : xs.getLast? ≠ some t) : ahC xs t ≠ 0 ∨ 0 < ahN xs t := by
  by_cases ht : t ∈ xs
  · right
    obtain ⟨k, hk, hl, hg⟩ := loc_in ht
    unfold ahN
    rw [if_pos ht, hk, Int.toNat_natCast]
    simp [ahd]
    rcases Nat.lt_or_ge (k + 1) xs.length with g | g
    · omega
    · exfalso
      apply h
      rw [List.getLast?_eq_getElem?, ← hg]
      congr 1
      omega
  · left
    unfold ahC
    rw [if_neg ht]
    decide

/-- the world of Do: the rack, and the move in its box -/
structure DoW (w : World) (B r : Nat) (a : Option Addr) (c : Nat) (gs : List Nat) (R : Rack) (gm : Nat) (t f o : Int) (W : World) : Prop where
  fr : Fr B w W
  rk : Rk W B r a c gs R
  bx : W.heap[gm]? = some (.cells #[.int .i64 t, .int .i64 f, .int .i64 o] 50)

section
variable {B r : Nat} {a : Option Addr} {c : Nat} {gs : List Nat} {R : Rack} {gm : Nat} {t f o : Int}
theorem DoW.keep {w W W' : World} (h : DoW w B r a c gs R gm t f o W) (hb : Below W.heap.size W W') : DoW w B r a c gs R gm t f o W' :=
  ⟨h.fr.trans (Fr.of_below hb), h.rk.keep hb, by rw [hb.block _ (heap_lt h.bx)]; exact h.bx⟩
theorem DoW.drewN {w W : World} (h : DoW w B r a c gs R gm t f o W) (q : Nat) : DoW w B r a c gs R gm t f o (W.drewN q) := h.keep (below_drewN _ _)
theorem DoW.cells {w W : World} (h : DoW w B r a c gs R gm t f o W) : W.cell? ⟨gm, 0, none⟩ = some (.int .i64 t) ∧ W.cell? ⟨gm, 1, none⟩ = some (.int .i64 f) ∧ W.cell? ⟨gm, 2, none⟩ = some (.int .i64 o) ∧ W.cell? ⟨r, 0, none⟩ = some (.slice a R.length c) :=
  ⟨(cells_at h.bx 0).1, (cells_at h.bx 1).1, (cells_at h.bx 2).1, h.rk.cell⟩
theorem dow_new (w : World) (h : Rk w B r a c gs R) (t f o : Int) : DoW w B r a c gs R w.heap.size t f o (w.alloc (.cells #[.int .i64 t, .int .i64 f, .int .i64 o] 50)) :=
  ⟨Fr.of_below ((Below.refl _ _).alloc (Nat.le_refl _) _), h.keep ((Below.refl _ _).alloc (Nat.le_refl _) _), heap_new _ _⟩

set_option maxRecDepth 100000 in
set_option maxHeartbeats 4000000 in
theorem do_range (t f o : Int) (w : World) (h : Rk w B r a c gs R) (hr : ¬ (0 ≤ f ∧ f < (R.length : Int)) ∨ (o ≠ -1 ∧ ¬ (0 ≤ o ∧ o < (R.length : Int))) ∨ f = o) :
    Calls Try.prog 18 #[.pointer (some ⟨r, 0, none⟩), .agg #[.int .i64 t, .int .i64 f, .int .i64 o]] w fun e w' => e = .returned (.int .i64 1) ∧ Rk w' B r a c gs R ∧ Fr B w w' := by
  obtain ⟨w0, rfl⟩ : ∃ w0, w0 = w := ⟨_, rfl⟩
  have HD := hide (dow_new w0 h t f o)
  have hDc := HD.out.cells
  obtain ⟨hs, hhs⟩ : ∃ hs : Int → Bool, ∀ i, hs i = decide (0 ≤ i ∧ i < (R.length : Int)) := ⟨_, fun _ => rfl⟩
  have K35 : Hid (∀ (W : World) (i : Int), DoW w0 B r a c gs R w0.heap.size t f o W → Calls Try.prog 35 #[.pointer (some ⟨r, 0, none⟩), .int .i64 i] W fun e w' => e = .returned (.bool (hs i)) ∧ w' = W) := hide (fun W i h => by rw [hhs]; exact has_any i W h.rk)
  by_cases h1 : 0 ≤ f ∧ f < (R.length : Int)
  · have b1 : hs f = true := by rw [hhs]; exact decide_eq_true h1
    have h2 : o ≠ -1 := by rcases hr with h' | h' | h'
                           · exact absurd h1 h'
                           · exact h'.1
                           · omega
    have j0 : (o != -1) = true := bne_iff_ne.2 h2
    by_cases h3 : 0 ≤ o ∧ o < (R.length : Int)
    · have h4 : f = o := by rcases hr with h' | h' | h'
                            · exact absurd h1 h'
                            · exact absurd h3 h'.2
                            · exact h'
      subst h4
      obtain ⟨c0, c1, c2, _⟩ := hDc
      have j1 : (f == f) = true := beq_self_eq_true _
      clear h hr h1 h2 h3 hhs
      go_enter Try.func18, Try.ntmps18
      go_wp2_with (go_at_call 35; refine (K35.out _ _ HD.out).mono ?_; rintro e W1 ⟨rfl, rfl⟩)
      go_ret
      exact ⟨rfl, HD.out.rk, HD.out.fr⟩
    · have b2 : hs o = false := by rw [hhs]; exact decide_eq_false h3
      obtain ⟨c0, c1, c2, _⟩ := hDc
      clear h hr h1 h2 h3 hhs
      go_enter Try.func18, Try.ntmps18
      go_wp2_with (go_at_call 35; refine (K35.out _ _ HD.out).mono ?_; rintro e W1 ⟨rfl, rfl⟩)
      go_ret
      exact ⟨rfl, HD.out.rk, HD.out.fr⟩
  · have b1 : hs f = false := by rw [hhs]; exact decide_eq_false h1
    obtain ⟨c0, c1, c2, _⟩ := hDc
    clear h hr h1 hhs
    go_enter Try.func18, Try.ntmps18
    go_wp2_with (go_at_call 35; refine (K35.out _ _ HD.out).mono ?_; rintro e W1 ⟨rfl, rfl⟩)
    go_ret
    exact ⟨rfl, HD.out.rk, HD.out.fr⟩
end
end Go.Proofs.Ytddcjkbdgneklaa
