/- holdersOf: for each zone the places of those that hold it. -/
import Derived.Test.YtmmkfcmbmecleaaZhd
import Derived.Test.YtmmkfcmbmecleaaLng
namespace Go.Proofs.Ytmmkfcmbmecleaa
open Go.RowKit
set_option linter.unusedVariables false

theorem own_type {α : Type} {E : El Try.prog α} {w : World} {B : Nat} {v : Value} {xs : List α} (h : E.Own w B v xs) (g : Nat) (hg : v.ownBlock = some g) : ∃ cur, w.heap[g]? = some (.cells cur E.e) := by
  rcases h.2 with ⟨rfl, _⟩ | ⟨g', cap, cur, rfl, hb, hh, _⟩
  · cases hg
  · simp [Value.ownBlock] at hg
    subst hg
    exact ⟨cur, hh⟩
/-- a box of another type is none of its blocks -/
theorem zown_ne {α : Type} {E : El Try.prog α} {w : World} {B g : Nat} {v : Value} {xs : List α} (h : E.Own w B v xs) {C : Array Value} {t : TypeId} (hg : w.heap[g]? = some (.cells C t)) (ht : t ≠ E.e) : v.ownBlock ≠ some g := fun e => by
  obtain ⟨cur, hc⟩ := own_type h g e
  rw [hg] at hc
  simp only [Option.some.injEq, Obj.cells.injEq] at hc
  exact ht hc.2.1

/-- lists of numbers, one for each zone, in a box -/
structure Hol (w : World) (g B : Nat) (C : Array Value) (ls : Nat → List Int) : Prop where
  box : w.heap[g]? = some (.cells C 87)
  size : C.size = 8
  own : ∀ (z : Nat) (v : Value), C[z]? = some v → intE.Own w B v (ls z)
  sep : ∀ (z z' : Nat) (v v' : Value), z ≠ z' → C[z]? = some v → C[z']? = some v' → Sep v v'

theorem Hol.keep {w w' : World} {g B : Nat} {C : Array Value} {ls : Nat → List Int} (h : Hol w g B C ls) (hb : Below w.heap.size w w') : Hol w' g B C ls :=
  ⟨by rw [hb.block g (heap_lt h.box)]; exact h.box, h.size, fun z v hv => (h.own z v hv).keep hb, h.sep⟩

theorem Hol.put {w w' : World} {g B z : Nat} {C : Array Value} {ls : Nat → List Int} {x : Int} {v v' : Value} (h : Hol w g B C ls) (hz : z < 8) (hv : C[z]? = some v) (ho : intE.Own w' B v' (ls z ++ [x]))
    (hg : w.grownBy w' v.ownBlock) (hv' : v'.ownBlock = v.ownBlock ∨ v'.ownBlock = some w.heap.size) : Hol (w'.setCell ⟨g, z, none⟩ v') g B (C.setIfInBounds z v') (fun y => if y = z then ls y ++ [x] else ls y) := by
  have hne : v.ownBlock ≠ some g := zown_ne (h.own z v hv) h.box (by decide)
  have hbox : w'.heap[g]? = some (.cells C 87) := by rw [hg.block g (heap_lt h.box) (fun e => hne e.symm)]; exact h.box
  have hother : ∀ y u, y ≠ z → C[y]? = some u → intE.Own w' B u (ls y) ∧ Sep v' u := fun y u hy hu => by
    have hs := h.sep z y v u (fun e => hy e.symm) hv hu
    exact ⟨El.Own.kept hs (h.own y u hu) hg, El.Own.sep hs (h.own y u hu) hv'⟩
  have hnn : ∀ (u : Value) (l : List Int), intE.Own w' B u l → u.ownBlock ≠ some g := fun u l hu => zown_ne hu hbox (by decide)
  refine ⟨heap_put hbox v', by simpa using h.size, fun y u hu => ?_, fun y y' u u' hyy hu hu' => ?_⟩
  · rw [Array.getElem?_setIfInBounds] at hu
    by_cases e : z = y
    · subst e
      rw [if_pos rfl, if_pos (by rw [h.size]; exact hz)] at hu
      cases hu
      rw [if_pos rfl]
      exact own_set_other ho (hnn _ _ ho)
    · rw [if_neg e] at hu
      rw [if_neg (fun e' => e e'.symm)]
      have := (hother y u (fun e' => e e'.symm) hu).1
      exact own_set_other this (hnn _ _ this)
  · rw [Array.getElem?_setIfInBounds] at hu hu'
    by_cases e : z = y
    · subst e
      rw [if_pos rfl, if_pos (by rw [h.size]; exact hz)] at hu
      cases hu
      rw [if_neg hyy] at hu'
      exact (hother y' u' (fun e' => hyy e'.symm) hu').2
    · rw [if_neg e] at hu
      by_cases e' : z = y'
      · subst e'
        rw [if_pos rfl, if_pos (by rw [h.size]; exact hz)] at hu'
        cases hu'
        exact (hother y u hyy hu).2.symm
      · rw [if_neg e'] at hu'
        exact h.sep y y' u u' hyy hu hu'

/-- who holds a zone, of the holders ahead of k and of the first j zones of k -/
def Hin (hs : List Hl) (k j : Nat) (ls : Nat → List Int) : Prop := ∀ (z : Nat), z < 8 → (ls z).length ≤ k * 30 + j ∧ ∀ x : Int, x ∈ ls z ↔ ∃ (i : Nat) (p : Hl), x = (i : Int) ∧ hs[i]? = some p ∧ ((i < k ∧ (z : Int) ∈ p.has) ∨ (i = k ∧ (z : Int) ∈ p.has.take j))

theorem Hin.step {hs : List Hl} {k j z : Nat} {ls : Nat → List Int} (h : Hin hs k j ls) {p : Hl} (hp : hs[k]? = some p) (hj : p.has[j]? = some (z : Int)) : Hin hs k (j + 1) (fun y => if y = z then ls y ++ [(k : Int)] else ls y) := fun y hy => by
  obtain ⟨h1, h2⟩ := h y hy
  have ht : p.has.take (j + 1) = p.has.take j ++ [(z : Int)] := by rw [List.take_add_one, hj]; rfl
  by_cases e : y = z
  · subst e
    simp only [if_pos]
    refine ⟨by rw [List.length_append]; simp; omega, fun x => ?_⟩
    rw [List.mem_append, h2, List.mem_singleton]
    constructor
    · rintro (⟨i, q, rfl, hq, h'⟩ | rfl)
      · refine ⟨i, q, rfl, hq, ?_⟩
        rcases h' with h' | ⟨rfl, h'⟩
        · exact .inl h'
        · rw [hp] at hq; cases hq
          exact .inr ⟨rfl, by rw [ht, List.mem_append]; exact .inl h'⟩
      · exact ⟨k, p, rfl, hp, .inr ⟨rfl, by rw [ht]; simp⟩⟩
    · rintro ⟨i, q, rfl, hq, h'⟩
      rcases h' with h' | ⟨rfl, h'⟩
      · exact .inl ⟨i, q, rfl, hq, .inl h'⟩
      · exact .inr rfl
  · simp only [if_neg e]
    refine ⟨by omega, fun x => ?_⟩
    rw [h2]
    constructor
    · rintro ⟨i, q, rfl, hq, h'⟩
      refine ⟨i, q, rfl, hq, ?_⟩
      rcases h' with h' | ⟨rfl, h'⟩
      · exact .inl h'
      · rw [hp] at hq; cases hq
        exact .inr ⟨rfl, by rw [ht, List.mem_append]; exact .inl h'⟩
    · rintro ⟨i, q, rfl, hq, h'⟩
      refine ⟨i, q, rfl, hq, ?_⟩
      rcases h' with h' | ⟨rfl, h'⟩
      · exact .inl h'
      · rw [hp] at hq; cases hq
        rw [ht, List.mem_append] at h'
        rcases h' with h' | h'
        · exact .inr ⟨rfl, h'⟩
        · simp at h'; omega

theorem Hin.round {hs : List Hl} {k : Nat} {ls : Nat → List Int} {p : Hl} (hp : hs[k]? = some p) (hl : p.has.length ≤ 30) (h : Hin hs k p.has.length ls) : Hin hs (k + 1) 0 ls := fun y hy => by
  obtain ⟨h1, h2⟩ := h y hy
  refine ⟨by omega, fun x => ?_⟩
  rw [h2]
  constructor
  · rintro ⟨i, q, rfl, hq, h'⟩
    refine ⟨i, q, rfl, hq, .inl ?_⟩
    rcases h' with h' | ⟨rfl, h'⟩
    · exact ⟨by omega, h'.2⟩
    · exact ⟨by omega, List.mem_of_mem_take h'⟩
  · rintro ⟨i, q, rfl, hq, h'⟩
    refine ⟨i, q, rfl, hq, ?_⟩
    rcases h' with ⟨h3, h4⟩ | ⟨_, h'⟩
    · by_cases e : i = k
      · subst e
        rw [hp] at hq; cases hq
        exact .inr ⟨rfl, by rw [List.take_length]; exact h4⟩
      · exact .inl ⟨by omega, h4⟩
    · simp at h'
theorem Hin.start (hs : List Hl) : Hin hs 0 0 (fun _ => []) := fun y hy => ⟨by simp, fun x => by
  constructor
  · intro h; simp at h
  · rintro ⟨i, q, rfl, hq, h' | ⟨_, h'⟩⟩
    · omega
    · simp at h'⟩

theorem eight {C : Array Value} (h : C.size = 8) : ∃ v0 v1 v2 v3 v4 v5 v6 v7, C = #[v0, v1, v2, v3, v4, v5, v6, v7] := by
  obtain ⟨l⟩ := C
  simp at h
  match l, h with
  | [v0, v1, v2, v3, v4, v5, v6, v7], _ => exact ⟨_, _, _, _, _, _, _, _, rfl⟩

theorem Hol.new (w : World) (B : Nat) : Hol (w.alloc (.cells #[.slice none 0 0, .slice none 0 0, .slice none 0 0, .slice none 0 0, .slice none 0 0, .slice none 0 0, .slice none 0 0, .slice none 0 0] 87)) w.heap.size B #[.slice none 0 0, .slice none 0 0, .slice none 0 0, .slice none 0 0, .slice none 0 0, .slice none 0 0, .slice none 0 0, .slice none 0 0] (fun _ => []) := by
  have key : ∀ (z : Nat) (v : Value), (#[.slice none 0 0, .slice none 0 0, .slice none 0 0, .slice none 0 0, .slice none 0 0, .slice none 0 0, .slice none 0 0, .slice none 0 0] : Array Value)[z]? = some v → v = .slice none 0 0 := by
    intro z v h
    have hm := Array.mem_of_getElem? h
    simpa using hm
  refine ⟨heap_new _ _, rfl, fun z v h => ?_, fun z z' v v' _ h _ => ?_⟩
  · rw [key z v h]; exact El.Own.nil _ _ _
  · rw [key z v h]; intro g hg; cases hg

/-- an array of eight lists -/
def HolR (w : World) (B : Nat) (v : Value) (ls : Nat → List Int) : Prop := ∃ v0 v1 v2 v3 v4 v5 v6 v7, v = .agg #[v0, v1, v2, v3, v4, v5, v6, v7] ∧ ∀ (z : Nat) (u : Value), (#[v0, v1, v2, v3, v4, v5, v6, v7] : Array Value)[z]? = some u → intE.Own w B u (ls z)

/-- holdersOf's world: the box of the answer, the box of the lists -/
structure HS (W0 w : World) (C : Array Value) (ls : Nat → List Int) : Prop where
  bel : Below W0.heap.size W0 w
  ans : w.heap[W0.heap.size]? = some (.cells #[.slice none 0 0, .slice none 0 0, .slice none 0 0, .slice none 0 0, .slice none 0 0, .slice none 0 0, .slice none 0 0, .slice none 0 0] 87)
  hol : Hol w (W0.heap.size + 1) W0.heap.size C ls
theorem HS.keep {W0 w w' : World} {C : Array Value} {ls : Nat → List Int} (h : HS W0 w C ls) (hb : Below w.heap.size w w') : HS W0 w' C ls :=
  ⟨h.bel.trans (hb.mono h.bel.size), by rw [hb.block _ (heap_lt h.ans)]; exact h.ans, h.hol.keep hb⟩
theorem HS.put {W0 w w' : World} {z : Nat} {C : Array Value} {ls : Nat → List Int} {x : Int} {v v' : Value} (h : HS W0 w C ls) (hz : z < 8) (hv : C[z]? = some v) (ho : intE.Own w' W0.heap.size v' (ls z ++ [x]))
    (hg : w.grownBy w' v.ownBlock) (hv' : v'.ownBlock = v.ownBlock ∨ v'.ownBlock = some w.heap.size) : HS W0 (w'.setCell ⟨W0.heap.size + 1, z, none⟩ v') (C.setIfInBounds z v') (fun y => if y = z then ls y ++ [x] else ls y) := by
  refine ⟨(h.bel.grown hg h.bel.size (fun k hk => (h.hol.own z v hv).ge k hk)).setCell (p := ⟨W0.heap.size + 1, z, none⟩) (Nat.le_succ _) _, ?_, h.hol.put hz hv ho hg hv'⟩
  rw [Below.heap_setCell _ _ _ _ (by show W0.heap.size ≠ W0.heap.size + 1; omega), hg.block _ (heap_lt h.ans) (fun e => zown_ne (h.hol.own z v hv) h.ans (by decide) e.symm)]
  exact h.ans
theorem HS.cells {W0 w : World} {C : Array Value} {ls : Nat → List Int} (h : HS W0 w C ls) (z : Nat) (hz : z < 8) : ∃ v, C[z]? = some v ∧ w.cell? ⟨W0.heap.size + 1, z, none⟩ = some v ∧ w.frozen? ⟨W0.heap.size + 1, z, none⟩ = false ∧ intE.Own w W0.heap.size v (ls z) := by
  have hlt : z < C.size := by rw [h.hol.size]; exact hz
  refine ⟨C[z], Array.getElem?_eq_getElem hlt, ?_, (cells_at h.hol.box z).2, h.hol.own z _ (Array.getElem?_eq_getElem hlt)⟩
  rw [(cells_at h.hol.box z).1]; exact Array.getElem?_eq_getElem hlt
theorem HS.mid {W0 w w' : World} {z : Nat} {C : Array Value} {ls : Nat → List Int} {v : Value} (h : HS W0 w C ls) (hv : C[z]? = some v) (hg : w.grownBy w' v.ownBlock) : w'.cell? ⟨W0.heap.size + 1, z, none⟩ = some v ∧ w'.frozen? ⟨W0.heap.size + 1, z, none⟩ = false := by
  have hbox : w'.heap[W0.heap.size + 1]? = some (.cells C 87) := by rw [hg.block _ (heap_lt h.hol.box) (fun e => zown_ne (h.hol.own z v hv) h.hol.box (by decide) e.symm)]; exact h.hol.box
  refine ⟨?_, (cells_at hbox z).2⟩
  rw [(cells_at hbox z).1]; exact hv
theorem HS.fin {W0 w : World} {v0 v1 v2 v3 v4 v5 v6 v7 : Value} {ls : Nat → List Int} (h : HS W0 w #[v0, v1, v2, v3, v4, v5, v6, v7] ls) (x0 x1 x2 x3 x4 x5 x6 x7 : Value) :
    HolR ((((((((w.setCell ⟨W0.heap.size, 0, none⟩ x0).setCell ⟨W0.heap.size, 1, none⟩ x1).setCell ⟨W0.heap.size, 2, none⟩ x2).setCell ⟨W0.heap.size, 3, none⟩ x3).setCell ⟨W0.heap.size, 4, none⟩ x4).setCell ⟨W0.heap.size, 5, none⟩ x5).setCell ⟨W0.heap.size, 6, none⟩ x6).setCell ⟨W0.heap.size, 7, none⟩ x7) W0.heap.size (.agg #[v0, v1, v2, v3, v4, v5, v6, v7]) ls ∧ Below W0.heap.size W0 ((((((((w.setCell ⟨W0.heap.size, 0, none⟩ x0).setCell ⟨W0.heap.size, 1, none⟩ x1).setCell ⟨W0.heap.size, 2, none⟩ x2).setCell ⟨W0.heap.size, 3, none⟩ x3).setCell ⟨W0.heap.size, 4, none⟩ x4).setCell ⟨W0.heap.size, 5, none⟩ x5).setCell ⟨W0.heap.size, 6, none⟩ x6).setCell ⟨W0.heap.size, 7, none⟩ x7) := by
  have hn : ∀ (z : Nat) (u : Value), (#[v0, v1, v2, v3, v4, v5, v6, v7] : Array Value)[z]? = some u → u.ownBlock ≠ some W0.heap.size := fun z u hu => zown_ne (h.hol.own z u hu) h.ans (by decide)
  exact ⟨⟨_, _, _, _, _, _, _, _, rfl, fun z u hu => (own_set_other (own_set_other (own_set_other (own_set_other (own_set_other (own_set_other (own_set_other (own_set_other (h.hol.own z u hu) (hn z u hu)) (hn z u hu)) (hn z u hu)) (hn z u hu)) (hn z u hu)) (hn z u hu)) (hn z u hu)) (hn z u hu))⟩, ((((((((h.bel.setCell (p := ⟨W0.heap.size, 0, none⟩) (Nat.le_refl _) x0).setCell (p := ⟨W0.heap.size, 1, none⟩) (Nat.le_refl _) x1).setCell (p := ⟨W0.heap.size, 2, none⟩) (Nat.le_refl _) x2).setCell (p := ⟨W0.heap.size, 3, none⟩) (Nat.le_refl _) x3).setCell (p := ⟨W0.heap.size, 4, none⟩) (Nat.le_refl _) x4).setCell (p := ⟨W0.heap.size, 5, none⟩) (Nat.le_refl _) x5).setCell (p := ⟨W0.heap.size, 6, none⟩) (Nat.le_refl _) x6).setCell (p := ⟨W0.heap.size, 7, none⟩) (Nat.le_refl _) x7)⟩
theorem HS.start (W0 : World) : HS W0 ((W0.alloc (.cells #[.slice none 0 0, .slice none 0 0, .slice none 0 0, .slice none 0 0, .slice none 0 0, .slice none 0 0, .slice none 0 0, .slice none 0 0] 87)).alloc (.cells #[.slice none 0 0, .slice none 0 0, .slice none 0 0, .slice none 0 0, .slice none 0 0, .slice none 0 0, .slice none 0 0, .slice none 0 0] 87))
    #[.slice none 0 0, .slice none 0 0, .slice none 0 0, .slice none 0 0, .slice none 0 0, .slice none 0 0, .slice none 0 0, .slice none 0 0] (fun _ => []) := by
  have e : (W0.alloc (.cells #[.slice none 0 0, .slice none 0 0, .slice none 0 0, .slice none 0 0, .slice none 0 0, .slice none 0 0, .slice none 0 0, .slice none 0 0] 87)).heap.size = W0.heap.size + 1 := Array.size_push _
  refine ⟨((Below.refl _ _).alloc (Nat.le_refl _) _).alloc (by rw [e]; omega) _, ?_, ?_⟩
  · rw [Below.heap_alloc _ _ _ (by rw [e]; omega)]; exact heap_new _ _
  · have := Hol.new (W0.alloc (.cells #[.slice none 0 0, .slice none 0 0, .slice none 0 0, .slice none 0 0, .slice none 0 0, .slice none 0 0, .slice none 0 0, .slice none 0 0] 87)) W0.heap.size
    rw [e] at this
    exact this

set_option maxRecDepth 100000 in
set_option maxHeartbeats 4000000 in
theorem holders_any (a : Option Addr) (c n : Nat) (hs : List Hl) (w : World) (hn : hs.length = n) (hv : Hds hvE w (.slice a n c) hs) (hl : n ≤ 100) (hb : ∀ p ∈ hs, p.has.length ≤ 30) (hok : hs.all okH = true) :
    Calls Try.prog 47 #[.slice a n c] w fun e w' => (∃ v, e = .returned v ∧ ∃ ls, HolR w' w.heap.size v ls ∧ Hin hs n 0 ls) ∧ Below w.heap.size w w' := by
  have Hn := hide hn
  have Hv := hide hv
  have Hb := hide hb
  have Hok : Hid (∀ p ∈ hs, ∀ z ∈ p.has, ∃ y : Nat, z = (y : Int) ∧ y < 8) := hide (fun p hp z hz => by
    rw [List.all_eq_true] at hok
    have := hok p hp
    unfold okH at this
    rw [Bool.and_eq_true, List.all_eq_true] at this
    have := this.1 z hz
    unfold okZ at this
    have := of_decide_eq_true this
    exact ⟨z.toNat, by omega, by omega⟩)
  have i0 : (n : Int) ≤ 100 := by omega
  obtain ⟨w0, rfl⟩ : ∃ w0, w0 = w := ⟨_, rfl⟩
  clear hn hv hl hb hok
  have Hst := hide (HS.start w0)
  go_enter Try.func47, Try.ntmps47
  go_wp2_with fail
  go_loopw [10] (fun v10 wr => ∃ (k : Nat) (C : Array Value) (ls : Nat → List Int), k ≤ n ∧ v10 = .int .i64 k ∧ Hid (HS w0 wr C ls) ∧ Hid (Hin hs k 0 ls)) (fun v10 _ => n - (intOf v10).toNat)
  case atStart => exact ⟨0, _, _, Nat.zero_le _, rfl, Hst, hide (Hin.start hs)⟩
  case round =>
    obtain ⟨k, C, ls, hk, rfl, HH, HI⟩ := hrel
    by_cases hlt : k < n
    · obtain ⟨p, hp⟩ : ∃ p, hs[k]? = some p := ⟨_, List.getElem?_eq_getElem (by rw [Hn.out]; exact hlt)⟩
      have Hp := hide hp
      obtain ⟨b, off, a', c', rfl, c0, c1, hrd⟩ := hv_at Hv.out k p hp
      rw [← HH.out.bel.cell (cell_lt c0)] at c0
      rw [← HH.out.bel.cell (cell_lt c1)] at c1
      have Hrd : Hid (∀ W, Below w0.heap.size w0 W → intE.Rd W (.slice a' p.has.length c') p.has) := hide (fun W hb => hrd.keep hb)
      have j0 : (0 : Int) ≤ (k : Int) := by omega
      have j1 : (k : Int) < (n : Int) := by omega
      have Hm30 := hide (Hb.out p (List.mem_of_getElem? hp))
      obtain ⟨m, hm⟩ : ∃ m, p.has.length = m := ⟨_, rfl⟩
      obtain ⟨u, hu⟩ : ∃ u, p.want = u := ⟨_, rfl⟩
      rw [hm] at c0 Hm30 Hrd
      rw [hu] at c1
      have Hm := hide hm
      have m0 : (m : Int) ≤ 30 := by have := Hm30.out; omega
      clear hp hrd hm hu
      obtain ⟨wA, hwA⟩ : ∃ W, W = wr := ⟨_, rfl⟩
      subst hwA
      have HHa : Hid (∀ (o : Obj), HS w0 (wA.alloc o) C ls) := hide (fun o => HH.out.keep ((Below.refl _ _).alloc (Nat.le_refl _) o))
      have Hba : Hid (∀ (o : Obj), Below wA.heap.size wA (wA.alloc o)) := hide (fun o => (Below.refl _ _).alloc (Nat.le_refl _) o)
      go_wp2_with fail
      go_loopw [18] (fun v18 wr => ∃ (j : Nat) (C : Array Value) (ls : Nat → List Int), j ≤ m ∧ v18 = .int .i64 j ∧ Hid (HS w0 wr C ls) ∧ Hid (Hin hs k j ls)) (fun v18 _ => m - (intOf v18).toNat)
      case atStart => exact ⟨0, C, ls, Nat.zero_le _, rfl, HHa.out _, HI⟩
      case round =>
        clear HHa Hba HH HI c0 c1
        obtain ⟨j, C, ls, hj, rfl, HH, HI⟩ := hrel
        by_cases hjl : j < m
        · obtain ⟨x, hx⟩ : ∃ x, p.has[j]? = some x := ⟨_, List.getElem?_eq_getElem (by rw [Hm.out]; exact hjl)⟩
          obtain ⟨z, rfl, hz⟩ := Hok.out p (List.mem_of_getElem? Hp.out) x (List.mem_of_getElem? hx)
          obtain ⟨b', off', rfl, e0⟩ := int_at (Hrd.out _ HH.out.bel) j _ hx
          have Hx := hide hx
          obtain ⟨v, hCv, d0, d1, hov⟩ := HH.out.cells z hz
          have hl2 : (ls z).length ≤ k * 30 + j := (HI.out z hz).1
          have g0 : (0 : Int) ≤ (j : Int) := by omega
          have g1 : (j : Int) < (m : Int) := by omega
          have g2 : (0 : Int) ≤ (z : Int) := by omega
          have g3 : (z : Int) < 8 := by omega
          have HCv := hide hCv
          have Hov := hide hov
          have Hl2 : Hid ((ls z).length + [((k : Nat) : Int)].length ≤ 1000000) := hide (by have := i0; simp; omega)
          have Hba : Hid (∀ (o : Obj), Below wr.heap.size wr (wr.alloc o)) := hide (fun o => (Below.refl _ _).alloc (Nat.le_refl _) o)
          clear hx hCv hov hl2
          have Hla : Hid (∀ (o : Obj), HS w0 (wr.alloc o) C ls) := hide (fun o => HH.out.keep (Hba.out o))
          have HI1 := hide (HI.out.step Hp.out Hx.out)
          have Hrk : Hid (∀ W, Below w0.heap.size w0 W → Hds hvE W (.slice (some ⟨b, off, none⟩) n c) hs) := hide (fun W hb => Hv.out.keep hb)
          clear d1
          go_wp2_with (at_builtin; refine intE.wp (w0 := w0) (Hla.out _).bel (by rfl) _ _ rfl _ _ rfl rfl (ls z) [(k : Int)] (Hov.out.keep (Hba.out _)) (int_new wr _ _ rfl) Hl2.out ?_; intro v1 w2 ho2 hg2 hs2 hb2; have HF := hide (HS.put (Hla.out _) hz HCv.out ho2 hg2 hs2); obtain ⟨x0, x1⟩ := HS.mid (Hla.out _) HCv.out hg2; obtain ⟨pa, pl, pc, rfl⟩ : ∃ a l c, v1 = .slice a l c := (by obtain ⟨a, c, h⟩ := ho2.rd.form; exact ⟨_, _, _, h⟩); clear ho2 hg2 hs2 hb2)
          go_roundw
          case rel => exact ⟨j + 1, _, _, by omega, by go_num, HF, HI1⟩
          case measure => simp [intOf]; omega
        · obtain rfl : j = m := by omega
          have g1 : ¬ (j : Int) < (j : Int) := by omega
          have HI1 : Hid (Hin hs (k + 1) 0 ls) := hide (Hin.round Hp.out (by rw [Hm.out]; exact Hm30.out) (by rw [Hm.out]; exact HI.out))
          go_wp2_with fail
          go_roundw
          case rel => exact ⟨k + 1, C, ls, by omega, by go_num, HH, HI1⟩
          case measure => simp [intOf]; omega
    · obtain rfl : k = n := by omega
      have j1 : ¬ (k : Int) < (k : Int) := by omega
      obtain ⟨v0, v1, v2, v3, v4, v5, v6, v7, rfl⟩ := eight HH.out.hol.size
      obtain ⟨p0, l0, k0, rfl⟩ : ∃ a l c, v0 = .slice a l c := by obtain ⟨a, c, h⟩ := (HH.out.hol.own 0 v0 rfl).rd.form; exact ⟨_, _, _, h⟩
      obtain ⟨p1, l1, k1, rfl⟩ : ∃ a l c, v1 = .slice a l c := by obtain ⟨a, c, h⟩ := (HH.out.hol.own 1 v1 rfl).rd.form; exact ⟨_, _, _, h⟩
      obtain ⟨p2, l2, k2, rfl⟩ : ∃ a l c, v2 = .slice a l c := by obtain ⟨a, c, h⟩ := (HH.out.hol.own 2 v2 rfl).rd.form; exact ⟨_, _, _, h⟩
      obtain ⟨p3, l3, k3, rfl⟩ : ∃ a l c, v3 = .slice a l c := by obtain ⟨a, c, h⟩ := (HH.out.hol.own 3 v3 rfl).rd.form; exact ⟨_, _, _, h⟩
      obtain ⟨p4, l4, k4, rfl⟩ : ∃ a l c, v4 = .slice a l c := by obtain ⟨a, c, h⟩ := (HH.out.hol.own 4 v4 rfl).rd.form; exact ⟨_, _, _, h⟩
      obtain ⟨p5, l5, k5, rfl⟩ : ∃ a l c, v5 = .slice a l c := by obtain ⟨a, c, h⟩ := (HH.out.hol.own 5 v5 rfl).rd.form; exact ⟨_, _, _, h⟩
      obtain ⟨p6, l6, k6, rfl⟩ : ∃ a l c, v6 = .slice a l c := by obtain ⟨a, c, h⟩ := (HH.out.hol.own 6 v6 rfl).rd.form; exact ⟨_, _, _, h⟩
      obtain ⟨p7, l7, k7, rfl⟩ : ∃ a l c, v7 = .slice a l c := by obtain ⟨a, c, h⟩ := (HH.out.hol.own 7 v7 rfl).rd.form; exact ⟨_, _, _, h⟩
      have cc := fun z => (cells_at HH.out.hol.box z).1
      have d0 := cc 0
      have d1 := cc 1
      have d2 := cc 2
      have d3 := cc 3
      have d4 := cc 4
      have d5 := cc 5
      have d6 := cc 6
      have d7 := cc 7
      have aa := fun z => (cells_at HH.out.ans z)
      obtain ⟨f0, q0⟩ := aa 0
      obtain ⟨f1, q1⟩ := aa 1
      obtain ⟨f2, q2⟩ := aa 2
      obtain ⟨f3, q3⟩ := aa 3
      obtain ⟨f4, q4⟩ := aa 4
      obtain ⟨f5, q5⟩ := aa 5
      obtain ⟨f6, q6⟩ := aa 6
      obtain ⟨f7, q7⟩ := aa 7
      clear cc aa
      simp only [List.getElem?_toArray, List.getElem?_cons_zero, List.getElem?_cons_succ] at d0 d1 d2 d3 d4 d5 d6 d7 f0 f1 f2 f3 f4 f5 f6 f7
      have HF := hide (HS.fin HH.out)
      go_wp2_with fail
      refine bodyPost_ret (v := .agg #[.slice p0 l0 k0, .slice p1 l1 k1, .slice p2 l2 k2, .slice p3 l3 k3, .slice p4 l4 k4, .slice p5 l5 k5, .slice p6 l6 k6, .slice p7 l7 k7]) (by simp [results, Try.results47, go_sem, f0, f1, f2, f3, f4, f5, f6, f7]) rfl ⟨⟨_, rfl, ls, (HF.out _ _ _ _ _ _ _ _).1, HI.out⟩, (HF.out _ _ _ _ _ _ _ _).2⟩
end Go.Proofs.Ytmmkfcmbmecleaa
