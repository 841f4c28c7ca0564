/- The search's memory: boxes of what the closure captured; slices.Index told by its place, slices.Clone. -/
import Derived.Test.YtmmkfcmbmecleaaZho
namespace Go.Proofs.Ytmmkfcmbmecleaa
open Go.RowKit
set_option linter.unusedVariables false

theorem El.wpB {P : Program} {α : Type} (E : El P α) {w : World} {B : Nat} (hB : B ≤ w.heap.size) {ops : Array Oper} {rest : List Oper} {o : Oper} {a : Act} {Q : Exit → Act → World → Prop} (hwant : Region.wanted o (yielded ops a.tmps) = true) (s x : Operand)
    (ho : o.op = .call { callee := .builtin .append, args := #[s, x], argTypes := #[E.t, E.t] }) (v u : Value) (hs : a.eval s = v) (hx : a.eval x = u)
    (xs ys : List α) (hown : E.Own w B v xs) (hu : E.Rd w u ys) (hn : xs.length + ys.length ≤ 1000000)
    (h : ∀ v' w', E.Own w' B v' (xs ++ ys) → w.grownBy w' v.ownBlock → (v'.ownBlock = v.ownBlock ∨ v'.ownBlock = some w.heap.size) → wpList P ops Q rest (a.put o.dst v') w') : wpList P ops Q (o :: rest) a w := by
  obtain ⟨v', w', hr, h2, h3, h4⟩ := E.run hown hB hu hn o.type
  refine wpList_step fun K hK => ?_
  rw [if_pos hwant]
  unfold Oper.wp execOp
  simp only [ho, resolve, invoke, builtin, Sem.run_bind, Sem.run_pure, Result.andThen_ok, List.map_toArray, List.map_cons, List.map_nil, hs, hx, hr]
  exact hK _ _ (h v' w' h2 h3 h4)

/-- the first ones of a slice of the call's own -/
theorem El.Own.take {P : Program} {α : Type} {E : El P α} {w : World} {B g n cap : Nat} {xs : List α} (h : E.Own w B (.slice (some ⟨g, 0, none⟩) n cap) xs) (m : Nat) (hm : m ≤ xs.length) : E.Own w B (.slice (some ⟨g, 0, none⟩) m cap) (xs.take m) := by
  have hl : (xs.take m).length = m := by rw [List.length_take]; omega
  rcases h.2 with ⟨h1, _⟩ | ⟨g', c, cur, h1, hb, hg, hn, hmx, hs, ht⟩
  · cases h1
  · simp only [Value.slice.injEq, Option.some.injEq, Addr.mk.injEq] at h1
    obtain ⟨⟨rfl, _⟩, rfl, rfl⟩ := h1
    refine ⟨E.fl_len _, .inr ⟨g, cap, cur, by rw [hl], hb, hg, by rw [hl]; omega, hmx, hs, ?_⟩⟩
    have e : E.fl xs = E.fl (xs.take m) ++ E.fl (xs.drop m) := by rw [← E.fl_app, List.take_append_drop]
    have hlen : (E.fl (xs.take m)).length = m * E.k := by rw [E.fl_len, hl]
    have hmk : m * E.k ≤ xs.length * E.k := Nat.mul_le_mul_right _ hm
    rw [hl, ← Nat.min_eq_left hmk, ← List.take_take, ht, e, ← hlen, List.take_left]
theorem El.Own.some {P : Program} {α : Type} {E : El P α} {w : World} {B : Nat} {v : Value} {xs : List α} (h : E.Own w B v xs) (hne : xs ≠ []) : ∃ g cap, v = .slice (some ⟨g, 0, none⟩) xs.length cap ∧ xs.length ≤ cap ∧ cap ≤ maxLen := by
  rcases h.2 with ⟨_, h1⟩ | ⟨g', c, cur, h1, hb, hg, hn, hmx, hs, ht⟩
  · exact absurd (List.eq_nil_of_length_eq_zero h1) hne
  · exact ⟨g', c, h1, hn, hmx⟩

set_option maxRecDepth 100000 in
set_option maxHeartbeats 2000000 in
theorem idxat_any (a : Option Addr) (c n : Nat) (ms : List Int) (d : Int) (w : World) (hn : ms.length = n) (hv : intE.Rd w (.slice a n c) ms) (hl : n ≤ 100000) :
    Calls Try.prog 49 #[.slice a n c, .int .i64 d] w fun e w' => ((∃ i : Nat, e = .returned (.int .i64 (i : Int)) ∧ ms[i]? = some d) ∨ (e = .returned (.int .i64 (-1)) ∧ d ∉ ms)) ∧ w' = w := by
  have Hn := hide hn
  have Hv := hide hv
  have i0 : (n : Int) ≤ 100000 := by omega
  have no : Hid ((∀ k : Nat, k < n → ms[k]? ≠ some d) → d ∉ ms) := hide (fun h h' => by
    obtain ⟨k, hk⟩ := List.getElem?_of_mem h'
    refine h k ?_ hk
    rcases Nat.lt_or_ge k ms.length with g | g
    · omega
    · rw [List.getElem?_eq_none g] at hk; cases hk)
  clear hn hv hl
  go_enter Try.func49, Try.ntmps49
  go_wp2_with fail
  go_loopw [8] (fun v8 wr => ∃ k : Nat, wr = w ∧ v8 = .int .i64 k ∧ k ≤ n ∧ Hid (∀ i : Nat, i < k → ms[i]? ≠ some d)) (fun v8 _ => n - (intOf v8).toNat)
  case atStart => exact ⟨0, rfl, rfl, Nat.zero_le _, hide (fun i hi => by omega)⟩
  case round =>
    obtain ⟨k, rfl, rfl, hk, HX⟩ := hrel
    by_cases hlt : k < n
    · obtain ⟨p, hp⟩ : ∃ p, ms[k]? = some p := ⟨_, List.getElem?_eq_getElem (by rw [Hn.out]; exact hlt)⟩
      obtain ⟨b, off, rfl, c0⟩ := int_at Hv.out k p hp
      have j0 : (0 : Int) ≤ (k : Int) := by omega
      have j1 : (k : Int) < (n : Int) := by omega
      have Hp := hide hp
      clear hp
      by_cases he : d = p
      · subst he
        go_wp2_with fail
        go_ret
        exact ⟨.inl ⟨k, rfl, Hp.out⟩, rfl⟩
      · have hbe : (d == p) = false := beq_eq_false_iff_ne.2 he
        have HX1 : Hid (∀ i : Nat, i < k + 1 → ms[i]? ≠ some d) := hide (fun i hi h => by
          rcases Nat.lt_or_ge i k with g | g
          · exact HX.out i g h
          · obtain rfl : i = k := by omega
            rw [Hp.out] at h; exact he (Option.some.inj h).symm)
        go_wp2_with fail
        go_roundw
        case rel => exact ⟨k + 1, trivial, by go_num, by omega, HX1⟩
        case measure => simp [intOf]; omega
    · obtain rfl : k = n := by omega
      have j1 : ¬ (k : Int) < (k : Int) := by omega
      have e1 := hide (no.out HX.out)
      go_wp2_with fail
      go_ret
      exact ⟨.inr ⟨rfl, e1.out⟩, rfl⟩

set_option maxRecDepth 100000 in
set_option maxHeartbeats 2000000 in
theorem zclone_any (x : Addr) (c n : Nat) (ms : List Int) (w : World) (hn : ms.length = n) (hv : intE.Rd w (.slice (some x) n c) ms) (hl : n ≤ 100000) :
    Calls Try.prog 50 #[.slice (some x) n c] w fun e w' => (∃ v, e = .returned v ∧ intE.Own w' w.heap.size v ms) ∧ Below w.heap.size w w' := by
  have HR : Hid (∀ o, intE.Rd (w.alloc o) (.slice (some x) n c) ms) := hide (fun o => hv.keep ((Below.refl _ _).alloc (Nat.le_refl _) o))
  have Hnew : Hid (intE.Own (w.alloc (.cells #[] 3)) w.heap.size (.slice (some ⟨w.heap.size, 0, none⟩) 0 0) []) := hide (El.Own.new intE w w.heap.size (Nat.le_refl _) #[] [] rfl (by simp) _ _ _ rfl rfl rfl)
  have Hb : Hid (∀ o, Below w.heap.size w (w.alloc o)) := hide (fun o => (Below.refl _ _).alloc (Nat.le_refl _) o)
  have Hn : Hid (([] : List Int).length + ms.length ≤ 1000000) := hide (by simp; omega)
  have hq : ∀ W a n c, (binOp .eql 26 (.slice a n c) (.slice none 0 0)).run Try.prog W = .ok (.bool a.isNone) W := fun W a n c => Lib.run_eql_slice_nil W 26 3 a n c 0 0 Try.underlying26
  clear hv hl hn
  go_enter Try.func50, Try.ntmps50
  go_wp2_with (at_builtin; refine intE.wp (w0 := w) (Hb.out _) (by rfl) _ _ rfl _ _ rfl rfl [] ms Hnew.out (HR.out _) Hn.out ?_; intro v1 w2 ho2 _ _ hb2; have Ho := hide ho2; have HB2 := hide hb2; clear ho2 hb2)
  go_ret
  exact ⟨⟨_, rfl, Ho.out⟩, HB2.out⟩

/-- but for the row's box and the block of who was seen, all that lay there stays -/
structure Kp (br gs : Nat) (W1 w : World) : Prop where
  os : w.os = W1.os
  tape : w.tape = W1.tape
  output : w.output = W1.output
  size : W1.heap.size ≤ w.heap.size
  block : ∀ k, k < W1.heap.size → k ≠ br → k ≠ gs → w.heap[k]? = W1.heap[k]?
theorem Kp.refl (br gs : Nat) (W : World) : Kp br gs W W := ⟨rfl, rfl, rfl, Nat.le_refl _, fun _ _ _ _ => rfl⟩
theorem Kp.keep {br gs : Nat} {W1 w w' : World} (h : Kp br gs W1 w) (hb : Below w.heap.size w w') : Kp br gs W1 w' :=
  ⟨hb.os.trans h.os, hb.tape.trans h.tape, hb.output.trans h.output, Nat.le_trans h.size hb.size, fun k hk h1 h2 => by rw [hb.block k (Nat.lt_of_lt_of_le hk h.size)]; exact h.block k hk h1 h2⟩
theorem Kp.set {br gs i : Nat} {W1 w : World} (h : Kp br gs W1 w) (g : Nat) (hg : g = br ∨ g = gs) (u : Value) : Kp br gs W1 (w.setCell ⟨g, i, none⟩ u) :=
  ⟨h.os, h.tape, h.output, by rw [show (w.setCell ⟨g, i, none⟩ u).heap.size = w.heap.size by simp [World.setCell]]; exact h.size, fun k hk h1 h2 => by
    rw [Below.heap_setCell _ _ _ _ (by rcases hg with rfl | rfl; exact h1; exact h2)]
    exact h.block k hk h1 h2⟩
theorem Kp.grown {br gs : Nat} {W1 w w' : World} {row : Option Nat} (h : Kp br gs W1 w) (hg : w.grownBy w' row) (hr : ∀ k, row = some k → W1.heap.size ≤ k) : Kp br gs W1 w' :=
  ⟨hg.os.trans h.os, hg.tape.trans h.tape, hg.output.trans h.output, Nat.le_trans h.size hg.size, fun k hk h1 h2 => by
    rw [hg.block k (Nat.lt_of_lt_of_le hk h.size) (fun e => by have := hr k e.symm; omega)]
    exact h.block k hk h1 h2⟩
theorem Kp.cell {br gs : Nat} {W1 w : World} (h : Kp br gs W1 w) {p : Addr} (hp : p.block < W1.heap.size) (h1 : p.block ≠ br) (h2 : p.block ≠ gs) : w.cell? p = W1.cell? p := World.cell?_of_block (w := W1) (h.block p.block hp h1 h2)

def visF (br bs bh bo bv : Nat) : Value := .func (.func 48) #[] #[.pointer (some ⟨br, 0, none⟩), .pointer (some ⟨bs, 0, none⟩), .pointer (some ⟨bh, 0, none⟩), .pointer (some ⟨bo, 0, none⟩), .pointer (some ⟨bv, 0, none⟩)]

/-- what doesn't change while holders are visited -/
structure Vfix (a : Option Addr) (c n : Nat) (hs : List Hl) (ls : Nat → List Int) (bh bo bs br bv gs : Nat) (W1 : World) : Prop where
  len : hs.length = n
  n40 : n ≤ 40
  ok : hs.all okH = true
  h : ∀ w, Kp br gs W1 w → w.cell? ⟨bh, 0, none⟩ = some (.slice a n c)
  s : ∀ w, Kp br gs W1 w → w.cell? ⟨bs, 0, none⟩ = some (.slice (some ⟨gs, 0, none⟩) n n)
  v : ∀ w, Kp br gs W1 w → w.cell? ⟨bv, 0, none⟩ = some (visF br bs bh bo bv)
  o : ∀ z, z < 8 → ∃ a' c', ∀ w, Kp br gs W1 w → w.cell? ⟨bo, z, none⟩ = some (.slice a' (ls z).length c') ∧ intE.Rd w (.slice a' (ls z).length c') (ls z)
  want : ∀ w, Kp br gs W1 w → ∀ (i : Nat) (p : Hl), hs[i]? = some p → ∃ b off, a = some ⟨b, off, none⟩ ∧ w.cell? ⟨b, off + i * 2 + 1, none⟩ = some (.int .i64 p.want)
  hin : Hin hs n 0 ls
  brlt : br < W1.heap.size
  gslt : gs < W1.heap.size

/-- the row and who was seen -/
structure Vst (br gs n : Nat) (W1 w : World) (v : Value) (r : List Nat) (sn : List Bool) : Prop where
  kp : Kp br gs W1 w
  box : w.heap[br]? = some (.cells #[v] 26)
  row : intE.Own w W1.heap.size v (ints r)
  seen : boolE.Own w 0 (.slice (some ⟨gs, 0, none⟩) n n) sn

theorem Vst.ne {br gs n : Nat} {W1 w : World} {v : Value} {r : List Nat} {sn : List Bool} (h : Vst br gs n W1 w v r sn) : br ≠ gs := fun e => zown_ne h.seen h.box (by decide) (by rw [e]; rfl)
theorem Vst.keep {br gs n : Nat} {W1 w w' : World} {v : Value} {r : List Nat} {sn : List Bool} (h : Vst br gs n W1 w v r sn) (hb : Below w.heap.size w w') : Vst br gs n W1 w' v r sn :=
  ⟨h.kp.keep hb, by rw [hb.block _ (heap_lt h.box)]; exact h.box, h.row.keep hb, h.seen.keep hb⟩
theorem Vst.mark {br gs n : Nat} {W1 w : World} {v : Value} {r : List Nat} {sn : List Bool} (h : Vst br gs n W1 w v r sn) (i : Nat) (hgs : gs < W1.heap.size) : Vst br gs n W1 (w.setCell ⟨gs, i, none⟩ (.bool true)) v r (sn.set i true) :=
  ⟨h.kp.set gs (.inr rfl) _, by rw [Below.heap_setCell _ _ _ _ h.ne]; exact h.box, own_set_other h.row (fun e => by have := h.row.ge gs e; omega), h.seen.set Value.bool (fun _ => rfl) rfl i true⟩
theorem Vst.app {br gs n : Nat} {W1 w w' : World} {v v' : Value} {r : List Nat} {sn : List Bool} {x : Nat} (h : Vst br gs n W1 w v r sn) (hbr : br < W1.heap.size) (ho : intE.Own w' W1.heap.size v' (ints r ++ [(x : Int)])) (hg : w.grownBy w' v.ownBlock) :
    w'.cell? ⟨br, 0, none⟩ = some v ∧ w'.frozen? ⟨br, 0, none⟩ = false ∧ Vst br gs n W1 (w'.setCell ⟨br, 0, none⟩ v') v' (r ++ [x]) sn := by
  have hne : v.ownBlock ≠ some br := zown_ne h.row h.box (by decide)
  have hbox : w'.heap[br]? = some (.cells #[v] 26) := by rw [hg.block _ (heap_lt h.box) (fun e => hne e.symm)]; exact h.box
  have hsn : boolE.Own w' 0 (.slice (some ⟨gs, 0, none⟩) n n) sn := by
    refine World.ownsRow.kept h.seen hg (.inr ?_)
    intro e
    obtain ⟨c1, h1⟩ := own_type h.row gs e.symm
    obtain ⟨c2, h2⟩ := own_type h.seen gs rfl
    rw [h1] at h2
    simp only [Option.some.injEq, Obj.cells.injEq] at h2
    exact absurd h2.2.1 (show ¬ (3 : TypeId) = 4 by decide)
  refine ⟨(cells_at hbox 0).1, (cells_at hbox 0).2, (h.kp.grown hg (fun k hk => h.row.ge k hk)).set br (.inl rfl) _, heap_put hbox v', ?_, ?_⟩
  · rw [ints_app]; exact own_set_other ho (zown_ne ho hbox (by decide))
  · exact own_set_other hsn (zown_ne hsn hbox (by decide))
theorem Vst.cell {br gs n : Nat} {W1 w : World} {v : Value} {r : List Nat} {sn : List Bool} (h : Vst br gs n W1 w v r sn) : w.cell? ⟨br, 0, none⟩ = some v ∧ w.frozen? ⟨br, 0, none⟩ = false :=
  ⟨(cells_at h.box 0).1, (cells_at h.box 0).2⟩
/-- the last one goes -/
theorem Vst.pop {br gs n g l cap x : Nat} {W1 w : World} {r : List Nat} {sn : List Bool} (h : Vst br gs n W1 w (.slice (some ⟨g, 0, none⟩) l cap) (r ++ [x]) sn) (m : Nat) (hm : m = r.length) :
    Vst br gs n W1 (w.setCell ⟨br, 0, none⟩ (.slice (some ⟨g, 0, none⟩) m cap)) (.slice (some ⟨g, 0, none⟩) m cap) r sn := by
  have ht := h.row.take m (by rw [ints_len, hm]; simp)
  rw [show (ints (r ++ [x])).take m = ints r by rw [ints_app, hm, ← ints_len r, List.take_left]] at ht
  exact ⟨h.kp.set br (.inl rfl) _, heap_put h.box _, own_set_other ht (zown_ne ht h.box (by decide)), own_set_other h.seen (zown_ne h.seen h.box (by decide))⟩
end Go.Proofs.Ytmmkfcmbmecleaa
