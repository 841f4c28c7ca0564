/- Waiting: the numbers of the pieces that wait, in order, in memory of its own. -/
import Derived.Test.YtmbgcbbpkbaajaaWake
import Derived.Test.YtmbgcbbpkbaajaaOrd
import Derived.Maps.RangeWalk
import Derived.Laws.MakeOwn
namespace Go.Proofs.Ytmbgcbbpkbaajaa
open Go.ChangeShapes Go.WideShapes Go.ChangeAt Go.RowKit Go.Maps Go.ChangeMaps
set_option linter.unusedVariables false

/-- the numbers of the pieces that wait, in order from next on -/
def Wtg (S : Ik) (r : List Int) : Prop := r.Pairwise (fun x y => up S.nx x < up S.nx y) ∧ ∀ x, x ∈ r ↔ (0 ≤ x ∧ x ≤ 65535) ∧ S.wait x ≠ none

theorem make_u16 (w : World) (c : Nat) (hc : c ≤ 100000) : ∃ w', (Instr.makeSlice 50 (.int .i64 0) (.int .i64 (c : Int))).run Try.prog w = .ok (.slice (some ⟨w.heap.size, 0, none⟩) 0 c) w' ∧
    Ow w' w.heap.size (.slice (some ⟨w.heap.size, 0, none⟩) 0 c) [] ∧ Below w.heap.size w w' := by
  obtain ⟨i, hi, he⟩ := Option.map_eq_some_iff.1 info22
  have e1 : i.zero = some (.int .u16 0) := congrArg Prod.fst he
  have e2 : i.size = 1 := congrArg (fun p => p.2.1) he
  have e3 : i.bytes = 2 := congrArg (fun p => p.2.2) he
  obtain ⟨w', h1, h2, h3⟩ := run_make_own (P := Try.prog) w w.heap.size 50 22 i (.int .u16 0) 1 Try.underlying50 hi e1 e2 .i64 .i64 c (by rw [e3]; omega) (by unfold maxLen; omega) (Nat.le_refl _)
  exact ⟨w', h1, h2, (Below.refl _ _).grown h3 (Nat.le_refl _) (by simp)⟩

theorem ow_lt {w : World} {B : Nat} {v : Value} {l : List Int} (h : Ow w B v l) (g : Nat) (hg : v.ownBlock = some g) : ∃ cur, w.heap[g]? = some (.cells cur 22) := by
  rcases h.2 with ⟨rfl, _⟩ | ⟨g', cap, cur, rfl, hb, hh, _⟩
  · cases hg
  · simp [Value.ownBlock] at hg
    subst hg
    exact ⟨cur, hh⟩

/-- what the loop over the map has met -/
def Met' (D : DataW Value) (left : Lit → Bool) (xs : List Int) : Prop := ∀ x, x ∈ xs ↔ (0 ≤ x ∧ x ≤ 65535) ∧ has D (key x) = true ∧ left (key x) = false

theorem met0 (D : DataW Value) : Met' D (has D) [] := by
  intro x
  constructor
  · intro hx; cases hx
  · intro hx
    have h1 := hx.2.1
    rw [hx.2.2] at h1
    cases h1
theorem met_next {D : DataW Value} {left : Lit → Bool} {xs : List Int} {x : Int} (h : Met' D left xs) (h0 : 0 ≤ x) (h1 : x ≤ 65535) (hx : has D (key x) = true) : Met' D (fun z => left z && !z.sameKey (key x)) (xs ++ [x]) := by
  intro y
  rw [List.mem_append, List.mem_singleton, h y]
  by_cases e : y = x
  · subst e
    simp [h0, h1, hx, WideAt.sameKey_self (key_lit y)]
  · have : (key y).sameKey (key x) = false := sameKey_ne (key_ne e)
    simp [e, this]
theorem met_end {S : Ik} {w : World} {D : DataW Value} {left : Lit → Bool} {xs r : List Int} (hM : Mp w D S.wait) (h : Met' D left xs) (hl : ∀ kl, left kl = false) (ho : Ordd S.nx xs r) : Wtg S r := by
  refine ⟨ho.1, fun x => ?_⟩
  rw [ho.2 x, h x]
  constructor
  · rintro ⟨⟨h0, h1⟩, h2, _⟩
    refine ⟨⟨h0, h1⟩, fun e => ?_⟩
    have := hM x h0 h1
    rw [e] at this
    have h3 : has D (key x) = false := this
    rw [h2] at h3; cases h3
  · rintro ⟨⟨h0, h1⟩, h2⟩
    refine ⟨⟨h0, h1⟩, ?_, hl _⟩
    have := hM x h0 h1
    cases hw : S.wait x with
    | none => exact absurd hw h2
    | some p =>
      rw [hw] at this
      obtain ⟨v, k1, _⟩ := this
      exact k1
theorem met_in {D : DataW Value} {left : Lit → Bool} {xs : List Int} (h : Met' D left xs) : InW xs := fun x hx => ((h x).1 hx).1

theorem wpList_appG {w0 w : World} (hb : Below w0.heap.size w0 w) {ops : Array Oper} {rest : List Oper} {o : Oper} {a : Act} {Q : Exit → Act → World → Prop} (hwant : Region.wanted o (yielded ops a.tmps) = true) (s x : Operand)
    (ho : o.op = .call { callee := .builtin .append, args := #[s, x], argTypes := #[50, 50] }) (v u : Value) (hs : a.eval s = v) (hx : a.eval x = u)
    (xs l : List Int) (hown : Ow w w0.heap.size v xs) (hu : Bs w u l) (hn : xs.length + l.length ≤ 1000000)
    (h : ∀ v' w', Ow w' w0.heap.size v' (xs ++ l) → w.grownBy w' v.ownBlock → Below w0.heap.size w0 w' → wpList Try.prog ops Q rest (a.put o.dst v') w') : wpList Try.prog ops Q (o :: rest) a w := by
  obtain ⟨v', w', hr, h2, h3⟩ := run_app hown hb.size hu hn o.type
  refine wpList_step fun K hK => ?_
  rw [if_pos hwant]
  unfold Oper.wp execOp
  simp only [ho, resolve, invoke, builtin, Sem.run_bind, Sem.run_pure, Result.andThen_ok, List.map_toArray, List.map_cons, List.map_nil, hs, hx, hr]
  exact hK _ _ (h v' w' h2 h3 (hb.grown h3 hb.size (own_row hown)))
theorem bs_one' (w : World) (y : Int) (n : Nat) (hn : n = w.heap.size) : Bs (w.alloc (.cells #[.int .u16 y] 22)) (.slice (some ⟨n, 0, none⟩) 1 1) [y] := by
  subst hn
  refine .inr ⟨_, 1, rfl, fun i hi => ?_⟩
  have : i = 0 := by simp at hi; omega
  subst this
  rw [add_plain]
  simp

set_option maxHeartbeats 2000000 in
theorem waiting_any {w : World} {h : Hd} {S : Ik} (H : Has w h S) (hn : S.n ≤ 900) :
    Calls Try.prog 17 #[.pointer (some ⟨h.g, 0, none⟩)] w fun e w' => ∃ v r, e = .returned v ∧ Ow w' w.heap.size v r ∧ Wtg S r ∧ Below w.heap.size w w' := by
  obtain ⟨c0, c1, c2, c3⟩ := H.cells
  obtain ⟨D, hm, hM⟩ := H.map
  have hsz := hm.size_le
  have hlen : ∀ ty, (Builtin.len_ #[55] ty #[.map (some h.mb)]).run Try.prog w = .ok (.int .i64 (Maps.size D)) w := fun ty => hm.len Try.underlying55 ty
  obtain ⟨z, hz⟩ : ∃ z, Maps.size D = z := ⟨_, rfl⟩
  rw [hz] at hlen hsz
  obtain ⟨w1, hmk, ho1, hb1⟩ := make_u16 w z (by omega)
  have d1 : w1.cell? ⟨h.g, 1, none⟩ = some (.int .u16 S.nx) := by rw [hb1.cell (heap_lt H.box)]; exact c1
  have d2 : w1.cell? ⟨h.g, 2, none⟩ = some (.map (some h.mb)) := by rw [hb1.cell (heap_lt H.box)]; exact c2
  have hm1 : w1.ownsMap Try.prog 22 raw h.mb S.n D := by
    obtain ⟨es, clock, hb, hr⟩ := hm
    exact ⟨es, clock, by rw [hb1.block _ (heap_lt hb)]; exact hb, hr⟩
  have hz0 : (0 : Int) ≤ (z : Int) := by omega
  have hgm : h.mb < w.heap.size := hm.lt
  go_enter Try.func17, Try.ntmps17
  go_wp2_with (at_range; refine wpList_range_own _ rfl _ 55 rfl 22 33 law Try.underlying55 raw h.mb S.n D rfl hm1 ?_; intro w2 hrg2 hg2 hs2)
  go_frame
  have ho2 : Ow w2 w.heap.size (.slice (some ⟨w.heap.size, 0, none⟩) 0 z) [] := ho1.keep ((Below.refl _ _).grown hg2 (Nat.le_refl _) (by simp))
  have hb2 : Below w.heap.size w w2 := hb1.grown hg2 hb1.size (by simp)
  obtain ⟨rr, hrr⟩ : ∃ rr, w1.heap.size = rr := ⟨_, rfl⟩
  rw [hrr] at hrg2 ⊢
  have hrB : w.heap.size ≤ rr := by rw [← hrr]; exact hb1.size
  have HM := hide hM
  have HH := hide H
  have Hsz := hide hsz
  clear hM H hm hm1 hmk hlen ho1 hb1 d1 d2 c0 c2 c3 hg2 hs2 hsz hrr
  go_loopw [3] (fun v3 wr => ∃ left cnt xs, Hid (wr.ranges Try.prog 22 raw h.mb rr S.n D left cnt) ∧ Hid (Ow wr w.heap.size v3 xs) ∧ Hid (Met' D left xs) ∧ Hid (xs.length + cnt ≤ z) ∧ Hid (Below w.heap.size w wr)) (fun _ wr => wr.rangeLeft h.mb rr)
  case atStart => exact ⟨_, _, [], hide hrg2, hide ho2, hide (met0 D), hide (by simp [hz]), hide hb2⟩
  case round =>
    clear ho2 hrg2 hb2
    obtain ⟨left, cnt, xs, Hrg, Ho, Hmt, Hc, Hb⟩ := hrel
    have i1 : (z : Int) ≤ 900 := by have := Hsz.out; omega
    go_wp2_with (at_next; refine wpList_next_ranges _ rfl _ rfl 22 law raw (Value.int .u16) (fun v : Value => v) (fun key kl hkey => by obtain ⟨x, rfl, _⟩ := Maps.keyOf_int_inv Try.underlying22 hkey; exact ⟨x, rfl⟩) (fun v y _ => ⟨v, rfl⟩) h.mb rr S.n D left cnt rfl Hrg.out ?_ ?_)
    · intro hc0 hl0
      have d1 : wr.cell? ⟨h.g, 1, none⟩ = some (.int .u16 S.nx) := by rw [Hb.out.cell (heap_lt HH.out.box)]; exact c1
      have K25 := hide (order_any S.nx xs u3 wr (Bs.own Ho.out) (met_in Hmt.out) (by have := Hsz.out; have := Hc.out; omega))
      have Hl := hide hl0
      clear hc0 hl0
      go_wp2_with (go_at_call 25; refine K25.out.mono ?_; rintro e w4 ⟨v4, r4, rfl, ho4, hord, hb4⟩)
      go_ret
      exact ⟨v4, r4, rfl, ho4.mono Hb.out.size, met_end HM.out Hmt.out Hl.out hord, Hb.out.trans (hb4.mono Hb.out.size)⟩
    · intro x c kl y ps w3 cnt3 hkey hlk hv hat hrg3 hlt hg3 hs3 hen0
      obtain ⟨x', ex, rfl, hwx⟩ := Maps.keyOf_int_inv Try.underlying22 hkey
      cases ex
      have hen : (Instr.entry (.pointer (some ⟨rr, 0, none⟩))).run Try.prog w3 = .ok (.tuple #[.int .u16 x, c]) w3 := hen0
      obtain ⟨x0, x1⟩ := bounds_u16 hwx
      have hhas : has D (key x) = true := has_true_of_atKey hat
      have hrr : ∃ it, wr.heap[rr]? = some it ∧ ∀ cur, it ≠ Obj.cells cur 22 := by
        obtain ⟨_, _, _, _, _, _, _, _, _, hr, _⟩ := Hrg.out
        exact ⟨_, hr, fun cur e => by cases e⟩
      have ho3 : Ow w3 w.heap.size u3 xs := by
        refine World.ownsRow.kept Ho.out hg3 ?_
        cases hb : u3.ownBlock with
        | none => exact .inl rfl
        | some g =>
          refine .inr (fun e => ?_)
          obtain ⟨cur, hcur⟩ := ow_lt Ho.out g hb
          obtain ⟨it, h1, h2⟩ := hrr
          have : g = rr := by simpa using e
          rw [this, h1] at hcur
          cases hcur
          exact h2 _ rfl
      have hb3 : Below w.heap.size w w3 := Hb.out.grown hg3 Hb.out.size (fun k hk => by cases hk; exact hrB)
      have Ho3 := hide ho3
      have Hb3 := hide hb3
      have Hrg3 := hide hrg3
      have Hlt := hide hlt
      have Hhas := hide hhas
      clear hkey hlk hv hat hg3 hs3 hen0 ho3 hb3 hrr hrg3 hlt hhas hwx
      go_wp2_with (at_builtin; refine wpList_appG (Hb3.out.alloc Hb3.out.size _) (by rfl) _ _ rfl _ _ rfl rfl xs [x] (World.ownsRow.alloc Ho3.out _) (bs_one' _ _ _ rfl) (by have := Hsz.out; have := Hc.out; simp; omega) ?_; intro v5 w5 hown5 hg5 hb5; refine Hid.out ?_)
      refine hide ?_
      have hrg5 : w5.ranges Try.prog 22 raw h.mb rr S.n D (fun z => left z && !z.sameKey (key x)) cnt3 := by
        refine (Hrg3.out.alloc _).kept hg5 (fun e => ?_) (fun e => ?_)
        · obtain ⟨es, clock, _, _, _, hbm, _⟩ := Hrg3.out
          obtain ⟨cur, hcur⟩ := ow_lt Ho3.out h.mb e.symm
          rw [hbm] at hcur; cases hcur
        · obtain ⟨_, _, _, _, _, _, _, _, _, hr, _⟩ := Hrg3.out
          obtain ⟨cur, hcur⟩ := ow_lt Ho3.out rr e.symm
          rw [hr] at hcur; cases hcur
      have Hrg5 := hide hrg5
      have Ho5 := hide hown5
      have Hb5 := hide hb5
      clear hrg5 hown5 hg5 hb5
      go_wp2_with fail
      go_roundw
      case rel => exact ⟨_, cnt3, xs ++ [x], Hrg5, Ho5, hide (met_next Hmt.out x0 x1 Hhas.out), hide (by have := Hc.out; have := Hlt.out; simp; omega), Hb5⟩
      case measure =>
        rw [Hrg5.out.left_eq, Hrg.out.left_eq]
        exact Hlt.out
end Go.Proofs.Ytmbgcbbpkbaajaa
