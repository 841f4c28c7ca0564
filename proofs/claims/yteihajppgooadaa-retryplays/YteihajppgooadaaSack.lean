/- slices.IndexFunc with Ack's function; Ack. -/
import Derived.Test.YteihajppgooadaaSdel
import Derived.Test.YteihajppgooadaaSnew
namespace Go.Proofs.Yteihajppgooadaa
open Go.RowKit
set_option linter.unusedVariables false

set_option maxHeartbeats 1000000 in
/-- whether a piece has the number -/
theorem closure_any (s x sent ago : Int) (a : Option Addr) (l c q : Nat) (w : World) (hq : q < w.heap.size) (hcell : w.cell? ⟨q, 0, none⟩ = some (.int .u16 x)) :
    Calls Try.prog 36 #[.agg #[.int .u16 s, .slice a l c, .int .i64 sent, .int .i64 ago], .pointer (some ⟨q, 0, none⟩)] w fun e w' => e = .returned (.bool (decide (s = x))) ∧ Below w.heap.size w w' := by
  have hne : q ≠ w.heap.size := by omega
  have hB : Hid (∀ o, Below w.heap.size w (w.alloc o)) := hide (fun o => (Below.refl _ _).alloc (Nat.le_refl _) o)
  by_cases h : s = x
  · rw [decide_eq_true h]
    subst h
    go_enter Try.func36, Try.ntmps36
    go_wp2
    go_ret
    exact ⟨by simp, hB.out _⟩
  · rw [decide_eq_false h]
    go_enter Try.func36, Try.ntmps36
    go_wp2
    go_ret
    exact ⟨by simp [h], hB.out _⟩

/-- the place of the first piece of the number, or how many there are -/
def pix (first x : Int) (ps : List Pc) : Nat := ps.findIdx (fun p => decide (sq first p.n = x))
def pixI (first x : Int) (ps : List Pc) : Int := if pix first x ps < ps.length then (pix first x ps : Int) else -1

theorem pix_at {first x : Int} {ps : List Pc} {i : Nat} {p : Pc} (hi : ps[i]? = some p) (hp : sq first p.n = x) (hno : ∀ j q, j < i → ps[j]? = some q → sq first q.n ≠ x) : pix first x ps = i := by
  obtain ⟨hlt, he⟩ := List.getElem?_eq_some_iff.1 hi
  unfold pix
  rw [List.findIdx_eq hlt]
  refine ⟨by rw [he]; simpa using hp, fun j hj => ?_⟩
  have := hno j ps[j] hj (List.getElem?_eq_getElem (by omega))
  simpa using this
theorem pix_none {first x : Int} {ps : List Pc} (hno : ∀ j q, j < ps.length → ps[j]? = some q → sq first q.n ≠ x) : pix first x ps = ps.length := by
  unfold pix
  rw [List.findIdx_eq_length]
  intro p hp
  obtain ⟨j, hj, rfl⟩ := List.mem_iff_getElem.1 hp
  have := hno j _ hj (List.getElem?_eq_getElem hj)
  simpa using this

set_option maxRecDepth 100000 in
set_option maxHeartbeats 2000000 in
theorem index_any {w : World} {B : Nat} {first : Int} {v : Value} {ps : List Pc} (hL : Lies w B first v ps) (hm : ps.length ≤ 1000) (x : Int) (q : Nat) (hq : q < w.heap.size) (hcell : w.cell? ⟨q, 0, none⟩ = some (.int .u16 x)) :
    Calls Try.prog 35 #[v, .func (.func 36) #[] #[.pointer (some ⟨q, 0, none⟩)]] w fun e w' => e = .returned (.int .i64 (pixI first x ps)) ∧ Below w.heap.size w w' := by
  obtain ⟨a, c, rfl, _, _, _, hax⟩ := hL.form
  obtain ⟨n, hn⟩ : ∃ n, ps.length = n := ⟨_, rfl⟩
  rw [hn] at hm ⊢
  have HL := hide hL
  have Hn := hide hn
  have Hc := hide hcell
  have i0 : (n : Int) ≤ 1000 := by omega
  clear hL hn hcell
  go_enter Try.func35, Try.ntmps35
  go_wp2_with fail
  go_loopw [8] (fun i wr => ∃ k : Nat, k ≤ n ∧ i = .int .i64 k ∧ Hid (Below w.heap.size w wr) ∧ Hid (∀ j q, j < k → ps[j]? = some q → sq first q.n ≠ x)) (fun i _ => n - (intOf i).toNat)
  case atStart => exact ⟨0, by omega, rfl, hide (Below.refl _ _), hide (fun j q h => by omega)⟩
  case round =>
    obtain ⟨k, hk, rfl, HB, Hno⟩ := hrel
    by_cases hlt : k < n
    · obtain ⟨p, hp⟩ : ∃ p, ps[k]? = some p := ⟨_, List.getElem?_eq_getElem (by rw [Hn.out]; exact hlt)⟩
      have hL := HL.out
      obtain ⟨b, c', hv, _⟩ := hL.full (by rw [Hn.out]; omega)
      simp only [Value.slice.injEq] at hv
      obtain ⟨rfl, _, rfl⟩ := hv
      obtain ⟨d0, d1, d2, d3, _⟩ := (hL.keep HB.out).at k p hp
      have hqw : q < wr.heap.size := Nat.lt_of_lt_of_le hq HB.out.size
      have hcw : wr.cell? ⟨q, 0, none⟩ = some (.int .u16 x) := by rw [HB.out.cell hq]; exact Hc.out
      have K36 := hide (closure_any (sq first p.n) x p.sent p.ago p.a p.l p.c q wr hqw hcw)
      have j0 : (0 : Int) ≤ (k : Int) := by omega
      have j1 : (k : Int) < (n : Int) := by omega
      have Hp := hide hp
      clear hL hp hcw hqw
      by_cases hx : sq first p.n = x
      · have Hr := hide (pix_at Hp.out hx Hno.out)
        rw [decide_eq_true hx] at K36
        generalize sq first p.n = s at *
        clear hx
        go_wp2_with (go_at_call 36; refine K36.out.mono ?_; rintro e w2 ⟨rfl, B2⟩)
        go_ret
        refine ⟨?_, HB.out.trans (B2.mono HB.out.size)⟩
        unfold pixI
        rw [Hr.out, Hn.out, if_pos hlt]
        rfl
      · rw [decide_eq_false hx] at K36
        have Hx := hide hx
        have Hsq : Hid (sq first p.n = sq first p.n) := hide rfl
        clear hx
        obtain ⟨s, hs⟩ : ∃ s, sq first p.n = s := ⟨_, rfl⟩
        rw [hs] at K36 d0 Hx
        have Hs := hide hs
        clear hs Hsq
        go_wp2_with (go_at_call 36; refine K36.out.mono ?_; rintro e w2 ⟨rfl, B2⟩)
        have HB2 := hide (HB.out.trans (B2.mono HB.out.size))
        go_roundw
        case rel =>
          refine ⟨k + 1, by omega, by go_num, HB2, hide (fun j q' hj hq' => ?_)⟩
          by_cases e : j = k
          · subst e
            rw [Hp.out] at hq'
            cases hq'
            rw [Hs.out]
            exact Hx.out
          · exact Hno.out j q' (by omega) hq'
        case measure => simp [intOf]; omega
    · have hkn : k = n := by omega
      have Hr := hide (pix_none (first := first) (x := x) (ps := ps) (by rw [Hn.out, ← hkn]; exact Hno.out))
      have j1 : ¬ (k : Int) < (n : Int) := by omega
      clear hkn
      go_wp2_with fail
      go_ret
      refine ⟨?_, HB.out⟩
      unfold pixI
      rw [Hr.out, if_neg (by omega)]
      rfl

/-- a piece goes -/
def Sd.cut (S : Sd) (v : Value) (i j : Nat) : Sd := { S with v := v, ps := S.ps.take i ++ S.ps.drop j }

theorem cut_snd {w w1 w2 : World} {g B : Nat} {S : Sd} (H : Snd w g B S) (hB1 : Below w.heap.size w w1) {v' : Value} {i j : Nat} (hl : Lies w2 B S.first v' (S.ps.take i ++ S.ps.drop j)) (hg : w1.grownBy w2 S.v.ownBlock) (hv : v'.ownBlock = S.v.ownBlock) :
    Snd (w2.setCell ⟨g, 4, none⟩ v') g B (S.cut v' i j) ∧ Chg g S.v w (w2.setCell ⟨g, 4, none⟩ v') := by
  have hbox : w2.heap[g]? = some (.cells (boxS S) 79) := by
    rw [hg.block g (by have := heap_lt H.box; have := hB1.size; omega) (fun e => by
      obtain ⟨cur, hc, _⟩ := own_cells H.lies.row g e.symm
      rw [H.box] at hc; simp only [Option.some.injEq, Obj.cells.injEq] at hc; exact absurd hc.2.1 (show ¬ (79 : TypeId) = 83 by decide)), hB1.block g (heap_lt H.box)]
    exact H.box
  refine ⟨Snd.putV H.lim H.base hbox hl, ?_⟩
  have x : Chg g S.v w w2 := ⟨hg.os.trans hB1.os, hg.tape.trans hB1.tape, hg.output.trans hB1.output, Nat.le_trans hB1.size hg.size, fun k hk h1 h2 => by
    rw [hg.block k (by have := hB1.size; omega) (fun e => h2 e.symm), hB1.block k hk]⟩
  exact x.trans' (chg_box g 4 S.v v' w2)

set_option maxHeartbeats 1000000 in
theorem ack_dead {w : World} {g B : Nat} {S : Sd} (H : Snd w g B S) (hd : S.dead = true) (x : Int) : Calls Try.prog 17 #[.pointer (some ⟨g, 0, none⟩), .int .u16 x] w fun e w' => e = .returned (.int .i64 190) ∧ Below w.heap.size w w' := by
  obtain ⟨c0, c1, c2, c3, c4, c5⟩ := H.cells
  rw [hd] at c5
  have hB : Below w.heap.size w (w.alloc (.cells #[.int .u16 x] 22)) := (Below.refl _ _).alloc (Nat.le_refl _) _
  have d5 : (w.alloc (.cells #[.int .u16 x] 22)).cell? ⟨g, 5, none⟩ = some (.bool true) := by rw [hB.cell (heap_lt H.box)]; exact c5
  have HB := hide hB
  clear H hd c0 c1 c2 c3 c4 c5 hB
  go_enter Try.func17, Try.ntmps17
  go_wp2_with fail
  go_ret
  exact ⟨rfl, HB.out⟩

set_option maxHeartbeats 2000000 in
theorem ack_none {w : World} {g B : Nat} {S : Sd} (H : Snd w g B S) (hl : S.ps.length ≤ 1000) (hd : S.dead = false) (x : Int) (hx : pixI S.first x S.ps < 0) : Calls Try.prog 17 #[.pointer (some ⟨g, 0, none⟩), .int .u16 x] w fun e w' => e = .returned (.int .i64 4) ∧ Below w.heap.size w w' := by
  have hB : Below w.heap.size w (w.alloc (.cells #[.int .u16 x] 22)) := (Below.refl _ _).alloc (Nat.le_refl _) _
  have H1 := H.keep hB
  obtain ⟨c0, c1, c2, c3, c4, c5⟩ := H1.cells
  rw [hd] at c5
  have K35 := hide (index_any H1.lies hl x w.heap.size (by simp) (by simp))
  have HB := hide hB
  clear H hd c0 c1 c2 c3 hB H1
  generalize pixI S.first x S.ps = r at *
  generalize S.v = vp at *
  go_enter Try.func17, Try.ntmps17
  go_wp2_with (go_at_call 35; refine K35.out.mono ?_; rintro e w2 ⟨rfl, B2⟩)
  go_ret
  exact ⟨rfl, HB.out.trans (B2.mono HB.out.size)⟩

set_option maxRecDepth 100000 in
set_option maxHeartbeats 2000000 in
theorem ack_ok {w : World} {g B : Nat} {S : Sd} (H : Snd w g B S) (hl : S.ps.length ≤ 1000) (hd : S.dead = false) (x : Int) (hx : pix S.first x S.ps < S.ps.length) : Calls Try.prog 17 #[.pointer (some ⟨g, 0, none⟩), .int .u16 x] w fun e w' => e = .returned (.int .i64 0) ∧ ∃ v', Snd w' g B (S.cut v' (pix S.first x S.ps) (pix S.first x S.ps + 1)) ∧ Chg g S.v w w' ∧ v'.ownBlock = S.v.ownBlock := by
  have hB : Below w.heap.size w (w.alloc (.cells #[.int .u16 x] 22)) := (Below.refl _ _).alloc (Nat.le_refl _) _
  have H1 := H.keep hB
  obtain ⟨c0, c1, c2, c3, c4, c5⟩ := H1.cells
  rw [hd] at c5
  have K35 := hide (index_any H1.lies hl x w.heap.size (by simp) (by simp))
  have e35 : pixI S.first x S.ps = (pix S.first x S.ps : Int) := by unfold pixI; rw [if_pos hx]
  rw [e35] at K35
  have HB := hide hB
  have HH := hide H
  have HH1 := hide H1
  have Hl := hide hl
  have j0 : ¬ ((pix S.first x S.ps : Nat) : Int) < 0 := by omega
  have j1 : ((pix S.first x S.ps : Nat) : Int) ≤ 1000 := by omega
  have Hx := hide hx
  clear H hd c0 c1 c2 c3 hB H1 e35
  generalize pix S.first x S.ps = r at *
  go_enter Try.func17, Try.ntmps17
  go_upto_region 6 with (go_at_call 35; refine K35.out.mono ?_; rintro e w2 ⟨rfl, B2⟩)
  have B2' := HB.out.trans (B2.mono HB.out.size)
  have H2 := HH.out.keep B2'
  have HB2 := hide B2'
  obtain ⟨d0, d1, d2, d3, d4, d5⟩ := H2.cells
  have K37 := hide (delete_any H2.lies r (r + 1) (by omega) (by have := Hx.out; omega) Hl.out)
  have ej : ((r + 1 : Nat) : Int) = (r : Int) + 1 := by omega
  rw [ej] at K37
  clear c4 c5 d0 d1 d2 d3 d5 B2 B2' K35 H2 ej
  have hbox := HH.out.box
  have hne : Hid (some g ≠ S.v.ownBlock) := hide (fun e => by
      obtain ⟨cur, hc, _⟩ := own_cells HH.out.lies.row g e.symm
      rw [HH.out.box] at hc; simp only [Option.some.injEq, Obj.cells.injEq] at hc; exact absurd hc.2.1 (show ¬ (79 : TypeId) = 83 by decide))
  obtain ⟨vp, hvp⟩ : ∃ vp, S.v = vp := ⟨_, rfl⟩
  rw [hvp] at d4 K37 hne
  have Hvp := hide hvp
  clear hvp hbox
  go_wp2_with (go_at_call 37; refine K37.out.mono ?_; rintro e w3 ⟨v3, rfl, L3, G3, O3⟩; have hg3 : w3.heap[g]? = w.heap[g]? := (by rw [G3.block g (Nat.lt_of_lt_of_le (heap_lt HH.out.box) HB2.out.size) hne.out]; exact HB2.out.block g (heap_lt HH.out.box)); obtain ⟨a3, n3, rfl⟩ := L3.row.rd.form; have x4 : w3.cell? ⟨g, 4, none⟩ = some vp := (by rw [World.cell?_of_block (w := w) hg3]; exact HH.out.cells.2.2.2.2.1.trans (by rw [Hvp.out])); have x5 : w3.frozen? ⟨g, 4, none⟩ = false := (by rw [World.frozen?_of_block (w := w) hg3]; exact HH.out.cold 4); have HR := hide (cut_snd HH.out HB2.out L3 (by rw [Hvp.out]; exact G3) (by rw [Hvp.out]; exact O3)); have HO := hide O3; generalize (List.take r S.ps ++ List.drop (r + 1) S.ps).length = n4 at *; clear L3 G3 O3 hg3)
  go_ret
  exact ⟨rfl, _, HR.out.1, HR.out.2, by rw [Hvp.out]; exact HO.out⟩
end Go.Proofs.Yteihajppgooadaa
