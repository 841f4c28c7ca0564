/- The document's book: At, Open, State. -/
import Derived.Test.YtfmpipihjnpimaaBkh
namespace Go.Proofs.Ytfmpipihjnpimaa
open Go.RowKit
set_option linter.unusedVariables false

def enE : El Try.prog En where
  t := 26
  e := 69
  k := 4
  by' := 32
  z := .agg #[.int .i64 0, .int .i64 0, .int .i64 0, .int .i64 0]
  enc e := [.int .i64 e.r.id, .int .i64 e.r.st, .int .i64 e.r.tt, .int .i64 e.en]
  ht := Try.underlying26
  info := by kernel_rfl
  zc := rfl
  kpos := by omega
  bsm := by omega
  len _ := rfl
  one x v hv := by simp at hv; rcases hv with rfl | rfl | rfl | rfl <;> rfl
theorem en_at {w : World} {a : Option Addr} {n c : Nat} {l : List En} (h : enE.Rd w (.slice a n c) l) (i : Nat) (e : En) (hp : l[i]? = some e) : ∃ b off, a = some ⟨b, off, none⟩ ∧ w.cell? ⟨b, off + i * 4, none⟩ = some (.int .i64 e.r.id) ∧ w.cell? ⟨b, off + i * 4 + 1, none⟩ = some (.int .i64 e.r.st) ∧ w.cell? ⟨b, off + i * 4 + 2, none⟩ = some (.int .i64 e.r.tt) ∧ w.cell? ⟨b, off + i * 4 + 3, none⟩ = some (.int .i64 e.en) := by
  obtain ⟨b, off, h1, h2⟩ := h.at i e hp
  exact ⟨b, off, h1, h2 0 (by decide), h2 1 (by decide), h2 2 (by decide), h2 3 (by decide)⟩
/-- the place of an ID; -1: it was never in it -/
def atI (l : List En) (x : Int) : Int := if l.findIdx (fun e => e.r.id == x) < l.length then (l.findIdx (fun e => e.r.id == x) : Int) else -1
theorem atI_yes {l : List En} {x : Int} {i : Nat} {e : En} (hi : l[i]? = some e) (hp : e.r.id = x) (hno : ∀ j d, j < i → l[j]? = some d → d.r.id ≠ x) : atI l x = (i : Int) := by
  obtain ⟨hlt, he⟩ := List.getElem?_eq_some_iff.1 hi
  have : l.findIdx (fun e => e.r.id == x) = i := by
    rw [List.findIdx_eq hlt]
    refine ⟨by rw [he]; simpa using hp, fun j hj => ?_⟩
    have := hno j l[j] hj (List.getElem?_eq_getElem (by omega))
    simpa using this
  unfold atI
  rw [this, if_pos hlt]
theorem atI_no {l : List En} {x : Int} (hno : ∀ (j : Nat) d, j < l.length → l[j]? = some d → d.r.id ≠ x) : atI l x = -1 := by
  unfold atI
  rw [if_neg]
  have : l.findIdx (fun e => e.r.id == x) = l.length := by
    rw [List.findIdx_eq_length]
    intro c hc
    obtain ⟨j, hj, rfl⟩ := List.mem_iff_getElem.1 hc
    have := hno j _ hj (List.getElem?_eq_getElem hj)
    simpa using this
  omega
theorem atI_none {l : List En} {x : Int} (h : fnd l x = none) : atI l x = -1 := atI_no fun j d _ hd => (fnd_none.1 h) d (List.mem_of_getElem? hd)
theorem atI_some {l : List En} {x : Int} {e : En} (h : fnd l x = some e) : ∃ i : Nat, atI l x = (i : Int) ∧ l[i]? = some e := by
  unfold fnd at h
  rw [List.find?_eq_some_iff_getElem] at h
  obtain ⟨h1, i, hi, h2, h3⟩ := h
  have he : l[i]? = some e := by rw [List.getElem?_eq_getElem hi, h2]
  refine ⟨i, atI_yes he (by simpa using h1) (fun j d hj hd => ?_), he⟩
  have := h3 j hj
  rw [List.getElem?_eq_getElem (by omega)] at hd
  cases hd
  simpa using this

section
variable {aA aD : Option Addr} {nA cA nD cD : Nat}
set_option maxRecDepth 100000 in
set_option maxHeartbeats 2000000 in
theorem at_any (l : List En) (x : Int) (w : World) (hn : l.length = nA) (hv : enE.Rd w (.slice aA nA cA) l) (hl : nA ≤ 100000) :
    Calls Try.prog 25 #[.agg #[.slice aA nA cA, .slice aD nD cD], .int .i64 x] w fun r w' => r = .returned (.int .i64 (atI l x)) ∧ Below w.heap.size w w' := by
  have yes : Hid (∀ (k : Nat) (p : En), l[k]? = some p → p.r.id = x → (∀ j d, j < k → l[j]? = some d → d.r.id ≠ x) → atI l x = (k : Int)) := hide (fun k p h1 h2 h3 => atI_yes h1 h2 h3)
  have no : Hid ((∀ (j : Nat) (d : En), j < nA → l[j]? = some d → d.r.id ≠ x) → atI l x = -1) := hide (fun h => atI_no (by rw [hn]; exact h))
  generalize atI l x = res at *
  have hB : Below w.heap.size w (w.alloc (.cells #[.slice aA nA cA, .slice aD nD cD] 29)) := below_new w _
  have Hn := hide hn
  have HV := hide (hv.keep hB)
  have HB := hide hB
  have hb : (w.alloc (.cells #[.slice aA nA cA, .slice aD nD cD] 29)).heap[w.heap.size]? = some (.cells #[.slice aA nA cA, .slice aD nD cD] 29) := heap_new w _
  have c0 : (w.alloc (.cells #[.slice aA nA cA, .slice aD nD cD] 29)).cell? ⟨w.heap.size, 0, none⟩ = some (.slice aA nA cA) := (cells_at hb 0).1
  have i0 : (nA : Int) ≤ 100000 := by omega
  clear hn hv hl hB hb
  go_enter Try.func25, Try.ntmps25
  go_upto_region 1 with fail
  generalize w.alloc (.cells #[.slice aA nA cA, .slice aD nD cD] 29) = W1 at *
  go_wp2_with fail
  go_loopw [9] (fun v9 wr => ∃ k : Nat, k ≤ nA ∧ v9 = .int .i64 k ∧ wr = W1 ∧ Hid (∀ j d, j < k → l[j]? = some d → d.r.id ≠ x)) (fun v9 _ => nA - (intOf v9).toNat)
  case atStart => exact ⟨0, by omega, rfl, rfl, hide (fun j q h => by omega)⟩
  case round =>
    obtain ⟨k, hk, rfl, rfl, HX⟩ := hrel
    by_cases hlt : k < nA
    · obtain ⟨p, hp⟩ : ∃ p, l[k]? = some p := ⟨_, List.getElem?_eq_getElem (by rw [Hn.out]; exact hlt)⟩
      obtain ⟨b, off, rfl, d0, _, _, _⟩ := en_at HV.out k p hp
      have j0 : (0 : Int) ≤ (k : Int) := by omega
      have j1 : (k : Int) < (nA : Int) := by omega
      have Hp := hide hp
      clear hp
      by_cases he : p.r.id = x
      · have e1 := yes.out k p Hp.out he HX.out
        have hq : (p.r.id == x) = true := beq_iff_eq.2 he
        subst e1
        clear he
        go_wp2_with fail
        go_ret
        exact ⟨rfl, HB.out⟩
      · have hq : (p.r.id == x) = false := beq_eq_false_iff_ne.2 he
        have HX1 : Hid (∀ j d, j < k + 1 → l[j]? = some d → d.r.id ≠ x) := hide (fun j d hj hd => by
          rcases Nat.lt_or_ge j k with g | g
          · exact HX.out j d g hd
          · obtain rfl : j = k := by omega
            rw [Hp.out] at hd; cases hd; exact he)
        clear he
        go_wp2_with fail
        go_roundw
        case rel => exact ⟨k + 1, by omega, by go_num, by first | rfl | trivial, HX1⟩
        case measure => simp [intOf]; omega
    · obtain rfl : k = nA := by omega
      have j1 : ¬ (k : Int) < (k : Int) := by omega
      have e1 := no.out HX.out
      subst e1
      go_wp2_with fail
      go_ret
      exact ⟨rfl, HB.out⟩

set_option maxRecDepth 100000 in
set_option maxHeartbeats 2000000 in
theorem ropen_any (l : List En) (w : World) (hn : l.length = nA) (hv : enE.Rd w (.slice aA nA cA) l) (hl : nA ≤ 10000) :
    Calls Try.prog 27 #[.agg #[.slice aA nA cA, .slice aD nD cD]] w fun r w' => ∃ a' c', r = .returned (.slice a' (ops l).length c') ∧ rqE.Own w' w.heap.size (.slice a' (ops l).length c') (ops l) ∧ Below w.heap.size w w' := by
  obtain ⟨w0, rfl⟩ : ∃ w0, w0 = w := ⟨_, rfl⟩
  have hB : Below w0.heap.size w0 (w0.alloc (.cells #[.slice aA nA cA, .slice aD nD cD] 29)) := below_new w0 _
  have Hn := hide hn
  have HV : Hid (∀ W, Below w0.heap.size w0 W → enE.Rd W (.slice aA nA cA) l) := hide (fun W h => hv.keep h)
  have hb : (w0.alloc (.cells #[.slice aA nA cA, .slice aD nD cD] 29)).heap[w0.heap.size]? = some (.cells #[.slice aA nA cA, .slice aD nD cD] 29) := heap_new w0 _
  have HB := hide hB
  have Hsz : Hid ((w0.alloc (.cells #[.slice aA nA cA, .slice aD nD cD] 29)).heap.size = w0.heap.size + 1) := hide (by simp)
  have c0 : (w0.alloc (.cells #[.slice aA nA cA, .slice aD nD cD] 29)).cell? ⟨w0.heap.size, 0, none⟩ = some (.slice aA nA cA) := (cells_at hb 0).1
  have Hb := hide hb
  have Hl := hide hl
  have i0 : (nA : Int) ≤ 10000 := by omega
  clear hn hv hl hB hb
  go_enter Try.func27, Try.ntmps27
  go_upto_region 1 with fail
  generalize w0.alloc (.cells #[.slice aA nA cA, .slice aD nD cD] 29) = W1 at *
  obtain ⟨bb, hbb⟩ : ∃ bb, w0.heap.size = bb := ⟨_, rfl⟩
  rw [hbb] at c0 ⊢
  have Hbb := hide hbb
  clear hbb
  go_wp2_with fail
  go_loopw [3, 8] (fun v3 v8 wr => ∃ (k : Nat) (v : Value), k ≤ nA ∧ v = v3 ∧ v8 = .int .i64 k ∧ Hid (rqE.Own wr (w0.heap.size + 1) v (ops (l.take k))) ∧ Hid (Below w0.heap.size w0 wr) ∧ Hid (Below (w0.heap.size + 1) W1 wr)) (fun _ v8 _ => nA - (intOf v8).toNat)
  case atStart => exact ⟨0, _, by omega, rfl, rfl, hide (El.Own.nil _ _ _), HB, hide (Below.refl _ _)⟩
  case round =>
    obtain ⟨k, v, hk, hv, rfl, HO, HB1, HB2⟩ := hrel
    subst hv
    have hcw : wr.heap[w0.heap.size]? = some (.cells #[.slice aA nA cA, .slice aD nD cD] 29) := by rw [HB2.out.block _ (by omega)]; exact Hb.out
    have c0 : wr.cell? ⟨bb, 0, none⟩ = some (.slice aA nA cA) := by rw [← Hbb.out]; exact (cells_at hcw 0).1
    clear hcw
    by_cases hlt : k < nA
    · obtain ⟨p, hp⟩ : ∃ p, l[k]? = some p := ⟨_, List.getElem?_eq_getElem (by rw [Hn.out]; exact hlt)⟩
      obtain ⟨b, off, rfl, d0, d1, d2, d3⟩ := en_at (HV.out wr HB1.out) k p hp
      obtain ⟨⟨i, s, t⟩, en⟩ := p
      simp only at d0 d1 d2 d3
      have j0 : (0 : Int) ≤ (k : Int) := by omega
      have j1 : (k : Int) < (nA : Int) := by omega
      by_cases he : en = 1
      · subst he
        have HT : Hid (ops (l.take k) ++ [⟨i, s, t⟩] = ops (l.take (k + 1))) := hide (by rw [List.take_add_one, hp]; simp only [Option.toList_some]; rw [ops_add])
        have HR := hide (rq_new wr ⟨i, s, t⟩)
        have HB3 := hide (HB1.out.alloc HB1.out.size (.cells #[.int .i64 i, .int .i64 s, .int .i64 t] 31))
        have hsz2 : w0.heap.size + 1 ≤ wr.heap.size := by rw [← Hsz.out]; exact HB2.out.size
        have HB4 := hide (HB2.out.alloc hsz2 (.cells #[.int .i64 i, .int .i64 s, .int .i64 t] 31))
        have HO1 : Hid (rqE.Own (wr.alloc (.cells #[.int .i64 i, .int .i64 s, .int .i64 t] 31)) (w0.heap.size + 1) v (ops (l.take k))) := hide (HO.out.keep (below_new wr _))
        have HN : Hid ((ops (l.take k)).length + [(⟨i, s, t⟩ : Rq)].length ≤ 1000000) := hide (by
          have h1 : (ops (l.take k)).length ≤ (l.take k).length := by unfold ops; rw [List.length_map]; exact List.length_filter_le _ _
          have h2 : (l.take k).length ≤ k := by rw [List.length_take]; omega
          have := Hl.out
          simp only [List.length_cons, List.length_nil]; omega)
        have HS3 : Hid (w0.heap.size + 1 ≤ (wr.alloc (.cells #[.int .i64 i, .int .i64 s, .int .i64 t] 31)).heap.size) := hide (by simp; omega)
        have HG : Hid (∀ w2 : World, (wr.alloc (.cells #[.int .i64 i, .int .i64 s, .int .i64 t] 31)).grownBy w2 v.ownBlock → Below w0.heap.size w0 w2 ∧ Below (w0.heap.size + 1) W1 w2) := hide (fun w2 hg => by
          have hge : ∀ k, v.ownBlock = some k → w0.heap.size + 1 ≤ k := fun k hk => HO1.out.ge k hk
          exact ⟨(Frm.of_grown hg).below HB3.out (by have := HS3.out; omega) (fun k hk => by have := hge k hk; omega), (Frm.of_grown hg).below HB4.out HS3.out hge⟩)
        clear hp hsz2 HO
        go_wp2_with (at_builtin; refine rqE.wpB (B := w0.heap.size + 1) HS3.out (by rfl) _ _ rfl _ _ rfl rfl _ [⟨i, s, t⟩] HO1.out HR.out HN.out ?_; intro v1 w2 ho hg hs; rw [HT.out] at ho; have Ho := hide ho; obtain ⟨q1, q2⟩ := HG.out w2 hg; have HQ1 := hide q1; have HQ2 := hide q2; clear ho hg hs q1 q2)
        go_roundw
        case rel => exact ⟨k + 1, _, by omega, rfl, by go_num, Ho, HQ1, HQ2⟩
        case measure => simp [intOf]; omega
      · have hq : (en == 1) = false := beq_eq_false_iff_ne.2 he
        have HT : Hid (ops (l.take (k + 1)) = ops (l.take k)) := hide (by rw [List.take_add_one, hp]; simp [ops, he])
        clear hp he
        go_wp2_with fail
        go_roundw
        case rel => exact ⟨k + 1, v, by omega, rfl, by go_num, hide (by rw [HT.out]; exact HO.out), HB1, HB2⟩
        case measure => simp [intOf]; omega
    · obtain rfl : k = nA := by omega
      have j1 : ¬ (k : Int) < (k : Int) := by omega
      have ho := HO.out
      rw [List.take_of_length_le (by rw [Hn.out]; omega)] at ho
      obtain ⟨a', c', e⟩ := ho.rd.form
      subst e
      have Ho := hide (ho.mono (show w0.heap.size ≤ w0.heap.size + 1 by omega))
      clear ho HO
      go_wp2_with fail
      go_ret
      rw [← Hbb.out]
      exact ⟨_, _, rfl, Ho.out, HB1.out⟩

set_option maxRecDepth 100000 in
set_option maxHeartbeats 2000000 in
theorem rstate_any (l : List En) (D : List Int) (x : Int) (w : World) (hn : l.length = nA) (hv : enE.Rd w (.slice aA nA cA) l) (hl : nA ≤ 10000) :
    Calls Try.prog 17 #[.agg #[.slice aA nA cA, .slice aD nD cD], .int .i64 x] w fun r w' => r = .returned (.int .i64 (Bk.sta ⟨l, D⟩ x)) ∧ Below w.heap.size w w' := by
  have hB : Below w.heap.size w (w.alloc (.cells #[.slice aA nA cA, .slice aD nD cD] 29)) := below_new w _
  have hb : (w.alloc (.cells #[.slice aA nA cA, .slice aD nD cD] 29)).heap[w.heap.size]? = some (.cells #[.slice aA nA cA, .slice aD nD cD] 29) := heap_new w _
  have c0 : (w.alloc (.cells #[.slice aA nA cA, .slice aD nD cD] 29)).cell? ⟨w.heap.size, 0, none⟩ = some (.slice aA nA cA) := (cells_at hb 0).1
  have c1 : (w.alloc (.cells #[.slice aA nA cA, .slice aD nD cD] 29)).cell? ⟨w.heap.size, 1, none⟩ = some (.slice aD nD cD) := (cells_at hb 1).1
  have KA := hide (at_any (aA := aA) (nA := nA) (cA := cA) (aD := aD) (nD := nD) (cD := cD) l x (w.alloc (.cells #[.slice aA nA cA, .slice aD nD cD] 29)) hn (hv.keep hB) (by omega))
  have HAf : Hid (∀ w', Below (w.alloc (.cells #[.slice aA nA cA, .slice aD nD cD] 29)).heap.size (w.alloc (.cells #[.slice aA nA cA, .slice aD nD cD] 29)) w' → Below w.heap.size w w' ∧ w'.heap[w.heap.size]? = some (.cells #[.slice aA nA cA, .slice aD nD cD] 29) ∧ enE.Rd w' (.slice aA nA cA) l) := hide (fun w' h => by
    have h2 : Below w.heap.size w w' := (Frm.of_below (f := fun _ => False) h).below hB (by simp) (fun _ q => q.elim)
    exact ⟨h2, by rw [h.block _ (by simp)]; exact hb, hv.keep h2⟩)
  have i0 : (nA : Int) ≤ 10000 := by omega
  cases hf : fnd l x with
  | none =>
    have e1 : Bk.sta ⟨l, D⟩ x = 0 := by unfold Bk.sta; rw [hf]
    rw [e1]
    rw [atI_none hf] at KA
    clear hv hl hB hb hn hf e1
    go_enter Try.func17, Try.ntmps17
    go_wp2_with (go_at_call 25; refine KA.out.mono ?_; rintro e w2 ⟨rfl, hb2⟩; have HB2 := hide (HAf.out w2 hb2); clear hb2)
    go_ret
    exact ⟨rfl, HB2.out.1⟩
  | some e =>
    have e1 : Bk.sta ⟨l, D⟩ x = e.en := Bk.sta_of hf
    rw [e1]
    obtain ⟨i, hi, hg⟩ := atI_some hf
    rw [hi] at KA
    have hin : i < nA := by rw [← hn]; exact idx_lt hg
    have j0 : (0 : Int) ≤ (i : Int) := by omega
    have j1 : (i : Int) < (nA : Int) := by omega
    have Hg := hide hg
    clear hv hl hB hb hn hf e1 hi hg
    go_enter Try.func17, Try.ntmps17
    go_upto_region 4 with (go_at_call 25; refine KA.out.mono ?_; rintro e w2 ⟨rfl, hb2⟩; have HB2 := hide (HAf.out w2 hb2); clear hb2)
    have c2 : w2.cell? ⟨w.heap.size, 0, none⟩ = some (.slice aA nA cA) := (cells_at HB2.out.2.1 0).1
    obtain ⟨b, off, rfl, _, _, _, d3⟩ := en_at HB2.out.2.2 i e Hg.out
    go_wp2_with fail
    go_ret
    exact ⟨rfl, HB2.out.1⟩
end
end Go.Proofs.Ytfmpipihjnpimaa
