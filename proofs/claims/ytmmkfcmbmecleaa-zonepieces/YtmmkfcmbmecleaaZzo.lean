/- zonesOf, Zones; the document's Zone. -/
import Derived.Test.YtmmkfcmbmecleaaZco
import Derived.Test.YtmmkfcmbmecleaaFro
import Derived.BigQuiet
namespace Go.Proofs.Ytmmkfcmbmecleaa
open Go.RowKit
set_option linter.unusedVariables false

/-- the zone of a device -/
def dz (ns : List Nd) (es : List Ed) (d : Int) : Int := ((ns[((es[(d - 1).toNat]?.getD (0, 0)).2).toNat]?).map (·.zone)).getD 0
/-- whether a number is a device's -/
def dOk (es : List Ed) (d : Int) : Bool := decide (1 ≤ d ∧ d ≤ es.length)

theorem dz_at {ns : List Nd} {es : List Ed} {n : Nat} (hn : ns.length = n) (hE : inB n es) {d : Int} (hd : dOk es d = true) :
    ∃ (i k : Nat) (e : Ed) (p : Nd), d = (i : Int) + 1 ∧ es[i]? = some e ∧ e.2 = (k : Int) ∧ k < n ∧ ns[k]? = some p ∧ p.zone = dz ns es d := by
  have h := of_decide_eq_true hd
  obtain ⟨i, rfl⟩ : ∃ i : Nat, d = (i : Int) + 1 := ⟨(d - 1).toNat, by omega⟩
  have hi : i < es.length := by omega
  have he : es[i]? = some es[i] := List.getElem?_eq_getElem hi
  obtain ⟨_, _, h3, h4⟩ := hE es[i] (List.getElem_mem hi)
  obtain ⟨k, hk⟩ : ∃ k : Nat, es[i].2 = (k : Int) := ⟨es[i].2.toNat, by omega⟩
  have hkn : k < n := by omega
  have hp : ns[k]? = some (ns[k]'(by omega)) := List.getElem?_eq_getElem (by omega)
  refine ⟨i, k, es[i], _, rfl, he, hk, hkn, hp, ?_⟩
  unfold dz
  rw [show ((i : Int) + 1 - 1).toNat = i by omega, he]
  simp only [Option.getD_some]
  rw [hk, show ((k : Int)).toNat = k by omega, hp]
  rfl

theorem map_set_step {f : Int → Int} {path l : List Int} {i : Nat} {x : Int} (hx : path[i]? = some x) (hl : l.length = path.length) (h : ∀ j y, j < i → path[j]? = some y → l[j]? = some (f y)) : ∀ j y, j < i + 1 → path[j]? = some y → (l.set i (f x))[j]? = some (f y) := fun j y hj hy => by
  rw [List.getElem?_set]
  by_cases e : i = j
  · subst e
    rw [if_pos rfl, if_pos (by rw [hl]; exact idx_lt hx)]
    rw [hx] at hy; cases hy; rfl
  · rw [if_neg e]; exact h j y (by omega) hy
theorem map_full {f : Int → Int} {path l : List Int} (hl : l.length = path.length) (h : ∀ j y, j < path.length → path[j]? = some y → l[j]? = some (f y)) : l = path.map f := by
  apply List.ext_getElem?
  intro j
  rcases Nat.lt_or_ge j path.length with g | g
  · have hy : path[j]? = some path[j] := List.getElem?_eq_getElem g
    rw [h j _ g hy, List.getElem?_map, hy]; rfl
  · rw [List.getElem?_eq_none (by rw [hl]; exact g), List.getElem?_eq_none (by simpa using g)]

/-- what zonesOf tells -/
def ZP (ok : Bool) (zs : List Int) (B : Nat) (u : Value) (x : Int) (w' : World) : Prop := (ok = true ∧ x = 0 ∧ intE.Own w' B u zs) ∨ (ok = false ∧ x = 1 ∧ u = .slice none 0 0)

set_option maxRecDepth 100000 in
set_option maxHeartbeats 8000000 in
theorem zonesOf_any (a a' aP : Option Addr) (c c' cP n m k : Nat) (ns : List Nd) (es : List Ed) (path : List Int) (w : World) (hL : Ly w a a' c c' n m ns es) (hk : path.length = k) (hP : intE.Rd w (.slice aP k cP) path) (hk4 : k ≤ 1000) :
    Calls Try.prog 31 #[.agg #[.slice a n c, .slice a' m c'], .slice aP k cP] w fun e w' => (∃ u x, e = .returned (.tuple #[u, .int .i64 x]) ∧ ZP (path.all (dOk es)) (path.map (dz ns es)) w.heap.size u x w') ∧ Below w.heap.size w w' := by
  obtain ⟨W0, hW0⟩ : ∃ W0, w.alloc (.cells #[.slice a n c, .slice a' m c'] 25) = W0 := ⟨_, rfl⟩
  have bA : Below w.heap.size w W0 := by rw [← hW0]; exact (Below.refl _ _).alloc (Nat.le_refl _) _
  have hbox : W0.heap[w.heap.size]? = some (.cells #[.slice a n c, .slice a' m c'] 25) := by rw [← hW0]; exact heap_new _ _
  have HA := hide bA
  have Hbox := hide hbox
  have HL : Hid (∀ W, Below W0.heap.size W0 W → Ly W a a' c c' n m ns es) := hide (fun W hb => (hL.keep bA).keep hb)
  have HP : Hid (∀ W, Below W0.heap.size W0 W → intE.Rd W (.slice aP k cP) path) := hide (fun W hb => (hP.keep bA).keep hb)
  obtain ⟨W1, hm1, hown, hbm, _⟩ := made_ints W0 k (by omega)
  have Hbm := hide hbm
  obtain ⟨g, hg⟩ : ∃ g, W0.heap.size = g := ⟨_, rfl⟩
  rw [hg] at hm1
  have HO1 : Hid (intE.Own W1 W0.heap.size (.slice (some ⟨g, 0, none⟩) k k) (List.replicate k 0)) := hide (by rw [← hg]; exact hown)
  have Hg := hide hg
  have Hk := hide hk
  have Hn := hide hL.hn
  have Hm := hide hL.hm
  have HE := hide hL.hE
  have i0 : (k : Int) ≤ 1000 := by omega
  have i1 : (n : Int) ≤ 1000 := by have := hL.n4; omega
  have i2 : (m : Int) ≤ 1000 := by have := hL.m4; omega
  have no : Hid (∀ (j : Nat) (x : Int), path[j]? = some x → dOk es x = false → path.all (dOk es) = false) := hide (fun j x h e => by
    rw [List.all_eq_false]
    exact ⟨x, List.mem_of_getElem? h, by simp [e]⟩)
  have yes : Hid ((∀ j : Nat, j < k → ∀ x, path[j]? = some x → dOk es x = true) → path.all (dOk es) = true) := hide (fun h => by
    rw [List.all_eq_true]
    intro x hx
    obtain ⟨j, hj⟩ := List.getElem?_of_mem hx
    exact h j (by have := idx_lt hj; omega) x hj)
  have Hful : Hid (∀ l : List Int, l.length = k → (∀ j y, j < k → path[j]? = some y → l[j]? = some (dz ns es y)) → l = path.map (dz ns es)) := hide (fun l h1 h2 => map_full (by rw [h1, hk]) (fun j y hj hy => h2 j y (by omega) hy))
  generalize path.all (dOk es) = ok at *
  generalize path.map (dz ns es) = zsf at *
  clear hL hP bA hbox hown hbm hk hg hk4
  go_enter Try.func31, Try.ntmps31
  go_upto_region 1 with fail
  clear hW0
  go_upto_region 3 with fail
  clear hm1
  go_loopw [15] (fun v15 wr => ∃ (i : Nat) (l : List Int), v15 = .int .i64 i ∧ i ≤ k ∧ Hid (Below W0.heap.size W0 wr) ∧ Hid (intE.Own wr W0.heap.size (.slice (some ⟨g, 0, none⟩) k k) l) ∧ Hid (l.length = k) ∧ Hid (∀ j y, j < i → path[j]? = some y → l[j]? = some (dz ns es y)) ∧ Hid (∀ j : Nat, j < i → ∀ x, path[j]? = some x → dOk es x = true)) (fun v15 _ => k - (intOf v15).toNat)
  case atStart => exact ⟨0, _, rfl, Nat.zero_le _, Hbm, HO1, hide (by simp), hide (fun j y hj => by omega), hide (fun j hj => by omega)⟩
  case round =>
    clear HO1 Hbm
    obtain ⟨i, l, rfl, hi, HB, HO, Hlen, HX, HK⟩ := hrel
    obtain ⟨b0, b1⟩ := layc Hbox.out HB.out
    by_cases hlt : i < k
    · obtain ⟨x, hx⟩ : ∃ x, path[i]? = some x := ⟨_, List.getElem?_eq_getElem (by rw [Hk.out]; exact hlt)⟩
      obtain ⟨bp, offp, haP, c0⟩ := int_at (HP.out _ HB.out) i x hx
      subst haP
      have g0 : (0 : Int) ≤ (i : Int) := by omega
      have g1 : (i : Int) < (k : Int) := by omega
      have Hx := hide hx
      clear hx
      cases hd : dOk es x with
      | false =>
        have e1 := no.out i x Hx.out hd
        subst e1
        have hdd := of_decide_eq_false hd
        rw [Hm.out] at hdd
        have HB2 := hide (HA.out.trans (HB.out.mono HA.out.size))
        have Hfin : Hid (∀ W, ZP false zsf w.heap.size (.slice none 0 0) 1 W) := hide (fun W => .inr ⟨rfl, rfl, rfl⟩)
        clear hd
        by_cases g2 : x < 1
        · clear hdd
          go_wp2_with fail
          go_ret2
          exact ⟨⟨_, _, rfl, Hfin.out _⟩, HB2.out⟩
        · have g3 : x > (m : Int) := by omega
          clear hdd
          go_wp2_with fail
          go_ret2
          exact ⟨⟨_, _, rfl, Hfin.out _⟩, HB2.out⟩
      | true =>
        obtain ⟨j, q, e, p, hxe, he, hq, hqn, hp, hz⟩ := dz_at Hn.out HE.out hd
        have hdd := of_decide_eq_true hd
        rw [Hm.out] at hdd
        obtain ⟨be, offe, hae, _, d1⟩ := ed_at (HL.out _ HB.out).hu j e he
        obtain ⟨bn, offn, han, _, _, d3⟩ := nd_at (HL.out _ HB.out).hv q p hp
        rw [hq] at d1
        rw [hz] at d3
        subst hae
        subst han
        have HX1 := hide (map_set_step (f := dz ns es) Hx.out (by rw [Hlen.out, Hk.out]) HX.out)
        have HK1 : Hid (∀ j : Nat, j < i + 1 → ∀ x, path[j]? = some x → dOk es x = true) := hide (fun j' hj' x' hx' => by
          rcases Nat.lt_or_ge j' i with g | g
          · exact HK.out j' g x' hx'
          · obtain rfl : j' = i := by omega
            rw [Hx.out] at hx'; cases hx'; exact hd)
        obtain ⟨o0, o1⟩ := HO.out.at1 (Value.int .i64) (fun _ => rfl) rfl i (l[i]'(by rw [Hlen.out]; exact hlt)) (List.getElem?_eq_getElem (by rw [Hlen.out]; exact hlt))
        generalize l[i]'(by rw [Hlen.out]; exact hlt) = ov at o0
        have HO2 := hide (HO.out.set (Value.int .i64) (fun _ => rfl) rfl i (dz ns es x))
        have HB2 : Hid (∀ u, Below W0.heap.size W0 (wr.setCell ⟨g, i, none⟩ u)) := hide (fun u => HB.out.setCell (p := ⟨g, i, none⟩) (by rw [Hg.out]; exact Nat.le_refl _) u)
        have Hlen2 : Hid ((l.set i (dz ns es x)).length = k) := hide (by rw [List.length_set]; exact Hlen.out)
        have x1 : ¬ (x < 1) := by omega
        have x2 : ¬ (x > (m : Int)) := by omega
        subst hxe
        generalize dz ns es ((j : Int) + 1) = dv at *
        have j0 : (0 : Int) ≤ (j : Int) := by omega
        have j1 : (j : Int) < (m : Int) := by omega
        have q0 : ¬ ((q : Int) < 0) := by omega
        have q1 : ¬ ((q : Int) ≥ (n : Int)) := by omega
        have q2 : (0 : Int) ≤ (q : Int) := by omega
        have q3 : (q : Int) < (n : Int) := by omega
        have jj : (j : Int) + 1 - 1 = (j : Int) := by omega
        clear hd hdd he hp hq hz hqn
        go_wp2_with fail
        go_roundw
        case rel => exact ⟨i + 1, _, by go_num, by omega, hide (HB2.out _), HO2, Hlen2, HX1, HK1⟩
        case measure => simp [intOf]; omega
    · obtain rfl : i = k := by omega
      have g1 : ¬ (i : Int) < (i : Int) := by omega
      have e1 := yes.out HK.out
      subst e1
      have HB2 := hide (HA.out.trans (HB.out.mono HA.out.size))
      have Hfin : Hid (ZP true zsf w.heap.size (.slice (some ⟨g, 0, none⟩) i i) 0 wr) := hide (.inl ⟨rfl, rfl, by
        rw [← Hful.out l Hlen.out HX.out]
        exact HO.out.mono HA.out.size⟩)
      go_wp2_with fail
      go_ret2
      exact ⟨⟨_, _, rfl, Hfin.out⟩, HB2.out⟩
end Go.Proofs.Ytmmkfcmbmecleaa
