/- The document's Take, where the piece comes. -/
import Derived.Test.YtmbgcbbpkbaajaaRYes
import Derived.Test.YtmbgcbbpkbaajaaExm
namespace Go.Proofs.Ytmbgcbbpkbaajaa
open Go.RowKit
set_option linter.unusedVariables false

theorem heap_set' {w : World} {g i : Nat} {C : Array Value} {t : TypeId} (h : w.heap[g]? = some (.cells C t)) (u : Value) : (w.setCell ⟨g, i, none⟩ u).heap[g]? = some (.cells (C.setIfInBounds i u) t) := by
  simp [World.setCell, Array.getElem?_modify, h]
theorem cells_of {w : World} {g : Nat} {C : Array Value} {t : TypeId} (h : w.heap[g]? = some (.cells C t)) (i : Nat) : w.cell? ⟨g, i, none⟩ = C[i]? ∧ w.frozen? ⟨g, i, none⟩ = false := by
  constructor
  · unfold World.cell?
    simp only [h]
    rfl
  · unfold World.frozen?
    simp [h]

/-- the document's intake in a box -/
def boxOf (win nx : Int) (vc vq : Value) : Obj := .cells #[.int .i64 win, .int .u16 nx, vc, vq] 32
def resOf : Obj := .cells #[.int .i64 0, .int .u16 0, .slice none 0 0, .slice none 0 0] 32

theorem piece_new (w : World) (s : Int) (d : ByteArray) (g : Nat) (hg : g = w.heap.size) : piecesE.Rd (w.alloc (.cells #[.int .u16 s, .string d] 65)) (.slice (some ⟨g, 0, none⟩) 1 1) [(s, d)] := by
  subst hg
  refine .inr ⟨_, 1, rfl, fun i hi => ?_⟩
  rw [addr_plain, Nat.zero_add]
  have e : (w.alloc (.cells #[.int .u16 s, .string d] 65)).heap[w.heap.size]? = some (.cells #[.int .u16 s, .string d] 65) := by
    show (w.heap.push _)[w.heap.size]? = _
    simp
  unfold World.cell?
  simp only [e]
  have : i < 2 := by simpa [piecesE] using hi
  match i, this with
  | 0, _ => rfl
  | 1, _ => rfl

theorem str_new (w : World) (d : ByteArray) (g : Nat) (hg : g = w.heap.size) : strsE.Rd (w.alloc (.cells #[.string d] 9)) (.slice (some ⟨g, 0, none⟩) 1 1) [d] := by
  subst hg
  refine .inr ⟨_, 1, rfl, fun i hi => ?_⟩
  rw [addr_plain, Nat.zero_add]
  have e : (w.alloc (.cells #[.string d] 9)).heap[w.heap.size]? = some (.cells #[.string d] 9) := by
    show (w.heap.push _)[w.heap.size]? = _
    simp
  unfold World.cell?
  simp only [e]
  have : i < 1 := by simpa [strsE] using hi
  match i, this with
  | 0, _ => rfl

/-- a slice stays while another block is written -/
theorem kept_rd {α : Type} {E : El Try.prog α} {w w' : World} {g n cap : Nat} {row : Option Nat} {xs : List α} (h : E.Rd w (.slice (some ⟨g, 0, none⟩) n cap) xs) (hg : w.grownBy w' row) (hne : row ≠ some g) : E.Rd w' (.slice (some ⟨g, 0, none⟩) n cap) xs := by
  rcases h with h | ⟨x, c, h1, h2⟩
  · exact .inl h
  · refine .inr ⟨x, c, h1, fun i hi => ?_⟩
    have h := h2 i hi
    have hl : i < (E.fl xs).length := by rw [E.fl_len]; exact hi
    simp only [Value.slice.injEq, Option.some.injEq] at h1
    obtain ⟨rfl, _, _⟩ := h1
    rw [List.getElem?_eq_getElem hl] at h ⊢
    rw [World.cell?_of_block (w := w) (hg.block _ (cell_lt h) (by rw [addr_plain]; exact fun e => hne e.symm))]
    exact h

/-- a slice of the call's own stays while a cell below is written -/
theorem own_far {α : Type} {E : El Try.prog α} {w : World} {B g i : Nat} {v u : Value} {xs : List α} (h : E.Own w B v xs) (hg : g < B) : E.Own (w.setCell ⟨g, i, none⟩ u) B v xs := ownsRow_setCell_below h (a := ⟨g, i, none⟩) hg u
theorem own_cap {α : Type} {E : El Try.prog α} {w : World} {B : Nat} {a : Option Addr} {n cap : Nat} {xs : List α} (h : E.Own w B (.slice a n cap) xs) : n ≤ cap ∧ cap ≤ maxLen := by
  rcases h.2 with ⟨h1, h0⟩ | ⟨g, c, cur, h1, _, _, hn, hm, _⟩
  · simp only [Value.slice.injEq] at h1
    obtain ⟨_, rfl, rfl⟩ := h1
    exact ⟨Nat.le_refl _, Nat.zero_le _⟩
  · simp only [Value.slice.injEq] at h1
    obtain ⟨_, rfl, rfl⟩ := h1
    exact ⟨hn, hm⟩

/-- how many pieces the box has -/
def cameLen (w : World) (b : Nat) : Nat := match w.cell? ⟨b, 2, none⟩ with | some (.slice _ n _) => n | _ => 0

set_option maxHeartbeats 4000000 in
theorem rtake_yes (win nx s d : Int) (came : List Pc) (queue : List ByteArray) (ac aq : Option Addr) (cc cq : Nat) (data : ByteArray) (w : World) (h : data.size ≤ 256) (hw : 1 ≤ win ∧ win ≤ 64) (hn : 0 ≤ nx ∧ nx ≤ 65535) (hd : 0 ≤ d ∧ d < win)
    (k16 : ∀ W, Calls Try.prog 21 #[.int .u16 nx, .int .u16 s] W fun e w' => e = .returned (.int .i64 d) ∧ w' = W) (hc : piecesE.Rd w (.slice ac came.length cc) came) (hq : strsE.Rd w (.slice aq queue.length cq) queue) (hl : came.length ≤ 300) (hnq : (queue.length : Int) < win) (hqc : queue.length ≤ cq) (hi : idx came s < 0) :
    Calls Try.prog 13 #[.agg #[.int .i64 win, .int .u16 nx, .slice ac came.length cc, .slice aq queue.length cq], .int .u16 s, .string data] w fun e w' => ∃ vc vq,
      e = .returned (.tuple #[.agg #[.int .i64 win, .int .u16 (adv nx (came ++ [(s, data)]) queue).1, vc, vq], .int .i64 0]) ∧ piecesE.Rd w' vc (adv nx (came ++ [(s, data)]) queue).2.1 ∧ strsE.Rd w' vq (adv nx (came ++ [(s, data)]) queue).2.2 ∧ (∀ a n c, vq = Value.slice a n c → n ≤ c) ∧ Below w.heap.size w w' := by
  have hi0 : ¬ (256 : Int) < (data.size : Int) := by omega
  obtain ⟨w0, w1⟩ := hw
  obtain ⟨d0, d1⟩ := hd
  obtain ⟨n0, n1⟩ := hn
  have d2 : ¬ d < -win := by omega
  have d3 : ¬ d < 0 := by omega
  have i0 : (queue.length : Int) ≤ 1000 := by omega
  obtain ⟨W0, hW0⟩ : ∃ W0, (w.alloc (boxOf win nx (.slice ac came.length cc) (.slice aq queue.length cq))).alloc resOf = W0 := ⟨_, rfl⟩
  have hB : Below w.heap.size w W0 := by rw [← hW0]; exact ((Below.refl _ _).alloc (Nat.le_refl _) _).alloc (by simp) _
  have hz : W0.heap.size = w.heap.size + 2 := by rw [← hW0]; simp
  have hb0 : W0.heap[w.heap.size]? = some (boxOf win nx (.slice ac came.length cc) (.slice aq queue.length cq)) := by
    rw [← hW0, Below.heap_alloc _ _ _ (by simp)]
    show (w.heap.push _)[w.heap.size]? = _
    simp
  have hb1 : W0.heap[w.heap.size + 1]? = some resOf := by
    rw [← hW0]
    show ((w.alloc _).heap.push resOf)[w.heap.size + 1]? = _
    rw [show w.heap.size + 1 = (w.alloc (boxOf win nx (.slice ac came.length cc) (.slice aq queue.length cq))).heap.size by simp]
    exact Array.getElem?_push_size
  have K22 := hide (rat_any (hc.keep hB) s (by omega))
  have K21 := hide k16
  have Hc := hide (hc.keep hB)
  have Hq := hide (hq.keep hB)
  have Hc0 := hide hc
  have Hq0 := hide hq
  have HB := hide hB
  have Hz := hide hz
  have Hb0 := hide hb0
  have Hb1 := hide hb1
  have c0 := (cells_of hb0 0).1
  have c1 := (cells_of hb0 1).1
  have c2 := (cells_of hb0 2).1
  have c3 := (cells_of hb0 3).1
  simp at c0 c1 c2 c3
  have hl' : (came.length : Int) ≤ 300 := by omega
  clear hc hq k16 hB hz hb0 hb1
  obtain ⟨ix, hix⟩ : ∃ ix, idx came s = ix := ⟨_, rfl⟩
  rw [hix] at K22 hi
  clear hix
  unfold boxOf resOf at hW0
  go_enter Try.func13, Try.ntmps13
  go_upto_region 10 with (first | (go_at_call 21; refine (K21.out _).mono ?_; rintro e w' ⟨rfl, rfl⟩) | (go_at_call 22; refine K22.out.mono ?_; rintro e w' ⟨rfl, rfl⟩))
  clear hW0 K21 K22 hi0 d2 d3
  have hlt : w.heap.size < w'.heap.size := by rw [Hz.out]; omega
  have c2a : (w'.alloc (.cells #[] 65)).cell? ⟨w.heap.size, 2, none⟩ = some (.slice ac came.length cc) := by rw [((Below.refl w'.heap.size w').alloc (Nat.le_refl _) (.cells #[] 65)).cell hlt]; exact c2
  go_wp2_with (at_builtin; refine piecesE.wp (w0 := w') ((Below.refl _ _).alloc (Nat.le_refl _) _) (by rfl) _ _ rfl _ _ rfl rfl [] came (El.Own.new piecesE _ _ (Nat.le_refl _) #[] [] rfl (by simp) _ _ _ rfl rfl rfl) (Hc.out.keep ((Below.refl _ _).alloc (Nat.le_refl _) _)) (by simp; omega) ?_; intro v1 W1 ho1 hg1 hz1 hb1; refine Hid.out ?_)
  refine hide ?_
  rw [List.nil_append] at ho1
  go_wp2_with (at_builtin; refine piecesE.wp (w0 := w') (hb1.alloc hb1.size _) (by rfl) _ _ rfl _ _ rfl rfl came [(s, data)] (World.ownsRow.alloc ho1 _) (piece_new _ _ _ _ rfl) (by simp; omega) ?_; intro v2 W2 ho2 hg2 hz2 hb2; refine Hid.out ?_)
  refine hide ?_
  obtain ⟨a2, cap2, rfl⟩ := ho2.rd.form
  have en : (came ++ [(s, data)]).length = came.length + 1 := by simp
  rw [en] at ho2 ⊢
  have e2 := (cells_of Hb0.out 2)
  have x2 : W2.cell? ⟨w.heap.size, 2, none⟩ = some (.slice ac came.length cc) := by rw [hb2.cell hlt]; exact c2
  have x2f : W2.frozen? ⟨w.heap.size, 2, none⟩ = false := by rw [hb2.frozen hlt]; exact e2.2
  have y0 : W2.heap[w.heap.size]? = some (boxOf win nx (.slice ac came.length cc) (.slice aq queue.length cq)) := by rw [hb2.block _ hlt]; exact Hb0.out
  have y1 : W2.heap[w.heap.size + 1]? = some resOf := by rw [hb2.block _ (by rw [Hz.out]; omega)]; exact Hb1.out
  have HX0 : Hid ((W2.setCell ⟨w.heap.size, 2, none⟩ (.slice a2 (came.length + 1) cap2)).heap[w.heap.size]? = some (boxOf win nx (.slice a2 (came.length + 1) cap2) (.slice aq queue.length cq))) := hide (by rw [heap_set' y0]; rfl)
  have HX1 : Hid ((W2.setCell ⟨w.heap.size, 2, none⟩ (.slice a2 (came.length + 1) cap2)).heap[w.heap.size + 1]? = some resOf) := hide (by rw [Below.heap_setCell _ _ _ _ (by simp)]; exact y1)
  have HXc : Hid (piecesE.Own (W2.setCell ⟨w.heap.size, 2, none⟩ (.slice a2 (came.length + 1) cap2)) (w.heap.size + 2) (.slice a2 (came.length + 1) cap2) (came ++ [(s, data)])) := hide (own_far (ho2.mono (by rw [Hz.out]; omega)) (by omega))
  have HXq : Hid (Hld strsE w (w.heap.size + 2) (W2.setCell ⟨w.heap.size, 2, none⟩ (.slice a2 (came.length + 1) cap2)) (.slice aq queue.length cq) queue) := hide (.inl Hq0.out)
  have HXB : Hid (Below w.heap.size w (W2.setCell ⟨w.heap.size, 2, none⟩ (.slice a2 (came.length + 1) cap2))) := hide (below_set (HB.out.trans (hb2.mono HB.out.size)) (Nat.le_refl _))
  have HXz : Hid (w.heap.size + 2 ≤ (W2.setCell ⟨w.heap.size, 2, none⟩ (.slice a2 (came.length + 1) cap2)).heap.size) := hide (by have := hb2.size; rw [Hz.out] at this; simpa using this)
  clear ho1 hg1 hz1 hb1 ho2 hg2 hz2 hb2 y0 y1 e2 c0 c1 c2 c3 Hc Hq Hc0 Hq0 HB Hz Hb0 Hb1 hlt
  go_wp2_with fail
  generalize W2.setCell ⟨w.heap.size, 2, none⟩ (.slice a2 (came.length + 1) cap2) = W3 at *
  have hlen : (came ++ [(s, data)]).length + queue.length ≤ 500 := by simp; omega
  have Hlen := hide hlen
  clear x2 x2f hlen
  go_loopw [9] (fun v9 wr => ∃ (nx' : Int) (came' : List Pc) (queue' : List ByteArray) (ac aq : Option Addr) (cc cq : Nat), (0 ≤ nx' ∧ nx' ≤ 65535) ∧ Hid (adv nx (came ++ [(s, data)]) queue = adv nx' came' queue') ∧ Hid (wr.heap[w.heap.size]? = some (boxOf win nx' (.slice ac came'.length cc) (.slice aq queue'.length cq))) ∧ Hid (wr.heap[w.heap.size + 1]? = some resOf) ∧ Hid (piecesE.Own wr (w.heap.size + 2) (.slice ac came'.length cc) came') ∧ Hid (Hld strsE w (w.heap.size + 2) wr (.slice aq queue'.length cq) queue') ∧ Hid (Below w.heap.size w wr) ∧ Hid (w.heap.size + 2 ≤ wr.heap.size) ∧ Hid (came'.length + queue'.length ≤ 500) ∧ Hid (queue'.length ≤ cq)) (fun _ wr => cameLen wr w.heap.size)
  case atStart => exact ⟨nx, _, queue, a2, aq, cap2, cq, ⟨n0, n1⟩, hide rfl, by rw [en]; exact HX0, HX1, by rw [en]; exact HXc, HXq, HXB, HXz, Hlen, hide hqc⟩
  case round =>
    clear HX0 HX1 HXc HXq HXB HXz Hlen
    obtain ⟨nx', came', queue', ac', aq', cc', cq', ⟨m0, m1⟩, HA, HX0, HX1, HXc, HXq, HXB, HXz, Hlen, Hqc⟩ := hrel
    have c1 := (cells_of HX0.out 1).1
    have c2 := (cells_of HX0.out 2).1
    simp at c1 c2
    have hl9 := Hlen.out
    have K22 := hide (rat_any HXc.out.rd nx' (by omega))
    have Hold := HX0
    obtain ⟨ix', hix⟩ : ∃ ix, idx came' nx' = ix := ⟨_, rfl⟩
    rw [hix] at K22
    by_cases hneg : ix' < 0
    · have hend : adv nx (came ++ [(s, data)]) queue = (nx', came', queue') := by rw [HA.out]; exact adv_end _ _ _ (by rw [hix]; exact hneg)
      have c0 := (cells_of HX0.out 0).1
      have c3 := (cells_of HX0.out 3).1
      simp at c0 c3
      have r0 := cells_of HX1.out 0
      have r1 := cells_of HX1.out 1
      have r2 := cells_of HX1.out 2
      have r3 := cells_of HX1.out 3
      have Hend := hide hend
      clear hend hix HA
      go_wp2_with (go_at_call 22; refine K22.out.mono ?_; rintro e w5 ⟨rfl, rfl⟩)
      have z0 := heap_set' (i := 0) HX1.out (.int .i64 win)
      have z1 := heap_set' (i := 1) z0 (.int .u16 nx')
      have z2 := heap_set' (i := 2) z1 (.slice ac' came'.length cc')
      have z3 := heap_set' (i := 3) z2 (.slice aq' queue'.length cq')
      have HXB6 := hide (below_set (u := .slice aq' queue'.length cq') (i := 3) (below_set (u := .slice ac' came'.length cc') (i := 2) (below_set (u := .int .u16 nx') (i := 1) (below_set (u := .int .i64 win) (i := 0) HXB.out (Nat.le_succ _)) (Nat.le_succ _)) (Nat.le_succ _)) (Nat.le_succ _))
      have HXc6 := hide (own_far (u := .slice aq' queue'.length cq') (i := 3) (own_far (u := .slice ac' came'.length cc') (i := 2) (own_far (u := .int .u16 nx') (i := 1) (own_far (u := .int .i64 win) (i := 0) (g := w.heap.size + 1) HXc.out (by omega)) (g := w.heap.size + 1) (by omega)) (g := w.heap.size + 1) (by omega)) (g := w.heap.size + 1) (by omega))
      have HXq6 := hide (Hld.set (u := .slice aq' queue'.length cq') (i := 3) (Hld.set (u := .slice ac' came'.length cc') (i := 2) (Hld.set (u := .int .u16 nx') (i := 1) (Hld.set (u := .int .i64 win) (i := 0) (g := w.heap.size + 1) HXq.out (by omega)) (g := w.heap.size + 1) (by omega)) (g := w.heap.size + 1) (by omega)) (g := w.heap.size + 1) (by omega))
      generalize (((w5.setCell ⟨w.heap.size + 1, 0, none⟩ (.int .i64 win)).setCell ⟨w.heap.size + 1, 1, none⟩ (.int .u16 nx')).setCell ⟨w.heap.size + 1, 2, none⟩ (.slice ac' came'.length cc')).setCell ⟨w.heap.size + 1, 3, none⟩ (.slice aq' queue'.length cq') = W6 at *
      have y0 := (cells_of z3 0).1
      have y1 := (cells_of z3 1).1
      have y2 := (cells_of z3 2).1
      have y3 := (cells_of z3 3).1
      simp at y0 y1 y2 y3
      refine bodyPost_ret (v := .tuple #[.agg #[.int .i64 win, .int .u16 nx', .slice ac' came'.length cc', .slice aq' queue'.length cq'], .int .i64 0]) (by simp [results, Try.results13, go_sem, y0, y1, y2, y3]) rfl ?_
      rw [Hend.out]
      exact ⟨_, _, rfl, HXc6.out.rd, HXq6.out.rd HXB6.out, fun a n c e => by simp only [Value.slice.injEq] at e; obtain ⟨_, rfl, rfl⟩ := e; exact Hqc.out, HXB6.out⟩
    · obtain ⟨k, rfl⟩ : ∃ k : Nat, ix' = (k : Int) := ⟨ix'.toNat, by omega⟩
      have hkl : k < came'.length := by have := idx_lt (ps := came') (s := nx') (by rw [hix]; omega); rw [hix] at this; simpa using this
      obtain ⟨p, hp⟩ : ∃ p, came'[k]? = some p := ⟨_, List.getElem?_eq_getElem hkl⟩
      have hadv := adv_go nx' came' queue' k p hix hp
      obtain ⟨bc, oc, rfl, hcell⟩ := HXc.out.rd.at k p hp
      have c4 : wr.cell? ⟨bc, oc + k * 2 + 1, none⟩ = some (.string p.2) := hcell 1 (by decide)
      have HP := hide hp
      have HAdv := hide (HA.out.trans hadv)
      have kk0 : (0 : Int) ≤ (k : Int) := by omega
      have kk1 : (k : Int) < (came'.length : Int) := by omega
      have FS : Hid (∀ W, Below wr.heap.size wr W → W.cell? ⟨w.heap.size, 3, none⟩ = some (.slice aq' queue'.length cq') ∧ W.cell? ⟨w.heap.size, 2, none⟩ = some (.slice (some ⟨bc, oc, none⟩) came'.length cc') ∧ W.cell? ⟨bc, oc + k * 2 + 1, none⟩ = some (.string p.2) ∧ W.frozen? ⟨w.heap.size, 3, none⟩ = false) := hide (fun W hW => by
        have hlt : w.heap.size < wr.heap.size := by have := HXz.out; omega
        have c3 := cells_of HX0.out 3
        refine ⟨?_, ?_, ?_, ?_⟩
        · rw [hW.cell hlt, c3.1]; rfl
        · rw [hW.cell hlt]; exact c2
        · rw [hW.cell (cell_lt c4)]; exact c4
        · rw [hW.frozen hlt]; exact c3.2)
      have Hlt' : Hid (k < came'.length) := hide hkl
      clear hix hadv hcell hp hneg HA
      go_upto_region 13 with (go_at_call 22; refine K22.out.mono ?_; rintro e w5 ⟨rfl, rfl⟩)
      generalize p.2 = dd at *
      have HRq : Hid (∀ W, Below w5.heap.size w5 W → strsE.Rd W (.slice aq' queue'.length cq') queue') := hide (fun W hW => (HXq.out.rd HXB.out).keep hW)
      obtain ⟨SS, hSS⟩ : ∃ SS : World → Prop, SS = fun W => W.cell? ⟨w.heap.size, 3, none⟩ = some (.slice aq' queue'.length cq') ∧ W.cell? ⟨w.heap.size, 2, none⟩ = some (.slice (some ⟨bc, oc, none⟩) came'.length cc') ∧ W.cell? ⟨bc, oc + k * 2 + 1, none⟩ = some (.string dd) ∧ W.frozen? ⟨w.heap.size, 3, none⟩ = false := ⟨_, rfl⟩
      have FS' : Hid (∀ W, Below w5.heap.size w5 W → SS W) := hide (fun W hW => by rw [hSS]; exact FS.out W hW)
      have s1 : ∀ W, SS W → W.cell? ⟨w.heap.size, 3, none⟩ = some (.slice aq' queue'.length cq') := fun W h => by rw [hSS] at h; exact h.1
      have s2 : ∀ W, SS W → W.cell? ⟨w.heap.size, 2, none⟩ = some (.slice (some ⟨bc, oc, none⟩) came'.length cc') := fun W h => by rw [hSS] at h; exact h.2.1
      have s3 : ∀ W, SS W → W.cell? ⟨bc, oc + k * 2 + 1, none⟩ = some (.string dd) := fun W h => by rw [hSS] at h; exact h.2.2.1
      have s4 : ∀ W, SS W → W.frozen? ⟨w.heap.size, 3, none⟩ = false := fun W h => by rw [hSS] at h; exact h.2.2.2
      clear hSS FS
      have bD : Below w5.heap.size w5 w5.drew := (Below.refl _ _).drew
      have hS0 := FS'.out _ bD
      have bA : Below w5.heap.size w5 (w5.alloc (.cells #[] 9)).drew := ((Below.refl _ _).alloc (Nat.le_refl _) _).drew
      have bB : Below w5.heap.size w5 (w5.alloc (.cells #[.string dd] 9)).drew := ((Below.refl _ _).alloc (Nat.le_refl _) _).drew
      have bAB : Below w5.heap.size w5 ((w5.alloc (.cells #[] 9)).alloc (.cells #[.string dd] 9)).drew := ((((Below.refl w5.heap.size w5).alloc (Nat.le_refl _) (.cells #[] 9)).alloc (by simp) (.cells #[.string dd] 9))).drew
      have bBA : Below w5.heap.size w5 ((w5.alloc (.cells #[.string dd] 9)).alloc (.cells #[] 9)).drew := ((((Below.refl w5.heap.size w5).alloc (Nat.le_refl _) (.cells #[.string dd] 9)).alloc (by simp) (.cells #[] 9))).drew
      have oA : strsE.Own (w5.alloc (.cells #[] 9)).drew w5.heap.size (.slice (some ⟨w5.heap.size, 0, none⟩) 0 0) [] := El.Own.new strsE w5 _ (Nat.le_refl _) #[] [] rfl (by simp) _ _ _ rfl rfl rfl
      have oAB : strsE.Own ((w5.alloc (.cells #[] 9)).alloc (.cells #[.string dd] 9)).drew w5.heap.size (.slice (some ⟨w5.heap.size, 0, none⟩) 0 0) [] := World.ownsRow.alloc oA _
      have oBA : strsE.Own ((w5.alloc (.cells #[.string dd] 9)).alloc (.cells #[] 9)).drew w5.heap.size (.slice (some ⟨w5.heap.size + 1, 0, none⟩) 0 0) [] := El.Own.new strsE (w5.alloc (.cells #[.string dd] 9)) _ (by simp) #[] [] rfl (by simp) _ _ _ (by simp) rfl rfl
      have rAB : strsE.Rd ((w5.alloc (.cells #[] 9)).alloc (.cells #[.string dd] 9)).drew (.slice (some ⟨w5.heap.size + 1, 0, none⟩) 1 1) [dd] := str_new (w5.alloc (.cells #[] 9)) _ _ (by simp)
      have rBA : strsE.Rd ((w5.alloc (.cells #[.string dd] 9)).alloc (.cells #[] 9)).drew (.slice (some ⟨w5.heap.size, 0, none⟩) 1 1) [dd] := (str_new w5 dd _ rfl).keep ((Below.refl _ _).alloc (Nat.le_refl _) _).drew
      have hlq : queue'.length ≤ 500 := by have := Hlen.out; omega
      have en8 : (queue' ++ [dd]).length = queue'.length + 1 := by simp
      go_cut [] (fun wx => ∃ (W8 : World) (a8 : Option Addr) (c8 : Nat), wx = W8.setCell ⟨w.heap.size, 3, none⟩ (.slice a8 (queue'.length + 1) c8) ∧ Hid (strsE.Own W8 w5.heap.size (.slice a8 (queue'.length + 1) c8) (queue' ++ [dd])) ∧ Hid (Below w5.heap.size w5 W8))
      case first =>
        refine wp_region_E SS 13 (by kernel_rfl) ?_
        refine wpAnyE_take (i := 1) (v := .pointer (some ⟨w.heap.size, 3, none⟩)) rfl (by kernel_rfl) (by kernel_rfl) (by kernel_rfl) (by kernel_rfl) (fun _ _ _ h => h) (Or.inl ⟨by rfl, fun W hW => by go_simp⟩) hS0 ?_
        refine wpAnyE_take (i := 2) (v := .slice aq' queue'.length cq') rfl (by kernel_rfl) (by kernel_rfl) (by kernel_rfl) (by kernel_rfl) (fun _ _ _ h => h) (Or.inl ⟨by rfl, fun W hW => by have := s1 W hW; go_simp⟩) hS0 ?_
        refine wpAnyE_take (i := 4) (v := .pointer (some ⟨w.heap.size, 2, none⟩)) rfl (by kernel_rfl) (by kernel_rfl) (by kernel_rfl) (by kernel_rfl) (fun _ _ _ h => h) (Or.inl ⟨by rfl, fun W hW => by go_simp⟩) hS0 ?_
        refine wpAnyE_take (i := 5) (v := .slice (some ⟨bc, oc, none⟩) came'.length cc') rfl (by kernel_rfl) (by kernel_rfl) (by kernel_rfl) (by kernel_rfl) (fun _ _ _ h => h) (Or.inl ⟨by rfl, fun W hW => by have := s2 W hW; go_simp⟩) hS0 ?_
        refine wpAnyE_take (i := 6) (v := .int .i64 k) rfl (by kernel_rfl) (by kernel_rfl) (by kernel_rfl) (by kernel_rfl) (fun _ _ _ h => h) (Or.inl ⟨by rfl, fun W hW => by go_simp⟩) hS0 ?_
        refine wpAnyE_take (i := 7) (v := .pointer (some ⟨bc, oc + k * 2, none⟩)) rfl (by kernel_rfl) (by kernel_rfl) (by kernel_rfl) (by kernel_rfl) (fun _ _ _ h => h) (Or.inl ⟨by rfl, fun W hW => by go_simp⟩) hS0 ?_
        refine wpAnyE_take (i := 8) (v := .pointer (some ⟨bc, oc + k * 2 + 1, none⟩)) rfl (by kernel_rfl) (by kernel_rfl) (by kernel_rfl) (by kernel_rfl) (fun _ _ _ h => h) (Or.inl ⟨by rfl, fun W hW => by go_simp⟩) hS0 ?_
        refine wpAnyE_take (i := 9) (v := .string dd) rfl (by kernel_rfl) (by kernel_rfl) (by kernel_rfl) (by kernel_rfl) (fun _ _ _ h => h) (Or.inl ⟨by rfl, fun W hW => by have := s3 W hW; go_simp⟩) hS0 ?_
        refine wpAnyE_ready (rs := [0, 10]) (by kernel_rfl) (by simp) ?_
        refine AllReadyE.cons rfl (fun K hK => ?_) (AllReadyE.cons rfl (fun K hK => ?_) AllReadyE.nil)
        · go_simp
          refine hK.out _ _ (fun _ => FS'.out _ ⟨bA.os, bA.tape, bA.output, bA.size, bA.block⟩) ?_
          clear hK K
          refine wpAnyE_ready (rs := [3, 10]) (by kernel_rfl) (by simp) ?_
          refine AllReadyE.cons rfl (fun K hK => ?_) (AllReadyE.cons rfl (fun K hK => ?_) AllReadyE.nil)
          · refine strsE.step (w0 := w5) ⟨bA.os, bA.tape, bA.output, bA.size, bA.block⟩ rfl (.tmp 68) (.tmp 70) rfl (.slice (some ⟨w5.heap.size, 0, none⟩) 0 0) (.slice aq' queue'.length cq') rfl rfl [] queue' oA (HRq.out _ ⟨bA.os, bA.tape, bA.output, bA.size, bA.block⟩) (by simp; omega) ?_
            intro v6 w6 ho6 hg6 hz6 hb6
            rw [List.nil_append] at ho6
            refine hK.out _ _ (fun _ => FS'.out _ hb6) ?_
            clear hK K
            refine wpAnyE_ready (rs := [10]) (by kernel_rfl) (by simp) ?_
            refine AllReadyE.cons rfl (fun K hK => ?_) AllReadyE.nil
            go_simp
            have bX := hb6.alloc hb6.size (.cells #[.string dd] 9)
            refine hK.out _ _ (fun _ => FS'.out _ bX) ?_
            clear hK K
            refine wpAnyE_ready (rs := [11]) (by kernel_rfl) (by simp) ?_
            refine AllReadyE.cons rfl (fun K hK => ?_) AllReadyE.nil
            refine strsE.step (w0 := w5) bX rfl (.tmp 71) (.tmp 78) rfl _ _ rfl rfl queue' [dd] (World.ownsRow.alloc ho6 _) (str_new _ _ _ rfl) (by simp; omega) ?_
            intro v8 w8 ho8 hg8 hz8 hb8
            obtain ⟨a8, c8, rfl⟩ := ho8.rd.form
            rw [en8] at ho8 ⊢
            refine hK.out _ _ (fun _ => FS'.out _ hb8) ?_
            clear hK K
            refine wpAnyE_ready (rs := [12]) (by kernel_rfl) (by simp) ?_
            refine AllReadyE.cons rfl (fun K hK => ?_) AllReadyE.nil
            go_simp
            refine hK.out _ _ (fun _ => FS'.out _ hb8) ?_
            clear hK K
            refine wpAnyE_ready (rs := [13]) (by kernel_rfl) (by simp) ?_
            refine AllReadyE.cons rfl (fun K hK => ?_) AllReadyE.nil
            have x1 := s1 _ (FS'.out _ hb8)
            have x4 := s4 _ (FS'.out _ hb8)
            go_simp
            refine hK.out _ _ (fun h => absurd rfl h) ?_
            clear hK K
            refine wpAnyE_done (by kernel_rfl) ?_ _
            go_wp2_with fail
            go_meet
            exact ⟨_, _, _, rfl, hide ho8, hide hb8⟩
          · go_simp
            refine hK.out _ _ (fun _ => FS'.out _ ⟨bAB.os, bAB.tape, bAB.output, bAB.size, bAB.block⟩) ?_
            clear hK K
            refine wpAnyE_ready (rs := [3]) (by kernel_rfl) (by simp) ?_
            refine AllReadyE.cons rfl (fun K hK => ?_) AllReadyE.nil
            refine strsE.step (w0 := w5) ⟨bAB.os, bAB.tape, bAB.output, bAB.size, bAB.block⟩ rfl (.tmp 68) (.tmp 70) rfl (.slice (some ⟨w5.heap.size, 0, none⟩) 0 0) (.slice aq' queue'.length cq') rfl rfl [] queue' oAB (HRq.out _ ⟨bAB.os, bAB.tape, bAB.output, bAB.size, bAB.block⟩) (by simp; omega) ?_
            intro v6 w6 ho6 hg6 hz6 hb6
            rw [List.nil_append] at ho6
            refine hK.out _ _ (fun _ => FS'.out _ hb6) ?_
            clear hK K
            refine wpAnyE_ready (rs := [11]) (by kernel_rfl) (by simp) ?_
            refine AllReadyE.cons rfl (fun K hK => ?_) AllReadyE.nil
            refine strsE.step (w0 := w5) hb6 rfl (.tmp 71) (.tmp 78) rfl _ _ rfl rfl queue' [dd] ho6 (kept_rd rAB hg6 (by simp [Value.ownBlock])) (by simp; omega) ?_
            intro v8 w8 ho8 hg8 hz8 hb8
            obtain ⟨a8, c8, rfl⟩ := ho8.rd.form
            rw [en8] at ho8 ⊢
            refine hK.out _ _ (fun _ => FS'.out _ hb8) ?_
            clear hK K
            refine wpAnyE_ready (rs := [12]) (by kernel_rfl) (by simp) ?_
            refine AllReadyE.cons rfl (fun K hK => ?_) AllReadyE.nil
            go_simp
            refine hK.out _ _ (fun _ => FS'.out _ hb8) ?_
            clear hK K
            refine wpAnyE_ready (rs := [13]) (by kernel_rfl) (by simp) ?_
            refine AllReadyE.cons rfl (fun K hK => ?_) AllReadyE.nil
            have x1 := s1 _ (FS'.out _ hb8)
            have x4 := s4 _ (FS'.out _ hb8)
            go_simp
            refine hK.out _ _ (fun h => absurd rfl h) ?_
            clear hK K
            refine wpAnyE_done (by kernel_rfl) ?_ _
            go_wp2_with fail
            go_meet
            exact ⟨_, _, _, rfl, hide ho8, hide hb8⟩
        · go_simp
          refine hK.out _ _ (fun _ => FS'.out _ ⟨bB.os, bB.tape, bB.output, bB.size, bB.block⟩) ?_
          clear hK K
          refine wpAnyE_ready (rs := [0]) (by kernel_rfl) (by simp) ?_
          refine AllReadyE.cons rfl (fun K hK => ?_) AllReadyE.nil
          go_simp
          refine hK.out _ _ (fun _ => FS'.out _ ⟨bBA.os, bBA.tape, bBA.output, bBA.size, bBA.block⟩) ?_
          clear hK K
          refine wpAnyE_ready (rs := [3]) (by kernel_rfl) (by simp) ?_
          refine AllReadyE.cons rfl (fun K hK => ?_) AllReadyE.nil
          refine strsE.step (w0 := w5) ⟨bBA.os, bBA.tape, bBA.output, bBA.size, bBA.block⟩ rfl (.tmp 68) (.tmp 70) rfl (.slice (some ⟨w5.heap.size + 1, 0, none⟩) 0 0) (.slice aq' queue'.length cq') rfl rfl [] queue' oBA (HRq.out _ ⟨bBA.os, bBA.tape, bBA.output, bBA.size, bBA.block⟩) (by simp; omega) ?_
          intro v6 w6 ho6 hg6 hz6 hb6
          rw [List.nil_append] at ho6
          refine hK.out _ _ (fun _ => FS'.out _ hb6) ?_
          clear hK K
          refine wpAnyE_ready (rs := [11]) (by kernel_rfl) (by simp) ?_
          refine AllReadyE.cons rfl (fun K hK => ?_) AllReadyE.nil
          refine strsE.step (w0 := w5) hb6 rfl (.tmp 71) (.tmp 78) rfl _ _ rfl rfl queue' [dd] ho6 (kept_rd rBA hg6 (by simp [Value.ownBlock])) (by simp; omega) ?_
          intro v8 w8 ho8 hg8 hz8 hb8
          obtain ⟨a8, c8, rfl⟩ := ho8.rd.form
          rw [en8] at ho8 ⊢
          refine hK.out _ _ (fun _ => FS'.out _ hb8) ?_
          clear hK K
          refine wpAnyE_ready (rs := [12]) (by kernel_rfl) (by simp) ?_
          refine AllReadyE.cons rfl (fun K hK => ?_) AllReadyE.nil
          go_simp
          refine hK.out _ _ (fun _ => FS'.out _ hb8) ?_
          clear hK K
          refine wpAnyE_ready (rs := [13]) (by kernel_rfl) (by simp) ?_
          refine AllReadyE.cons rfl (fun K hK => ?_) AllReadyE.nil
          have x1 := s1 _ (FS'.out _ hb8)
          have x4 := s4 _ (FS'.out _ hb8)
          go_simp
          refine hK.out _ _ (fun h => absurd rfl h) ?_
          clear hK K
          refine wpAnyE_done (by kernel_rfl) ?_ _
          go_wp2_with fail
          go_meet
          exact ⟨_, _, _, rfl, hide ho8, hide hb8⟩
      case rest =>
        obtain ⟨W8, a8, c8, rfl, HO8, HB8⟩ := hcut
        have Hq8 := hide (own_cap HO8.out).1
        have hlt8 : w.heap.size < w5.heap.size := by have := HXz.out; omega
        have y0 : W8.heap[w.heap.size]? = some (boxOf win nx' (.slice (some ⟨bc, oc, none⟩) came'.length cc') (.slice aq' queue'.length cq')) := by rw [HB8.out.block _ hlt8]; exact HX0.out
        have y1 : W8.heap[w.heap.size + 1]? = some resOf := by rw [HB8.out.block _ (by have := HXz.out; omega)]; exact HX1.out
        have HY0 : Hid ((W8.setCell ⟨w.heap.size, 3, none⟩ (.slice a8 (queue'.length + 1) c8)).heap[w.heap.size]? = some (boxOf win nx' (.slice (some ⟨bc, oc, none⟩) came'.length cc') (.slice a8 (queue'.length + 1) c8))) := hide (by rw [heap_set' y0]; rfl)
        have HY1 : Hid ((W8.setCell ⟨w.heap.size, 3, none⟩ (.slice a8 (queue'.length + 1) c8)).heap[w.heap.size + 1]? = some resOf) := hide (by rw [Below.heap_setCell _ _ _ _ (by simp)]; exact y1)
        have HYc : Hid (piecesE.Own (W8.setCell ⟨w.heap.size, 3, none⟩ (.slice a8 (queue'.length + 1) c8)) (w.heap.size + 2) (.slice (some ⟨bc, oc, none⟩) came'.length cc') came') := hide (own_far (HXc.out.keep HB8.out) (by omega))
        have HYq : Hid (strsE.Own (W8.setCell ⟨w.heap.size, 3, none⟩ (.slice a8 (queue'.length + 1) c8)) (w.heap.size + 2) (.slice a8 (queue'.length + 1) c8) (queue' ++ [dd])) := hide (own_far (HO8.out.mono HXz.out) (by omega))
        have HYB : Hid (Below w.heap.size w (W8.setCell ⟨w.heap.size, 3, none⟩ (.slice a8 (queue'.length + 1) c8))) := hide (below_set (HXB.out.trans (HB8.out.mono HXB.out.size)) (Nat.le_refl _))
        have HYz : Hid (w.heap.size + 2 ≤ (W8.setCell ⟨w.heap.size, 3, none⟩ (.slice a8 (queue'.length + 1) c8)).heap.size) := hide (by have := HB8.out.size; have := HXz.out; simp; omega)
        generalize W8.setCell ⟨w.heap.size, 3, none⟩ (.slice a8 (queue'.length + 1) c8) = W9 at *
        obtain ⟨hcap1, hcap2⟩ := own_cap HYc.out
        have cp1 : (came'.length : Int) ≤ (cc' : Int) := by omega
        have cp2 : (k : Int) ≤ (cc' : Int) := by omega
        have cp3 : (k : Int) + 1 ≤ (came'.length : Int) := by omega
        have cp4 : (k : Int) + 1 ≤ (cc' : Int) := by omega
        have cp5 : IntKind.i64.wrap ((k : Int) + 1) = (k : Int) + 1 := by unfold IntKind.wrap; simp [IntKind.bits, IntKind.signed]; omega
        clear y0 y1 HO8 HB8 HX0 HX1 HXc HXq HXB HXz bA bB bAB bBA oA oAB oBA rAB rBA s1 s2 s3 s4 FS' hS0 bD HRq c1 c2 c4
        have FT : Hid (∀ W, Below W9.heap.size W9 W → W.cell? ⟨w.heap.size, 2, none⟩ = some (.slice (some ⟨bc, oc, none⟩) came'.length cc') ∧ W.frozen? ⟨w.heap.size, 2, none⟩ = false) := hide (fun W hW => by
          have hlt : w.heap.size < W9.heap.size := by have := HYz.out; omega
          have c3 := cells_of HY0.out 2
          exact ⟨by rw [hW.cell hlt, c3.1]; rfl, by rw [hW.frozen hlt]; exact c3.2⟩)
        obtain ⟨TT, hTT⟩ : ∃ TT : World → Prop, TT = fun W => W.cell? ⟨w.heap.size, 2, none⟩ = some (.slice (some ⟨bc, oc, none⟩) came'.length cc') ∧ W.frozen? ⟨w.heap.size, 2, none⟩ = false := ⟨_, rfl⟩
        have FT' : Hid (∀ W, Below W9.heap.size W9 W → TT W) := hide (fun W hW => by rw [hTT]; exact FT.out W hW)
        have t1 : ∀ W, TT W → W.cell? ⟨w.heap.size, 2, none⟩ = some (.slice (some ⟨bc, oc, none⟩) came'.length cc') := fun W h => by rw [hTT] at h; exact h.1
        have t2 : ∀ W, TT W → W.frozen? ⟨w.heap.size, 2, none⟩ = false := fun W h => by rw [hTT] at h; exact h.2
        clear hTT FT
        have hT0 := FT'.out _ (Below.refl W9.heap.size W9).drew
        have bE : Below W9.heap.size W9 (W9.alloc (.cells #[] 65)).drew := ((Below.refl _ _).alloc (Nat.le_refl _) _).drew
        have oE : piecesE.Own (W9.alloc (.cells #[] 65)).drew W9.heap.size (.slice (some ⟨W9.heap.size, 0, none⟩) 0 0) [] := El.Own.new piecesE W9 _ (Nat.le_refl _) #[] [] rfl (by simp) _ _ _ rfl rfl rfl
        have HR1 : Hid (∀ W, Below W9.heap.size W9 W → piecesE.Rd W (.slice (some ⟨bc, oc, none⟩) k cc') (came'.take k)) := hide (fun W hW => (HYc.out.rd.take k (Nat.le_of_lt Hlt'.out)).keep hW)
        have cp6 : (0 : Int) ≤ (k : Int) + 1 := by omega
        obtain ⟨ad, had⟩ : ∃ ad : Option Addr, (if cc' = k + 1 then some (⟨bc, oc, none⟩ : Addr) else some ⟨bc, oc + (k + 1) * 2, none⟩) = ad := ⟨_, rfl⟩
        have HR2 : Hid (∀ W, Below W9.heap.size W9 W → piecesE.Rd W (.slice ad (came'.length - (k + 1)) (cc' - (k + 1))) (came'.drop (k + 1))) := hide (fun W hW => by
          rw [← had]
          by_cases e : cc' = k + 1
          · rw [if_pos e]
            have hl : came'.length = k + 1 := by have := Hlt'.out; omega
            have hd : came'.drop (k + 1) = [] := List.drop_eq_nil_of_le (by omega)
            rw [hd]
            exact .inr ⟨⟨bc, oc, none⟩, cc' - (k + 1), by rw [hl]; simp, fun n hn => by simp at hn⟩
          · rw [if_neg e]
            exact (HYc.out.rd.drop (k + 1) _ rfl Hlt'.out).keep hW)
        have hlc : came'.length ≤ 500 := by have := Hlen.out; omega
        go_upto_region 14 with fail
        refine wp_region_E TT 13 (by kernel_rfl) ?_
        refine wpAnyE_take (i := 1) (v := .pointer (some ⟨w.heap.size, 2, none⟩)) rfl (by kernel_rfl) (by kernel_rfl) (by kernel_rfl) (by kernel_rfl) (fun _ _ _ h => h) (Or.inl ⟨by rfl, fun W hW => by go_simp⟩) hT0 ?_
        refine wpAnyE_take (i := 2) (v := .slice (some ⟨bc, oc, none⟩) came'.length cc') rfl (by kernel_rfl) (by kernel_rfl) (by kernel_rfl) (by kernel_rfl) (fun _ _ _ h => h) (Or.inl ⟨by rfl, fun W hW => by have := t1 W hW; go_simp⟩) hT0 ?_
        refine wpAnyE_take (i := 3) (v := .int .i64 k) rfl (by kernel_rfl) (by kernel_rfl) (by kernel_rfl) (by kernel_rfl) (fun _ _ _ h => h) (Or.inl ⟨by rfl, fun W hW => by go_simp⟩) hT0 ?_
        refine wpAnyE_take (i := 4) (v := .slice (some ⟨bc, oc, none⟩) k cc') rfl (by kernel_rfl) (by kernel_rfl) (by kernel_rfl) (by kernel_rfl) (fun _ _ _ h => h) (Or.inl ⟨by rfl, fun W hW => by go_simp⟩) hT0 ?_
        refine wpAnyE_take (i := 6) (v := .pointer (some ⟨w.heap.size, 2, none⟩)) rfl (by kernel_rfl) (by kernel_rfl) (by kernel_rfl) (by kernel_rfl) (fun _ _ _ h => h) (Or.inl ⟨by rfl, fun W hW => by go_simp⟩) hT0 ?_
        refine wpAnyE_take (i := 7) (v := .slice (some ⟨bc, oc, none⟩) came'.length cc') rfl (by kernel_rfl) (by kernel_rfl) (by kernel_rfl) (by kernel_rfl) (fun _ _ _ h => h) (Or.inl ⟨by rfl, fun W hW => by have := t1 W hW; go_simp⟩) hT0 ?_
        refine wpAnyE_take (i := 8) (v := .int .i64 k) rfl (by kernel_rfl) (by kernel_rfl) (by kernel_rfl) (by kernel_rfl) (fun _ _ _ h => h) (Or.inl ⟨by rfl, fun W hW => by go_simp⟩) hT0 ?_
        refine wpAnyE_take (i := 9) (v := .int .i64 ((k : Int) + 1)) rfl (by kernel_rfl) (by kernel_rfl) (by kernel_rfl) (by kernel_rfl) (fun _ _ _ h => h) (Or.inl ⟨by rfl, fun W hW => by go_simp⟩) hT0 ?_
        refine wpAnyE_take (i := 10) (v := .slice ad (came'.length - (k + 1)) (cc' - (k + 1))) rfl (by kernel_rfl) (by kernel_rfl) (by kernel_rfl) (by kernel_rfl) (fun _ _ _ h => h) (Or.inl ⟨by rfl, fun W hW => by go_simp⟩) hT0 ?_
        refine wpAnyE_ready (rs := [0]) (by kernel_rfl) (by simp) ?_
        refine AllReadyE.cons rfl (fun K hK => ?_) AllReadyE.nil
        go_simp
        refine hK.out _ _ (fun _ => FT'.out _ ⟨bE.os, bE.tape, bE.output, bE.size, bE.block⟩) ?_
        clear hK K
        refine wpAnyE_ready (rs := [5]) (by kernel_rfl) (by simp) ?_
        refine AllReadyE.cons rfl (fun K hK => ?_) AllReadyE.nil
        refine piecesE.step (w0 := W9) ⟨bE.os, bE.tape, bE.output, bE.size, bE.block⟩ rfl (.tmp 81) (.tmp 85) rfl (.slice (some ⟨W9.heap.size, 0, none⟩) 0 0) (.slice (some ⟨bc, oc, none⟩) k cc') rfl rfl [] (came'.take k) oE (HR1.out _ ⟨bE.os, bE.tape, bE.output, bE.size, bE.block⟩) (by simp; omega) ?_
        intro v10 w10 ho10 hg10 hz10 hb10
        rw [List.nil_append] at ho10
        refine hK.out _ _ (fun _ => FT'.out _ hb10) ?_
        clear hK K
        refine wpAnyE_ready (rs := [11]) (by kernel_rfl) (by simp) ?_
        refine AllReadyE.cons rfl (fun K hK => ?_) AllReadyE.nil
        refine piecesE.step (w0 := W9) hb10 rfl (.tmp 86) (.tmp 91) rfl v10 (.slice ad (came'.length - (k + 1)) (cc' - (k + 1))) rfl rfl (came'.take k) (came'.drop (k + 1)) ho10 (HR2.out _ hb10) (by simp; omega) ?_
        intro v11 w11 ho11 hg11 hz11 hb11
        obtain ⟨a11, c11, rfl⟩ := ho11.rd.form
        have hrm : came'.take k ++ came'.drop (k + 1) = rm came' k := rfl
        rw [hrm] at ho11 ⊢
        have hrml := rm_len came' k Hlt'.out
        obtain ⟨m11, hm11⟩ : ∃ m, (rm came' k).length = m := ⟨_, rfl⟩
        rw [hm11] at ho11 ⊢
        refine hK.out _ _ (fun _ => FT'.out _ hb11) ?_
        clear hK K
        refine wpAnyE_ready (rs := [12]) (by kernel_rfl) (by simp) ?_
        refine AllReadyE.cons rfl (fun K hK => ?_) AllReadyE.nil
        go_simp
        refine hK.out _ _ (fun _ => FT'.out _ hb11) ?_
        clear hK K
        refine wpAnyE_ready (rs := [13]) (by kernel_rfl) (by simp) ?_
        refine AllReadyE.cons rfl (fun K hK => ?_) AllReadyE.nil
        have x1 := t1 _ (FT'.out _ hb11)
        have x4 := t2 _ (FT'.out _ hb11)
        go_simp
        refine hK.out _ _ (fun h => absurd rfl h) ?_
        clear hK K
        refine wpAnyE_done (by kernel_rfl) ?_ _
        have hlt9 : w.heap.size < W9.heap.size := by have := HYz.out; omega
        have y0 : w11.heap[w.heap.size]? = some (boxOf win nx' (.slice (some ⟨bc, oc, none⟩) came'.length cc') (.slice a8 (queue'.length + 1) c8)) := by rw [hb11.block _ hlt9]; exact HY0.out
        have y1 : w11.heap[w.heap.size + 1]? = some resOf := by rw [hb11.block _ (by have := HYz.out; omega)]; exact HY1.out
        have HZ0 : Hid ((w11.setCell ⟨w.heap.size, 2, none⟩ (.slice a11 m11 c11)).heap[w.heap.size]? = some (boxOf win nx' (.slice a11 m11 c11) (.slice a8 (queue'.length + 1) c8))) := hide (by rw [heap_set' y0]; rfl)
        have HZ1 : Hid ((w11.setCell ⟨w.heap.size, 2, none⟩ (.slice a11 m11 c11)).heap[w.heap.size + 1]? = some resOf) := hide (by rw [Below.heap_setCell _ _ _ _ (by simp)]; exact y1)
        have HZc : Hid (piecesE.Own (w11.setCell ⟨w.heap.size, 2, none⟩ (.slice a11 m11 c11)) (w.heap.size + 2) (.slice a11 m11 c11) (rm came' k)) := hide (own_far (ho11.mono HYz.out) (by omega))
        have HZq : Hid (strsE.Own (w11.setCell ⟨w.heap.size, 2, none⟩ (.slice a11 m11 c11)) (w.heap.size + 2) (.slice a8 (queue'.length + 1) c8) (queue' ++ [dd])) := hide (own_far (HYq.out.keep hb11) (by omega))
        have HZB : Hid (Below w.heap.size w (w11.setCell ⟨w.heap.size, 2, none⟩ (.slice a11 m11 c11))) := hide (below_set (HYB.out.trans (hb11.mono HYB.out.size)) (Nat.le_refl _))
        have HZz : Hid (w.heap.size + 2 ≤ (w11.setCell ⟨w.heap.size, 2, none⟩ (.slice a11 m11 c11)).heap.size) := hide (by have := hb11.size; have := HYz.out; simp; omega)
        generalize w11.setCell ⟨w.heap.size, 2, none⟩ (.slice a11 m11 c11) = W12 at *
        have x5 := (cells_of HZ0.out 1).1
        have x6 := (cells_of HZ0.out 1).2
        simp at x5
        have ex : IntKind.u16.wrap (nx' + 1) = (nx' + 1) % 65536 := by unfold IntKind.wrap; simp [IntKind.bits, IntKind.signed]
        obtain ⟨nx2, hnx2⟩ : ∃ y, (nx' + 1) % 65536 = y := ⟨_, rfl⟩
        rw [hnx2] at ex HAdv
        clear x1 x4 y0 y1 HY0 HY1 HYc HYq HYB HYz bE oE HR1 HR2 FT' t1 t2 hT0 had hb10 ho10 hg10 hz10 ho11 hg11 hz11 hb11
        have HV0 : Hid ((W12.setCell ⟨w.heap.size, 1, none⟩ (.int .u16 nx2)).heap[w.heap.size]? = some (boxOf win nx2 (.slice a11 m11 c11) (.slice a8 (queue'.length + 1) c8))) := hide (by rw [heap_set' HZ0.out]; rfl)
        have HV1 : Hid ((W12.setCell ⟨w.heap.size, 1, none⟩ (.int .u16 nx2)).heap[w.heap.size + 1]? = some resOf) := hide (by rw [Below.heap_setCell _ _ _ _ (by simp)]; exact HZ1.out)
        have HVc : Hid (piecesE.Own (W12.setCell ⟨w.heap.size, 1, none⟩ (.int .u16 nx2)) (w.heap.size + 2) (.slice a11 m11 c11) (rm came' k)) := hide (own_far HZc.out (by omega))
        have HVq : Hid (strsE.Own (W12.setCell ⟨w.heap.size, 1, none⟩ (.int .u16 nx2)) (w.heap.size + 2) (.slice a8 (queue'.length + 1) c8) (queue' ++ [dd])) := hide (own_far HZq.out (by omega))
        have HVB : Hid (Below w.heap.size w (W12.setCell ⟨w.heap.size, 1, none⟩ (.int .u16 nx2))) := hide (below_set HZB.out (Nat.le_refl _))
        have HVz : Hid (w.heap.size + 2 ≤ (W12.setCell ⟨w.heap.size, 1, none⟩ (.int .u16 nx2)).heap.size) := hide (by have := HZz.out; simpa using this)
        clear HZ0 HZ1 HZc HZq HZB HZz
        go_wp2_with fail
        go_roundw
        case rel => exact ⟨nx2, rm came' k, queue' ++ [dd], a11, a8, c11, c8, ⟨by omega, by omega⟩, HAdv, by rw [hm11, en8]; exact HV0, HV1, by rw [hm11]; exact HVc, by rw [en8]; exact hide (.inr HVq.out), HVB, HVz, hide (by have := Hlen.out; simp; omega), hide (by rw [en8]; exact Hq8.out)⟩
        case measure =>
          have e1 := (cells_of HV0.out 2).1
          have e2 := (cells_of Hold.out 2).1
          simp at e1 e2
          unfold cameLen
          rw [e1, e2]
          show m11 < came'.length
          omega
end Go.Proofs.Ytmbgcbbpkbaajaa
