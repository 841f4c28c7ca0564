/- The shortest ways to a target: waysTo, end, comesTo, step. -/
import Derived.Test.YtmmkfcmbmecleaaPlc
import Derived.Test.YtmmkfcmbmecleaaRmt
import Derived.Deep.RegionWith
namespace Go.Proofs.Ytmmkfcmbmecleaa
open Go.RowKit
set_option linter.unusedVariables false

set_option maxRecDepth 100000 in
set_option maxHeartbeats 4000000 in
theorem waysTo_any (a a' aM : Option Addr) (c c' cM n m k0 t : Nat) (ns : List Nd) (es : List Ed) (ms : List Int) (w : World) (hL : Ly w a a' c c' n m ns es) (hM : Mk w aM cM k0 ms) (hs : t < n) :
    Calls Try.prog 40 #[.agg #[.slice a n c, .slice a' m c'], .slice aM k0 cM, .int .i64 (t : Int)] w fun e w' => (∃ g l, e = .returned (.agg #[.slice a n c, .slice a' m c', .slice aM k0 cM, .int .i64 (t : Int), .slice (some ⟨g, 0, none⟩) n n]) ∧ intE.Own w' w.heap.size (.slice (some ⟨g, 0, none⟩) n n) l ∧ Far (Eg es (clo m ms) 1) (Tk ns) t n l) ∧ Below w.heap.size w w' := by
  obtain ⟨W0, hW0⟩ : ∃ W0, (w.alloc (.cells #[.slice a n c, .slice a' m c'] 25)).alloc (.cells #[.slice none 0 0, .slice none 0 0, .slice none 0 0, .int .i64 0, .slice none 0 0] 80) = W0 := ⟨_, rfl⟩
  have bA : Below w.heap.size w W0 := by rw [← hW0]; exact ((Below.refl _ _).alloc (Nat.le_refl _) _).alloc (by simp) _
  have hbox : W0.heap[w.heap.size]? = some (.cells #[.slice a n c, .slice a' m c'] 25) := by rw [← hW0, Below.heap_alloc _ _ _ (by simp)]; exact heap_new _ _
  have hz : W0.heap[w.heap.size + 1]? = some (.cells #[.slice none 0 0, .slice none 0 0, .slice none 0 0, .int .i64 0, .slice none 0 0] 80) := by
    rw [← hW0]
    have := heap_new (w.alloc (.cells #[.slice a n c, .slice a' m c'] 25)) (.cells #[.slice none 0 0, .slice none 0 0, .slice none 0 0, .int .i64 0, .slice none 0 0] 80)
    rwa [show (w.alloc (.cells #[.slice a n c, .slice a' m c'] 25)).heap.size = w.heap.size + 1 by simp] at this
  have HBOX := hide hbox
  have HZ := hide hz
  have HA := hide bA
  have HW0 := hide hW0
  have d0 := (cells_at hbox 0).1
  have d1 := (cells_at hbox 1).1
  simp at d0 d1
  have K27 : Hid (Calls Try.prog 51 #[.agg #[.slice a n c, .slice a' m c'], .slice aM k0 cM, .int .i64 (t : Int)] W0 fun e w' => (∃ g l, e = .returned (.tuple #[.slice (some ⟨g, 0, none⟩) n n, .int .i64 0]) ∧ intE.Own w' W0.heap.size (.slice (some ⟨g, 0, none⟩) n n) l ∧ Far (Eg es (clo m ms) 1) (Tk ns) t n l) ∧ Below W0.heap.size W0 w') := hide (to_ok a a' aM c c' cM n m k0 t ns es ms W0 (hL.keep bA) (hM.keep bA) hs)
  clear hL hM hs hW0 hbox bA hz
  go_enter Try.func40, Try.ntmps40
  go_upto_region 1 with fail
  rw [HW0.out]
  clear HW0
  go_upto_region 2 with (go_at_call 51; refine (K27.out).mono ?_; rintro e W1 ⟨⟨g, l, rfl, ho, hf⟩, hb⟩; have Ho := hide ho; have Hf := hide hf; have Hb := hide hb; obtain ⟨x0, x1⟩ := layc HBOX.out hb; have HZ1 : Hid (W1.heap[w.heap.size + 1]? = some (.cells #[.slice none 0 0, .slice none 0 0, .slice none 0 0, .int .i64 0, .slice none 0 0] 80)) := hide ((hb.block _ (heap_lt HZ.out)).trans HZ.out); clear ho hf hb)
  obtain ⟨y0, f0⟩ := cells_at HZ1.out 0
  obtain ⟨y1, f1⟩ := cells_at HZ1.out 1
  obtain ⟨y2, f2⟩ := cells_at HZ1.out 2
  obtain ⟨y3, f3⟩ := cells_at HZ1.out 3
  obtain ⟨y4, f4⟩ := cells_at HZ1.out 4
  have HN : Hid (¬ g = w.heap.size + 1) := hide (fun e => by
    have h1 := Ho.out.ge g rfl
    have h2 := heap_lt HZ.out
    omega)
  have HF : Hid (∀ v0 v1 v2 v3 v4, intE.Own (((((W1.setCell ⟨w.heap.size + 1, 0, none⟩ v0).setCell ⟨w.heap.size + 1, 1, none⟩ v1).setCell ⟨w.heap.size + 1, 2, none⟩ v2).setCell ⟨w.heap.size + 1, 3, none⟩ v3).setCell ⟨w.heap.size + 1, 4, none⟩ v4) w.heap.size (.slice (some ⟨g, 0, none⟩) n n) l ∧
      Below w.heap.size w (((((W1.setCell ⟨w.heap.size + 1, 0, none⟩ v0).setCell ⟨w.heap.size + 1, 1, none⟩ v1).setCell ⟨w.heap.size + 1, 2, none⟩ v2).setCell ⟨w.heap.size + 1, 3, none⟩ v3).setCell ⟨w.heap.size + 1, 4, none⟩ v4)) := hide (fun v0 v1 v2 v3 v4 => by
    have hne : (Value.slice (some ⟨g, 0, none⟩) n n).ownBlock ≠ some (w.heap.size + 1) := fun e => HN.out (Option.some.inj e)
    refine ⟨(own_set_other (own_set_other (own_set_other (own_set_other (own_set_other Ho.out hne) hne) hne) hne) hne).mono HA.out.size, ?_⟩
    have hb := HA.out.trans (Hb.out.mono HA.out.size)
    exact ((((hb.setCell (p := ⟨w.heap.size + 1, 0, none⟩) (by simp) _).setCell (p := ⟨w.heap.size + 1, 1, none⟩) (by simp) _).setCell (p := ⟨w.heap.size + 1, 2, none⟩) (by simp) _).setCell (p := ⟨w.heap.size + 1, 3, none⟩) (by simp) _).setCell (p := ⟨w.heap.size + 1, 4, none⟩) (by simp) _)
  simp at y0 y1 y2 y3 y4
  clear HZ HZ1 HBOX
  go_wp2_with fail
  refine bodyPost_ret (v := .agg #[.slice a n c, .slice a' m c', .slice aM k0 cM, .int .i64 (t : Int), .slice (some ⟨g, 0, none⟩) n n]) (by simp [results, Try.results40, go_sem, y0, y1, y2, y3, y4]) rfl ⟨⟨g, l, rfl, (HF.out _ _ _ _ _).1, Hf.out⟩, (HF.out _ _ _ _ _).2⟩

set_option maxRecDepth 100000 in
set_option maxHeartbeats 2000000 in
theorem end_any (a a' aM : Option Addr) (c c' cM n m k0 : Nat) (t : Int) (vF : Value) (es : List Ed) (i : Nat) (x y : Int) (w : World) (hu : edE.Rd w (.slice a' m c') es) (hm : es.length = m) (hl : m ≤ 100000) (hi : es[i]? = some (x, y)) :
    Calls Try.prog 55 #[.agg #[.slice a n c, .slice a' m c', .slice aM k0 cM, .int .i64 t, vF], .int .i64 ((i + 1 : Nat) : Int)] w fun e w' => e = .returned (.int .i64 y) ∧ w' = w.alloc (.cells #[.slice a n c, .slice a' m c', .slice aM k0 cM, .int .i64 t, vF] 80) := by
  have hb : Below w.heap.size w (w.alloc (.cells #[.slice a n c, .slice a' m c', .slice aM k0 cM, .int .i64 t, vF] 80)) := (Below.refl _ _).alloc (Nat.le_refl _) _
  have hlt : i < m := by
    rcases Nat.lt_or_ge i m with h' | h'
    · exact h'
    · rw [List.getElem?_eq_none (by omega)] at hi; cases hi
  obtain ⟨b, off, rfl, c0, c1⟩ := ed_at (hu.keep hb) i (x, y) hi
  simp only at c0 c1
  have j0 : (0 : Int) ≤ (i : Int) := by omega
  have j1 : (i : Int) < (m : Int) := by omega
  have j2 : (m : Int) ≤ 100000 := by omega
  rw [show ((i + 1 : Nat) : Int) = (i : Int) + 1 by omega]
  clear hu hm hl hi hb hlt
  go_enter Try.func55, Try.ntmps55
  go_wp2_with fail
  go_ret
  trivial
end Go.Proofs.Ytmmkfcmbmecleaa
