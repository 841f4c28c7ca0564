/- awake. -/
import Derived.Test.YtpjolnaomdmnnaaDoorPrs
namespace Go.Proofs.YtpjolnaomdmnnaaDoor
open Go.RowKit Go.Maps Go.ChangeMaps
set_option linter.unusedVariables false

def text1 : ByteArray := ⟨#[110, 111, 100, 101, 32, 97, 32, 116, 114, 97, 99, 107, 32, 48, 10, 110, 111, 100, 101, 32, 115, 32, 115, 108, 111, 116, 32, 48, 10, 101, 100, 103, 101, 32, 97, 32, 115, 10]⟩
def text2 : ByteArray := ⟨#[101, 100, 103, 101, 32, 97, 32, 98, 10, 110, 111, 100, 101, 32, 98, 32, 115, 108, 111, 116, 32, 48]⟩
theorem parse1 : parseS lastAt text1 = (([⟨str [97], 1, 0⟩, ⟨str [115], 2, 0⟩], [(0, 1)]), 0, 0) := by decide +kernel
theorem parse2 : parseS lastAt text2 = (([], []), 1, 60) := by decide +kernel
set_option maxRecDepth 100000 in
set_option maxHeartbeats 2000000 in
theorem awake_any (w : World) (L : Laid w) : Calls Tryd.prog 9 #[] w fun e w' => e = .returned (.bool true) ∧ Below w.heap.size w w' := by
  have K1 := hide (parse_any text1 w L (by decide))
  have K2 : Hid (∀ W, Below w.heap.size w W → _) := hide (fun W (h : Below w.heap.size w W) => parse_any text2 W (L.keep L.size h) (by decide))
  rw [parse1] at K1
  rw [parse2] at K2
  have h5 := hide L.size
  clear L
  unfold text1 at K1
  unfold text2 at K2
  go_enter Tryd.func9, Tryd.ntmps9
  go_upto_region 2 with (go_at_call 14; refine (K1.out).mono ?_; rintro e W1 ⟨vN, vE, rfl, hN, hE, hb⟩; obtain ⟨aN, cN, rfl⟩ := hN.rd.form; obtain ⟨aE, cE, rfl⟩ := hE.rd.form; have HE := hide hE; have Hb := hide hb; clear hN hE hb)
  obtain ⟨b, off, e, c0, c1⟩ := ed_at HE.out.rd 0 (0, 1) rfl
  subst e
  rw [Nat.zero_mul, Nat.add_zero] at c0 c1
  obtain ⟨W2, hW2⟩ : ∃ W2, W1.alloc (.cells #[.slice aN 2 cN, .slice (some ⟨b, off, none⟩) 1 cE] 25) = W2 := ⟨_, rfl⟩
  have b2 : Below W1.heap.size W1 W2 := by rw [← hW2]; exact (Below.refl _ _).alloc (Nat.le_refl _) _
  have hx : W2.heap[W1.heap.size]? = some (.cells #[.slice aN 2 cN, .slice (some ⟨b, off, none⟩) 1 cE] 25) := by rw [← hW2]; exact heap_new _ _
  have bw2 := Hb.out.trans (b2.mono Hb.out.size)
  have Hbw2 := hide bw2
  have X : Hid (∀ W, Below W2.heap.size W2 W → W.cell? ⟨W1.heap.size, 0, none⟩ = some (.slice aN 2 cN) ∧ W.cell? ⟨W1.heap.size, 1, none⟩ = some (.slice (some ⟨b, off, none⟩) 1 cE) ∧ W.cell? ⟨b, off, none⟩ = some (.int .i64 0) ∧ W.cell? ⟨b, off + 1, none⟩ = some (.int .i64 1)) := hide (fun W h => by
    have hx' : W.heap[W1.heap.size]? = some (.cells #[.slice aN 2 cN, .slice (some ⟨b, off, none⟩) 1 cE] 25) := by rw [h.block _ (heap_lt hx)]; exact hx
    have hh := b2.trans (h.mono b2.size)
    exact ⟨(cells_at hx' 0).1, (cells_at hx' 1).1, by rw [hh.cell (cell_lt c0)]; exact c0, by rw [hh.cell (cell_lt c1)]; exact c1⟩)
  have HW2 := hide hW2
  clear c0 c1 b2 hx bw2 hW2
  rw [HW2.out]
  have heq := fun W => ed_equal W 0 1 0 1
  simp only [decide_true] at heq
  go_wp2_with (go_at_call 14; refine (K2.out _ Hbw2.out).mono ?_; rintro e W3 ⟨vN', vE', rfl, hN, hE, hb⟩; obtain ⟨aN', cN', rfl⟩ := hN.rd.form; obtain ⟨aE', cE', rfl⟩ := hE.rd.form; have ⟨x0, x1, x2, x3⟩ := X.out _ hb; have Hb3 := hide (Hbw2.out.trans (hb.mono Hbw2.out.size)); have lt3 : Hid (W1.heap.size < W3.heap.size ∧ b < W3.heap.size) := hide ⟨cell_lt x0, cell_lt x2⟩; have bn : Below W3.heap.size W3 (W3.alloc (.cells #[.slice aN' 0 cN', .slice aE' 0 cE'] 25)) := (Below.refl _ _).alloc (Nat.le_refl _) _; have z0 := (bn.cell (cell_lt x0)).trans x0; have z1 := (bn.cell (cell_lt x1)).trans x1; have z2 := (bn.cell (cell_lt x2)).trans x2; have z3 := (bn.cell (cell_lt x3)).trans x3; have Hb4 := hide (Hb3.out.trans (bn.mono Hb3.out.size)); clear hN hE hb bn x0 x1 x2 x3)
  go_ret
  exact ⟨rfl, Hb4.out⟩
end Go.Proofs.YtpjolnaomdmnnaaDoor
