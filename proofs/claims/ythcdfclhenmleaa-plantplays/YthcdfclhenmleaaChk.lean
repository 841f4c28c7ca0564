/- layout.Check. -/
import Derived.Test.YthcdfclhenmleaaEdg
namespace Go.Proofs.Ythcdfclhenmleaa
open Go.RowKit Go.Maps Go.ChangeMaps
set_option linter.unusedVariables false

set_option maxRecDepth 100000 in
set_option maxHeartbeats 1000000 in
theorem check_any (a a' : Option Addr) (c c' : Nat) (ns : List Nd) (es : List Ed) (w : World) (hv : ndE.Rd w (.slice a ns.length c) ns) (hu : edE.Rd w (.slice a' es.length c') es) (hcap : es.length ≤ c') (hs : ∀ n ∈ ns, n.name.size ≤ maxLen) :
    Calls Try.prog 27 #[.agg #[.slice a ns.length c, .slice a' es.length c']] w fun e w' => e = .returned (.int .i64 (if good ns es = true then 0 else 61)) ∧ Below w.heap.size w w' := by
  obtain ⟨W0, hW0⟩ : ∃ W0, w.alloc (.cells #[.slice a ns.length c, .slice a' es.length c'] 25) = W0 := ⟨_, rfl⟩
  have bA : Below w.heap.size w W0 := by rw [← hW0]; exact (Below.refl _ _).alloc (Nat.le_refl _) _
  have hbox : W0.heap[w.heap.size]? = some (.cells #[.slice a ns.length c, .slice a' es.length c'] 25) := by rw [← hW0]; exact heap_new _ _
  have K26 := hide (nodesFit_any a c ns W0 (hv.keep bA) hs)
  have K27 : Hid (∀ W, Below w.heap.size w W → _) := hide (fun W (h : Below w.heap.size w W) => edgesFit_any a a' c c' ns es W (hv.keep h) (hu.keep h) hcap)
  have gd : good ns es = (goodN ns && goodE ns es) := rfl
  rw [gd]
  have HA := hide bA
  have X : Hid (∀ W, Below W0.heap.size W0 W → Below w.heap.size w W ∧ W.cell? ⟨w.heap.size, 0, none⟩ = some (.slice a ns.length c) ∧ W.cell? ⟨w.heap.size, 1, none⟩ = some (.slice a' es.length c')) := hide (fun W h => by
    have hx : W.heap[w.heap.size]? = some (.cells #[.slice a ns.length c, .slice a' es.length c'] 25) := by rw [h.block _ (heap_lt hbox)]; exact hbox
    exact ⟨bA.trans (h.mono bA.size), (cells_at hx 0).1, (cells_at hx 1).1⟩)
  subst hW0
  clear hv hu bA hbox gd hcap hs
  generalize goodN ns = g1 at *
  generalize goodE ns es = g2 at *
  generalize ns.length = n at *
  generalize es.length = m at *
  cases g1 with
  | false =>
    clear K27
    go_enter Try.func27, Try.ntmps27
    go_wp2_with (go_at_call 41; refine (K26.out).mono ?_; rintro e W1 ⟨rfl, hb1⟩; have ⟨hb1', y0, y1⟩ := X.out _ hb1; have Hb1 := hide hb1'; clear hb1 hb1')
    go_ret
    exact ⟨rfl, Hb1.out⟩
  | true =>
    cases g2 with
    | false =>
      go_enter Try.func27, Try.ntmps27
      go_wp2_with (first
        | (go_at_call 41; refine (K26.out).mono ?_; rintro e W1 ⟨rfl, hb1⟩; have ⟨hb1', y0, y1⟩ := X.out _ hb1; have Hb1 := hide hb1'; clear hb1 hb1')
        | (go_at_call 42; refine (K27.out _ Hb1.out).mono ?_; rintro e W2 ⟨rfl, hb2⟩; have Hb2 := hide (Hb1.out.trans (hb2.mono Hb1.out.size)); clear hb2))
      go_ret
      exact ⟨rfl, Hb2.out⟩
    | true =>
      go_enter Try.func27, Try.ntmps27
      go_wp2_with (first
        | (go_at_call 41; refine (K26.out).mono ?_; rintro e W1 ⟨rfl, hb1⟩; have ⟨hb1', y0, y1⟩ := X.out _ hb1; have Hb1 := hide hb1'; clear hb1 hb1')
        | (go_at_call 42; refine (K27.out _ Hb1.out).mono ?_; rintro e W2 ⟨rfl, hb2⟩; have Hb2 := hide (Hb1.out.trans (hb2.mono Hb1.out.size)); clear hb2))
      go_ret
      exact ⟨rfl, Hb2.out⟩

end Go.Proofs.Ythcdfclhenmleaa
