/- From, To, hasWay, mustReach. -/
import Derived.Test.YtmmkfcmbmecleaaBtw
namespace Go.Proofs.Ytmmkfcmbmecleaa
open Go.RowKit
set_option linter.unusedVariables false

/-- a layout that lies there: its nodes, its edges, which lead to nodes -/
structure Ly (w : World) (a a' : Option Addr) (c c' n m : Nat) (ns : List Nd) (es : List Ed) : Prop where
  hn : ns.length = n
  hm : es.length = m
  hv : ndE.Rd w (.slice a n c) ns
  hu : edE.Rd w (.slice a' m c') es
  n4 : n ≤ 1000
  m4 : m ≤ 1000
  hE : inB n es
theorem Ly.keep {w w' : World} {a a' : Option Addr} {c c' n m : Nat} {ns : List Nd} {es : List Ed} (h : Ly w a a' c c' n m ns es) (hb : Below w.heap.size w w') : Ly w' a a' c c' n m ns es :=
  ⟨h.hn, h.hm, h.hv.keep hb, h.hu.keep hb, h.n4, h.m4, h.hE⟩
/-- a list of numbers that lies there -/
structure Mk (w : World) (aM : Option Addr) (cM k0 : Nat) (ms : List Int) : Prop where
  hk : ms.length = k0
  hM : intE.Rd w (.slice aM k0 cM) ms
  k4 : k0 ≤ 100000
theorem Mk.keep {w w' : World} {aM : Option Addr} {cM k0 : Nat} {ms : List Int} (h : Mk w aM cM k0 ms) (hb : Below w.heap.size w w') : Mk w' aM cM k0 ms := ⟨h.hk, h.hM.keep hb, h.k4⟩

set_option maxRecDepth 100000 in
set_option maxHeartbeats 4000000 in
set_option maxRecDepth 100000 in
set_option maxHeartbeats 4000000 in
set_option maxRecDepth 100000 in
set_option maxHeartbeats 4000000 in
theorem to_no (a a' aM : Option Addr) (c c' cM n m k0 : Nat) (x : Int) (w : World) (hx : ¬ (0 ≤ x ∧ x < (n : Int))) :
    Calls Try.prog 51 #[.agg #[.slice a n c, .slice a' m c'], .slice aM k0 cM, .int .i64 x] w fun e w' => e = .returned (.tuple #[.slice none 0 0, .int .i64 1]) ∧ Below w.heap.size w w' := by
  have bA : Below w.heap.size w (w.alloc (.cells #[.slice a n c, .slice a' m c'] 25)) := (Below.refl _ _).alloc (Nat.le_refl _) _
  have HA := hide bA
  have K25 := hide (fun i W => isPlace_any a a' n c m c' i W)
  have tx : decide (0 ≤ x ∧ x < (n : Int)) = false := decide_eq_false hx
  clear hx bA
  go_enter Try.func51, Try.ntmps51
  go_wp2_with (go_at_call 57; refine (K25.out _ _).mono ?_; rintro e W2 ⟨rfl, hb2⟩; rw [tx]; have Hb2 := hide hb2; clear hb2)
  refine bodyPost_ret (v := .tuple #[.slice none 0 0, .int .i64 1]) (by simp [results, Try.results51, go_sem]) rfl ⟨rfl, HA.out.trans (Hb2.out.mono HA.out.size)⟩

set_option maxRecDepth 100000 in
set_option maxHeartbeats 4000000 in
theorem to_ok (a a' aM : Option Addr) (c c' cM n m k0 s : Nat) (ns : List Nd) (es : List Ed) (ms : List Int) (w : World) (hL : Ly w a a' c c' n m ns es) (hM : Mk w aM cM k0 ms) (hs : s < n) :
    Calls Try.prog 51 #[.agg #[.slice a n c, .slice a' m c'], .slice aM k0 cM, .int .i64 (s : Int)] w fun e w' => (∃ g l, e = .returned (.tuple #[.slice (some ⟨g, 0, none⟩) n n, .int .i64 0]) ∧ intE.Own w' w.heap.size (.slice (some ⟨g, 0, none⟩) n n) l ∧ Far (Eg es (clo m ms) 1) (Tk ns) s n l) ∧ Below w.heap.size w w' := by
  obtain ⟨W0, hW0⟩ : ∃ W0, w.alloc (.cells #[.slice a n c, .slice a' m c'] 25) = W0 := ⟨_, rfl⟩
  have bA : Below w.heap.size w W0 := by rw [← hW0]; exact (Below.refl _ _).alloc (Nat.le_refl _) _
  have hbox : W0.heap[w.heap.size]? = some (.cells #[.slice a n c, .slice a' m c'] 25) := by rw [← hW0]; exact heap_new _ _
  have HBOX := hide hbox
  have d0 := (cells_at hbox 0).1
  have d1 := (cells_at hbox 1).1
  simp at d0 d1
  have HA := hide bA
  have HLW : Hid (∀ W, Below W0.heap.size W0 W → Ly W a a' c c' n m ns es) := hide (fun W h => hL.keep (bA.trans (h.mono bA.size)))
  have HMW : Hid (∀ W, Below W0.heap.size W0 W → Mk W aM cM k0 ms) := hide (fun W h => hM.keep (bA.trans (h.mono bA.size)))
  have K25 := hide (fun i W => isPlace_any a a' n c m c' i W)
  have K27 : Hid (∀ W, Below W0.heap.size W0 W → _) := hide (fun W h => closed_any a a' aM c c' cM n m k0 ms W (HMW.out W h).hk (HMW.out W h).hM (HMW.out W h).k4 (by have := hL.m4; omega))
  have K26 : Hid (∀ (W : World) (g : Nat), Below W0.heap.size W0 W → boolE.Rd W (.slice (some ⟨g, 0, none⟩) m m) (clo m ms) → _) := hide (fun W g h hc => lengths_to a a' (some ⟨g, 0, none⟩) c c' m n m s ns es (clo m ms) W (HLW.out W h).hn (HLW.out W h).hm (clo_len _ _) (HLW.out W h).hv (HLW.out W h).hu hc hL.n4 hL.m4 hs hL.hE)
  have tx : decide (0 ≤ (s : Int) ∧ (s : Int) < (n : Int)) = true := decide_eq_true ⟨by omega, by omega⟩
  have HW0 := hide hW0
  obtain ⟨SS, hSS⟩ : ∃ SS : World → Prop, SS = fun W' => Below W0.heap.size W0 W' := ⟨_, rfl⟩
  have s9 : Hid (∀ W', SS W' → Below W0.heap.size W0 W') := hide (fun W' h => by rw [hSS] at h; exact h)
  have s8 : Hid (∀ W', Below W0.heap.size W0 W' → SS W') := hide (fun W' h => by rw [hSS]; exact h)
  have s1 : ∀ W', SS W' → W'.cell? ⟨w.heap.size, 0, none⟩ = some (.slice a n c) := fun W' h => (layc HBOX.out (s9.out W' h)).1
  have s2 : ∀ W', SS W' → W'.cell? ⟨w.heap.size, 1, none⟩ = some (.slice a' m c') := fun W' h => (layc HBOX.out (s9.out W' h)).2
  clear hL hM hs hW0 hbox bA hSS
  go_enter Try.func51, Try.ntmps51
  go_upto_region 1 with fail
  rw [HW0.out]
  clear HW0
  go_upto_region 3 with (go_at_call 57; refine (K25.out _ _).mono ?_; rintro e W2 ⟨rfl, hb2⟩; rw [tx]; have Hb2 := hide hb2; clear hb2)
  clear d0 d1 tx K25
  refine wp_region_held_drew (S := SS) (by kernel_rfl) (s8.out _ (below_heap Hb2.out rfl rfl rfl rfl)) (fun hS0 => ?_)
  refine wpAnyH_take (i := 0) (v := .agg #[.slice a n c, .slice a' m c']) rfl (by kernel_rfl) (by kernel_rfl) (by kernel_rfl) (fun _ _ _ h => h) (Or.inl ⟨by rfl, fun W' hW => by have x0 := s1 W' hW; have x1 := s2 W' hW; go_simp⟩) hS0 ?_
  refine wpAnyH_take (i := 1) (v := .agg #[.slice a n c, .slice a' m c']) rfl (by kernel_rfl) (by kernel_rfl) (by kernel_rfl) (fun _ _ _ h => h) (Or.inl ⟨by rfl, fun W' hW => by have x0 := s1 W' hW; have x1 := s2 W' hW; go_simp⟩) hS0 ?_
  refine wpAnyH_take (i := 2) (v := .slice aM k0 cM) rfl (by kernel_rfl) (by kernel_rfl) (by kernel_rfl) (fun _ _ _ h => h) (Or.inl ⟨by rfl, fun W' hW => by go_simp⟩) hS0 ?_
  refine wpAnyH_take (i := 4) (v := .int .i64 (s : Int)) rfl (by kernel_rfl) (by kernel_rfl) (by kernel_rfl) (fun _ _ _ h => h) (Or.inl ⟨by rfl, fun W' hW => by go_simp⟩) hS0 ?_
  refine wpAnyH_ready (rs := [3]) (by kernel_rfl) (by simp) ?_
  refine AllReadyH.cons rfl (fun K hK => ?_) AllReadyH.nil
  go_simp
  refine (K27.out _ (s9.out _ hS0)).mono ?_
  rintro e W3 ⟨⟨g, rfl, hO3⟩, hb3⟩
  refine hK.out _ _ (s8.out _ ((s9.out _ hS0).trans (hb3.mono (s9.out _ hS0).size))) (fun hS3 => ?_)
  clear hK K
  have HO3 := hide hO3
  refine wpAnyH_ready (rs := [5]) (by kernel_rfl) (by simp) ?_
  refine AllReadyH.cons rfl (fun K hK => ?_) AllReadyH.nil
  go_simp
  refine (K26.out _ g (s9.out _ hS3) HO3.out.rd).mono ?_
  rintro e W4 ⟨⟨g4, l, rfl, hO4, hF4⟩, hb4⟩
  refine hK.out _ _ (s8.out _ ((s9.out _ hS3).trans (hb4.mono (s9.out _ hS3).size))) (fun hS4 => ?_)
  clear hK K
  refine wpAnyH_take (i := 6) (v := .slice (some ⟨g4, 0, none⟩) n n) rfl (by kernel_rfl) (by kernel_rfl) (by kernel_rfl) (fun _ _ _ h => h) (Or.inl ⟨by rfl, fun W' hW => by go_simp⟩) hS4 ?_
  refine wpAnyH_take (i := 7) (v := .int .i64 0) rfl (by kernel_rfl) (by kernel_rfl) (by kernel_rfl) (fun _ _ _ h => h) (Or.inl ⟨by rfl, fun W' hW => by go_simp⟩) hS4 ?_
  refine wpAnyH_done (by kernel_rfl) ?_ _
  have Hb4 := hide (s9.out _ hS4)
  have HO4 := hide hO4
  have HF4 := hide hF4
  have Hsz : Hid (w.heap.size ≤ W3.heap.size) := hide (Nat.le_trans HA.out.size (s9.out _ hS3).size)
  clear hO4 hF4 s1 s2
  go_wp2_with fail
  refine bodyPost_ret (v := .tuple #[.slice (some ⟨g4, 0, none⟩) n n, .int .i64 0]) (by simp [results, Try.results51, go_sem]) rfl ⟨⟨g4, l, rfl, HO4.out.mono Hsz.out, HF4.out⟩, HA.out.trans (Hb4.out.mono HA.out.size)⟩

set_option maxRecDepth 100000 in
set_option maxHeartbeats 4000000 in
def mustB (x y : Int) : Bool := (decide (y = 3) && (decide (x = 4) || decide (x = 2))) || (decide (y = 2) && decide (x = 4))
end Go.Proofs.Ytmmkfcmbmecleaa
