/- The document's Zone and Pieces; two lists of pieces held against each other. -/
import Derived.Test.YtmmkfcmbmecleaaZpc
import Derived.Deep.RegionHeld3
namespace Go.Proofs.Ytmmkfcmbmecleaa
open Go.RowKit
set_option linter.unusedVariables false

/-- the zone of a device, or -1 -/
def rdz (ns : List Nd) (es : List Ed) (d : Int) : Int := if dOk es d = true then dz ns es d else -1

set_option maxRecDepth 100000 in
set_option maxHeartbeats 4000000 in
theorem rzone_any (a a' : Option Addr) (c c' n m : Nat) (ns : List Nd) (es : List Ed) (d : Int) (w : World) (hL : Ly w a a' c c' n m ns es) :
    Calls Try.prog 16 #[.agg #[.slice a n c, .slice a' m c'], .int .i64 d] w fun e w' => e = .returned (.int .i64 (rdz ns es d)) ∧ Below w.heap.size w w' := by
  obtain ⟨W0, hW0⟩ : ∃ W0, w.alloc (.cells #[.slice a n c, .slice a' m c'] 25) = W0 := ⟨_, rfl⟩
  have bA : Below w.heap.size w W0 := by rw [← hW0]; exact (Below.refl _ _).alloc (Nat.le_refl _) _
  have hbox : W0.heap[w.heap.size]? = some (.cells #[.slice a n c, .slice a' m c'] 25) := by rw [← hW0]; exact heap_new _ _
  obtain ⟨b0, b1⟩ := layc hbox (Below.refl _ _)
  have HA := hide bA
  have hL0 := hL.keep bA
  have i1 : (n : Int) ≤ 1000 := by have := hL.n4; omega
  have i2 : (m : Int) ≤ 1000 := by have := hL.m4; omega
  cases hd : dOk es d with
  | false =>
    have hdd := of_decide_eq_false hd
    rw [hL.hm] at hdd
    have hr : rdz ns es d = -1 := by unfold rdz; rw [if_neg (by rw [hd]; decide)]
    rw [hr]
    clear hL hL0 bA hbox hd hr
    by_cases g2 : d < 1
    · clear hdd
      go_enter Try.func16, Try.ntmps16
      go_wp2_with fail
      go_ret
      exact ⟨rfl, HA.out⟩
    · have g3 : d > (m : Int) := by omega
      clear hdd
      go_enter Try.func16, Try.ntmps16
      go_wp2_with fail
      go_ret
      exact ⟨rfl, HA.out⟩
  | true =>
    obtain ⟨j, q, e, p, hxe, he, hq, hqn, hp, hz⟩ := dz_at hL.hn hL.hE hd
    have hdd := of_decide_eq_true hd
    rw [hL.hm] at hdd
    obtain ⟨be, offe, hae, _, d1⟩ := ed_at hL0.hu j e he
    obtain ⟨bn, offn, han, _, _, d3⟩ := nd_at hL0.hv q p hp
    have hr : rdz ns es d = dz ns es d := by unfold rdz; rw [if_pos hd]
    rw [hr]
    rw [hq] at d1
    rw [hz] at d3
    subst hae
    subst han
    have x1 : ¬ (d < 1) := by omega
    have x2 : ¬ (d > (m : Int)) := by omega
    subst hxe
    generalize dz ns es ((j : Int) + 1) = dv at *
    have j0 : (0 : Int) ≤ (j : Int) := by omega
    have j1 : (j : Int) < (m : Int) := by omega
    have q2 : (0 : Int) ≤ (q : Int) := by omega
    have q3 : (q : Int) < (n : Int) := by omega
    have jj : (j : Int) + 1 - 1 = (j : Int) := by omega
    have hwj : IntKind.i64.wrap ((j : Int) + 1 - 1) = (j : Int) := by rw [jj]; exact i64_small _ (by omega) (by omega)
    have hwj2 : IntKind.i64.wrap (j : Int) = (j : Int) := i64_small _ (by omega) (by omega)
    clear hL hL0 bA hbox hd hr hdd he hp hq hz hqn
    go_enter Try.func16, Try.ntmps16
    go_upto_region 3 with fail
    go_quiet (fail)
    go_wp2_with fail
    go_ret
    exact ⟨rfl, below_heap HA.out rfl rfl rfl rfl⟩

set_option maxRecDepth 100000 in
set_option maxHeartbeats 4000000 in
theorem samep_any (v v' : Value) (ps : List (List Int)) (w : World) (hv : Lds w v ps) (hv' : Lds w v' ps) (hl : ps.length ≤ 1000) (hp : ∀ p ∈ ps, p.length ≤ 1000) :
    Calls Try.prog 15 #[v, v'] w fun e w' => e = .returned (.bool true) ∧ Below w.heap.size w w' := by
  obtain ⟨a, c, rfl⟩ := hv.form
  obtain ⟨a', c', rfl⟩ := hv'.form
  obtain ⟨n, hn⟩ : ∃ n, ps.length = n := ⟨_, rfl⟩
  rw [hn] at hv hv' ⊢
  have Hn := hide hn
  have Hp := hide hp
  have Hv : Hid (∀ W, W.heap = w.heap → Lds W (.slice a n c) ps) := hide (fun W h => by
    obtain ⟨svs, h1, h2, h3⟩ := hv
    exact ⟨svs, rd_heap h1 h, h2, fun i s p hs hp => rd_heap (h3 i s p hs hp) h⟩)
  have Hv' : Hid (∀ W, W.heap = w.heap → Lds W (.slice a' n c') ps) := hide (fun W h => by
    obtain ⟨svs, h1, h2, h3⟩ := hv'
    exact ⟨svs, rd_heap h1 h, h2, fun i s p hs hp => rd_heap (h3 i s p hs hp) h⟩)
  have i0 : (n : Int) ≤ 1000 := by omega
  obtain ⟨w0, rfl⟩ : ∃ w0, w0 = w := ⟨_, rfl⟩
  clear hn hp hv hv' hl
  have hnn : ((n : Int) != (n : Int)) = false := by simp
  go_enter Try.func15, Try.ntmps15
  go_wp2_with fail
  go_loopw [13] (fun v13 wr => ∃ i : Nat, v13 = .int .i64 i ∧ i ≤ n ∧ Hid (∃ q, wr = w0.drewN q)) (fun v13 _ => n - (intOf v13).toNat)
  case atStart => exact ⟨0, rfl, Nat.zero_le _, hide ⟨0, rfl⟩⟩
  case round =>
    obtain ⟨i, rfl, hi, HW⟩ := hrel
    have Hh : Hid (wr.heap = w0.heap) := hide (by obtain ⟨q, rfl⟩ := HW.out; rfl)
    have HW2 : Hid (∀ m, ∃ q, wr.drewN m = w0.drewN q) := hide (fun m => by
      obtain ⟨q, rfl⟩ := HW.out
      exact ⟨q + m, by simp⟩)
    by_cases hlt : i < n
    · obtain ⟨p, hp⟩ : ∃ p, ps[i]? = some p := ⟨_, List.getElem?_eq_getElem (by rw [Hn.out]; exact hlt)⟩
      obtain ⟨b, off, a1, c1, ha, e0, r0⟩ := (Hv.out wr Hh.out).at i p hp
      obtain ⟨b', off', a2, c2, ha', e1, r1⟩ := (Hv'.out wr Hh.out).at i p hp
      subst ha ha'
      have hpl := Hp.out p (List.mem_of_getElem? hp)
      have K : Hid (∀ q, Calls Try.prog 18 #[.slice a1 p.length c1, .slice a2 p.length c2] (wr.drewN q) fun e w' => e = .returned (.bool true) ∧ ∃ m, w' = (wr.drewN q).drewN m) := hide (fun q => by
        have := ints_any a1 a2 c1 c2 p.length p.length p p (wr.drewN q) rfl rfl (rd_heap r0 rfl) (rd_heap r1 rfl) (by omega)
        rwa [decide_eq_true rfl] at this)
      generalize p.length = pn at *
      have g0 : (0 : Int) ≤ (i : Int) := by omega
      have g1 : (i : Int) < (n : Int) := by omega
      clear hp r0 r1 HW
      go_upto_region 6 with fail
      go_quiet ((go_at_call 18; exact Calls.quiet_of (K.out _)))
      go_wp2_with fail
      go_roundw
      case rel => exact ⟨i + 1, by go_num, by omega, hide (HW2.out _)⟩
      case measure => simp [intOf]; omega
    · obtain rfl : i = n := by omega
      have g1 : ¬ (i : Int) < (i : Int) := by omega
      have HBf : Hid (Below w0.heap.size w0 wr) := hide (by obtain ⟨q, rfl⟩ := HW.out; exact below_heap (Below.refl _ _) rfl rfl rfl rfl)
      go_wp2_with fail
      go_ret
      exact ⟨rfl, HBf.out⟩
end Go.Proofs.Ytmmkfcmbmecleaa
