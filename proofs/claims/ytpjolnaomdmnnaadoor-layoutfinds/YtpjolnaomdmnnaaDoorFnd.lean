/- Find and Out. -/
import Derived.Test.YtpjolnaomdmnnaaDoorRgd
namespace Go.Proofs.YtpjolnaomdmnnaaDoor
open Go.RowKit
set_option linter.unusedVariables false

set_option maxHeartbeats 1000000 in
theorem closure_any (p : Nd) (s : ByteArray) (q : Nat) (w : World) (hcell : w.cell? ⟨q, 0, none⟩ = some (.string s)) :
    Calls Tryd.prog 32 #[.agg #[.string p.name, .int .i64 p.kind, .int .i64 p.zone], .pointer (some ⟨q, 0, none⟩)] w fun e w' => e = .returned (.bool (decide (p.name = s))) ∧ Below w.heap.size w w' := by
  have hq : q < w.heap.size := cell_lt hcell
  have hne : q ≠ w.heap.size := by omega
  have hB : Hid (∀ o, Below w.heap.size w (w.alloc o)) := hide (fun o => (Below.refl _ _).alloc (Nat.le_refl _) o)
  have ee := eq_bytes p.name s
  obtain ⟨nm, k, z⟩ := p
  simp only at ee ⊢
  generalize decide (nm = s) = res at *
  go_enter Tryd.func32, Tryd.ntmps32
  go_wp2
  go_ret
  exact ⟨by simp, hB.out _⟩

set_option maxRecDepth 100000 in
set_option maxHeartbeats 2000000 in
theorem indexF_any (a : Option Addr) (c : Nat) (ns : List Nd) (s : ByteArray) (q : Nat) (w : World) (hv : ndE.Rd w (.slice a ns.length c) ns) (hl : ns.length ≤ 100000) (hcell : w.cell? ⟨q, 0, none⟩ = some (.string s)) :
    Calls Tryd.prog 31 #[.slice a ns.length c, .func (.func 32) #[] #[.pointer (some ⟨q, 0, none⟩)]] w fun e w' => e = .returned (.int .i64 ((firstAt ns s).getD (-1))) ∧ Below w.heap.size w w' := by
  obtain ⟨n, hn⟩ : ∃ n, ns.length = n := ⟨_, rfl⟩
  rw [hn] at hv hl ⊢
  have Hv := hide hv
  have Hn := hide hn
  have Hc := hide hcell
  have i0 : (n : Int) ≤ 100000 := by omega
  have i1 : (0 : Int) ≤ (n : Int) := by omega
  obtain ⟨res, hres⟩ : ∃ res, (firstAt ns s).getD (-1) = res := ⟨_, rfl⟩
  rw [hres]
  have Hres := hide hres
  have B0 : Hid (Below w.heap.size w w) := hide (Below.refl _ _)
  clear hn hv hl hres hcell
  go_enter Tryd.func31, Tryd.ntmps31
  go_wp2_with fail
  go_loopw [8] (fun v8 wr => ∃ k : Nat, k ≤ n ∧ v8 = .int .i64 k ∧ Hid (Below w.heap.size w wr) ∧ Hid (∀ i p, i < k → ns[i]? = some p → p.name ≠ s)) (fun v8 _ => n - (intOf v8).toNat)
  case atStart => exact ⟨0, by omega, rfl, B0, hide (fun i p hi => by omega)⟩
  case round =>
    obtain ⟨k, hk, rfl, HB, HX⟩ := hrel
    by_cases hlt : k < n
    · obtain ⟨p, hp⟩ : ∃ p, ns[k]? = some p := ⟨_, List.getElem?_eq_getElem (by rw [Hn.out]; exact hlt)⟩
      obtain ⟨b, off, rfl, c0, c1, c2⟩ := nd_at (Hv.out.keep HB.out) k p hp
      have hcw : wr.cell? ⟨q, 0, none⟩ = some (.string s) := by rw [HB.out.cell (cell_lt Hc.out)]; exact Hc.out
      have K32 := hide (closure_any p s q wr hcw)
      have j0 : (0 : Int) ≤ (k : Int) := by omega
      have j1 : (k : Int) < (n : Int) := by omega
      have Hp := hide hp
      clear hp hcw
      by_cases he : p.name = s
      · rw [decide_eq_true he] at K32
        have hr : res = (k : Int) := by
          rw [← Hres.out]
          unfold firstAt
          rw [firstFrom_drop s ns k (by rw [Hn.out]; omega) HX.out]
          have hk' : k < ns.length := by rw [Hn.out]; exact hlt
          have := Hp.out
          rw [List.getElem?_eq_getElem hk'] at this
          cases this
          rw [← List.getElem_cons_drop hk', firstFrom, if_pos he]
          rfl
        subst hr
        clear he
        go_wp2_with (go_at_call 32; refine K32.out.mono ?_; rintro e w2 ⟨rfl, b2⟩; have B2 := hide b2; clear b2)
        go_ret
        exact ⟨rfl, HB.out.trans (B2.out.mono HB.out.size)⟩
      · rw [decide_eq_false he] at K32
        have HX1 : Hid (∀ i p, i < k + 1 → ns[i]? = some p → p.name ≠ s) := hide (fun i r hi hr => by
          rcases Nat.lt_or_ge i k with h' | h'
          · exact HX.out i r h' hr
          · obtain rfl : i = k := by omega
            rw [Hp.out] at hr
            cases hr
            exact he)
        clear he
        go_wp2_with (go_at_call 32; refine K32.out.mono ?_; rintro e w2 ⟨rfl, b2⟩; have B2 := hide (HB.out.trans (b2.mono HB.out.size)); clear b2)
        go_roundw
        case rel => exact ⟨k + 1, by omega, by go_num, B2, HX1⟩
        case measure => simp [intOf]; omega
    · obtain rfl : k = n := by omega
      have j1 : ¬ (k : Int) < (k : Int) := by omega
      have hr : res = -1 := by
        rw [← Hres.out]
        unfold firstAt
        rw [firstFrom_drop s ns k (by rw [Hn.out]; omega) HX.out, List.drop_of_length_le (by rw [Hn.out]; omega)]
        rfl
      subst hr
      go_wp2_with fail
      go_ret
      exact ⟨rfl, HB.out⟩

set_option maxRecDepth 100000 in
set_option maxHeartbeats 1000000 in
theorem find_any (a aE : Option Addr) (c nE cE : Nat) (ns : List Nd) (s : ByteArray) (w : World) (hv : ndE.Rd w (.slice a ns.length c) ns) (hl : ns.length ≤ 100000) :
    Calls Tryd.prog 18 #[.agg #[.slice a ns.length c, .slice aE nE cE], .string s] w fun e w' => e = .returned (.int .i64 ((firstAt ns s).getD (-1))) ∧ Below w.heap.size w w' := by
  have bA : Below w.heap.size w ((w.alloc (.cells #[.slice a ns.length c, .slice aE nE cE] 25)).alloc (.cells #[.string s] 9)) := ((Below.refl _ _).alloc (Nat.le_refl _) _).alloc (by simp) _
  have hc : ((w.alloc (.cells #[.slice a ns.length c, .slice aE nE cE] 25)).alloc (.cells #[.string s] 9)).cell? ⟨w.heap.size + 1, 0, none⟩ = some (.string s) := by
    have := (cells_at (heap_new (w.alloc (.cells #[.slice a ns.length c, .slice aE nE cE] 25)) (.cells #[.string s] 9)) 0).1
    rw [show (w.alloc (.cells #[.slice a ns.length c, .slice aE nE cE] 25)).heap.size = w.heap.size + 1 by simp] at this
    exact this
  have K31 := hide (indexF_any a c ns s (w.heap.size + 1) _ (hv.keep bA) hl hc)
  have HA := hide bA
  generalize (firstAt ns s).getD (-1) = res at *
  generalize ns.length = n at *
  clear bA hc hv hl
  go_enter Tryd.func18, Tryd.ntmps18
  go_wp2_with (go_at_call 31; refine K31.out.mono ?_; rintro e w2 ⟨rfl, b2⟩; have B2 := hide b2; clear b2)
  go_ret
  exact ⟨rfl, HA.out.trans (B2.out.mono HA.out.size)⟩
end Go.Proofs.YtpjolnaomdmnnaaDoor
