/- The document's To. -/
import Derived.Test.YthimeobnfkoefaaFro
namespace Go.Proofs.Ythimeobnfkoefaa
open Go.RowKit
set_option linter.unusedVariables false

theorem eg_back (es : List Ed) (cl : List Bool) : Eg es cl 1 = fun u v => Eg es cl 0 v u := rfl
set_option maxRecDepth 100000 in
set_option maxHeartbeats 4000000 in
theorem rto_any (a a' aM : Option Addr) (c c' cM n m k0 s : Nat) (ns : List Nd) (es : List Ed) (ms : List Int) (w : World) (hL : Ly w a a' c c' n m ns es) (hM : Mk w aM cM k0 ms) (hs : s < n) :
    Calls Try.prog 16 #[.agg #[.slice a n c, .slice a' m c'], .slice aM k0 cM, .int .i64 (s : Int)] w fun e w' => (∃ g l, e = .returned (.slice (some ⟨g, 0, none⟩) n n) ∧ intE.Own w' w.heap.size (.slice (some ⟨g, 0, none⟩) n n) l ∧ Far (Eg es (clo m ms) 1) (Tk ns) s n l) ∧ Below w.heap.size w w' := by
  obtain ⟨W0, hW0⟩ : ∃ W0, w.alloc (.cells #[.slice a n c, .slice a' m c'] 25) = W0 := ⟨_, rfl⟩
  have bA : Below w.heap.size w W0 := by rw [← hW0]; exact (Below.refl _ _).alloc (Nat.le_refl _) _
  have hbox : W0.heap[w.heap.size]? = some (.cells #[.slice a n c, .slice a' m c'] 25) := by rw [← hW0]; exact heap_new _ _
  have d0 := (cells_at hbox 0).1
  simp at d0
  have HBOX := hide hbox
  obtain ⟨W1, hmk, ho1, hb1, hs1⟩ := made_ints W0 n (by have := hL.n4; omega)
  have d2 := (layc hbox hb1).1
  have HA := hide bA
  have Hb := hide hb1
  have HLW : Hid (∀ W, Below W0.heap.size W0 W → Ly W a a' c c' n m ns es) := hide (fun W h => hL.keep (bA.trans (h.mono bA.size)))
  have HMW : Hid (∀ W, Below W0.heap.size W0 W → Mk W aM cM k0 ms) := hide (fun W h => hM.keep (bA.trans (h.mono bA.size)))
  have K15 : Hid (∀ W i, Below W0.heap.size W0 W → i < n → Calls Try.prog 15 #[.agg #[.slice a n c, .slice a' m c'], .slice aM k0 cM, .int .i64 (i : Int)] W fun e w' => ∃ g d, e = .returned (.slice (some ⟨g, 0, none⟩) n n) ∧ w'.cell? ⟨g, s, none⟩ = some (.int .i64 d) ∧ Dst (Eg es (clo m ms) 0) (Tk ns) i s d ∧ Below W.heap.size W w') := hide (fun W i h hi => (between_any a a' aM c c' cM n m k0 i ns es ms W (HLW.out W h).hn (HLW.out W h).hm (HMW.out W h).hk (HLW.out W h).hv (HLW.out W h).hu (HMW.out W h).hM (HLW.out W h).n4 (HLW.out W h).m4 (HMW.out W h).k4 hi (HLW.out W h).hE).mono (by
    rintro e w' ⟨⟨g, l, h1, h2, h3⟩, h4⟩
    exact ⟨g, va l s, h1, (h2.at1 (Value.int .i64) (fun _ => rfl) rfl s _ (va_at l s (by rw [h3.1]; exact hs))).1, h3.2 s hs, h4⟩))
  have HW0 := hide hW0
  have i0 : (n : Int) ≤ 1000 := by have := hL.n4; omega
  have s0 : (0 : Int) ≤ (s : Int) := by omega
  have s1 : (s : Int) < (n : Int) := by omega
  obtain ⟨g, hg⟩ : ∃ g, W0.heap.size = g := ⟨_, rfl⟩
  rw [hg] at hmk
  have Ho : Hid (intE.Own W1 W0.heap.size (.slice (some ⟨g, 0, none⟩) n n) (List.replicate n 0)) := hide (by rw [← hg]; exact ho1)
  clear hL hM hs hbox bA hW0 ho1 hb1 hs1 hg
  go_enter Try.func16, Try.ntmps16
  go_upto_region 1 with fail
  rw [HW0.out]
  clear HW0
  go_wp2_with fail
  clear d0 d2 hmk
  go_loopw [16] (fun v16 wr => ∃ (k : Nat) (l : List Int), k ≤ n ∧ v16 = .int .i64 k ∧ Hid (intE.Own wr W0.heap.size (.slice (some ⟨g, 0, none⟩) n n) l) ∧ Hid (l.length = n ∧ ∀ i : Nat, i < k → Dst (Eg es (clo m ms) 0) (Tk ns) i s (va l i)) ∧ Hid (Below W0.heap.size W0 wr)) (fun v16 _ => n - (intOf v16).toNat)
  case atStart => exact ⟨0, _, by omega, rfl, Ho, hide ⟨by simp, fun i hi => by omega⟩, Hb⟩
  case round =>
    obtain ⟨k, l, hk, rfl, HO, HX, HB⟩ := hrel
    by_cases hlt : k < n
    · have j0 : (0 : Int) ≤ (k : Int) := by omega
      have j1 : (k : Int) < (n : Int) := by omega
      obtain ⟨x0, x1⟩ := layc HBOX.out HB.out
      have Hlt := hide hlt
      go_wp2_with (go_at_call 15; refine (K15.out _ k HB.out Hlt.out).mono ?_; rintro e W2 ⟨g2, d, rfl, y0, hD, hb2⟩
                   have HD := hide hD
                   have HO2 := hide (HO.out.keep hb2)
                   have HB2 : Hid (Below W0.heap.size W0 W2) := hide (HB.out.trans (hb2.mono HB.out.size))
                   obtain ⟨y1, f1⟩ := HO2.out.at1 (Value.int .i64) (fun _ => rfl) rfl k _ (va_at l k (by rw [HX.out.1]; exact Hlt.out))
                   generalize va l k = old at y1
                   clear hD hb2)
      have HO3 : Hid (intE.Own (W2.setCell ⟨g, k, none⟩ (.int .i64 d)) W0.heap.size (.slice (some ⟨g, 0, none⟩) n n) (l.set k d)) := hide (HO2.out.set (Value.int .i64) (fun _ => rfl) rfl k d)
      have HB3 : Hid (Below W0.heap.size W0 (W2.setCell ⟨g, k, none⟩ (.int .i64 d))) := hide (HB2.out.setCell (p := ⟨g, k, none⟩) (HO2.out.ge g rfl) _)
      have HX3 : Hid ((l.set k d).length = n ∧ ∀ i : Nat, i < k + 1 → Dst (Eg es (clo m ms) 0) (Tk ns) i s (va (l.set k d) i)) := hide ⟨by rw [List.length_set]; exact HX.out.1, fun i hi => by
        rw [va_set _ _ _ _ (by rw [HX.out.1]; exact Hlt.out)]
        by_cases e : i = k
        · subst e; rw [if_pos rfl]; exact HD.out
        · rw [if_neg e]; exact HX.out.2 i (by omega)⟩
      go_roundw
      case rel => exact ⟨k + 1, _, by omega, by go_num, HO3, HX3, HB3⟩
      case measure => simp [intOf]; omega
    · obtain rfl : k = n := by omega
      have j1 : ¬ (k : Int) < (k : Int) := by omega
      have HF : Hid (Far (Eg es (clo m ms) 1) (Tk ns) s k l) := hide ⟨HX.out.1, fun v hv => by
        rw [eg_back]
        exact (HX.out.2 v hv).back⟩
      go_wp2_with fail
      go_ret
      first
        | exact ⟨⟨g, rfl, l, HO.out.mono HA.out.size, HF.out⟩, HA.out.trans (HB.out.mono HA.out.size)⟩
        | exact ⟨⟨g, l, rfl, HO.out.mono HA.out.size, HF.out⟩, HA.out.trans (HB.out.mono HA.out.size)⟩
end Go.Proofs.Ythimeobnfkoefaa
