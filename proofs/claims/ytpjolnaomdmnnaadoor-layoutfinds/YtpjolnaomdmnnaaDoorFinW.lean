/- The walk of LayoutFinds. -/
import Derived.Test.YtpjolnaomdmnnaaDoorFinM
import Derived.Test.YtpjolnaomdmnnaaDoorSam
import Derived.Test.YtpjolnaomdmnnaaDoorOw2
import Derived.Test.YtpjolnaomdmnnaaDoorWake
namespace Go.Proofs.YtpjolnaomdmnnaaDoor.layoutFinds
open Go.ChangeShapes Go.WideShapes Go.ChangeAt Go.RowKit
set_option linter.unusedVariables false

theorem below_heap {B : Nat} {w W W' : World} (h : Below B w W) (e : W'.heap = W.heap) (e1 : W'.os = W.os) (e2 : W'.tape = W.tape) (e3 : W'.output = W.output) : Below B w W' :=
  ⟨by rw [e1]; exact h.os, by rw [e2]; exact h.tape, by rw [e3]; exact h.output, by rw [e]; exact h.size, by rw [e]; exact h.block⟩
theorem layg {g : Nat} {W0 W1 : World} {vN vE : Value} (hbox : W0.heap[g]? = some (.cells #[vN, vE] 25)) (hb : Below W0.heap.size W0 W1) : W1.cell? ⟨g, 0, none⟩ = some vN ∧ W1.cell? ⟨g, 1, none⟩ = some vE := by
  rw [hb.cell (p := ⟨g, 0, none⟩) (heap_lt hbox), hb.cell (p := ⟨g, 1, none⟩) (heap_lt hbox)]
  exact ⟨(cells_at hbox 0).1, (cells_at hbox 1).1⟩
theorem int_at {w : World} {a : Option Addr} {n c : Nat} {xs : List Int} (h : intE.Rd w (.slice a n c) xs) (i : Nat) (p : Int) (hp : xs[i]? = some p) : ∃ b off, a = some ⟨b, off, none⟩ ∧ w.cell? ⟨b, off + i, none⟩ = some (.int .i64 p) := by
  obtain ⟨b, off, h1, h2⟩ := h.at i p hp
  refine ⟨b, off, h1, ?_⟩
  have := h2 0 (by show 0 < 1; omega)
  simpa [intE] using this
/-- where the inner loop stands: the last device that was told -/
def Lst (l : List Int) (q : Nat) (x : Int) : Prop := (q = 0 ∧ x = 0) ∨ ∃ q', q = q' + 1 ∧ l[q']? = some x

set_option maxRecDepth 100000 in
set_option maxHeartbeats 16000000 in
theorem walk (a0 b0 : Option Addr) (c0 e0 : Nat) (ns0 : List Nd) (es0 : List Ed) (nm : ByteArray) (n2 : Int) (w : World) (rn0 : ndE.Rd w (.slice a0 ns0.length c0) ns0) (re0 : edE.Rd w (.slice b0 es0.length e0) es0) (L : Laid w) :
    Calls Tryd.prog 6 #[.agg #[.slice a0 ns0.length c0, .slice b0 es0.length e0], .string nm, .int .i64 n2] w fun e w' => e = .returned (.bool true) ∧ Below w.heap.size w w' := by
  obtain ⟨W0, hW0⟩ : ∃ W0, w.alloc (.cells #[.slice a0 ns0.length c0, .slice b0 es0.length e0] 25) = W0 := ⟨_, rfl⟩
  have bA : Below w.heap.size w W0 := by rw [← hW0]; exact (Below.refl _ _).alloc (Nat.le_refl _) _
  have hbox : W0.heap[w.heap.size]? = some (.cells #[.slice a0 ns0.length c0, .slice b0 es0.length e0] 25) := by rw [← hW0]; exact heap_new _ _
  have HBOX := hide hbox
  have HA := hide bA
  have HW0 := hide hW0
  have K9 := hide (awake_any W0 (L.keep L.size bA))
  have HR : Hid (∀ W, Below W0.heap.size W0 W → ndE.Rd W (.slice a0 ns0.length c0) ns0 ∧ edE.Rd W (.slice b0 es0.length e0) es0) := hide (fun W h => have b := bA.trans (h.mono bA.size); ⟨rn0.keep b, re0.keep b⟩)
  have K10 : Hid (∀ W, Below W0.heap.size W0 W → _) := hide (fun W (h : Below W0.heap.size W0 W) => rgood_any a0 b0 c0 e0 ns0 es0 W (HR.out W h).1 (HR.out W h).2)
  have HG : Hid (good ns0 es0 = true → (1 ≤ ns0.length ∧ ns0.length ≤ 40 ∧ es0.length ≤ 120 ∧ ∀ e ∈ es0, 0 ≤ e.1 ∧ e.1 < (ns0.length : Int)) ∧ ∀ (k : Nat) p, ns0[k]? = some p → (firstAt ns0 p.name).getD (-1) = (k : Int)) := hide (fun h => ⟨good_edges h, fun k p hp => good_first h hp⟩)
  have K12 : Hid (ns0.length ≤ 40 → es0.length ≤ 120 → ∀ W, Below W0.heap.size W0 W → _) := hide (fun h1 h2 W (h : Below W0.heap.size W0 W) => copy_any a0 b0 c0 e0 ns0 es0 W (HR.out W h).1 (HR.out W h).2 (by omega) (by omega))
  have K18 : Hid (ns0.length ≤ 40 → ∀ (W : World) (a aE : Option Addr) (c nE cE : Nat) (x : ByteArray), ndE.Rd W (.slice a ns0.length c) ns0 → _) := hide (fun h1 W a aE c nE cE x h => find_any a aE c nE cE ns0 x W h (by omega))
  have K20 : Hid (ns0.length ≤ 40 → ∀ (W : World), ndE.Rd W (.slice a0 ns0.length c0) ns0 → _) := hide (fun h1 W h => rfind_any a0 c0 (.slice b0 es0.length e0) ns0 nm W h (by omega) ⟨_, _, _, rfl⟩)
  have K19 : Hid (es0.length ≤ 120 → ∀ (W : World) (a a' : Option Addr) (c c' n : Nat) (x : Int), edE.Rd W (.slice a' es0.length c') es0 → _) := hide (fun h1 W a a' c c' n x h => out_any a a' c c' n es0 x W h (by omega))
  have K16 : Hid (ns0.length ≤ 40 → es0.length ≤ 120 → ∀ (W : World) (a a' : Option Addr) (c c' : Nat), ndE.Rd W (.slice a ns0.length c) ns0 → edE.Rd W (.slice a' es0.length c') es0 → ndE.Rd W (.slice a0 ns0.length c0) ns0 → edE.Rd W (.slice b0 es0.length e0) es0 → Calls Tryd.prog 16 #[.agg #[.slice a ns0.length c, .slice a' es0.length c'], .agg #[.slice a0 ns0.length c0, .slice b0 es0.length e0]] W fun e w' => e = .returned (.bool true) ∧ Below W.heap.size W w') := hide (fun h1 h2 W a a' c c' r1 r2 r3 r4 => by
    have h := rsame_any a a' a0 b0 c c' c0 e0 ns0 ns0 es0 es0 W r1 r2 r3 r4 (by omega) (by omega)
    rwa [decide_eq_true (show ns0 = ns0 ∧ es0 = es0 from ⟨rfl, rfl⟩)] at h)
  have HP : Hid (∀ k, k < ns0.length → ∃ p, ns0[k]? = some p) := hide (fun k hk => ⟨_, List.getElem?_eq_getElem hk⟩)
  have HE : Hid (∀ (W : World) (v : Value) (x : Int), True) := hide (fun _ _ _ => trivial)
  have HOA : Hid (∀ hE : (∀ e ∈ es0, 0 ≤ e.1 ∧ e.1 < (ns0.length : Int)), sumTo (fun i => (outs es0 (i : Int) es0.length).length) ns0.length = es0.length) := hide (fun hE => outs_all es0 ns0.length hE es0.length (Nat.le_refl _))
  have HOM : Hid (∀ (x d : Int), d ∈ outs es0 x es0.length → ∃ i : Nat, i < es0.length ∧ d = ((i + 1 : Nat) : Int) ∧ ∃ e, es0[i]? = some e ∧ e.1 = x) := hide (fun x d h => outs_mem es0 x es0.length d h)
  have HON : Hid (∀ (x a b : Int) (q : Nat), (outs es0 x es0.length)[q]? = some a → (outs es0 x es0.length)[q + 1]? = some b → a < b) := hide (fun x a b q h1 h2 => outs_next h1 h2)
  have HOL : Hid (∀ x, (outs es0 x es0.length).length ≤ es0.length) := hide (fun x => outs_len es0 x es0.length)
  obtain ⟨n, hn⟩ : ∃ n, ns0.length = n := ⟨_, rfl⟩
  obtain ⟨m, hm⟩ : ∃ m, es0.length = m := ⟨_, rfl⟩
  rw [hn, hm]
  simp only [hn, hm] at HBOX HW0 HR K10 HG K12 K18 K20 K19 K16 HP HOA HOM HON HOL
  clear hW0 hbox bA rn0 re0 L
  generalize good ns0 es0 = gd at *
  go_enter Tryd.func6, Tryd.ntmps6
  go_upto_region 1 with fail
  rw [HW0.out]
  clear HW0
  go_upto_region 3 with (go_at_call 9; refine (K9.out).mono ?_; rintro e W1 ⟨rfl, hb1⟩; have Hb1 := hide hb1; obtain ⟨x0, x1⟩ := layg HBOX.out hb1; clear hb1)
  cases gd with
  | false =>
    go_wp2_with (go_at_call 10; refine (K10.out _ Hb1.out).mono ?_; rintro e W2 ⟨rfl, hb2⟩; have Hb2 := hide (Hb1.out.trans (hb2.mono Hb1.out.size)); clear hb2)
    go_ret
    exact ⟨rfl, HA.out.trans (Hb2.out.mono HA.out.size)⟩
  | true =>
    obtain ⟨⟨hn1, hn4, hm4, hE⟩, hF⟩ := HG.out rfl
    have HF := hide hF
    have Hn4 := hide hn4
    have Hm4 := hide hm4
    have HOA2 := hide (HOA.out hE)
    have l1 : (n : Int) ≤ 40 := by omega
    have l2 : (m : Int) ≤ 120 := by omega
    clear hn1 hn4 hm4 hE hF HG HOA
    go_upto_region 5 with (go_at_call 10; refine (K10.out _ Hb1.out).mono ?_; rintro e W2 ⟨rfl, hb2⟩; have Hb2 := hide (Hb1.out.trans (hb2.mono Hb1.out.size)); obtain ⟨x0, x1⟩ := layg HBOX.out Hb2.out; clear hb2)
    clear K9 K10
    go_upto_region 6 with (go_at_call 12; refine (K12.out Hn4.out Hm4.out _ Hb2.out).mono ?_; rintro e W4 ⟨vN, vE, rfl, hN, hE, hb4⟩
                           obtain ⟨aN, cN, hvN⟩ := hN.rd.form
                           obtain ⟨aE, cE, hvE⟩ := hE.rd.form
                           rw [hn] at hvN
                           rw [hm] at hvE
                           subst hvN
                           subst hvE
                           have HN := hide hN.rd
                           have HEe := hide hE.rd
                           have Hb4 : Hid (Below W0.heap.size W0 W4) := hide (Hb2.out.trans (hb4.mono Hb2.out.size))
                           clear hN hE hb4)
    obtain ⟨W5, hW5⟩ : ∃ W5, W4.alloc (.cells #[.slice aN n cN, .slice aE m cE] 25) = W5 := ⟨_, rfl⟩
    have b5 : Below W4.heap.size W4 W5 := by rw [← hW5]; exact (Below.refl _ _).alloc (Nat.le_refl _) _
    have B5 : Below W0.heap.size W0 W5 := Hb4.out.trans (b5.mono Hb4.out.size)
    have hbox5 : W5.heap[W4.heap.size]? = some (.cells #[.slice aN n cN, .slice aE m cE] 25) := by rw [← hW5]; exact heap_new _ _
    have HB5 := hide B5
    have HS : Hid (∀ W, Below W5.heap.size W5 W → (ndE.Rd W (.slice a0 n c0) ns0 ∧ edE.Rd W (.slice b0 m e0) es0) ∧ ndE.Rd W (.slice aN n cN) ns0 ∧ edE.Rd W (.slice aE m cE) es0) := hide (fun W h => ⟨HR.out W (B5.trans (h.mono B5.size)), (HN.out.keep b5).keep h, (HEe.out.keep b5).keep h⟩)
    have HC : Hid (∀ W, Below W5.heap.size W5 W → (W.cell? ⟨w.heap.size, 0, none⟩ = some (.slice a0 n c0) ∧ W.cell? ⟨w.heap.size, 1, none⟩ = some (.slice b0 m e0)) ∧ W.cell? ⟨W4.heap.size, 0, none⟩ = some (.slice aN n cN) ∧ W.cell? ⟨W4.heap.size, 1, none⟩ = some (.slice aE m cE)) := hide (fun W h => ⟨layg HBOX.out (B5.trans (h.mono B5.size)), layg hbox5 h⟩)
    have Hb5 : Hid (Below W5.heap.size W5 W5) := hide (Below.refl _ _)
    obtain ⟨⟨x0, x1⟩, y0, y1⟩ := HC.out W5 Hb5.out
    rw [hW5]
    obtain ⟨g4, hg4⟩ : ∃ g4, W4.heap.size = g4 := ⟨_, rfl⟩
    rw [hg4] at HC y0 y1 ⊢
    have Hn := hide hn
    have Hm := hide hm
    clear hW5 b5 B5 hbox5 HN HEe Hb4 Hb2 Hb1 hg4 K12 HR HE hn hm
    go_wp2_with fail
    go_loopw [24] (fun v24 wr => ∃ (k : Nat), k ≤ n ∧ v24 = .int .i64 k ∧ Hid (Below W5.heap.size W5 wr)) (fun v24 _ => n - (intOf v24).toNat)
    case atStart => exact ⟨0, by omega, rfl, Hb5⟩
    case round =>
      clear x0 x1 y0 y1
      obtain ⟨k, hk, rfl, HB⟩ := hrel
      by_cases hlt : k < n
      · obtain ⟨p, hp⟩ := HP.out k hlt
        have hfk := HF.out k p hp
        obtain ⟨SS, hSS⟩ : ∃ SS : World → Prop, SS = fun W' => Below W5.heap.size W5 W' := ⟨_, rfl⟩
        have s9 : Hid (∀ W', SS W' → Below W5.heap.size W5 W') := hide (fun W' h => by rw [hSS] at h; exact h)
        have s8 : Hid (∀ W', Below W5.heap.size W5 W' → SS W') := hide (fun W' h => by rw [hSS]; exact h)
        obtain ⟨bN, oN, haN, cn, _, _⟩ := nd_at (HS.out W5 Hb5.out).1.1 k p hp
        have s1 : ∀ W', SS W' → W'.cell? ⟨w.heap.size, 0, none⟩ = some (.slice a0 n c0) := fun W' h => (HC.out W' (s9.out W' h)).1.1
        have s2 : ∀ W', SS W' → W'.cell? ⟨g4, 0, none⟩ = some (.slice aN n cN) ∧ W'.cell? ⟨g4, 1, none⟩ = some (.slice aE m cE) := fun W' h => (HC.out W' (s9.out W' h)).2
        have s3 : ∀ W', SS W' → W'.cell? ⟨bN, oN + k * 3, none⟩ = some (.string p.name) := fun W' h => by rw [(s9.out W' h).cell (p := ⟨bN, oN + k * 3, none⟩) (cell_lt cn)]; exact cn
        have j0 : (0 : Int) ≤ (k : Int) := by omega
        have j1 : (k : Int) < (n : Int) := by omega
        have Hlt := hide hlt
        have hkk : ((k : Int) != (k : Int)) = false := bne_self_eq_false _
        rw [haN] at s1
        clear hSS hp hk hlt cn haN
        go_upto_region 9 with fail
        refine wp_region_held_drew (S := SS) (by kernel_rfl) (s8.out _ (below_heap HB.out rfl rfl rfl rfl)) (fun hS0 => ?_)
        refine wpAnyH_take (i := 0) (v := .agg #[.slice aN n cN, .slice aE m cE]) rfl (by kernel_rfl) (by kernel_rfl) (by kernel_rfl) (fun _ _ _ h => h) (Or.inl ⟨by rfl, fun W' hW => by have x0 := (s2 W' hW).1; have x1 := (s2 W' hW).2; go_simp⟩) hS0 ?_
        refine wpAnyH_take (i := 1) (v := .pointer (some ⟨w.heap.size, 0, none⟩)) rfl (by kernel_rfl) (by kernel_rfl) (by kernel_rfl) (fun _ _ _ h => h) (Or.inl ⟨by rfl, fun W' hW => by go_simp⟩) hS0 ?_
        refine wpAnyH_take (i := 2) (v := .slice (some ⟨bN, oN, none⟩) n c0) rfl (by kernel_rfl) (by kernel_rfl) (by kernel_rfl) (fun _ _ _ h => h) (Or.inl ⟨by rfl, fun W' hW => by have x0 := s1 W' hW; go_simp⟩) hS0 ?_
        refine wpAnyH_take (i := 3) (v := .int .i64 (k : Int)) rfl (by kernel_rfl) (by kernel_rfl) (by kernel_rfl) (fun _ _ _ h => h) (Or.inl ⟨by rfl, fun W' hW => by go_simp⟩) hS0 ?_
        refine wpAnyH_take (i := 4) (v := .pointer (some ⟨bN, oN + k * 3, none⟩)) rfl (by kernel_rfl) (by kernel_rfl) (by kernel_rfl) (fun _ _ _ h => h) (Or.inl ⟨by rfl, fun W' hW => by go_simp⟩) hS0 ?_
        refine wpAnyH_take (i := 5) (v := .pointer (some ⟨bN, oN + k * 3, none⟩)) rfl (by kernel_rfl) (by kernel_rfl) (by kernel_rfl) (fun _ _ _ h => h) (Or.inl ⟨by rfl, fun W' hW => by go_simp⟩) hS0 ?_
        refine wpAnyH_take (i := 6) (v := .string p.name) rfl (by kernel_rfl) (by kernel_rfl) (by kernel_rfl) (fun _ _ _ h => h) (Or.inl ⟨by rfl, fun W' hW => by have x0 := s3 W' hW; go_simp⟩) hS0 ?_
        refine wpAnyH_take (i := 8) (v := .int .i64 (k : Int)) rfl (by kernel_rfl) (by kernel_rfl) (by kernel_rfl) (fun _ _ _ h => h) (Or.inl ⟨by rfl, fun W' hW => by go_simp⟩) hS0 ?_
        refine wpAnyH_ready (rs := [7]) (by kernel_rfl) (by simp) ?_
        refine AllReadyH.cons rfl (fun K hK => ?_) AllReadyH.nil
        go_simp
        refine (K18.out Hn4.out _ aN aE cN m cE p.name (HS.out _ (s9.out _ hS0)).2.1).mono ?_
        rintro e W9 ⟨rfl, hb9⟩
        rw [hfk]
        have S9 := s8.out _ ((s9.out _ hS0).trans (hb9.mono (s9.out _ hS0).size))
        refine hK.out _ _ S9 (fun _ => ?_)
        clear hK K hb9
        refine wpAnyH_ready (rs := [9]) (by kernel_rfl) (by simp) ?_
        refine AllReadyH.cons rfl (fun K hK => ?_) AllReadyH.nil
        go_simp
        refine hK.out _ _ S9 (fun _ => ?_)
        clear hK K
        refine wpAnyH_done (by kernel_rfl) ?_ _
        have HB9 := hide (s9.out _ S9)
        go_wp2_with fail
        go_roundw
        case rel => exact ⟨k + 1, by have := Hlt.out; omega, by go_num, HB9⟩
        case measure => have := Hlt.out; simp [intOf]; omega
      · obtain rfl : k = n := by omega
        have j1 : ¬ (k : Int) < (k : Int) := by omega
        obtain ⟨n, rfl⟩ : ∃ n', n' = k := ⟨_, rfl⟩
        obtain ⟨⟨x0, x1⟩, y0, y1⟩ := HC.out wr HB.out
        go_wp2_with fail
        clear x0 x1 y0 y1
        go_loopw [9, 41] (fun v9 v41 wr => ∃ (i : Nat), i ≤ n ∧ v41 = .int .i64 i ∧ v9 = .int .i64 (sumTo (fun i => (outs es0 (i : Int) m).length) i : Nat) ∧ Hid (Below W5.heap.size W5 wr)) (fun _ v41 _ => n - (intOf v41).toNat)
        case atStart => exact ⟨0, by omega, rfl, rfl, HB⟩
        case round =>
          clear HB
          obtain ⟨i, hi, rfl, rfl, HB⟩ := hrel
          obtain ⟨⟨x0, x1⟩, y0, y1⟩ := HC.out wr HB.out
          by_cases hlt : i < n
          · have Hlt := hide hlt
            have jj : ((0 : Int) ≤ (i : Int) ∧ (i : Int) < (n : Int)) := ⟨by omega, by omega⟩
            have Hjj := hide jj
            have j0 : (0 : Int) ≤ (i : Int) := by omega
            have j1 : (i : Int) < (n : Int) := by omega
            obtain ⟨ls, hls⟩ : ∃ ls, outs es0 (i : Int) m = ls := ⟨_, rfl⟩
            have HM2 : Hid (∀ d, d ∈ ls → ∃ i' : Nat, i' < m ∧ d = ((i' + 1 : Nat) : Int) ∧ ∃ e, es0[i']? = some e ∧ e.1 = (i : Int)) := hide (fun d h => HOM.out (i : Int) d (by rw [hls]; exact h))
            have HN2 : Hid (∀ a b (q : Nat), ls[q]? = some a → ls[q + 1]? = some b → a < b) := hide (fun a b q h1 h2 => HON.out (i : Int) a b q (by rw [hls]; exact h1) (by rw [hls]; exact h2))
            have Hln : Hid (ls.length ≤ m) := hide (by have := HOL.out (i : Int); rw [hls] at this; exact this)
            have Hs1 : Hid (sumTo (fun i => (outs es0 (i : Int) m).length) (i + 1) = sumTo (fun i => (outs es0 (i : Int) m).length) i + ls.length) := hide (by rw [← hls]; rfl)
            have Hls := hide hls
            obtain ⟨cs, hcs⟩ : ∃ c, sumTo (fun i => (outs es0 (i : Int) m).length) i = c := ⟨_, rfl⟩
            rw [hcs] at Hs1 ⊢
            have Hcs : Hid (cs ≤ 120 * 41) := hide (by
              rw [← hcs]
              have hb : ∀ q, sumTo (fun i => (outs es0 (i : Int) m).length) q ≤ q * m := by
                intro q
                induction q with
                | zero => simp [sumTo]
                | succ q ih =>
                  unfold sumTo
                  have := HOL.out (q : Int)
                  rw [Nat.succ_mul]
                  omega
              have h1 := hb i
              have h2 : i * m ≤ 40 * 120 := Nat.mul_le_mul (by have := Hlt.out; have := Hn4.out; omega) Hm4.out
              omega)
            clear hls hcs hi hlt jj
            go_upto_region 18 with (go_at_call 19; refine (K19.out Hm4.out _ aN aE cN cE n (i : Int) (HS.out _ HB.out).2.2).mono ?_; rintro e W7 ⟨⟨v, rfl, hO7⟩, hb7⟩
                                    rw [if_pos Hjj.out, Hls.out] at hO7
                                    obtain ⟨aX, cX, hvX⟩ := hO7.rd.form
                                    subst hvX
                                    have HR7 := hide hO7.rd
                                    have HB7 : Hid (Below W5.heap.size W5 W7) := hide (HB.out.trans (hb7.mono HB.out.size))
                                    clear hO7 hb7)
            obtain ⟨nl, hnl⟩ : ∃ nl, ls.length = nl := ⟨_, rfl⟩
            rw [hnl] at HR7 Hln Hs1 ⊢
            have Hnl := hide hnl
            have l3 : (nl : Int) ≤ 120 := by have := Hln.out; omega
            clear hnl x0 x1 y0 y1
            go_wp2_with fail
            go_loopw [9, 11, 48] (fun v9 v11 v48 wr => ∃ (q : Nat) (x : Int), q ≤ nl ∧ v48 = .int .i64 q ∧ v9 = .int .i64 ((cs + q : Nat) : Int) ∧ v11 = .int .i64 x ∧ wr = W7 ∧ Hid (Lst ls q x)) (fun _ _ v48 _ => nl - (intOf v48).toNat)
            case atStart => exact ⟨0, 0, by omega, rfl, rfl, rfl, rfl, hide (.inl ⟨rfl, rfl⟩)⟩
            case round =>
              obtain ⟨q, x, hq, rfl, rfl, rfl, rfl, HL⟩ := hrel
              by_cases hlt2 : q < nl
              · obtain ⟨d, hd⟩ : ∃ d, ls[q]? = some d := ⟨_, List.getElem?_eq_getElem (by rw [Hnl.out]; exact hlt2)⟩
                obtain ⟨i', hi', hdi, e, he, hei⟩ := HM2.out d (List.mem_of_getElem? hd)
                have hrise : x < d := by
                  rcases HL.out with ⟨_, h0⟩ | ⟨q', h0, h1⟩
                  · omega
                  · subst h0
                    exact HN2.out x d q' h1 hd
                have HL2 : Hid (Lst ls (q + 1) d) := hide (.inr ⟨q, rfl, hd⟩)
                obtain ⟨bX, oX, rfl, cd⟩ := int_at HR7.out q d hd
                obtain ⟨bE, oE, haE, ce, _⟩ := ed_at (HS.out wr HB7.out).1.2 i' e he
                obtain ⟨⟨x0, x1⟩, _, _⟩ := HC.out wr HB7.out
                rw [haE] at x1
                rw [hei] at ce
                have hdd : d = (i' : Int) + 1 := by omega
                subst hdd
                have j2 : (0 : Int) ≤ (q : Int) := by omega
                have j3 : (q : Int) < (nl : Int) := by omega
                have j4 : ¬ (i' : Int) + 1 ≤ x := by omega
                have j5 : ¬ (m : Int) < (i' : Int) + 1 := by omega
                have j6 : (i' : Int) < (m : Int) := by omega
                have j7 : (0 : Int) ≤ (i' : Int) := by omega
                have hii : ((i : Int) != (i : Int)) = false := bne_self_eq_false _
                have hcq : ((cs + q : Nat) : Int) + 1 = ((cs + (q + 1) : Nat) : Int) := by omega
                clear haE
                obtain ⟨cq, hcq2⟩ : ∃ cq : Int, ((cs + q : Nat) : Int) = cq := ⟨_, rfl⟩
                have Hcq2 : Hid (((cs + (q + 1) : Nat) : Int) = cq + 1) := hide (by omega)
                have hcb : cq ≤ 100000 := by have := Hcs.out; have := Hln.out; omega
                have hcb0 : 0 ≤ cq := by omega
                rw [hcq2]
                clear hd hdi he hei hrise hi' hcq hcq2
                go_wp2_with fail
                go_roundw
                case rel => exact ⟨q + 1, (i' : Int) + 1, by omega, by go_num, by first | (rw [Hcq2.out]; done) | (rw [Hcq2.out]; go_num), rfl, by first | rfl | trivial, HL2⟩
                case measure => simp [intOf]; omega
              · obtain rfl : q = nl := by omega
                have j3 : ¬ (q : Int) < (q : Int) := by omega
                go_wp2_with fail
                go_roundw
                case rel => exact ⟨i + 1, by have := Hlt.out; omega, by go_num, by rw [Hs1.out], HB7⟩
                case measure => have := Hlt.out; simp [intOf]; omega
          · obtain rfl : i = n := by omega
            have j1 : ¬ (i : Int) < (i : Int) := by omega
            obtain ⟨n, rfl⟩ : ∃ n', n' = i := ⟨_, rfl⟩
            rw [HOA2.out]
            by_cases hx : 0 ≤ n2 ∧ n2 < (n : Int)
            · have g0 : ¬ n2 < 0 := by omega
              have g1 : ¬ (n : Int) ≤ n2 := by omega
              clear hx
              go_upto_region 28 with fail
              obtain ⟨SS, hSS⟩ : ∃ SS : World → Prop, SS = fun W' => Below W5.heap.size W5 W' := ⟨_, rfl⟩
              have s9 : Hid (∀ W', SS W' → Below W5.heap.size W5 W') := hide (fun W' h => by rw [hSS] at h; exact h)
              have s8 : Hid (∀ W', Below W5.heap.size W5 W' → SS W') := hide (fun W' h => by rw [hSS]; exact h)
              have s1 : ∀ W', SS W' → W'.cell? ⟨w.heap.size, 0, none⟩ = some (.slice a0 n c0) ∧ W'.cell? ⟨w.heap.size, 1, none⟩ = some (.slice b0 m e0) := fun W' h => (HC.out W' (s9.out W' h)).1
              have s2 : ∀ W', SS W' → W'.cell? ⟨g4, 0, none⟩ = some (.slice aN n cN) ∧ W'.cell? ⟨g4, 1, none⟩ = some (.slice aE m cE) := fun W' h => (HC.out W' (s9.out W' h)).2
              have hmm : ((m : Int) == (m : Int)) = true := beq_self_eq_true _
              clear hSS
              refine wp_region_held_drew (S := SS) (by kernel_rfl) (s8.out _ (below_heap HB.out rfl rfl rfl rfl)) (fun hS0 => ?_)
              refine wpAnyH_take (i := 0) (v := .int .i64 (m : Int)) rfl (by kernel_rfl) (by kernel_rfl) (by kernel_rfl) (fun _ _ _ h => h) (Or.inl ⟨by rfl, fun W' hW => by go_simp⟩) hS0 ?_
              refine wpAnyH_ready (rs := [1]) (by kernel_rfl) (by simp) ?_
              refine AllReadyH.cons rfl (fun K hK => ?_) AllReadyH.nil
              go_simp
              refine hK.out _ _ hS0 (fun _ => ?_)
              clear hK K
              have z1 := (s1 _ hS0).2
              refine wpAnyH_ready (rs := [2]) (by kernel_rfl) (by simp) ?_
              refine AllReadyH.cons rfl (fun K hK => ?_) AllReadyH.nil
              go_simp
              refine hK.out _ _ hS0 (fun _ => ?_)
              clear hK K
              clear z1
              refine wpAnyH_ready (rs := [3]) (by kernel_rfl) (by simp) ?_
              refine AllReadyH.cons rfl (fun K hK => ?_) AllReadyH.nil
              go_simp
              refine hK.out _ _ hS0 (fun _ => ?_)
              clear hK K
              refine wpAnyH_ready (rs := [4]) (by kernel_rfl) (by simp) ?_
              refine AllReadyH.cons rfl (fun K hK => ?_) AllReadyH.nil
              go_simp
              refine hK.out _ _ hS0 (fun _ => ?_)
              clear hK K
              refine wpAnyH_ready (rs := [5]) (by kernel_rfl) (by simp) ?_
              refine AllReadyH.cons rfl (fun K hK => ?_) AllReadyH.nil
              go_simp
              refine hK.out _ _ hS0 (fun _ => ?_)
              clear hK K
              refine wpAnyH_take (i := 6) (v := .agg #[.slice aN n cN, .slice aE m cE]) rfl (by kernel_rfl) (by kernel_rfl) (by kernel_rfl) (fun _ _ _ h => h) (Or.inl ⟨by rfl, fun W' hW => by have x0 := (s2 W' hW).1; have x1 := (s2 W' hW).2; go_simp⟩) hS0 ?_
              refine wpAnyH_take (i := 7) (v := .string nm) rfl (by kernel_rfl) (by kernel_rfl) (by kernel_rfl) (fun _ _ _ h => h) (Or.inl ⟨by rfl, fun W' hW => by go_simp⟩) hS0 ?_
              refine wpAnyH_take (i := 9) (v := .agg #[.slice a0 n c0, .slice b0 m e0]) rfl (by kernel_rfl) (by kernel_rfl) (by kernel_rfl) (fun _ _ _ h => h) (Or.inl ⟨by rfl, fun W' hW => by have x0 := (s1 W' hW).1; have x1 := (s1 W' hW).2; go_simp⟩) hS0 ?_
              refine wpAnyH_take (i := 10) (v := .string nm) rfl (by kernel_rfl) (by kernel_rfl) (by kernel_rfl) (fun _ _ _ h => h) (Or.inl ⟨by rfl, fun W' hW => by go_simp⟩) hS0 ?_
              refine wpAnyH_ready (rs := [8]) (by kernel_rfl) (by simp) ?_
              refine AllReadyH.cons rfl (fun K hK => ?_) AllReadyH.nil
              go_simp
              refine (K18.out Hn4.out _ aN aE cN m cE nm (HS.out _ (s9.out _ hS0)).2.1).mono ?_
              rintro e U1 ⟨rfl, hb1⟩
              have S1 := s8.out _ ((s9.out _ hS0).trans (hb1.mono (s9.out _ hS0).size))
              refine hK.out _ _ S1 (fun _ => ?_)
              clear hK K hb1
              refine wpAnyH_ready (rs := [11]) (by kernel_rfl) (by simp) ?_
              refine AllReadyH.cons rfl (fun K hK => ?_) AllReadyH.nil
              go_simp
              refine (K20.out Hn4.out _ (HS.out _ (s9.out _ S1)).1.1).mono ?_
              rintro e U2 ⟨rfl, hb2⟩
              have S2 := s8.out _ ((s9.out _ S1).trans (hb2.mono (s9.out _ S1).size))
              refine hK.out _ _ S2 (fun _ => ?_)
              clear hK K hb2
              generalize (firstAt ns0 nm).getD (-1) = fx
              have hff : (fx == fx) = true := beq_self_eq_true _
              refine wpAnyH_ready (rs := [12]) (by kernel_rfl) (by simp) ?_
              refine AllReadyH.cons rfl (fun K hK => ?_) AllReadyH.nil
              go_simp
              refine hK.out _ _ S2 (fun _ => ?_)
              clear hK K
              refine wpAnyH_ready (rs := [13]) (by kernel_rfl) (by simp) ?_
              refine AllReadyH.cons rfl (fun K hK => ?_) AllReadyH.nil
              go_simp
              refine hK.out _ _ S2 (fun _ => ?_)
              clear hK K
              refine wpAnyH_ready (rs := [14]) (by kernel_rfl) (by simp) ?_
              refine AllReadyH.cons rfl (fun K hK => ?_) AllReadyH.nil
              go_simp
              refine hK.out _ _ S2 (fun _ => ?_)
              clear hK K
              refine wpAnyH_take (i := 15) (v := .agg #[.slice aN n cN, .slice aE m cE]) rfl (by kernel_rfl) (by kernel_rfl) (by kernel_rfl) (fun _ _ _ h => h) (Or.inl ⟨by rfl, fun W' hW => by have x0 := (s2 W' hW).1; have x1 := (s2 W' hW).2; go_simp⟩) S2 ?_
              have z0 := (s1 _ S2).1
              have z1 := (s1 _ S2).2
              refine wpAnyH_ready (rs := [16]) (by kernel_rfl) (by simp) ?_
              refine AllReadyH.cons rfl (fun K hK => ?_) AllReadyH.nil
              go_simp
              refine hK.out _ _ S2 (fun _ => ?_)
              clear hK K
              clear z0 z1
              refine wpAnyH_ready (rs := [17]) (by kernel_rfl) (by simp) ?_
              refine AllReadyH.cons rfl (fun K hK => ?_) AllReadyH.nil
              go_simp
              refine (K16.out Hn4.out Hm4.out _ aN aE cN cE (HS.out _ (s9.out _ S2)).2.1 (HS.out _ (s9.out _ S2)).2.2 (HS.out _ (s9.out _ S2)).1.1 (HS.out _ (s9.out _ S2)).1.2).mono ?_
              rintro e U3 ⟨rfl, hb3⟩
              have S3 := s8.out _ ((s9.out _ S2).trans (hb3.mono (s9.out _ S2).size))
              refine hK.out _ _ S3 (fun _ => ?_)
              clear hK K hb3
              refine wpAnyH_ready (rs := [18]) (by kernel_rfl) (by simp) ?_
              refine AllReadyH.cons rfl (fun K hK => ?_) AllReadyH.nil
              go_simp
              refine hK.out _ _ S3 (fun _ => ?_)
              clear hK K
              refine wpAnyH_ready (rs := [19]) (by kernel_rfl) (by simp) ?_
              refine AllReadyH.cons rfl (fun K hK => ?_) AllReadyH.nil
              go_simp
              refine hK.out _ _ S3 (fun _ => ?_)
              clear hK K
              refine wpAnyH_done (by kernel_rfl) ?_ _
              have HS3 := hide (s9.out _ S3)
              clear s1 s2
              go_wp2_with fail
              go_ret
              exact ⟨by first | rfl | simp, HA.out.trans ((HB5.out.trans (HS3.out.mono HB5.out.size)).mono HA.out.size)⟩
            · have HX := hide hx
              have K19b : Hid (∀ W, edE.Rd W (.slice aE m cE) es0 → Calls Tryd.prog 19 #[.agg #[.slice aN n cN, .slice aE m cE], .int .i64 n2] W fun e w' => ∃ a c, e = .returned (.slice a 0 c) ∧ Below W.heap.size W w') := hide (fun W h => (K19.out Hm4.out W aN aE cN cE n n2 h).mono (by
                rintro e w' ⟨⟨v, rfl, hO⟩, hb⟩
                rw [if_neg HX.out] at hO
                obtain ⟨a, c, rfl⟩ := hO.rd.form
                exact ⟨a, c, rfl, hb⟩))
              have gg : n2 < 0 ∨ (n : Int) ≤ n2 := by omega
              clear hx
              rcases Classical.em (n2 < 0) with hneg | hneg
              · clear gg
                go_upto_region 28 with (go_at_call 19; refine (K19b.out _ (HS.out _ HB.out).2.2).mono ?_; rintro e W8 ⟨aY, cY, rfl, hb8⟩
                                        have HB : Hid (Below W5.heap.size W5 W8) := hide (HB.out.trans (hb8.mono HB.out.size))
                                        obtain ⟨⟨x0, x1⟩, y0, y1⟩ := HC.out _ HB.out
                                        clear hb8)
                obtain ⟨SS, hSS⟩ : ∃ SS : World → Prop, SS = fun W' => Below W5.heap.size W5 W' := ⟨_, rfl⟩
                have s9 : Hid (∀ W', SS W' → Below W5.heap.size W5 W') := hide (fun W' h => by rw [hSS] at h; exact h)
                have s8 : Hid (∀ W', Below W5.heap.size W5 W' → SS W') := hide (fun W' h => by rw [hSS]; exact h)
                have s1 : ∀ W', SS W' → W'.cell? ⟨w.heap.size, 0, none⟩ = some (.slice a0 n c0) ∧ W'.cell? ⟨w.heap.size, 1, none⟩ = some (.slice b0 m e0) := fun W' h => (HC.out W' (s9.out W' h)).1
                have s2 : ∀ W', SS W' → W'.cell? ⟨g4, 0, none⟩ = some (.slice aN n cN) ∧ W'.cell? ⟨g4, 1, none⟩ = some (.slice aE m cE) := fun W' h => (HC.out W' (s9.out W' h)).2
                have hmm : ((m : Int) == (m : Int)) = true := beq_self_eq_true _
                clear hSS
                refine wp_region_held_drew (S := SS) (by kernel_rfl) (s8.out _ (below_heap HB.out rfl rfl rfl rfl)) (fun hS0 => ?_)
                refine wpAnyH_take (i := 0) (v := .int .i64 (m : Int)) rfl (by kernel_rfl) (by kernel_rfl) (by kernel_rfl) (fun _ _ _ h => h) (Or.inl ⟨by rfl, fun W' hW => by go_simp⟩) hS0 ?_
                refine wpAnyH_ready (rs := [1]) (by kernel_rfl) (by simp) ?_
                refine AllReadyH.cons rfl (fun K hK => ?_) AllReadyH.nil
                go_simp
                refine hK.out _ _ hS0 (fun _ => ?_)
                clear hK K
                have z1 := (s1 _ hS0).2
                refine wpAnyH_ready (rs := [2]) (by kernel_rfl) (by simp) ?_
                refine AllReadyH.cons rfl (fun K hK => ?_) AllReadyH.nil
                go_simp
                refine hK.out _ _ hS0 (fun _ => ?_)
                clear hK K
                clear z1
                refine wpAnyH_ready (rs := [3]) (by kernel_rfl) (by simp) ?_
                refine AllReadyH.cons rfl (fun K hK => ?_) AllReadyH.nil
                go_simp
                refine hK.out _ _ hS0 (fun _ => ?_)
                clear hK K
                refine wpAnyH_ready (rs := [4]) (by kernel_rfl) (by simp) ?_
                refine AllReadyH.cons rfl (fun K hK => ?_) AllReadyH.nil
                go_simp
                refine hK.out _ _ hS0 (fun _ => ?_)
                clear hK K
                refine wpAnyH_ready (rs := [5]) (by kernel_rfl) (by simp) ?_
                refine AllReadyH.cons rfl (fun K hK => ?_) AllReadyH.nil
                go_simp
                refine hK.out _ _ hS0 (fun _ => ?_)
                clear hK K
                refine wpAnyH_take (i := 6) (v := .agg #[.slice aN n cN, .slice aE m cE]) rfl (by kernel_rfl) (by kernel_rfl) (by kernel_rfl) (fun _ _ _ h => h) (Or.inl ⟨by rfl, fun W' hW => by have x0 := (s2 W' hW).1; have x1 := (s2 W' hW).2; go_simp⟩) hS0 ?_
                refine wpAnyH_take (i := 7) (v := .string nm) rfl (by kernel_rfl) (by kernel_rfl) (by kernel_rfl) (fun _ _ _ h => h) (Or.inl ⟨by rfl, fun W' hW => by go_simp⟩) hS0 ?_
                refine wpAnyH_take (i := 9) (v := .agg #[.slice a0 n c0, .slice b0 m e0]) rfl (by kernel_rfl) (by kernel_rfl) (by kernel_rfl) (fun _ _ _ h => h) (Or.inl ⟨by rfl, fun W' hW => by have x0 := (s1 W' hW).1; have x1 := (s1 W' hW).2; go_simp⟩) hS0 ?_
                refine wpAnyH_take (i := 10) (v := .string nm) rfl (by kernel_rfl) (by kernel_rfl) (by kernel_rfl) (fun _ _ _ h => h) (Or.inl ⟨by rfl, fun W' hW => by go_simp⟩) hS0 ?_
                refine wpAnyH_ready (rs := [8]) (by kernel_rfl) (by simp) ?_
                refine AllReadyH.cons rfl (fun K hK => ?_) AllReadyH.nil
                go_simp
                refine (K18.out Hn4.out _ aN aE cN m cE nm (HS.out _ (s9.out _ hS0)).2.1).mono ?_
                rintro e U1 ⟨rfl, hb1⟩
                have S1 := s8.out _ ((s9.out _ hS0).trans (hb1.mono (s9.out _ hS0).size))
                refine hK.out _ _ S1 (fun _ => ?_)
                clear hK K hb1
                refine wpAnyH_ready (rs := [11]) (by kernel_rfl) (by simp) ?_
                refine AllReadyH.cons rfl (fun K hK => ?_) AllReadyH.nil
                go_simp
                refine (K20.out Hn4.out _ (HS.out _ (s9.out _ S1)).1.1).mono ?_
                rintro e U2 ⟨rfl, hb2⟩
                have S2 := s8.out _ ((s9.out _ S1).trans (hb2.mono (s9.out _ S1).size))
                refine hK.out _ _ S2 (fun _ => ?_)
                clear hK K hb2
                generalize (firstAt ns0 nm).getD (-1) = fx
                have hff : (fx == fx) = true := beq_self_eq_true _
                refine wpAnyH_ready (rs := [12]) (by kernel_rfl) (by simp) ?_
                refine AllReadyH.cons rfl (fun K hK => ?_) AllReadyH.nil
                go_simp
                refine hK.out _ _ S2 (fun _ => ?_)
                clear hK K
                refine wpAnyH_ready (rs := [13]) (by kernel_rfl) (by simp) ?_
                refine AllReadyH.cons rfl (fun K hK => ?_) AllReadyH.nil
                go_simp
                refine hK.out _ _ S2 (fun _ => ?_)
                clear hK K
                refine wpAnyH_ready (rs := [14]) (by kernel_rfl) (by simp) ?_
                refine AllReadyH.cons rfl (fun K hK => ?_) AllReadyH.nil
                go_simp
                refine hK.out _ _ S2 (fun _ => ?_)
                clear hK K
                refine wpAnyH_take (i := 15) (v := .agg #[.slice aN n cN, .slice aE m cE]) rfl (by kernel_rfl) (by kernel_rfl) (by kernel_rfl) (fun _ _ _ h => h) (Or.inl ⟨by rfl, fun W' hW => by have x0 := (s2 W' hW).1; have x1 := (s2 W' hW).2; go_simp⟩) S2 ?_
                have z0 := (s1 _ S2).1
                have z1 := (s1 _ S2).2
                refine wpAnyH_ready (rs := [16]) (by kernel_rfl) (by simp) ?_
                refine AllReadyH.cons rfl (fun K hK => ?_) AllReadyH.nil
                go_simp
                refine hK.out _ _ S2 (fun _ => ?_)
                clear hK K
                clear z0 z1
                refine wpAnyH_ready (rs := [17]) (by kernel_rfl) (by simp) ?_
                refine AllReadyH.cons rfl (fun K hK => ?_) AllReadyH.nil
                go_simp
                refine (K16.out Hn4.out Hm4.out _ aN aE cN cE (HS.out _ (s9.out _ S2)).2.1 (HS.out _ (s9.out _ S2)).2.2 (HS.out _ (s9.out _ S2)).1.1 (HS.out _ (s9.out _ S2)).1.2).mono ?_
                rintro e U3 ⟨rfl, hb3⟩
                have S3 := s8.out _ ((s9.out _ S2).trans (hb3.mono (s9.out _ S2).size))
                refine hK.out _ _ S3 (fun _ => ?_)
                clear hK K hb3
                refine wpAnyH_ready (rs := [18]) (by kernel_rfl) (by simp) ?_
                refine AllReadyH.cons rfl (fun K hK => ?_) AllReadyH.nil
                go_simp
                refine hK.out _ _ S3 (fun _ => ?_)
                clear hK K
                refine wpAnyH_ready (rs := [19]) (by kernel_rfl) (by simp) ?_
                refine AllReadyH.cons rfl (fun K hK => ?_) AllReadyH.nil
                go_simp
                refine hK.out _ _ S3 (fun _ => ?_)
                clear hK K
                refine wpAnyH_done (by kernel_rfl) ?_ _
                have HS3 := hide (s9.out _ S3)
                clear s1 s2
                go_wp2_with fail
                go_ret
                exact ⟨by first | rfl | simp, HA.out.trans ((HB5.out.trans (HS3.out.mono HB5.out.size)).mono HA.out.size)⟩
              · have hge : (n : Int) ≤ n2 := gg.elim (fun h => absurd h hneg) id
                clear gg
                go_upto_region 28 with (go_at_call 19; refine (K19b.out _ (HS.out _ HB.out).2.2).mono ?_; rintro e W8 ⟨aY, cY, rfl, hb8⟩
                                        have HB : Hid (Below W5.heap.size W5 W8) := hide (HB.out.trans (hb8.mono HB.out.size))
                                        obtain ⟨⟨x0, x1⟩, y0, y1⟩ := HC.out _ HB.out
                                        clear hb8)
                obtain ⟨SS, hSS⟩ : ∃ SS : World → Prop, SS = fun W' => Below W5.heap.size W5 W' := ⟨_, rfl⟩
                have s9 : Hid (∀ W', SS W' → Below W5.heap.size W5 W') := hide (fun W' h => by rw [hSS] at h; exact h)
                have s8 : Hid (∀ W', Below W5.heap.size W5 W' → SS W') := hide (fun W' h => by rw [hSS]; exact h)
                have s1 : ∀ W', SS W' → W'.cell? ⟨w.heap.size, 0, none⟩ = some (.slice a0 n c0) ∧ W'.cell? ⟨w.heap.size, 1, none⟩ = some (.slice b0 m e0) := fun W' h => (HC.out W' (s9.out W' h)).1
                have s2 : ∀ W', SS W' → W'.cell? ⟨g4, 0, none⟩ = some (.slice aN n cN) ∧ W'.cell? ⟨g4, 1, none⟩ = some (.slice aE m cE) := fun W' h => (HC.out W' (s9.out W' h)).2
                have hmm : ((m : Int) == (m : Int)) = true := beq_self_eq_true _
                clear hSS
                refine wp_region_held_drew (S := SS) (by kernel_rfl) (s8.out _ (below_heap HB.out rfl rfl rfl rfl)) (fun hS0 => ?_)
                refine wpAnyH_take (i := 0) (v := .int .i64 (m : Int)) rfl (by kernel_rfl) (by kernel_rfl) (by kernel_rfl) (fun _ _ _ h => h) (Or.inl ⟨by rfl, fun W' hW => by go_simp⟩) hS0 ?_
                refine wpAnyH_ready (rs := [1]) (by kernel_rfl) (by simp) ?_
                refine AllReadyH.cons rfl (fun K hK => ?_) AllReadyH.nil
                go_simp
                refine hK.out _ _ hS0 (fun _ => ?_)
                clear hK K
                have z1 := (s1 _ hS0).2
                refine wpAnyH_ready (rs := [2]) (by kernel_rfl) (by simp) ?_
                refine AllReadyH.cons rfl (fun K hK => ?_) AllReadyH.nil
                go_simp
                refine hK.out _ _ hS0 (fun _ => ?_)
                clear hK K
                clear z1
                refine wpAnyH_ready (rs := [3]) (by kernel_rfl) (by simp) ?_
                refine AllReadyH.cons rfl (fun K hK => ?_) AllReadyH.nil
                go_simp
                refine hK.out _ _ hS0 (fun _ => ?_)
                clear hK K
                refine wpAnyH_ready (rs := [4]) (by kernel_rfl) (by simp) ?_
                refine AllReadyH.cons rfl (fun K hK => ?_) AllReadyH.nil
                go_simp
                refine hK.out _ _ hS0 (fun _ => ?_)
                clear hK K
                refine wpAnyH_ready (rs := [5]) (by kernel_rfl) (by simp) ?_
                refine AllReadyH.cons rfl (fun K hK => ?_) AllReadyH.nil
                go_simp
                refine hK.out _ _ hS0 (fun _ => ?_)
                clear hK K
                refine wpAnyH_take (i := 6) (v := .agg #[.slice aN n cN, .slice aE m cE]) rfl (by kernel_rfl) (by kernel_rfl) (by kernel_rfl) (fun _ _ _ h => h) (Or.inl ⟨by rfl, fun W' hW => by have x0 := (s2 W' hW).1; have x1 := (s2 W' hW).2; go_simp⟩) hS0 ?_
                refine wpAnyH_take (i := 7) (v := .string nm) rfl (by kernel_rfl) (by kernel_rfl) (by kernel_rfl) (fun _ _ _ h => h) (Or.inl ⟨by rfl, fun W' hW => by go_simp⟩) hS0 ?_
                refine wpAnyH_take (i := 9) (v := .agg #[.slice a0 n c0, .slice b0 m e0]) rfl (by kernel_rfl) (by kernel_rfl) (by kernel_rfl) (fun _ _ _ h => h) (Or.inl ⟨by rfl, fun W' hW => by have x0 := (s1 W' hW).1; have x1 := (s1 W' hW).2; go_simp⟩) hS0 ?_
                refine wpAnyH_take (i := 10) (v := .string nm) rfl (by kernel_rfl) (by kernel_rfl) (by kernel_rfl) (fun _ _ _ h => h) (Or.inl ⟨by rfl, fun W' hW => by go_simp⟩) hS0 ?_
                refine wpAnyH_ready (rs := [8]) (by kernel_rfl) (by simp) ?_
                refine AllReadyH.cons rfl (fun K hK => ?_) AllReadyH.nil
                go_simp
                refine (K18.out Hn4.out _ aN aE cN m cE nm (HS.out _ (s9.out _ hS0)).2.1).mono ?_
                rintro e U1 ⟨rfl, hb1⟩
                have S1 := s8.out _ ((s9.out _ hS0).trans (hb1.mono (s9.out _ hS0).size))
                refine hK.out _ _ S1 (fun _ => ?_)
                clear hK K hb1
                refine wpAnyH_ready (rs := [11]) (by kernel_rfl) (by simp) ?_
                refine AllReadyH.cons rfl (fun K hK => ?_) AllReadyH.nil
                go_simp
                refine (K20.out Hn4.out _ (HS.out _ (s9.out _ S1)).1.1).mono ?_
                rintro e U2 ⟨rfl, hb2⟩
                have S2 := s8.out _ ((s9.out _ S1).trans (hb2.mono (s9.out _ S1).size))
                refine hK.out _ _ S2 (fun _ => ?_)
                clear hK K hb2
                generalize (firstAt ns0 nm).getD (-1) = fx
                have hff : (fx == fx) = true := beq_self_eq_true _
                refine wpAnyH_ready (rs := [12]) (by kernel_rfl) (by simp) ?_
                refine AllReadyH.cons rfl (fun K hK => ?_) AllReadyH.nil
                go_simp
                refine hK.out _ _ S2 (fun _ => ?_)
                clear hK K
                refine wpAnyH_ready (rs := [13]) (by kernel_rfl) (by simp) ?_
                refine AllReadyH.cons rfl (fun K hK => ?_) AllReadyH.nil
                go_simp
                refine hK.out _ _ S2 (fun _ => ?_)
                clear hK K
                refine wpAnyH_ready (rs := [14]) (by kernel_rfl) (by simp) ?_
                refine AllReadyH.cons rfl (fun K hK => ?_) AllReadyH.nil
                go_simp
                refine hK.out _ _ S2 (fun _ => ?_)
                clear hK K
                refine wpAnyH_take (i := 15) (v := .agg #[.slice aN n cN, .slice aE m cE]) rfl (by kernel_rfl) (by kernel_rfl) (by kernel_rfl) (fun _ _ _ h => h) (Or.inl ⟨by rfl, fun W' hW => by have x0 := (s2 W' hW).1; have x1 := (s2 W' hW).2; go_simp⟩) S2 ?_
                have z0 := (s1 _ S2).1
                have z1 := (s1 _ S2).2
                refine wpAnyH_ready (rs := [16]) (by kernel_rfl) (by simp) ?_
                refine AllReadyH.cons rfl (fun K hK => ?_) AllReadyH.nil
                go_simp
                refine hK.out _ _ S2 (fun _ => ?_)
                clear hK K
                clear z0 z1
                refine wpAnyH_ready (rs := [17]) (by kernel_rfl) (by simp) ?_
                refine AllReadyH.cons rfl (fun K hK => ?_) AllReadyH.nil
                go_simp
                refine (K16.out Hn4.out Hm4.out _ aN aE cN cE (HS.out _ (s9.out _ S2)).2.1 (HS.out _ (s9.out _ S2)).2.2 (HS.out _ (s9.out _ S2)).1.1 (HS.out _ (s9.out _ S2)).1.2).mono ?_
                rintro e U3 ⟨rfl, hb3⟩
                have S3 := s8.out _ ((s9.out _ S2).trans (hb3.mono (s9.out _ S2).size))
                refine hK.out _ _ S3 (fun _ => ?_)
                clear hK K hb3
                refine wpAnyH_ready (rs := [18]) (by kernel_rfl) (by simp) ?_
                refine AllReadyH.cons rfl (fun K hK => ?_) AllReadyH.nil
                go_simp
                refine hK.out _ _ S3 (fun _ => ?_)
                clear hK K
                refine wpAnyH_ready (rs := [19]) (by kernel_rfl) (by simp) ?_
                refine AllReadyH.cons rfl (fun K hK => ?_) AllReadyH.nil
                go_simp
                refine hK.out _ _ S3 (fun _ => ?_)
                clear hK K
                refine wpAnyH_done (by kernel_rfl) ?_ _
                have HS3 := hide (s9.out _ S3)
                clear s1 s2
                go_wp2_with fail
                go_ret
                exact ⟨by first | rfl | simp, HA.out.trans ((HB5.out.trans (HS3.out.mono HB5.out.size)).mono HA.out.size)⟩

end Go.Proofs.YtpjolnaomdmnnaaDoor.layoutFinds
