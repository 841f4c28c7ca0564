/- ring and Stuck. -/
import Derived.Test.YtmmkfcmbmecleaaZvi
namespace Go.Proofs.Ytmmkfcmbmecleaa
open Go.RowKit
set_option linter.unusedVariables false

theorem zcells_ne {w : World} {g g' : Nat} {C C' : Array Value} {t t' : TypeId} (h : w.heap[g]? = some (.cells C t)) (h' : w.heap[g']? = some (.cells C' t')) (ht : t ≠ t') : g ≠ g' := fun e => by
  subst e
  rw [h] at h'
  simp only [Option.some.injEq, Obj.cells.injEq] at h'
  exact ht h'.2.1

theorem vfix {a : Option Addr} {c n : Nat} {hs : List Hl} {ls : Nat → List Int} {bh bo bs br bv gs B : Nat} {w0 W1 : World} {v0 v1 v2 v3 v4 v5 v6 v7 : Value} (hlen : hs.length = n) (n40 : n ≤ 40) (ok : hs.all okH = true)
    (xh : W1.heap[bh]? = some (.cells #[.slice a n c] 52)) (xo : W1.heap[bo]? = some (.cells #[v0, v1, v2, v3, v4, v5, v6, v7] 87)) (xs : W1.heap[bs]? = some (.cells #[.slice (some ⟨gs, 0, none⟩) n n] 76))
    (xr : W1.heap[br]? = some (.cells #[.slice none 0 0] 26)) (xv : W1.heap[bv]? = some (.cells #[visF br bs bh bo bv] 84)) (hsn : boolE.Own W1 w0.heap.size (.slice (some ⟨gs, 0, none⟩) n n) (List.replicate n false))
    (hol : ∀ (z : Nat) (u : Value), (#[v0, v1, v2, v3, v4, v5, v6, v7] : Array Value)[z]? = some u → intE.Own W1 B u (ls z)) (hin : Hin hs n 0 ls) (hv : Hds hvE w0 (.slice a n c) hs) (hb : Below w0.heap.size w0 W1) (hbr : w0.heap.size ≤ br) :
    Vfix a c n hs ls bh bo bs br bv gs W1 ∧ Vst br gs n W1 W1 (.slice none 0 0) [] (List.replicate n false) := by
  obtain ⟨cs, xg⟩ := own_type hsn gs rfl
  have hgs : w0.heap.size ≤ gs := hsn.ge gs rfl
  have cell : ∀ (w : World) (g : Nat) (C : Array Value) (t : TypeId), Kp br gs W1 w → W1.heap[g]? = some (.cells C t) → t ≠ 26 → t ≠ 4 → w.heap[g]? = some (.cells C t) := fun w g C t hk hg h1 h2 => by
    rw [hk.block g (heap_lt hg) (zcells_ne hg xr h1) (zcells_ne hg xg h2)]; exact hg
  refine ⟨⟨hlen, n40, ok, fun w hk => (cells_at (cell w bh _ _ hk xh (by decide) (by decide)) 0).1, fun w hk => (cells_at (cell w bs _ _ hk xs (by decide) (by decide)) 0).1, fun w hk => (cells_at (cell w bv _ _ hk xv (by decide) (by decide)) 0).1, fun z hz => ?_, fun w hk i p hp => ?_, hin, heap_lt xr, heap_lt xg⟩, ⟨Kp.refl _ _ _, xr, El.Own.nil _ _ _, hsn.mono (Nat.zero_le _)⟩⟩
  · obtain ⟨u, hu⟩ : ∃ u, (#[v0, v1, v2, v3, v4, v5, v6, v7] : Array Value)[z]? = some u := ⟨_, Array.getElem?_eq_getElem (by simpa using hz)⟩
    have ho := hol z u hu
    obtain ⟨a', c', rfl⟩ := ho.rd.form
    refine ⟨a', c', fun w hk => ⟨?_, ?_⟩⟩
    · rw [(cells_at (cell w bo _ _ hk xo (by decide) (by decide)) z).1]; exact hu
    · rcases ho.2 with ⟨h1, h2⟩ | ⟨g', cap, cur, h1, h2, h3, h4⟩
      · exact .inl ⟨h1, List.eq_nil_of_length_eq_zero h2⟩
      · have h3' := cell w g' cur 3 hk h3 (by decide) (by decide)
        exact El.Own.rd (B := B) ⟨ho.1, .inr ⟨g', cap, cur, h1, h2, h3', h4⟩⟩
  · obtain ⟨b, off, _, _, ha, _, c1, _⟩ := hv_at hv i p hp
    have hlt := cell_lt c1
    refine ⟨b, off, ha, ?_⟩
    have hlt' : b < w0.heap.size := hlt
    rw [hk.cell (p := ⟨b, off + i * 2 + 1, none⟩) (Nat.lt_of_lt_of_le hlt hb.size) (by show b ≠ br; omega) (by show b ≠ gs; omega), hb.cell (p := ⟨b, off + i * 2 + 1, none⟩) hlt]
    exact c1

theorem HolR.sl {w : World} {B : Nat} {v : Value} {ls : Nat → List Int} (h : HolR w B v ls) : ∃ p0 l0 k0 p1 l1 k1 p2 l2 k2 p3 l3 k3 p4 l4 k4 p5 l5 k5 p6 l6 k6 p7 l7 k7, v = .agg #[.slice p0 l0 k0, .slice p1 l1 k1, .slice p2 l2 k2, .slice p3 l3 k3, .slice p4 l4 k4, .slice p5 l5 k5, .slice p6 l6 k6, .slice p7 l7 k7] ∧ ∀ (z : Nat) (u : Value), (#[.slice p0 l0 k0, .slice p1 l1 k1, .slice p2 l2 k2, .slice p3 l3 k3, .slice p4 l4 k4, .slice p5 l5 k5, .slice p6 l6 k6, .slice p7 l7 k7] : Array Value)[z]? = some u → intE.Own w B u (ls z) := by
  obtain ⟨v0, v1, v2, v3, v4, v5, v6, v7, rfl, ho⟩ := h
  obtain ⟨p0, l0, k0, rfl⟩ : ∃ a l c, v0 = .slice a l c := by obtain ⟨a, c, h⟩ := (ho 0 v0 rfl).rd.form; exact ⟨_, _, _, h⟩
  obtain ⟨p1, l1, k1, rfl⟩ : ∃ a l c, v1 = .slice a l c := by obtain ⟨a, c, h⟩ := (ho 1 v1 rfl).rd.form; exact ⟨_, _, _, h⟩
  obtain ⟨p2, l2, k2, rfl⟩ : ∃ a l c, v2 = .slice a l c := by obtain ⟨a, c, h⟩ := (ho 2 v2 rfl).rd.form; exact ⟨_, _, _, h⟩
  obtain ⟨p3, l3, k3, rfl⟩ : ∃ a l c, v3 = .slice a l c := by obtain ⟨a, c, h⟩ := (ho 3 v3 rfl).rd.form; exact ⟨_, _, _, h⟩
  obtain ⟨p4, l4, k4, rfl⟩ : ∃ a l c, v4 = .slice a l c := by obtain ⟨a, c, h⟩ := (ho 4 v4 rfl).rd.form; exact ⟨_, _, _, h⟩
  obtain ⟨p5, l5, k5, rfl⟩ : ∃ a l c, v5 = .slice a l c := by obtain ⟨a, c, h⟩ := (ho 5 v5 rfl).rd.form; exact ⟨_, _, _, h⟩
  obtain ⟨p6, l6, k6, rfl⟩ : ∃ a l c, v6 = .slice a l c := by obtain ⟨a, c, h⟩ := (ho 6 v6 rfl).rd.form; exact ⟨_, _, _, h⟩
  obtain ⟨p7, l7, k7, rfl⟩ : ∃ a l c, v7 = .slice a l c := by obtain ⟨a, c, h⟩ := (ho 7 v7 rfl).rd.form; exact ⟨_, _, _, h⟩
  exact ⟨_, _, _, _, _, _, _, _, _, _, _, _, _, _, _, _, _, _, _, _, _, _, _, _, rfl, ho⟩

theorem sz (w : World) (o : Obj) : (w.alloc o).heap.size = w.heap.size + 1 := Array.size_push _
theorem vstart {a : Option Addr} {c n : Nat} {hs : List Hl} {ls : Nat → List Int} {w0 W2 W3 W4 W1 : World} {v0 v1 v2 v3 v4 v5 v6 v7 : Value} (hlen : hs.length = n) (n40 : n ≤ 40) (ok : hs.all okH = true) (hv : Hds hvE w0 (.slice a n c) hs)
    (hb2 : Below (w0.alloc (.cells #[.slice a n c] 52)).heap.size (w0.alloc (.cells #[.slice a n c] 52)) W2) (hol : ∀ (z : Nat) (u : Value), (#[v0, v1, v2, v3, v4, v5, v6, v7] : Array Value)[z]? = some u → intE.Own W2 (w0.alloc (.cells #[.slice a n c] 52)).heap.size u (ls z)) (hin : Hin hs n 0 ls)
    (hb3 : Below W2.heap.size W2 W3) (hbo : W3.heap[W2.heap.size]? = some (.cells #[v0, v1, v2, v3, v4, v5, v6, v7] 87)) (hsn : boolE.Own W4 W3.heap.size (.slice (some ⟨W3.heap.size, 0, none⟩) n n) (List.replicate n false)) (hb4 : Below W3.heap.size W3 W4)
    (hW1 : ((W4.alloc (.cells #[.slice (some ⟨W3.heap.size, 0, none⟩) n n] 76)).alloc (.cells #[.slice none 0 0] 26)).alloc (.cells #[visF (W4.heap.size + 1) W4.heap.size w0.heap.size W2.heap.size (W4.heap.size + 1 + 1)] 84) = W1) :
    Vfix a c n hs ls w0.heap.size W2.heap.size W4.heap.size (W4.heap.size + 1) (W4.heap.size + 1 + 1) W3.heap.size W1 ∧ Vst (W4.heap.size + 1) W3.heap.size n W1 W1 (.slice none 0 0) [] (List.replicate n false) ∧ Below w0.heap.size w0 W1 ∧ w0.heap.size ≤ W4.heap.size + 1 ∧ w0.heap.size ≤ W3.heap.size := by
  have hB0 : Below w0.heap.size w0 (w0.alloc (.cells #[.slice a n c] 52)) := (Below.refl _ _).alloc (Nat.le_refl _) _
  have s0 := sz w0 (.cells #[.slice a n c] 52)
  have s2 := hb2.size
  have s3 := hb3.size
  have s4 := hb4.size
  have e1 := sz W4 (.cells #[.slice (some ⟨W3.heap.size, 0, none⟩) n n] 76)
  have e2 := sz (W4.alloc (.cells #[.slice (some ⟨W3.heap.size, 0, none⟩) n n] 76)) (.cells #[.slice none 0 0] 26)
  have hb1 : Below W4.heap.size W4 W1 := by
    rw [← hW1]
    exact (((Below.refl _ _).alloc (Nat.le_refl _) _).alloc (by omega) _).alloc (by omega) _
  have b31 : Below W3.heap.size W3 W1 := hb4.trans (hb1.mono s4)
  have b21 : Below W2.heap.size W2 W1 := hb3.trans (b31.mono s3)
  have bA1 : Below (w0.alloc (.cells #[.slice a n c] 52)).heap.size (w0.alloc (.cells #[.slice a n c] 52)) W1 := hb2.trans (b21.mono s2)
  have b01 : Below w0.heap.size w0 W1 := hB0.trans (bA1.mono (by omega))
  have xh : W1.heap[w0.heap.size]? = some (.cells #[.slice a n c] 52) := by rw [bA1.block _ (by omega)]; exact heap_new _ _
  have xo : W1.heap[W2.heap.size]? = some (.cells #[v0, v1, v2, v3, v4, v5, v6, v7] 87) := by rw [b31.block _ (heap_lt hbo)]; exact hbo
  have xs : W1.heap[W4.heap.size]? = some (.cells #[.slice (some ⟨W3.heap.size, 0, none⟩) n n] 76) := by
    rw [← hW1, Below.heap_alloc _ _ _ (by omega), Below.heap_alloc _ _ _ (by omega)]; exact heap_new _ _
  have xr : W1.heap[W4.heap.size + 1]? = some (.cells #[.slice none 0 0] 26) := by
    rw [← hW1, Below.heap_alloc _ _ _ (by omega), ← e1]; exact heap_new _ _
  have xv : W1.heap[W4.heap.size + 1 + 1]? = some (.cells #[visF (W4.heap.size + 1) W4.heap.size w0.heap.size W2.heap.size (W4.heap.size + 1 + 1)] 84) := by
    have : W4.heap.size + 1 + 1 = ((W4.alloc (.cells #[.slice (some ⟨W3.heap.size, 0, none⟩) n n] 76)).alloc (.cells #[.slice none 0 0] 26)).heap.size := by omega
    have h := heap_new ((W4.alloc (.cells #[.slice (some ⟨W3.heap.size, 0, none⟩) n n] 76)).alloc (.cells #[.slice none 0 0] 26)) (.cells #[visF (W4.heap.size + 1) W4.heap.size w0.heap.size W2.heap.size (W4.heap.size + 1 + 1)] 84)
    rw [← this, hW1] at h
    exact h
  obtain ⟨h1, h2⟩ := vfix (w0 := w0) (B := w0.heap.size) hlen n40 ok xh xo xs xr xv ((hsn.keep hb1).mono (by omega)) (fun z u hu => ((hol z u hu).keep b21).mono (by omega)) hin hv b01 (by omega)
  exact ⟨h1, h2, b01, by omega, by omega⟩

/-- what ring tells: nothing, and nobody is stuck; or a ring -/
def RP (hs : List Hl) (B : Nat) (u : Value) (w' : World) : Prop :=
  (u = .slice none 0 0 ∧ Free hs) ∨ (∃ y m k l, u = .slice (some y) m k ∧ intE.Own w' B u (ints l) ∧ IsRing hs l)

theorem Kp.below {br gs : Nat} {w0 W1 w : World} (h : Kp br gs W1 w) (hb : Below w0.heap.size w0 W1) (h1 : w0.heap.size ≤ br) (h2 : w0.heap.size ≤ gs) : Below w0.heap.size w0 w :=
  ⟨h.os.trans hb.os, h.tape.trans hb.tape, h.output.trans hb.output, Nat.le_trans hb.size h.size, fun k hk => by
    rw [h.block k (Nat.lt_of_lt_of_le hk hb.size) (by omega) (by omega)]; exact hb.block k hk⟩

set_option maxRecDepth 100000 in
set_option maxHeartbeats 4000000 in
theorem ring_any (a : Option Addr) (c n : Nat) (hs : List Hl) (w : World) (hn : hs.length = n) (hv : Hds hvE w (.slice a n c) hs) (hl : n ≤ 40) (hb : ∀ p ∈ hs, p.has.length ≤ 30) (hok : hs.all okH = true) :
    Calls Try.prog 37 #[.slice a n c] w fun e w' => (∃ u, e = .returned u ∧ RP hs w.heap.size u w') ∧ Below w.heap.size w w' := by
  obtain ⟨w0, rfl⟩ : ∃ w0, w0 = w := ⟨_, rfl⟩
  have hB0 : Below w0.heap.size w0 (w0.alloc (.cells #[.slice a n c] 52)) := (Below.refl _ _).alloc (Nat.le_refl _) _
  have hbox := heap_new w0 (.cells #[.slice a n c] 52)
  have K47 := hide (holders_any a c n hs _ hn (hv.keep hB0) (by omega) hb hok)
  have MB : ∀ W : World, ∃ w', (Instr.makeSlice 76 (.int .i64 (n : Int)) (.int .i64 (n : Int))).run Try.prog W = .ok (.slice (some ⟨W.heap.size, 0, none⟩) n n) w' ∧
    boolE.Own w' W.heap.size (.slice (some ⟨W.heap.size, 0, none⟩) n n) (List.replicate n false) ∧ Below W.heap.size W w' ∧ W.heap.size < w'.heap.size := fun W => made_bools W n (by omega)
  have HM := hide MB
  have Hbox := hide hbox
  have HB0 := hide hB0
  have hmf : ∀ (fn : Fn) (first cap : Array Value) (w : World), (Instr.makeFunc fn first cap).run Try.prog w = .ok (.func fn first cap) w := fun _ _ _ _ => rfl
  have hst : ∀ (ad : Addr) (m : Mode) (fn : Fn) (first cap : Array Value) (w : World), (store ad (.func fn first cap) m).run Try.prog w = stored Try.prog w ad (.func fn first cap) m := fun ad m fn first cap w => run_store Try.prog w ad _ m rfl
  have i0 : (n : Int) ≤ 40 := by omega
  have Hv := hide hv
  have Hn := hide hn
  have Hok := hide hok
  clear MB hbox hB0 hv hn hb hok
  go_enter Try.func37, Try.ntmps37
  go_upto_region 2 with (go_at_call 47; refine (K47.out).mono ?_; rintro e W2 ⟨⟨u, rfl, ls, hh, hin⟩, hb2⟩; obtain ⟨p0, l0, k0, p1, l1, k1, p2, l2, k2, p3, l3, k3, p4, l4, k4, p5, l5, k5, p6, l6, k6, p7, l7, k7, rfl, hol⟩ := hh.sl; clear hh; have Hol := hide hol; have Hin := hide hin; have Hb2 := hide hb2; clear hol hin hb2)
  obtain ⟨W3, hW3⟩ : ∃ W, W2.alloc (.cells #[.slice p0 l0 k0, .slice p1 l1 k1, .slice p2 l2 k2, .slice p3 l3 k3, .slice p4 l4 k4, .slice p5 l5 k5, .slice p6 l6 k6, .slice p7 l7 k7] 87) = W := ⟨_, rfl⟩
  have Hb3 : Hid (Below W2.heap.size W2 W3) := hide (by rw [← hW3]; exact (Below.refl _ _).alloc (Nat.le_refl _) _)
  have Hbo : Hid (W3.heap[W2.heap.size]? = some (.cells #[.slice p0 l0 k0, .slice p1 l1 k1, .slice p2 l2 k2, .slice p3 l3 k3, .slice p4 l4 k4, .slice p5 l5 k5, .slice p6 l6 k6, .slice p7 l7 k7] 87)) := hide (by rw [← hW3]; exact heap_new _ _)
  rw [hW3]
  clear hW3
  obtain ⟨W4, hm4, hsn, hb4, hlt4⟩ := HM.out W3
  have Hsn := hide hsn
  have Hb4 := hide hb4
  have c0 : W3.cell? ⟨w0.heap.size, 0, none⟩ = some (.slice a n c) := by
    rw [Hb3.out.cell (p := ⟨w0.heap.size, 0, none⟩) (heap_lt (by rw [Hb2.out.block _ (heap_lt Hbox.out)]; exact Hbox.out)), Hb2.out.cell (p := ⟨w0.heap.size, 0, none⟩) (heap_lt Hbox.out)]
    exact (cells_at Hbox.out 0).1
  clear hsn hb4 hlt4
  go_upto_region 6 with fail
  obtain ⟨W1, hW1⟩ : ∃ W, ((W4.alloc (.cells #[.slice (some ⟨W3.heap.size, 0, none⟩) n n] 76)).alloc (.cells #[.slice none 0 0] 26)).alloc (.cells #[visF (W4.heap.size + 1) W4.heap.size w0.heap.size W2.heap.size (W4.heap.size + 1 + 1)] 84) = W := ⟨_, rfl⟩
  obtain ⟨hF, hVs, hb01, hbr, hgs⟩ := vstart Hn.out (by omega) Hok.out Hv.out Hb2.out Hol.out Hin.out Hb3.out Hbo.out Hsn.out Hb4.out hW1
  unfold visF at hW1
  rw [hW1]
  clear hW1
  have HF := hide hF
  have HVs := hide hVs
  have HB := hide hb01
  have Hbr := hide hbr
  have Hgs := hide hgs
  clear hF hVs hb01 hbr hgs c0 Hsn Hb4 Hb3 Hb2 Hol Hin Hbo HM K47 hm4
  generalize W4.heap.size + 1 + 1 = bv at *
  generalize W4.heap.size + 1 = br at *
  generalize W4.heap.size = bs at *
  generalize W3.heap.size = gs at *
  generalize W2.heap.size = bo at *
  have e1 := HF.out.h W1 (Kp.refl _ _ _)
  go_upto_region 7 with fail
  clear e1
  go_loopw [17] (fun v17 wr => ∃ (j : Nat) (v' : Value) (sn' : List Bool), j ≤ n ∧ v17 = .int .i64 j ∧ Hid (Vst br gs n W1 wr v' [] sn') ∧ Hid (Df hs [] sn') ∧ Hid (∀ i, i < j → Safe hs i)) (fun v17 _ => n - (intOf v17).toNat)
  case atStart => exact ⟨0, _, _, Nat.zero_le _, rfl, HVs, hide (by have := Df.start hs; rw [Hn.out] at this; exact this), hide (fun i hi => by omega)⟩
  case round =>
    clear HVs
    obtain ⟨j, v', sn', hj, rfl, HVs, HD, HS1⟩ := hrel
    by_cases hjl : j < n
    · have e4 := HF.out.v wr HVs.out.kp
      unfold visF at e4
      have KV := hide (visit_any _ _ _ _ _ _ _ _ _ _ _ _ HF.out (sn'.count false + 1) j [] sn' v' wr (by omega) HVs.out HD.out ⟨by rw [Hn.out]; exact hjl, fun z hz => by simp at hz⟩)
      have g0 : (0 : Int) ≤ (j : Int) := by omega
      have g1 : (j : Int) < (n : Int) := by omega
      go_upto_region 10 with (go_at_call 48; refine (KV.out).mono ?_; rintro e W5 ⟨u2, rfl, hP⟩; have HP := hide hP; clear hP)
      rcases HP.out with ⟨rfl, v2, sn2, hV2, hD2, hc2, hsafe⟩ | ⟨y2, m2', k2, l2, rfl, ho, hr, hk⟩
      · have HV4 := hide hV2
        have HD4 := hide hD2
        have HS2 : Hid (∀ i, i < j + 1 → Safe hs i) := hide (fun i hi => by
          rcases Nat.lt_or_ge i j with g | g
          · exact HS1.out i g
          · obtain rfl : i = j := by omega
            exact hsafe)
        clear hV2 hD2 hc2 hsafe HP
        go_wp2_with fail
        go_roundw
        case rel => exact ⟨j + 1, v2, sn2, by omega, by go_num, HV4, HD4, HS2⟩
        case measure => simp [intOf]; omega
      · have Hfin : Hid (RP hs w0.heap.size (.slice (some y2) m2' k2) W5) := hide (.inr ⟨y2, m2', k2, l2, rfl, ho.mono HB.out.size, hr⟩)
        have HBf := hide (hk.below HB.out Hbr.out Hgs.out)
        clear ho hr hk HP
        go_wp2_with fail
        go_ret
        exact ⟨⟨_, rfl, Hfin.out⟩, HBf.out⟩
    · obtain rfl : j = n := by omega
      have g1 : ¬ (j : Int) < (j : Int) := by omega
      have Hfin : Hid (RP hs w0.heap.size (.slice none 0 0) wr) := hide (.inl ⟨rfl, fun i hi => HS1.out i (by rw [Hn.out] at hi; exact hi)⟩)
      have HBf := hide (HVs.out.kp.below HB.out Hbr.out Hgs.out)
      go_wp2_with fail
      go_ret
      exact ⟨⟨_, rfl, Hfin.out⟩, HBf.out⟩

/-- what Stuck tells -/
def SP (hs : List Hl) (B : Nat) (u : Value) (e : Int) (w' : World) : Prop :=
  if hs.length ≤ 40 ∧ hs.all okH = true then e = 0 ∧ RP hs B u w' else e = 1 ∧ u = .slice none 0 0

set_option maxRecDepth 100000 in
set_option maxHeartbeats 4000000 in
theorem stuck_any (a : Option Addr) (c n : Nat) (hs : List Hl) (w : World) (hn : hs.length = n) (hv : Hds hvE w (.slice a n c) hs) (hl : n ≤ 100000) (hb : ∀ p ∈ hs, p.has.length ≤ 30) :
    Calls Try.prog 24 #[.slice a n c] w fun e w' => (∃ u x, e = .returned (.tuple #[u, .int .i64 x]) ∧ SP hs w.heap.size u x w') ∧ Below w.heap.size w w' := by
  obtain ⟨w0, rfl⟩ : ∃ w0, w0 = w := ⟨_, rfl⟩
  by_cases h40 : n ≤ 40
  · have g1 : ¬ ((n : Int) > 40) := by omega
    have K35 := hide (containsH_any a c n hs w0 hn hv hl (fun p hp => by have := hb p hp; omega))
    cases hok : hs.all okH with
    | false =>
      have HP : Hid (SP hs w0.heap.size (.slice none 0 0) 1 w0 = SP hs w0.heap.size (.slice none 0 0) 1 w0) := hide rfl
      have Hfin : Hid (∀ W, SP hs w0.heap.size (.slice none 0 0) 1 W) := hide (fun W => by unfold SP; rw [if_neg (fun h => by rw [hok] at h; cases h.2)]; exact ⟨rfl, rfl⟩)
      rw [hok] at K35
      clear hn hv hl hb hok HP
      go_enter Try.func24, Try.ntmps24
      go_wp2_with (go_at_call 35; refine (K35.out).mono ?_; rintro e W2 ⟨rfl, hb2⟩; have HB2 := hide hb2; clear hb2)
      go_ret2
      exact ⟨⟨_, _, rfl, Hfin.out _⟩, HB2.out⟩
    | true =>
      have KR : Hid (∀ W, Below w0.heap.size w0 W → Calls Try.prog 37 #[.slice a n c] W fun e w' => (∃ u, e = .returned u ∧ RP hs W.heap.size u w') ∧ Below W.heap.size W w') := hide (fun W hbw => ring_any a c n hs W hn (hv.keep hbw) h40 hb hok)
      have Hfin : Hid (∀ B u W, w0.heap.size ≤ B → RP hs B u W → SP hs w0.heap.size u 0 W) := hide (fun B u W hB hr => by
        unfold SP
        rw [if_pos ⟨by omega, hok⟩]
        refine ⟨rfl, ?_⟩
        rcases hr with h | ⟨y, m, k, l, h1, h2, h3⟩
        · exact .inl h
        · exact .inr ⟨y, m, k, l, h1, h2.mono hB, h3⟩)
      rw [hok] at K35
      clear hn hv hl hb hok
      go_enter Try.func24, Try.ntmps24
      go_wp2_with (first | (go_at_call 35; refine (K35.out).mono ?_; rintro e W2 ⟨rfl, hb2⟩; have HB2 := hide hb2; clear hb2) | (go_at_call 37; refine (KR.out _ HB2.out).mono ?_; rintro e W3 ⟨⟨u, rfl, hr⟩, hb3⟩; have HB3 := hide (HB2.out.trans (hb3.mono HB2.out.size)); have HR3 := hide (Hfin.out _ _ _ HB2.out.size hr); clear hb3 hr))
      go_ret2
      exact ⟨⟨_, _, rfl, HR3.out⟩, HB3.out⟩
  · have g1 : ((n : Int) > 40) := by omega
    have Hfin : Hid (SP hs w0.heap.size (.slice none 0 0) 1 w0) := hide (by unfold SP; rw [if_neg (fun h => h40 (by rw [← hn]; exact h.1))]; exact ⟨rfl, rfl⟩)
    clear hn hv hl hb
    go_enter Try.func24, Try.ntmps24
    go_wp2_with fail
    go_ret2
    exact ⟨⟨_, _, rfl, Hfin.out⟩, Below.refl _ _⟩
end Go.Proofs.Ytmmkfcmbmecleaa
