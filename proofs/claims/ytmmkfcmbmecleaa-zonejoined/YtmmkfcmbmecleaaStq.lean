/- The least device by which a way can go on: step. -/
import Derived.Test.YtmmkfcmbmecleaaStp
namespace Go.Proofs.Ytmmkfcmbmecleaa
open Go.RowKit
set_option linter.unusedVariables false

/-- step's device is the first one of Out that is good -/
def okE (ns : List Nd) (es : List Ed) (ms l : List Int) (t : Nat) (u left : Int) (d : Int) : Bool := okD ns es ms l t u left (d - 1).toNat
theorem find_dvs (ns : List Nd) (es : List Ed) (ms l : List Int) (t : Nat) (u left : Int) : ∀ k, (dvs es (fun e => e.1 = u) k).find? (okE ns es ms l t u left) = ((List.range k).find? (okD ns es ms l t u left)).map (fun i => ((i + 1 : Nat) : Int))
  | 0 => rfl
  | k + 1 => by
    show (dvs es (fun e => e.1 = u) k ++ _).find? _ = _
    rw [List.range_succ, List.find?_append, List.find?_append, find_dvs ns es ms l t u left k, Option.map_or]
    congr 1
    cases h : es[k]? with
    | none =>
      have : okD ns es ms l t u left k = false := by unfold okD; rw [h]
      simp [this]
    | some e =>
      by_cases he : e.1 = u
      · simp only [he, if_true]
        have e1 : okE ns es ms l t u left ((k + 1 : Nat) : Int) = okD ns es ms l t u left k := by unfold okE; rw [show ((((k + 1 : Nat) : Int) - 1).toNat) = k by omega]
        rw [List.find?_cons, List.find?_cons, e1]
        cases okD ns es ms l t u left k <;> rfl
      · have : okD ns es ms l t u left k = false := by
          unfold okD; rw [h]; simp [he]
        simp [this, he]
theorem stp_outs {ns : List Nd} {es : List Ed} {ms l : List Int} {t : Nat} {u left : Int} (h : 0 ≤ left) : stp ns es ms l t u left = ((outs es u).find? (okE ns es ms l t u left)).getD 0 := by
  unfold stp outs
  rw [if_neg (by omega), find_dvs]
  cases (List.range es.length).find? (okD ns es ms l t u left) <;> rfl
theorem find_here {p : Int → Bool} : ∀ {xs : List Int} {k : Nat} {d : Int}, xs[k]? = some d → (∀ j, j < k → ∀ x, xs[j]? = some x → p x = false) → p d = true → xs.find? p = some d
  | [], k, d, h, _, _ => by simp at h
  | x :: xs, 0, d, h, _, h2 => by simp at h; subst h; rw [List.find?_cons, h2]
  | x :: xs, k + 1, d, h, h1, h2 => by
    rw [List.find?_cons, h1 0 (by omega) x rfl]
    exact find_here (by simpa using h) (fun j hj y hy => h1 (j + 1) (by omega) y (by simpa using hy)) h2
theorem find_no {p : Int → Bool} {xs : List Int} (h : ∀ j, j < xs.length → ∀ x, xs[j]? = some x → p x = false) : xs.find? p = none := by
  rw [List.find?_eq_none]
  intro x hx
  obtain ⟨j, hj⟩ := List.getElem?_of_mem hx
  rw [h j (by
    rcases Nat.lt_or_ge j xs.length with g | g
    · exact g
    · rw [List.getElem?_eq_none g] at hj; cases hj) x hj]
  simp

set_option maxRecDepth 100000 in
set_option maxHeartbeats 4000000 in
theorem step_any (a a' aM : Option Addr) (c c' cM n m k0 t g u : Nat) (ns : List Nd) (es : List Ed) (ms l : List Int) (left : Int) (w : World) (hW : Wy w a a' aM c c' cM n m k0 t g ns es ms l) (hu : u < n) :
    Calls Try.prog 54 #[.agg #[.slice a n c, .slice a' m c', .slice aM k0 cM, .int .i64 (t : Int), .slice (some ⟨g, 0, none⟩) n n], .int .i64 (u : Int), .int .i64 left] w fun e w' => e = .returned (.int .i64 (stp ns es ms l t (u : Int) left)) ∧ Below w.heap.size w w' := by
  obtain ⟨W0, hW0⟩ : ∃ W0, w.alloc (.cells #[.slice a n c, .slice a' m c', .slice aM k0 cM, .int .i64 (t : Int), .slice (some ⟨g, 0, none⟩) n n] 80) = W0 := ⟨_, rfl⟩
  have bA : Below w.heap.size w W0 := by rw [← hW0]; exact (Below.refl _ _).alloc (Nat.le_refl _) _
  have hbox : W0.heap[w.heap.size]? = some (.cells #[.slice a n c, .slice a' m c', .slice aM k0 cM, .int .i64 (t : Int), .slice (some ⟨g, 0, none⟩) n n] 80) := by rw [← hW0]; exact heap_new _ _
  have HBOX := hide hbox
  have HA := hide bA
  have HW0 := hide hW0
  obtain ⟨d0, d1, d2, d3, d4⟩ := box5 hbox (Below.refl _ _)
  have HWy : Hid (∀ W, Below W0.heap.size W0 W → Wy W a a' aM c c' cM n m k0 t g ns es ms l) := hide (fun W h => hW.keep (bA.trans (h.mono bA.size)))
  have Hlen := hide hW.ly.hm
  have Hm4 := hide hW.ly.m4
  have Hu := hide hu
  obtain ⟨res, hres⟩ : ∃ res, stp ns es ms l t (u : Int) left = res := ⟨_, rfl⟩
  rw [hres]
  by_cases hl : left < 0
  · rw [stp_neg hl] at hres
    subst hres
    clear hW hu hbox bA hW0
    go_enter Try.func54, Try.ntmps54
    go_upto_region 1 with fail
    rw [HW0.out]
    clear HW0
    go_wp2_with fail
    go_ret
    exact ⟨rfl, HA.out⟩
  have Hyes : Hid (∀ (k : Nat) (d : Int), (outs es (u : Int))[k]? = some d → (∀ j, j < k → ∀ x, (outs es (u : Int))[j]? = some x → okE ns es ms l t (u : Int) left x = false) → okE ns es ms l t (u : Int) left d = true → res = d) := hide (fun k d h h1 h2 => by
    rw [← hres, stp_outs (by omega), find_here h h1 h2]; rfl)
  have Hno : Hid ((∀ j, j < (outs es (u : Int)).length → ∀ x, (outs es (u : Int))[j]? = some x → okE ns es ms l t (u : Int) left x = false) → res = 0) := hide (fun h => by
    rw [← hres, stp_outs (by omega), find_no h]; rfl)
  have Hdev : Hid (∀ (k : Nat) (d : Int), (outs es (u : Int))[k]? = some d → ∃ i y : Nat, d = ((i + 1 : Nat) : Int) ∧ es[i]? = some ((u : Int), (y : Int)) ∧ y < n ∧ okE ns es ms l t (u : Int) left d = (decide (d ∉ ms) && (decide (va l y = left) && (decide (y = t) || decide (kindAt ns (y : Int) = 1))))) := hide (fun k d h => by
    obtain ⟨i, e, h1, h2, h3, h4⟩ := (dvs_mem es (fun e => e.1 = (u : Int)) d es.length).1 (List.mem_of_getElem? h)
    obtain ⟨x, y⟩ := e
    simp only at h4
    subst h4
    have hb := inB_at hW.gr.inb h3
    obtain ⟨q, rfl⟩ := Int.eq_ofNat_of_zero_le hb.2.2.1
    refine ⟨i, q, h2, h3, by omega, ?_⟩
    subst h2
    unfold okE okD
    rw [show ((((i + 1 : Nat) : Int) - 1).toNat) = i by omega, h3]
    have e1 : decide ((q : Int) = (t : Int)) = decide (q = t) := by rw [decide_eq_decide]; omega
    simp only [decide_true, Bool.true_and, Int.toNat_natCast, e1])
  have HoL : Hid ((outs es (u : Int)).length ≤ es.length) := hide (dvs_len es _ _)
  have K41 := hide (out_any a a' c c' n m es (u : Int) W0 hW.ly.hm (hW.keep bA).ly.hu (by have := hW.ly.m4; omega) ⟨by omega, by omega⟩)
  have K42 : Hid (∀ W d, Below W0.heap.size W0 W → Calls Try.prog 53 #[.slice aM k0 cM, .int .i64 d] W fun e w' => e = .returned (.bool (decide (d ∈ ms))) ∧ w' = W) := hide (fun W d h => contains_any aM cM k0 ms d W hW.msk.hk (HWy.out W h).msk.hM hW.msk.k4)
  have K34 : Hid (∀ W (i y : Nat), Below W0.heap.size W0 W → es[i]? = some ((u : Int), (y : Int)) → Calls Try.prog 55 #[.agg #[.slice a n c, .slice a' m c', .slice aM k0 cM, .int .i64 (t : Int), .slice (some ⟨g, 0, none⟩) n n], .int .i64 ((i + 1 : Nat) : Int)] W fun e w' => e = .returned (.int .i64 (y : Int)) ∧ Below W.heap.size W w') := hide (fun W i y h hi => (end_any a a' aM c c' cM n m k0 (t : Int) (.slice (some ⟨g, 0, none⟩) n n) es i (u : Int) (y : Int) W (HWy.out W h).ly.hu hW.ly.hm (by have := hW.ly.m4; omega) hi).mono (by
    rintro e w' ⟨h1, rfl⟩
    exact ⟨h1, (Below.refl _ _).alloc (Nat.le_refl _) _⟩))
  have K43 : Hid (∀ W (y : Nat), Below W0.heap.size W0 W → y < n → Calls Try.prog 61 #[.agg #[.slice a n c, .slice a' m c', .slice aM k0 cM, .int .i64 (t : Int), .slice (some ⟨g, 0, none⟩) n n], .int .i64 (y : Int), .int .i64 left] W fun e w' => e = .returned (.bool (decide (va l y = left) && (decide (y = t) || decide (kindAt ns (y : Int) = 1)))) ∧ Below W.heap.size W w') := hide (fun W y h hy => comesTo_any a a' aM c c' cM n m k0 t g y ns es ms l left W (HWy.out W h) hy)
  obtain ⟨SS, hSS⟩ : ∃ SS : World → Prop, SS = fun W' => Below W0.heap.size W0 W' := ⟨_, rfl⟩
  have s9 : Hid (∀ W', SS W' → Below W0.heap.size W0 W') := hide (fun W' h => by rw [hSS] at h; exact h)
  have s8 : Hid (∀ W', Below W0.heap.size W0 W' → SS W') := hide (fun W' h => by rw [hSS]; exact h)
  have sb : Hid (∀ W', SS W' → W'.cell? ⟨w.heap.size, 0, none⟩ = some (.slice a n c) ∧ W'.cell? ⟨w.heap.size, 1, none⟩ = some (.slice a' m c') ∧ W'.cell? ⟨w.heap.size, 2, none⟩ = some (.slice aM k0 cM) ∧ W'.cell? ⟨w.heap.size, 3, none⟩ = some (.int .i64 (t : Int)) ∧ W'.cell? ⟨w.heap.size, 4, none⟩ = some (.slice (some ⟨g, 0, none⟩) n n)) := hide (fun W' h => box5 HBOX.out (s9.out W' h))
  clear hW hu hbox bA hW0 hres hSS
  generalize outs es (u : Int) = ds at *
  go_enter Try.func54, Try.ntmps54
  go_upto_region 1 with fail
  rw [HW0.out]
  clear HW0
  go_upto_region 4 with (go_at_call 60; refine (K41.out).mono ?_; rintro e W1 ⟨⟨vD, rfl, ho⟩, hb⟩; obtain ⟨aD, cD, rfl⟩ := ho.rd.form; have Ho := hide ho; have Hb := hide hb; clear ho hb)
  clear K41 d0 d1 d2 d3 d4
  obtain ⟨nD, hnD⟩ : ∃ nD, ds.length = nD := ⟨_, rfl⟩
  rw [hnD] at Ho HoL Hno
  rw [hnD]
  have i0 : (nD : Int) ≤ 1000 := by have h1 := HoL.out; have h2 := Hlen.out; have h3 := Hm4.out; omega
  have Hnd := hide hnD
  clear hnD
  have HD : Hid (∀ W, Below W1.heap.size W1 W → intE.Rd W (.slice aD nD cD) ds) := hide (fun W h => Ho.out.rd.keep h)
  go_loopw [16] (fun v16 wr => ∃ k : Nat, k ≤ nD ∧ v16 = .int .i64 k ∧ Hid (Below W1.heap.size W1 wr) ∧ Hid (∀ j, j < k → ∀ x, ds[j]? = some x → okE ns es ms l t (u : Int) left x = false)) (fun v16 _ => nD - (intOf v16).toNat)
  case atStart => exact ⟨0, by omega, rfl, hide (Below.refl _ _), hide (fun j hj => by omega)⟩
  case round =>
    obtain ⟨k, hk, rfl, HB, HX⟩ := hrel
    by_cases hlt : k < nD
    · obtain ⟨d, hd⟩ : ∃ d, ds[k]? = some d := ⟨_, List.getElem?_eq_getElem (by rw [Hnd.out]; exact hlt)⟩
      obtain ⟨b, off, rfl, c0⟩ := int_at (HD.out wr HB.out) k d hd
      obtain ⟨i, y, hdi, hi, hy, hok⟩ := Hdev.out k d hd
      have j0 : (0 : Int) ≤ (k : Int) := by omega
      have j1 : (k : Int) < (nD : Int) := by omega
      have HX1 : Hid (okE ns es ms l t (u : Int) left d = false → ∀ j, j < k + 1 → ∀ x, ds[j]? = some x → okE ns es ms l t (u : Int) left x = false) := hide (fun h j hj x hx => by
        rcases Nat.lt_or_ge j k with h' | h'
        · exact HX.out j h' x hx
        · obtain rfl : j = k := by omega
          rw [hd] at hx; obtain rfl := Option.some.inj hx; exact h)
      have Hye : Hid (okE ns es ms l t (u : Int) left d = true → res = d) := hide (fun h => Hyes.out k d hd HX.out h)
      have HB0 : Hid (Below W0.heap.size W0 wr) := hide (Hb.out.trans (HB.out.mono Hb.out.size))
      have Hi := hide hi
      have Hy := hide hy
      have Hok := hide hok
      have Hdi := hide hdi
      clear hd hi hy hok hdi
      by_cases hin : d ∈ ms
      · have tin : decide (d ∈ ms) = true := decide_eq_true hin
        have HX2 := hide (HX1.out (by rw [Hok.out, decide_eq_false (fun h => h hin), Bool.false_and]))
        have K42' : Hid (∀ W, Below W0.heap.size W0 W → Calls Try.prog 53 #[.slice aM k0 cM, .int .i64 d] W fun e w' => e = .returned (.bool true) ∧ Below W.heap.size W w') := hide (fun W h => (K42.out W d h).mono (by rintro e w' ⟨rfl, rfl⟩; rw [tin]; exact ⟨rfl, Below.refl _ _⟩))
        clear hin Hok tin
        go_upto_region 6 with fail
        refine wp_region_held_drew (S := SS) (by kernel_rfl) (s8.out _ (below_heap HB0.out rfl rfl rfl rfl)) (fun hS0 => ?_)
        refine wpAnyH_take (i := 0) (v := .pointer (some ⟨w.heap.size, 2, none⟩)) rfl (by kernel_rfl) (by kernel_rfl) (by kernel_rfl) (fun _ _ _ h => h) (Or.inl ⟨by rfl, fun W' hW => by go_simp⟩) hS0 ?_
        refine wpAnyH_take (i := 2) (v := .int .i64 d) rfl (by kernel_rfl) (by kernel_rfl) (by kernel_rfl) (fun _ _ _ h => h) (Or.inl ⟨by rfl, fun W' hW => by go_simp⟩) hS0 ?_
        refine wpAnyH_take (i := 1) (v := .slice aM k0 cM) rfl (by kernel_rfl) (by kernel_rfl) (by kernel_rfl) (fun _ _ _ h => h) (Or.inl ⟨by rfl, fun W' hW => by obtain ⟨z0, z1, z2, z3, z4⟩ := sb.out W' hW; go_simp⟩) hS0 ?_
        refine wpAnyH_ready (rs := [3]) (by kernel_rfl) (by simp) ?_
        refine AllReadyH.cons rfl (fun K hK => ?_) AllReadyH.nil
        go_simp
        refine (K42'.out _ (s9.out _ hS0)).mono ?_
        rintro e W3 ⟨rfl, hb3⟩
        refine hK.out _ _ (s8.out _ ((s9.out _ hS0).trans (hb3.mono (s9.out _ hS0).size))) (fun hS1 => ?_)
        clear hK K
        refine wpAnyH_ready (rs := [4]) (by kernel_rfl) (by simp) ?_
        refine AllReadyH.cons rfl (fun K hK => ?_) AllReadyH.nil
        go_simp
        refine hK.out _ _ hS1 (fun hS2 => ?_)
        clear hK K
        refine wpAnyH_ready (rs := [5]) (by kernel_rfl) (by simp) ?_
        refine AllReadyH.cons rfl (fun K hK => ?_) AllReadyH.nil
        go_simp
        refine hK.out _ _ hS2 (fun hS3 => ?_)
        clear hK K
        refine wpAnyH_take (i := 6) (v := undef) rfl (by kernel_rfl) (by kernel_rfl) (by kernel_rfl) (fun _ _ _ h => h) (Or.inr ⟨by kernel_rfl, rfl⟩) hS3 ?_
        refine wpAnyH_take (i := 7) (v := undef) rfl (by kernel_rfl) (by kernel_rfl) (by kernel_rfl) (fun _ _ _ h => h) (Or.inr ⟨by kernel_rfl, rfl⟩) hS3 ?_
        refine wpAnyH_take (i := 8) (v := undef) rfl (by kernel_rfl) (by kernel_rfl) (by kernel_rfl) (fun _ _ _ h => h) (Or.inr ⟨by kernel_rfl, rfl⟩) hS3 ?_
        refine wpAnyH_take (i := 9) (v := undef) rfl (by kernel_rfl) (by kernel_rfl) (by kernel_rfl) (fun _ _ _ h => h) (Or.inr ⟨by kernel_rfl, rfl⟩) hS3 ?_
        refine wpAnyH_take (i := 10) (v := undef) rfl (by kernel_rfl) (by kernel_rfl) (by kernel_rfl) (fun _ _ _ h => h) (Or.inr ⟨by kernel_rfl, rfl⟩) hS3 ?_
        refine wpAnyH_take (i := 11) (v := undef) rfl (by kernel_rfl) (by kernel_rfl) (by kernel_rfl) (fun _ _ _ h => h) (Or.inr ⟨by kernel_rfl, rfl⟩) hS3 ?_
        refine wpAnyH_ready (rs := [12]) (by kernel_rfl) (by simp) ?_
        refine AllReadyH.cons rfl (fun K hK => ?_) AllReadyH.nil
        go_simp
        refine hK.out _ _ hS3 (fun _ => ?_)
        clear hK K
        refine wpAnyH_done (by kernel_rfl) ?_ _
        have HB5 : Hid (Below W1.heap.size W1 W3) := hide (by have h3 : Below W1.heap.size W1 wr.drew := HB.out.drew; exact h3.trans (hb3.mono h3.size))
        clear hb3
        go_wp2_with fail
        go_roundw
        case rel => exact ⟨k + 1, by omega, by go_num, HB5, HX2⟩
        case measure => simp [intOf]; omega
      · have tin : decide (d ∈ ms) = false := decide_eq_false hin
        have Hok : Hid (okE ns es ms l t (u : Int) left d = (decide (va l y = left) && (decide (y = t) || decide (kindAt ns (y : Int) = 1)))) := hide (by rw [Hok.out, decide_eq_true hin, Bool.true_and])
        have e1 := Hdi.out
        clear Hdi
        subst e1
        obtain ⟨br, hbr⟩ : ∃ br, (decide (va l y = left) && (decide (y = t) || decide (kindAt ns (y : Int) = 1))) = br := ⟨_, rfl⟩
        rw [hbr] at Hok
        have K43' : Hid (∀ W, Below W0.heap.size W0 W → Calls Try.prog 61 #[.agg #[.slice a n c, .slice a' m c', .slice aM k0 cM, .int .i64 (t : Int), .slice (some ⟨g, 0, none⟩) n n], .int .i64 (y : Int), .int .i64 left] W fun e w' => e = .returned (.bool br) ∧ Below W.heap.size W w') := hide (fun W h => by rw [← hbr]; exact K43.out W y h Hy.out)
        have K42' : Hid (∀ W, Below W0.heap.size W0 W → Calls Try.prog 53 #[.slice aM k0 cM, .int .i64 ((i + 1 : Nat) : Int)] W fun e w' => e = .returned (.bool false) ∧ Below W.heap.size W w') := hide (fun W h => (K42.out W _ h).mono (by rintro e w' ⟨rfl, rfl⟩; rw [tin]; exact ⟨rfl, Below.refl _ _⟩))
        clear hbr hin tin
        go_upto_region 6 with fail
        refine wp_region_held_drew (S := SS) (by kernel_rfl) (s8.out _ (below_heap HB0.out rfl rfl rfl rfl)) (fun hS0 => ?_)
        refine wpAnyH_take (i := 0) (v := .pointer (some ⟨w.heap.size, 2, none⟩)) rfl (by kernel_rfl) (by kernel_rfl) (by kernel_rfl) (fun _ _ _ h => h) (Or.inl ⟨by rfl, fun W' hW => by go_simp⟩) hS0 ?_
        refine wpAnyH_take (i := 2) (v := .int .i64 ((i + 1 : Nat) : Int)) rfl (by kernel_rfl) (by kernel_rfl) (by kernel_rfl) (fun _ _ _ h => h) (Or.inl ⟨by rfl, fun W' hW => by go_simp⟩) hS0 ?_
        refine wpAnyH_take (i := 1) (v := .slice aM k0 cM) rfl (by kernel_rfl) (by kernel_rfl) (by kernel_rfl) (fun _ _ _ h => h) (Or.inl ⟨by rfl, fun W' hW => by obtain ⟨z0, z1, z2, z3, z4⟩ := sb.out W' hW; go_simp⟩) hS0 ?_
        refine wpAnyH_ready (rs := [3]) (by kernel_rfl) (by simp) ?_
        refine AllReadyH.cons rfl (fun K hK => ?_) AllReadyH.nil
        go_simp
        refine (K42'.out _ (s9.out _ hS0)).mono ?_
        rintro e W3 ⟨rfl, hb3⟩
        refine hK.out _ _ (s8.out _ ((s9.out _ hS0).trans (hb3.mono (s9.out _ hS0).size))) (fun hS1 => ?_)
        clear hK K
        refine wpAnyH_ready (rs := [4]) (by kernel_rfl) (by simp) ?_
        refine AllReadyH.cons rfl (fun K hK => ?_) AllReadyH.nil
        go_simp
        refine hK.out _ _ hS1 (fun hS2 => ?_)
        clear hK K
        refine wpAnyH_ready (rs := [5]) (by kernel_rfl) (by simp) ?_
        refine AllReadyH.cons rfl (fun K hK => ?_) AllReadyH.nil
        go_simp
        refine hK.out _ _ hS2 (fun hS3 => ?_)
        clear hK K
        refine wpAnyH_take (i := 6) (v := .agg #[.slice a n c, .slice a' m c', .slice aM k0 cM, .int .i64 (t : Int), .slice (some ⟨g, 0, none⟩) n n]) rfl (by kernel_rfl) (by kernel_rfl) (by kernel_rfl) (fun _ _ _ h => h) (Or.inl ⟨by rfl, fun W' hW => by obtain ⟨z0, z1, z2, z3, z4⟩ := sb.out W' hW; go_simp⟩) hS3 ?_
        refine wpAnyH_take (i := 7) (v := .agg #[.slice a n c, .slice a' m c', .slice aM k0 cM, .int .i64 (t : Int), .slice (some ⟨g, 0, none⟩) n n]) rfl (by kernel_rfl) (by kernel_rfl) (by kernel_rfl) (fun _ _ _ h => h) (Or.inl ⟨by rfl, fun W' hW => by obtain ⟨z0, z1, z2, z3, z4⟩ := sb.out W' hW; go_simp⟩) hS3 ?_
        refine wpAnyH_take (i := 8) (v := .int .i64 ((i + 1 : Nat) : Int)) rfl (by kernel_rfl) (by kernel_rfl) (by kernel_rfl) (fun _ _ _ h => h) (Or.inl ⟨by rfl, fun W' hW => by go_simp⟩) hS3 ?_
        refine wpAnyH_take (i := 10) (v := .int .i64 left) rfl (by kernel_rfl) (by kernel_rfl) (by kernel_rfl) (fun _ _ _ h => h) (Or.inl ⟨by rfl, fun W' hW => by go_simp⟩) hS3 ?_
        refine wpAnyH_ready (rs := [9]) (by kernel_rfl) (by simp) ?_
        refine AllReadyH.cons rfl (fun K hK => ?_) AllReadyH.nil
        go_simp
        refine (K34.out _ i y (s9.out _ hS3) Hi.out).mono ?_
        rintro e W4 ⟨rfl, hb4⟩
        refine hK.out _ _ (s8.out _ ((s9.out _ hS3).trans (hb4.mono (s9.out _ hS3).size))) (fun hS4 => ?_)
        clear hK K
        refine wpAnyH_ready (rs := [11]) (by kernel_rfl) (by simp) ?_
        refine AllReadyH.cons rfl (fun K hK => ?_) AllReadyH.nil
        go_simp
        refine (K43'.out _ (s9.out _ hS4)).mono ?_
        rintro e W5 ⟨rfl, hb5⟩
        refine hK.out _ _ (s8.out _ ((s9.out _ hS4).trans (hb5.mono (s9.out _ hS4).size))) (fun hS5 => ?_)
        clear hK K
        refine wpAnyH_ready (rs := [12]) (by kernel_rfl) (by simp) ?_
        refine AllReadyH.cons rfl (fun K hK => ?_) AllReadyH.nil
        go_simp
        refine hK.out _ _ hS5 (fun _ => ?_)
        clear hK K
        refine wpAnyH_done (by kernel_rfl) ?_ _
        have HB5 : Hid (Below W1.heap.size W1 W5) := hide (by
          have h2 : Below W1.heap.size W1 wr.drew := HB.out.drew
          have h3 := h2.trans (hb3.mono h2.size)
          have h4 := h3.trans (hb4.mono h3.size)
          exact h4.trans (hb5.mono h4.size))
        clear hb3 hb4 hb5
        cases br with
        | true =>
          have e2 := Hye.out Hok.out
          subst e2
          go_wp2_with fail
          go_ret
          exact ⟨rfl, HA.out.trans ((Hb.out.trans (HB5.out.mono Hb.out.size)).mono HA.out.size)⟩
        | false =>
          have HX2 := hide (HX1.out Hok.out)
          go_wp2_with fail
          go_roundw
          case rel => exact ⟨k + 1, by omega, by go_num, HB5, HX2⟩
          case measure => simp [intOf]; omega
    · obtain rfl : k = nD := by omega
      have j1 : ¬ (k : Int) < (k : Int) := by omega
      have e2 := Hno.out HX.out
      subst e2
      go_wp2_with fail
      go_ret
      exact ⟨rfl, HA.out.trans ((Hb.out.trans (HB.out.mono Hb.out.size)).mono HA.out.size)⟩
end Go.Proofs.Ytmmkfcmbmecleaa
