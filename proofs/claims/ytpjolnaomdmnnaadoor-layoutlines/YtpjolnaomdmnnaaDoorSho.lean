/- Show: of a good layout the document's text is written; else it is told. -/
import Derived.Test.YtpjolnaomdmnnaaDoorShw
namespace Go.Proofs.YtpjolnaomdmnnaaDoor
open Go.RowKit
set_option linter.unusedVariables false

theorem bld_new (w : World) (B : Nat) (hB : B ≤ w.heap.size) : Lib.IsBuilderF 55 5 B w.heap.size (Lib.byteCells []) (w.alloc (.cells #[.pointer none, .slice none 0 0] 55)) := by
  refine .inl ⟨hB, .slice none 0 0, heap_new _ _, ?_, by simp [Value.ownBlock]⟩
  exact World.ownsRowF_of ⟨by simp [Lib.byteCells], .inl ⟨rfl, rfl⟩⟩
theorem below_h3 {B : Nat} {w W W' : World} (h : Below B w W) (e : W'.heap = W.heap) (e1 : W'.os = W.os) (e2 : W'.tape = W.tape) (e3 : W'.output = W.output) : Below B w W' :=
  ⟨by rw [e1]; exact h.os, by rw [e2]; exact h.tape, by rw [e3]; exact h.output, by rw [e]; exact h.size, by rw [e]; exact h.block⟩
theorem bld_heap {w w' : World} {B b : Nat} {bs : List Value} (h : Lib.IsBuilderF 55 5 B b bs w) (e : w'.heap = w.heap) (e1 : w'.os = w.os) (e2 : w'.tape = w.tape) (e3 : w'.output = w.output) : Lib.IsBuilderF 55 5 B b bs w' :=
  bld_keep h (below_h3 (Below.refl _ _) e e1 e2 e3)

set_option maxRecDepth 100000 in
set_option maxHeartbeats 2000000 in
theorem show_no (a a' : Option Addr) (c c' n m : Nat) (ns : List Nd) (es : List Ed) (w : World) (hn : ns.length = n) (hm : es.length = m) (hv : ndE.Rd w (.slice a n c) ns) (hu : edE.Rd w (.slice a' m c') es) (hcap : m ≤ c') (hs : ∀ x ∈ ns, x.name.size ≤ maxLen) (hg : good ns es = false) :
    Calls Tryd.prog 11 #[.agg #[.slice a n c, .slice a' m c']] w fun e w' => e = .returned (.tuple #[.string ⟨#[]⟩, .int .i64 61]) ∧ Below w.heap.size w w' := by
  have bA : Below w.heap.size w (w.alloc (.cells #[.slice a n c, .slice a' m c'] 25)) := (Below.refl _ _).alloc (Nat.le_refl _) _
  have HA := hide bA
  have K13 : Hid (Calls Tryd.prog 13 #[.agg #[.slice a n c, .slice a' m c']] (w.alloc (.cells #[.slice a n c, .slice a' m c'] 25)) fun e w' => e = .returned (.int .i64 61) ∧ Below (w.alloc (.cells #[.slice a n c, .slice a' m c'] 25)).heap.size (w.alloc (.cells #[.slice a n c, .slice a' m c'] 25)) w') := hide (by
    subst hn
    subst hm
    have := check_any a a' c c' ns es (w.alloc (.cells #[.slice a ns.length c, .slice a' es.length c'] 25)) (hv.keep bA) (hu.keep bA) hcap hs
    rwa [hg, if_neg (by simp)] at this)
  clear hv hu hcap hs hg bA
  go_enter Tryd.func11, Tryd.ntmps11
  go_wp2_with (go_at_call 13; refine (K13.out).mono ?_; rintro e W2 ⟨rfl, hb2⟩; have Hb2 := hide hb2; clear hb2)
  refine bodyPost_ret (v := .tuple #[.string ⟨#[]⟩, .int .i64 61]) (by simp [results, Tryd.results11, go_sem]) rfl ⟨rfl, HA.out.trans (Hb2.out.mono HA.out.size)⟩

theorem flat_take {α : Type} (f : α → List UInt8) (l : List α) (k : Nat) (x : α) (h : l[k]? = some x) : (l.take (k + 1)).flatMap f = (l.take k).flatMap f ++ f x := by
  rw [List.take_add_one, h]
  simp
theorem flat_len {α : Type} (f : α → List UInt8) (b : Nat) : ∀ (l : List α), (∀ x ∈ l, (f x).length ≤ b) → (l.flatMap f).length ≤ l.length * b
  | [], _ => by simp
  | x :: l, h => by
    have h1 := flat_len f b l (fun y hy => h y (List.mem_cons_of_mem _ hy))
    have h2 := h x (List.mem_cons_self)
    rw [List.flatMap_cons, List.length_append, List.length_cons, Nat.succ_mul]
    omega
theorem edLine_small (ns : List Nd) (e : Ed) (h : ∀ x ∈ ns, ndB x = true) : (edLine ns e).length ≤ 40 := by
  have hn : ∀ i, (nameAt ns i).size ≤ 8 := fun i => by
    unfold nameAt
    cases hx : ns[i.toNat]? with
    | none => simp
    | some p =>
      have := h p (List.mem_of_getElem? hx)
      unfold ndB at this
      simp only [Bool.and_eq_true] at this
      have h1 := this.1.1
      unfold nameB at h1
      exact (of_decide_eq_true h1).2.1
  have h1 := hn e.1
  have h2 := hn e.2
  unfold edLine lineB
  have s1 : (nameAt ns e.1).data.toList.length = (nameAt ns e.1).size := rfl
  have s2 : (nameAt ns e.2).data.toList.length = (nameAt ns e.2).size := rfl
  simp only [List.map_cons, List.map_nil, join3, List.length_append, List.length_cons, List.length_nil, s1, s2, edgeWd, str_list]
  omega

set_option maxRecDepth 100000 in
set_option maxHeartbeats 16000000 in
theorem show_ok (a a' : Option Addr) (c c' n m : Nat) (ns : List Nd) (es : List Ed) (w : World) (L : Laid w) (hn : ns.length = n) (hm : es.length = m) (hv : ndE.Rd w (.slice a n c) ns) (hu : edE.Rd w (.slice a' m c') es) (hcap : m ≤ c') (hs : ∀ x ∈ ns, x.name.size ≤ maxLen) (hg : good ns es = true) :
    Calls Tryd.prog 11 #[.agg #[.slice a n c, .slice a' m c']] w fun e w' => e = .returned (.tuple #[.string ⟨(showL ns es).toArray⟩, .int .i64 0]) ∧ Below w.heap.size w w' := by
  obtain ⟨W0, hW0⟩ : ∃ W0, w.alloc (.cells #[.slice a n c, .slice a' m c'] 25) = W0 := ⟨_, rfl⟩
  have bA : Below w.heap.size w W0 := by rw [← hW0]; exact (Below.refl _ _).alloc (Nat.le_refl _) _
  have hbox : W0.heap[w.heap.size]? = some (.cells #[.slice a n c, .slice a' m c'] 25) := by rw [← hW0]; exact heap_new _ _
  have d0 := (cells_at hbox 0).1
  have d1 := (cells_at hbox 1).1
  simp at d0 d1
  have HA := hide bA
  have HW0 := hide hW0
  have K13 : Hid (Calls Tryd.prog 13 #[.agg #[.slice a n c, .slice a' m c']] W0 fun e w' => e = .returned (.int .i64 0) ∧ Below W0.heap.size W0 w') := hide (by
    subst hn
    subst hm
    have := check_any a a' c c' ns es W0 (hv.keep bA) (hu.keep bA) hcap hs
    rwa [hg, if_pos rfl] at this)
  have HN : Hid (ns.length = n ∧ es.length = m ∧ (∀ x ∈ ns, ndB x = true) ∧ (∀ e ∈ es, edB ns e = true) ∧ n ≤ 40 ∧ m ≤ 120) := hide (by
    unfold good goodN goodE at hg
    simp only [Bool.and_eq_true, decide_eq_true_eq] at hg
    exact ⟨hn, hm, hg.1.2.2.1, hg.2.2.1, by omega, by omega⟩)
  have HRW : Hid (∀ W, Below W0.heap.size W0 W → ndE.Rd W (.slice a n c) ns ∧ edE.Rd W (.slice a' m c') es ∧ Laid W ∧ (W.cell? ⟨w.heap.size, 0, none⟩ = some (.slice a n c) ∧ W.cell? ⟨w.heap.size, 1, none⟩ = some (.slice a' m c'))) := hide (fun W h => by
    have b := bA.trans (h.mono bA.size)
    refine ⟨hv.keep b, hu.keep b, L.keep L.size b, ?_⟩
    have h1 : W.heap[w.heap.size]? = some (.cells #[.slice a n c, .slice a' m c'] 25) := by rw [h.block _ (heap_lt hbox)]; exact hbox
    exact ⟨(cells_at h1 0).1, (cells_at h1 1).1⟩)
  have i0 : (n : Int) ≤ 40 := by have := HN.out.2.2.2.2.1; omega
  have i1 : (m : Int) ≤ 120 := by have := HN.out.2.2.2.2.2; omega
  clear hW0 hbox bA hv hu hcap hs hg hn hm L
  go_enter Tryd.func11, Tryd.ntmps11
  go_upto_region 1 with fail
  rw [HW0.out]
  clear HW0
  go_upto_region 4 with (go_at_call 13; refine (K13.out).mono ?_; rintro e W1 ⟨rfl, hb1⟩; have Hb1 := hide hb1; clear hb1)
  clear d0 d1 K13
  obtain ⟨B, hB⟩ : ∃ B, W1.heap.size = B := ⟨_, rfl⟩
  obtain ⟨W2, hW2⟩ : ∃ W2, W1.alloc (.cells #[.pointer none, .slice none 0 0] 55) = W2 := ⟨_, rfl⟩
  have HBd : Hid (Lib.IsBuilderF 55 5 B B (Lib.byteCells []) W2) := hide (by rw [← hW2, ← hB]; exact bld_new W1 _ (Nat.le_refl _))
  have HB2 : Hid (Below B W1 W2) := hide (by rw [← hW2, ← hB]; exact (Below.refl _ _).alloc (Nat.le_refl _) _)
  have HBs : Hid (B = W1.heap.size) := hide hB.symm
  have HBW : Hid (∀ W, Below B W1 W → Below W0.heap.size W0 W ∧ B ≤ W.heap.size) := hide (fun W h => ⟨Hb1.out.trans (h.mono (by rw [← hB]; exact Hb1.out.size)), by have := h.size; omega⟩)
  obtain ⟨_, _, _, x0, x1⟩ := HRW.out W2 (HBW.out W2 HB2.out).1
  have HW2e := hide hW2
  have HBe := hide hB
  clear hW2 hB
  go_upto_region 5 with fail
  rw [HW2e.out, HBe.out]
  clear HW2e HBe
  go_wp2_with fail
  clear x0 x1
  go_loopw [18] (fun v18 wr => ∃ (k : Nat), k ≤ n ∧ v18 = .int .i64 k ∧ Hid (Lib.IsBuilderF 55 5 B B (Lib.byteCells ((ns.take k).flatMap ndLine)) wr) ∧ Hid (Below B W1 wr)) (fun v18 _ => n - (intOf v18).toNat)
  case atStart => exact ⟨0, by omega, rfl, HBd, HB2⟩
  case round =>
    clear HBd HB2
    obtain ⟨k, hk, rfl, HBd, HB⟩ := hrel
    by_cases hlt : k < n
    · obtain ⟨p, hp⟩ : ∃ p, ns[k]? = some p := ⟨_, List.getElem?_eq_getElem (by rw [HN.out.1]; exact hlt)⟩
      have hpb := HN.out.2.2.1 p (List.mem_of_getElem? hp)
      have Htk := hide (flat_take ndLine ns k p hp)
      have Hlen : Hid (((ns.take k).flatMap ndLine).length ≤ 40 * 40) := hide (by
        have h1 := flat_len ndLine 40 (ns.take k) (fun x hx => ndLine_small x (HN.out.2.2.1 x (List.mem_of_mem_take hx)))
        have h2 : (ns.take k).length ≤ 40 := by rw [List.length_take]; have := HN.out.2.2.2.2.1; omega
        have := Nat.mul_le_mul_right 40 h2
        omega)
      obtain ⟨bN, oN, haN, c0, c1, c2⟩ := nd_at (HRW.out wr (HBW.out wr HB.out).1).1 k p hp
      obtain ⟨nm, kd, zn⟩ := p
      simp only at c0 c1 c2
      subst haN
      have Hpb := hide hpb
      unfold ndB at hpb
      simp only [Bool.and_eq_true, decide_eq_true_eq] at hpb
      obtain ⟨⟨_, hk1, hk4⟩, hz⟩ := hpb
      unfold zoneB at hz
      obtain ⟨hz0, hz8⟩ := of_decide_eq_true hz
      obtain ⟨z, hzz⟩ := Int.eq_ofNat_of_zero_le hz0
      subst hzz
      have Hz : Hid (z < 100) := hide (by omega)
      obtain ⟨WN, hWN⟩ : ∃ WN, wr.alloc (.cells #[.string nm, .int .i64 kd, .int .i64 (z : Int)] 44) = WN := ⟨_, rfl⟩
      have bN' : Below wr.heap.size wr WN := by rw [← hWN]; exact (Below.refl _ _).alloc (Nat.le_refl _) _
      have hbxN : WN.heap[wr.heap.size]? = some (.cells #[.string nm, .int .i64 kd, .int .i64 (z : Int)] 44) := by rw [← hWN]; exact heap_new _ _
      have HBdN := hide (bld_keep HBd.out bN')
      have HBN : Hid (Below B W1 WN) := hide (HB.out.trans (bN'.mono (HBW.out wr HB.out).2))
      obtain ⟨gn, hgn⟩ : ∃ g, wr.heap.size = g := ⟨_, rfl⟩
      have Hgn : Hid (gn ≠ B) := hide (by
        rcases HBd.out with h | h
        · obtain ⟨_, v, h2, _⟩ := h
          have := heap_lt h2
          omega
        · obtain ⟨_, v, h2, _⟩ := h
          have := heap_lt h2
          omega)
      have j0 : (0 : Int) ≤ (k : Int) := by omega
      have j1 : (k : Int) < (n : Int) := by omega
      have Hlt := hide hlt
      have HWN := hide hWN
      have Hgne := hide hgn
      rw [hgn] at hbxN
      clear hp hk hlt hz hz0 hz8 bN' hWN hgn
      go_upto_region 8 with fail
      rw [HWN.out, Hgne.out]
      clear HWN Hgne c0 c1 c2
      obtain ⟨SS, hSS⟩ : ∃ SS : World → Prop, SS = fun W' => Below B W1 W' ∧ W'.heap[gn]? = some (.cells #[.string nm, .int .i64 kd, .int .i64 (z : Int)] 44) := ⟨_, rfl⟩
      have s9 : Hid (∀ W', SS W' → Below B W1 W' ∧ W'.heap[gn]? = some (.cells #[.string nm, .int .i64 kd, .int .i64 (z : Int)] 44)) := hide (fun W' h => by rw [hSS] at h; exact h)
      have s8 : Hid (∀ W', Below B W1 W' → W'.heap[gn]? = some (.cells #[.string nm, .int .i64 kd, .int .i64 (z : Int)] 44) → SS W') := hide (fun W' h1 h2 => by rw [hSS]; exact ⟨h1, h2⟩)
      have s1 : ∀ W', SS W' → W'.cell? ⟨gn, 0, none⟩ = some (.string nm) ∧ W'.cell? ⟨gn, 1, none⟩ = some (.int .i64 kd) ∧ W'.cell? ⟨gn, 2, none⟩ = some (.int .i64 (z : Int)) := fun W' h => ⟨(cells_at (s9.out W' h).2 0).1, (cells_at (s9.out W' h).2 1).1, (cells_at (s9.out W' h).2 2).1⟩
      have s2 : ∀ W', SS W' → Laid W' := fun W' h => (HRW.out W' (HBW.out W' (s9.out W' h).1).1).2.2.1
      have hS0 := s8.out WN.drew (below_h3 HBN.out rfl rfl rfl rfl) hbxN
      have HBdD : Hid (Lib.IsBuilderF 55 5 B B (Lib.byteCells ((ns.take k).flatMap ndLine)) WN.drew) := hide (bld_heap HBdN.out rfl rfl rfl rfl)
      clear hSS hbxN
      have hk4c : kd = 1 ∨ kd = 2 ∨ kd = 3 ∨ kd = 4 := by omega
      rcases hk4c with h4 | h4 | h4 | h4
      · subst h4
        have s3 : ∀ W', SS W' → W'.cell? ⟨0, 0, none⟩ = some (.string (kindW 1)) := fun W' h => (s2 W' h).k0
        refine wp_region_held_drew (S := SS) (by kernel_rfl) (hS0) (fun hS1 => ?_)
        have w0 : IntKind.i64.wrap 0 = 0 := by first | decide | (unfold IntKind.wrap; simp [IntKind.bits, IntKind.signed])
        refine wpAnyH_take (i := 0) (v := .pointer (some ⟨gn, 0, none⟩)) rfl (by kernel_rfl) (by kernel_rfl) (by kernel_rfl) (fun _ _ _ h => h) (Or.inl ⟨by rfl, fun W' hW => by go_simp⟩) hS1 ?_
        refine wpAnyH_take (i := 1) (v := .string nm) rfl (by kernel_rfl) (by kernel_rfl) (by kernel_rfl) (fun _ _ _ h => h) (Or.inl ⟨by rfl, fun W' hW => by have x0 := (s1 W' hW).1; go_simp⟩) hS1 ?_
        refine wpAnyH_take (i := 2) (v := .pointer (some ⟨gn, 1, none⟩)) rfl (by kernel_rfl) (by kernel_rfl) (by kernel_rfl) (fun _ _ _ h => h) (Or.inl ⟨by rfl, fun W' hW => by go_simp⟩) hS1 ?_
        refine wpAnyH_take (i := 3) (v := .int .i64 1) rfl (by kernel_rfl) (by kernel_rfl) (by kernel_rfl) (fun _ _ _ h => h) (Or.inl ⟨by rfl, fun W' hW => by have x0 := (s1 W' hW).2.1; go_simp⟩) hS1 ?_
        refine wpAnyH_take (i := 4) (v := .int .i64 0) rfl (by kernel_rfl) (by kernel_rfl) (by kernel_rfl) (fun _ _ _ h => h) (Or.inl ⟨by rfl, fun W' hW => by go_simp⟩) hS1 ?_
        refine wpAnyH_take (i := 5) (v := .pointer (some ⟨0, 0, none⟩)) rfl (by kernel_rfl) (by kernel_rfl) (by kernel_rfl) (fun _ _ _ h => h) (Or.inl ⟨by rfl, fun W' hW => by go_simp⟩) hS1 ?_
        refine wpAnyH_take (i := 6) (v := .string (kindW 1)) rfl (by kernel_rfl) (by kernel_rfl) (by kernel_rfl) (fun _ _ _ h => h) (Or.inl ⟨by rfl, fun W' hW => by have x0 := s3 W' hW; go_simp⟩) hS1 ?_
        refine wpAnyH_take (i := 7) (v := .pointer (some ⟨gn, 2, none⟩)) rfl (by kernel_rfl) (by kernel_rfl) (by kernel_rfl) (fun _ _ _ h => h) (Or.inl ⟨by rfl, fun W' hW => by go_simp⟩) hS1 ?_
        refine wpAnyH_take (i := 8) (v := .int .i64 (z : Int)) rfl (by kernel_rfl) (by kernel_rfl) (by kernel_rfl) (fun _ _ _ h => h) (Or.inl ⟨by rfl, fun W' hW => by have x0 := (s1 W' hW).2.2; go_simp⟩) hS1 ?_
        refine wpAnyH_ready (rs := [9]) (by kernel_rfl) (by simp) ?_
        refine AllReadyH.cons rfl (fun K hK => ?_) AllReadyH.nil
        go_simp
        refine (Tryd.strconv_Itoa_small z Hz.out _).mono ?_
        rintro e U1 ⟨rfl, rfl⟩
        refine hK.out _ _ hS1 (fun _ => ?_)
        clear hK K
        refine wpAnyH_ready (rs := [10]) (by kernel_rfl) (by simp) ?_
        refine AllReadyH.cons rfl (fun K hK => ?_) AllReadyH.nil
        go_simp
        have bU : Below WN.drew.heap.size WN.drew (WN.drew.alloc (.cells #[.string ⟨#[110, 111, 100, 101]⟩, .string nm, .string (kindW 1), .string ⟨(Lib.decDigits z).toArray⟩] 9)) := (Below.refl _ _).alloc (Nat.le_refl _) _
        have S2 := s8.out (WN.drew.alloc (.cells #[.string ⟨#[110, 111, 100, 101]⟩, .string nm, .string (kindW 1), .string ⟨(Lib.decDigits z).toArray⟩] 9)) ((s9.out _ hS1).1.trans (bU.mono (HBW.out _ (s9.out _ hS1).1).2)) (by rw [bU.block _ (heap_lt (s9.out _ hS1).2)]; exact (s9.out _ hS1).2)
        have hbU : (WN.drew.alloc (.cells #[.string ⟨#[110, 111, 100, 101]⟩, .string nm, .string (kindW 1), .string ⟨(Lib.decDigits z).toArray⟩] 9)).heap[WN.heap.size]? = some (.cells #[.string ⟨#[110, 111, 100, 101]⟩, .string nm, .string (kindW 1), .string ⟨(Lib.decDigits z).toArray⟩] 9) := heap_new _ _
        have HBd2 := hide (bld_keep HBdD.out bU)
        refine hK.out _ _ S2 (fun _ => ?_)
        clear hK K bU
        refine wpAnyH_ready (rs := [11]) (by kernel_rfl) (by simp) ?_
        refine AllReadyH.cons rfl (fun K hK => ?_) AllReadyH.nil
        go_simp
        refine (writeLine_any B B WN.heap.size 4 4 ((ns.take k).flatMap ndLine) [nodeWd, nm, kindW 1, str (Lib.decDigits z)] _ HBd2.out rfl (by omega) (fun j x hj => ?_) (by simp) (by omega) (by have := Hlen.out; omega) ?_ (HBW.out _ (s9.out _ S2).1).2).mono ?_
        · rcases j with _ | _ | _ | _ | j
          · simp at hj; subst hj; exact (cells_at hbU 0).1
          · simp at hj; subst hj; exact (cells_at hbU 1).1
          · simp at hj; subst hj; exact (cells_at hbU 2).1
          · simp at hj; subst hj; exact (cells_at hbU 3).1
          · simp at hj
        · have h := ndLine_small ⟨nm, 1, (z : Int)⟩ Hpb.out
          unfold ndLine lineB at h
          rw [List.length_append] at h
          simp only [Int.toNat_natCast] at h
          omega
        · rintro e U3 ⟨rfl, hb3, hbl, hok⟩
          have S3 := s8.out U3 ((s9.out _ S2).1.trans hbl) (hok gn _ (s9.out _ S2).2 (fun h => Hgn.out (Option.some.inj h)) (fun c fz h => by simp at h))
          have HBd3 : Hid (Lib.IsBuilderF 55 5 B B (Lib.byteCells ((ns.take (k + 1)).flatMap ndLine)) U3) := hide (by
            rw [Htk.out]
            have h := hb3
            unfold ndLine
            simp only [Int.toNat_natCast]
            exact h)
          have HB3 := hide (s9.out _ S3).1
          refine hK.out _ _ S3 (fun _ => ?_)
          clear hK K hb3 hbl hok hbU
          refine wpAnyH_done (by kernel_rfl) ?_ _
          clear s1 s2 s3
          go_wp2_with fail
          go_roundw
          case rel => exact ⟨k + 1, by have := Hlt.out; omega, by go_num, HBd3, HB3⟩
          case measure => have := Hlt.out; simp [intOf]; omega
      · subst h4
        have s3 : ∀ W', SS W' → W'.cell? ⟨0, 1, none⟩ = some (.string (kindW 2)) := fun W' h => (s2 W' h).k1
        refine wp_region_held_drew (S := SS) (by kernel_rfl) (hS0) (fun hS1 => ?_)
        have w0 : IntKind.i64.wrap 1 = 1 := by first | decide | (unfold IntKind.wrap; simp [IntKind.bits, IntKind.signed])
        refine wpAnyH_take (i := 0) (v := .pointer (some ⟨gn, 0, none⟩)) rfl (by kernel_rfl) (by kernel_rfl) (by kernel_rfl) (fun _ _ _ h => h) (Or.inl ⟨by rfl, fun W' hW => by go_simp⟩) hS1 ?_
        refine wpAnyH_take (i := 1) (v := .string nm) rfl (by kernel_rfl) (by kernel_rfl) (by kernel_rfl) (fun _ _ _ h => h) (Or.inl ⟨by rfl, fun W' hW => by have x0 := (s1 W' hW).1; go_simp⟩) hS1 ?_
        refine wpAnyH_take (i := 2) (v := .pointer (some ⟨gn, 1, none⟩)) rfl (by kernel_rfl) (by kernel_rfl) (by kernel_rfl) (fun _ _ _ h => h) (Or.inl ⟨by rfl, fun W' hW => by go_simp⟩) hS1 ?_
        refine wpAnyH_take (i := 3) (v := .int .i64 2) rfl (by kernel_rfl) (by kernel_rfl) (by kernel_rfl) (fun _ _ _ h => h) (Or.inl ⟨by rfl, fun W' hW => by have x0 := (s1 W' hW).2.1; go_simp⟩) hS1 ?_
        refine wpAnyH_take (i := 4) (v := .int .i64 1) rfl (by kernel_rfl) (by kernel_rfl) (by kernel_rfl) (fun _ _ _ h => h) (Or.inl ⟨by rfl, fun W' hW => by go_simp⟩) hS1 ?_
        refine wpAnyH_take (i := 5) (v := .pointer (some ⟨0, 1, none⟩)) rfl (by kernel_rfl) (by kernel_rfl) (by kernel_rfl) (fun _ _ _ h => h) (Or.inl ⟨by rfl, fun W' hW => by go_simp⟩) hS1 ?_
        refine wpAnyH_take (i := 6) (v := .string (kindW 2)) rfl (by kernel_rfl) (by kernel_rfl) (by kernel_rfl) (fun _ _ _ h => h) (Or.inl ⟨by rfl, fun W' hW => by have x0 := s3 W' hW; go_simp⟩) hS1 ?_
        refine wpAnyH_take (i := 7) (v := .pointer (some ⟨gn, 2, none⟩)) rfl (by kernel_rfl) (by kernel_rfl) (by kernel_rfl) (fun _ _ _ h => h) (Or.inl ⟨by rfl, fun W' hW => by go_simp⟩) hS1 ?_
        refine wpAnyH_take (i := 8) (v := .int .i64 (z : Int)) rfl (by kernel_rfl) (by kernel_rfl) (by kernel_rfl) (fun _ _ _ h => h) (Or.inl ⟨by rfl, fun W' hW => by have x0 := (s1 W' hW).2.2; go_simp⟩) hS1 ?_
        refine wpAnyH_ready (rs := [9]) (by kernel_rfl) (by simp) ?_
        refine AllReadyH.cons rfl (fun K hK => ?_) AllReadyH.nil
        go_simp
        refine (Tryd.strconv_Itoa_small z Hz.out _).mono ?_
        rintro e U1 ⟨rfl, rfl⟩
        refine hK.out _ _ hS1 (fun _ => ?_)
        clear hK K
        refine wpAnyH_ready (rs := [10]) (by kernel_rfl) (by simp) ?_
        refine AllReadyH.cons rfl (fun K hK => ?_) AllReadyH.nil
        go_simp
        have bU : Below WN.drew.heap.size WN.drew (WN.drew.alloc (.cells #[.string ⟨#[110, 111, 100, 101]⟩, .string nm, .string (kindW 2), .string ⟨(Lib.decDigits z).toArray⟩] 9)) := (Below.refl _ _).alloc (Nat.le_refl _) _
        have S2 := s8.out (WN.drew.alloc (.cells #[.string ⟨#[110, 111, 100, 101]⟩, .string nm, .string (kindW 2), .string ⟨(Lib.decDigits z).toArray⟩] 9)) ((s9.out _ hS1).1.trans (bU.mono (HBW.out _ (s9.out _ hS1).1).2)) (by rw [bU.block _ (heap_lt (s9.out _ hS1).2)]; exact (s9.out _ hS1).2)
        have hbU : (WN.drew.alloc (.cells #[.string ⟨#[110, 111, 100, 101]⟩, .string nm, .string (kindW 2), .string ⟨(Lib.decDigits z).toArray⟩] 9)).heap[WN.heap.size]? = some (.cells #[.string ⟨#[110, 111, 100, 101]⟩, .string nm, .string (kindW 2), .string ⟨(Lib.decDigits z).toArray⟩] 9) := heap_new _ _
        have HBd2 := hide (bld_keep HBdD.out bU)
        refine hK.out _ _ S2 (fun _ => ?_)
        clear hK K bU
        refine wpAnyH_ready (rs := [11]) (by kernel_rfl) (by simp) ?_
        refine AllReadyH.cons rfl (fun K hK => ?_) AllReadyH.nil
        go_simp
        refine (writeLine_any B B WN.heap.size 4 4 ((ns.take k).flatMap ndLine) [nodeWd, nm, kindW 2, str (Lib.decDigits z)] _ HBd2.out rfl (by omega) (fun j x hj => ?_) (by simp) (by omega) (by have := Hlen.out; omega) ?_ (HBW.out _ (s9.out _ S2).1).2).mono ?_
        · rcases j with _ | _ | _ | _ | j
          · simp at hj; subst hj; exact (cells_at hbU 0).1
          · simp at hj; subst hj; exact (cells_at hbU 1).1
          · simp at hj; subst hj; exact (cells_at hbU 2).1
          · simp at hj; subst hj; exact (cells_at hbU 3).1
          · simp at hj
        · have h := ndLine_small ⟨nm, 2, (z : Int)⟩ Hpb.out
          unfold ndLine lineB at h
          rw [List.length_append] at h
          simp only [Int.toNat_natCast] at h
          omega
        · rintro e U3 ⟨rfl, hb3, hbl, hok⟩
          have S3 := s8.out U3 ((s9.out _ S2).1.trans hbl) (hok gn _ (s9.out _ S2).2 (fun h => Hgn.out (Option.some.inj h)) (fun c fz h => by simp at h))
          have HBd3 : Hid (Lib.IsBuilderF 55 5 B B (Lib.byteCells ((ns.take (k + 1)).flatMap ndLine)) U3) := hide (by
            rw [Htk.out]
            have h := hb3
            unfold ndLine
            simp only [Int.toNat_natCast]
            exact h)
          have HB3 := hide (s9.out _ S3).1
          refine hK.out _ _ S3 (fun _ => ?_)
          clear hK K hb3 hbl hok hbU
          refine wpAnyH_done (by kernel_rfl) ?_ _
          clear s1 s2 s3
          go_wp2_with fail
          go_roundw
          case rel => exact ⟨k + 1, by have := Hlt.out; omega, by go_num, HBd3, HB3⟩
          case measure => have := Hlt.out; simp [intOf]; omega
      · subst h4
        have s3 : ∀ W', SS W' → W'.cell? ⟨0, 2, none⟩ = some (.string (kindW 3)) := fun W' h => (s2 W' h).k2
        refine wp_region_held_drew (S := SS) (by kernel_rfl) (hS0) (fun hS1 => ?_)
        have w0 : IntKind.i64.wrap 2 = 2 := by first | decide | (unfold IntKind.wrap; simp [IntKind.bits, IntKind.signed])
        refine wpAnyH_take (i := 0) (v := .pointer (some ⟨gn, 0, none⟩)) rfl (by kernel_rfl) (by kernel_rfl) (by kernel_rfl) (fun _ _ _ h => h) (Or.inl ⟨by rfl, fun W' hW => by go_simp⟩) hS1 ?_
        refine wpAnyH_take (i := 1) (v := .string nm) rfl (by kernel_rfl) (by kernel_rfl) (by kernel_rfl) (fun _ _ _ h => h) (Or.inl ⟨by rfl, fun W' hW => by have x0 := (s1 W' hW).1; go_simp⟩) hS1 ?_
        refine wpAnyH_take (i := 2) (v := .pointer (some ⟨gn, 1, none⟩)) rfl (by kernel_rfl) (by kernel_rfl) (by kernel_rfl) (fun _ _ _ h => h) (Or.inl ⟨by rfl, fun W' hW => by go_simp⟩) hS1 ?_
        refine wpAnyH_take (i := 3) (v := .int .i64 3) rfl (by kernel_rfl) (by kernel_rfl) (by kernel_rfl) (fun _ _ _ h => h) (Or.inl ⟨by rfl, fun W' hW => by have x0 := (s1 W' hW).2.1; go_simp⟩) hS1 ?_
        refine wpAnyH_take (i := 4) (v := .int .i64 2) rfl (by kernel_rfl) (by kernel_rfl) (by kernel_rfl) (fun _ _ _ h => h) (Or.inl ⟨by rfl, fun W' hW => by go_simp⟩) hS1 ?_
        refine wpAnyH_take (i := 5) (v := .pointer (some ⟨0, 2, none⟩)) rfl (by kernel_rfl) (by kernel_rfl) (by kernel_rfl) (fun _ _ _ h => h) (Or.inl ⟨by rfl, fun W' hW => by go_simp⟩) hS1 ?_
        refine wpAnyH_take (i := 6) (v := .string (kindW 3)) rfl (by kernel_rfl) (by kernel_rfl) (by kernel_rfl) (fun _ _ _ h => h) (Or.inl ⟨by rfl, fun W' hW => by have x0 := s3 W' hW; go_simp⟩) hS1 ?_
        refine wpAnyH_take (i := 7) (v := .pointer (some ⟨gn, 2, none⟩)) rfl (by kernel_rfl) (by kernel_rfl) (by kernel_rfl) (fun _ _ _ h => h) (Or.inl ⟨by rfl, fun W' hW => by go_simp⟩) hS1 ?_
        refine wpAnyH_take (i := 8) (v := .int .i64 (z : Int)) rfl (by kernel_rfl) (by kernel_rfl) (by kernel_rfl) (fun _ _ _ h => h) (Or.inl ⟨by rfl, fun W' hW => by have x0 := (s1 W' hW).2.2; go_simp⟩) hS1 ?_
        refine wpAnyH_ready (rs := [9]) (by kernel_rfl) (by simp) ?_
        refine AllReadyH.cons rfl (fun K hK => ?_) AllReadyH.nil
        go_simp
        refine (Tryd.strconv_Itoa_small z Hz.out _).mono ?_
        rintro e U1 ⟨rfl, rfl⟩
        refine hK.out _ _ hS1 (fun _ => ?_)
        clear hK K
        refine wpAnyH_ready (rs := [10]) (by kernel_rfl) (by simp) ?_
        refine AllReadyH.cons rfl (fun K hK => ?_) AllReadyH.nil
        go_simp
        have bU : Below WN.drew.heap.size WN.drew (WN.drew.alloc (.cells #[.string ⟨#[110, 111, 100, 101]⟩, .string nm, .string (kindW 3), .string ⟨(Lib.decDigits z).toArray⟩] 9)) := (Below.refl _ _).alloc (Nat.le_refl _) _
        have S2 := s8.out (WN.drew.alloc (.cells #[.string ⟨#[110, 111, 100, 101]⟩, .string nm, .string (kindW 3), .string ⟨(Lib.decDigits z).toArray⟩] 9)) ((s9.out _ hS1).1.trans (bU.mono (HBW.out _ (s9.out _ hS1).1).2)) (by rw [bU.block _ (heap_lt (s9.out _ hS1).2)]; exact (s9.out _ hS1).2)
        have hbU : (WN.drew.alloc (.cells #[.string ⟨#[110, 111, 100, 101]⟩, .string nm, .string (kindW 3), .string ⟨(Lib.decDigits z).toArray⟩] 9)).heap[WN.heap.size]? = some (.cells #[.string ⟨#[110, 111, 100, 101]⟩, .string nm, .string (kindW 3), .string ⟨(Lib.decDigits z).toArray⟩] 9) := heap_new _ _
        have HBd2 := hide (bld_keep HBdD.out bU)
        refine hK.out _ _ S2 (fun _ => ?_)
        clear hK K bU
        refine wpAnyH_ready (rs := [11]) (by kernel_rfl) (by simp) ?_
        refine AllReadyH.cons rfl (fun K hK => ?_) AllReadyH.nil
        go_simp
        refine (writeLine_any B B WN.heap.size 4 4 ((ns.take k).flatMap ndLine) [nodeWd, nm, kindW 3, str (Lib.decDigits z)] _ HBd2.out rfl (by omega) (fun j x hj => ?_) (by simp) (by omega) (by have := Hlen.out; omega) ?_ (HBW.out _ (s9.out _ S2).1).2).mono ?_
        · rcases j with _ | _ | _ | _ | j
          · simp at hj; subst hj; exact (cells_at hbU 0).1
          · simp at hj; subst hj; exact (cells_at hbU 1).1
          · simp at hj; subst hj; exact (cells_at hbU 2).1
          · simp at hj; subst hj; exact (cells_at hbU 3).1
          · simp at hj
        · have h := ndLine_small ⟨nm, 3, (z : Int)⟩ Hpb.out
          unfold ndLine lineB at h
          rw [List.length_append] at h
          simp only [Int.toNat_natCast] at h
          omega
        · rintro e U3 ⟨rfl, hb3, hbl, hok⟩
          have S3 := s8.out U3 ((s9.out _ S2).1.trans hbl) (hok gn _ (s9.out _ S2).2 (fun h => Hgn.out (Option.some.inj h)) (fun c fz h => by simp at h))
          have HBd3 : Hid (Lib.IsBuilderF 55 5 B B (Lib.byteCells ((ns.take (k + 1)).flatMap ndLine)) U3) := hide (by
            rw [Htk.out]
            have h := hb3
            unfold ndLine
            simp only [Int.toNat_natCast]
            exact h)
          have HB3 := hide (s9.out _ S3).1
          refine hK.out _ _ S3 (fun _ => ?_)
          clear hK K hb3 hbl hok hbU
          refine wpAnyH_done (by kernel_rfl) ?_ _
          clear s1 s2 s3
          go_wp2_with fail
          go_roundw
          case rel => exact ⟨k + 1, by have := Hlt.out; omega, by go_num, HBd3, HB3⟩
          case measure => have := Hlt.out; simp [intOf]; omega
      · subst h4
        have s3 : ∀ W', SS W' → W'.cell? ⟨0, 3, none⟩ = some (.string (kindW 4)) := fun W' h => (s2 W' h).k3
        refine wp_region_held_drew (S := SS) (by kernel_rfl) (hS0) (fun hS1 => ?_)
        have w0 : IntKind.i64.wrap 3 = 3 := by first | decide | (unfold IntKind.wrap; simp [IntKind.bits, IntKind.signed])
        refine wpAnyH_take (i := 0) (v := .pointer (some ⟨gn, 0, none⟩)) rfl (by kernel_rfl) (by kernel_rfl) (by kernel_rfl) (fun _ _ _ h => h) (Or.inl ⟨by rfl, fun W' hW => by go_simp⟩) hS1 ?_
        refine wpAnyH_take (i := 1) (v := .string nm) rfl (by kernel_rfl) (by kernel_rfl) (by kernel_rfl) (fun _ _ _ h => h) (Or.inl ⟨by rfl, fun W' hW => by have x0 := (s1 W' hW).1; go_simp⟩) hS1 ?_
        refine wpAnyH_take (i := 2) (v := .pointer (some ⟨gn, 1, none⟩)) rfl (by kernel_rfl) (by kernel_rfl) (by kernel_rfl) (fun _ _ _ h => h) (Or.inl ⟨by rfl, fun W' hW => by go_simp⟩) hS1 ?_
        refine wpAnyH_take (i := 3) (v := .int .i64 4) rfl (by kernel_rfl) (by kernel_rfl) (by kernel_rfl) (fun _ _ _ h => h) (Or.inl ⟨by rfl, fun W' hW => by have x0 := (s1 W' hW).2.1; go_simp⟩) hS1 ?_
        refine wpAnyH_take (i := 4) (v := .int .i64 3) rfl (by kernel_rfl) (by kernel_rfl) (by kernel_rfl) (fun _ _ _ h => h) (Or.inl ⟨by rfl, fun W' hW => by go_simp⟩) hS1 ?_
        refine wpAnyH_take (i := 5) (v := .pointer (some ⟨0, 3, none⟩)) rfl (by kernel_rfl) (by kernel_rfl) (by kernel_rfl) (fun _ _ _ h => h) (Or.inl ⟨by rfl, fun W' hW => by go_simp⟩) hS1 ?_
        refine wpAnyH_take (i := 6) (v := .string (kindW 4)) rfl (by kernel_rfl) (by kernel_rfl) (by kernel_rfl) (fun _ _ _ h => h) (Or.inl ⟨by rfl, fun W' hW => by have x0 := s3 W' hW; go_simp⟩) hS1 ?_
        refine wpAnyH_take (i := 7) (v := .pointer (some ⟨gn, 2, none⟩)) rfl (by kernel_rfl) (by kernel_rfl) (by kernel_rfl) (fun _ _ _ h => h) (Or.inl ⟨by rfl, fun W' hW => by go_simp⟩) hS1 ?_
        refine wpAnyH_take (i := 8) (v := .int .i64 (z : Int)) rfl (by kernel_rfl) (by kernel_rfl) (by kernel_rfl) (fun _ _ _ h => h) (Or.inl ⟨by rfl, fun W' hW => by have x0 := (s1 W' hW).2.2; go_simp⟩) hS1 ?_
        refine wpAnyH_ready (rs := [9]) (by kernel_rfl) (by simp) ?_
        refine AllReadyH.cons rfl (fun K hK => ?_) AllReadyH.nil
        go_simp
        refine (Tryd.strconv_Itoa_small z Hz.out _).mono ?_
        rintro e U1 ⟨rfl, rfl⟩
        refine hK.out _ _ hS1 (fun _ => ?_)
        clear hK K
        refine wpAnyH_ready (rs := [10]) (by kernel_rfl) (by simp) ?_
        refine AllReadyH.cons rfl (fun K hK => ?_) AllReadyH.nil
        go_simp
        have bU : Below WN.drew.heap.size WN.drew (WN.drew.alloc (.cells #[.string ⟨#[110, 111, 100, 101]⟩, .string nm, .string (kindW 4), .string ⟨(Lib.decDigits z).toArray⟩] 9)) := (Below.refl _ _).alloc (Nat.le_refl _) _
        have S2 := s8.out (WN.drew.alloc (.cells #[.string ⟨#[110, 111, 100, 101]⟩, .string nm, .string (kindW 4), .string ⟨(Lib.decDigits z).toArray⟩] 9)) ((s9.out _ hS1).1.trans (bU.mono (HBW.out _ (s9.out _ hS1).1).2)) (by rw [bU.block _ (heap_lt (s9.out _ hS1).2)]; exact (s9.out _ hS1).2)
        have hbU : (WN.drew.alloc (.cells #[.string ⟨#[110, 111, 100, 101]⟩, .string nm, .string (kindW 4), .string ⟨(Lib.decDigits z).toArray⟩] 9)).heap[WN.heap.size]? = some (.cells #[.string ⟨#[110, 111, 100, 101]⟩, .string nm, .string (kindW 4), .string ⟨(Lib.decDigits z).toArray⟩] 9) := heap_new _ _
        have HBd2 := hide (bld_keep HBdD.out bU)
        refine hK.out _ _ S2 (fun _ => ?_)
        clear hK K bU
        refine wpAnyH_ready (rs := [11]) (by kernel_rfl) (by simp) ?_
        refine AllReadyH.cons rfl (fun K hK => ?_) AllReadyH.nil
        go_simp
        refine (writeLine_any B B WN.heap.size 4 4 ((ns.take k).flatMap ndLine) [nodeWd, nm, kindW 4, str (Lib.decDigits z)] _ HBd2.out rfl (by omega) (fun j x hj => ?_) (by simp) (by omega) (by have := Hlen.out; omega) ?_ (HBW.out _ (s9.out _ S2).1).2).mono ?_
        · rcases j with _ | _ | _ | _ | j
          · simp at hj; subst hj; exact (cells_at hbU 0).1
          · simp at hj; subst hj; exact (cells_at hbU 1).1
          · simp at hj; subst hj; exact (cells_at hbU 2).1
          · simp at hj; subst hj; exact (cells_at hbU 3).1
          · simp at hj
        · have h := ndLine_small ⟨nm, 4, (z : Int)⟩ Hpb.out
          unfold ndLine lineB at h
          rw [List.length_append] at h
          simp only [Int.toNat_natCast] at h
          omega
        · rintro e U3 ⟨rfl, hb3, hbl, hok⟩
          have S3 := s8.out U3 ((s9.out _ S2).1.trans hbl) (hok gn _ (s9.out _ S2).2 (fun h => Hgn.out (Option.some.inj h)) (fun c fz h => by simp at h))
          have HBd3 : Hid (Lib.IsBuilderF 55 5 B B (Lib.byteCells ((ns.take (k + 1)).flatMap ndLine)) U3) := hide (by
            rw [Htk.out]
            have h := hb3
            unfold ndLine
            simp only [Int.toNat_natCast]
            exact h)
          have HB3 := hide (s9.out _ S3).1
          refine hK.out _ _ S3 (fun _ => ?_)
          clear hK K hb3 hbl hok hbU
          refine wpAnyH_done (by kernel_rfl) ?_ _
          clear s1 s2 s3
          go_wp2_with fail
          go_roundw
          case rel => exact ⟨k + 1, by have := Hlt.out; omega, by go_num, HBd3, HB3⟩
          case measure => have := Hlt.out; simp [intOf]; omega
    · obtain rfl : k = n := by omega
      have j1 : ¬ (k : Int) < (k : Int) := by omega
      obtain ⟨n, rfl⟩ : ∃ n', n' = k := ⟨_, rfl⟩
      have HNf : Hid ((ns.take n).flatMap ndLine = ns.flatMap ndLine) := hide (by rw [List.take_of_length_le (by rw [HN.out.1]; omega)])
      rw [HNf.out] at HBd
      obtain ⟨_, _, _, x0, x1⟩ := HRW.out wr (HBW.out wr HB.out).1
      have Hacc : Hid ((ns.flatMap ndLine).length ≤ 1600) := hide (by
        have h1 := flat_len ndLine 40 ns (fun x hx => ndLine_small x (HN.out.2.2.1 x hx))
        have h2 := HN.out.1
        have h3 := HN.out.2.2.2.2.1
        have := Nat.mul_le_mul_right 40 h3
        rw [h2] at h1
        omega)
      go_wp2_with fail
      clear x0 x1
      go_loopw [38] (fun v38 wr => ∃ (i : Nat), i ≤ m ∧ v38 = .int .i64 i ∧ Hid (Lib.IsBuilderF 55 5 B B (Lib.byteCells (ns.flatMap ndLine ++ (es.take i).flatMap (edLine ns))) wr) ∧ Hid (Below B W1 wr)) (fun v38 _ => m - (intOf v38).toNat)
      case atStart => exact ⟨0, by omega, rfl, by rw [List.take_zero, List.flatMap_nil, List.append_nil]; exact HBd, HB⟩
      case round =>
        clear HBd HB
        obtain ⟨i, hi, rfl, HBd, HB⟩ := hrel
        by_cases hlt : i < m
        · obtain ⟨p, hp⟩ : ∃ p, es[i]? = some p := ⟨_, List.getElem?_eq_getElem (by rw [HN.out.2.1]; exact hlt)⟩
          have hpe := HN.out.2.2.2.1 p (List.mem_of_getElem? hp)
          have Htk : Hid (ns.flatMap ndLine ++ (es.take (i + 1)).flatMap (edLine ns) = (ns.flatMap ndLine ++ (es.take i).flatMap (edLine ns)) ++ edLine ns p) := hide (by rw [flat_take (edLine ns) es i p hp, List.append_assoc])
          have Hlen : Hid ((ns.flatMap ndLine ++ (es.take i).flatMap (edLine ns)).length ≤ 10000) := hide (by
            have h1 := flat_len (edLine ns) 40 (es.take i) (fun x hx => edLine_small ns x HN.out.2.2.1)
            have h2 : (es.take i).length ≤ 120 := by rw [List.length_take]; have := HN.out.2.2.2.2.2; omega
            have := Nat.mul_le_mul_right 40 h2
            have := Hacc.out
            rw [List.length_append]
            omega)
          obtain ⟨y, z⟩ := p
          unfold edB placeB at hpe
          simp only [Bool.and_eq_true, decide_eq_true_eq] at hpe
          obtain ⟨⟨⟨⟨hy0, hy1⟩, hz0, hz1⟩, _⟩, _⟩ := hpe
          rw [HN.out.1] at hy1 hz1
          obtain ⟨y', rfl⟩ := Int.eq_ofNat_of_zero_le hy0
          obtain ⟨z', rfl⟩ := Int.eq_ofNat_of_zero_le hz0
          obtain ⟨bE, oE, haE, ce0, ce1⟩ := ed_at (HRW.out wr (HBW.out wr HB.out).1).2.1 i _ hp
          simp only at ce0 ce1
          subst haE
          obtain ⟨p1, hp1⟩ : ∃ p, ns[y']? = some p := ⟨_, List.getElem?_eq_getElem (by rw [HN.out.1]; omega)⟩
          obtain ⟨p2, hp2⟩ : ∃ p, ns[z']? = some p := ⟨_, List.getElem?_eq_getElem (by rw [HN.out.1]; omega)⟩
          have Hn1 : Hid (nameAt ns (y' : Int) = p1.name) := hide (by simp [nameAt, hp1])
          have Hn2 : Hid (nameAt ns (z' : Int) = p2.name) := hide (by simp [nameAt, hp2])
          obtain ⟨WN, hWN⟩ : ∃ WN, wr.alloc (.cells #[.int .i64 (y' : Int), .int .i64 (z' : Int)] 47) = WN := ⟨_, rfl⟩
          have bN' : Below wr.heap.size wr WN := by rw [← hWN]; exact (Below.refl _ _).alloc (Nat.le_refl _) _
          have hbxN : WN.heap[wr.heap.size]? = some (.cells #[.int .i64 (y' : Int), .int .i64 (z' : Int)] 47) := by rw [← hWN]; exact heap_new _ _
          have HBdN := hide (bld_keep HBd.out bN')
          have HBN : Hid (Below B W1 WN) := hide (HB.out.trans (bN'.mono (HBW.out wr HB.out).2))
          obtain ⟨gn, hgn⟩ : ∃ g, wr.heap.size = g := ⟨_, rfl⟩
          have Hgn : Hid (gn ≠ B) := hide (by
            rcases HBd.out with h | h
            · obtain ⟨_, v, h2, _⟩ := h
              have := heap_lt h2
              omega
            · obtain ⟨_, v, h2, _⟩ := h
              have := heap_lt h2
              omega)
          obtain ⟨bN, oN, haN, cn1, _, _⟩ := nd_at (HRW.out W1 (HBW.out W1 (Below.refl _ _)).1).1 y' p1 hp1
          subst haN
          obtain ⟨_, _, haN, cn2, _, _⟩ := nd_at (HRW.out W1 (HBW.out W1 (Below.refl _ _)).1).1 z' p2 hp2
          simp only [Option.some.injEq, Addr.mk.injEq] at haN
          obtain ⟨rfl, rfl, _⟩ := haN
          have hlt1 : bN < B := by rw [HBs.out]; exact cell_lt cn1
          have j0 : (0 : Int) ≤ (i : Int) := by omega
          have j1 : (i : Int) < (m : Int) := by omega
          have Hlt := hide hlt
          have HWN := hide hWN
          have Hgne := hide hgn
          rw [hgn] at hbxN
          have HC1 := hide cn1
          have HC2 := hide cn2
          clear hp hi hlt bN' hWN hgn hp1 hp2 cn1 cn2
          go_upto_region 13 with fail
          rw [HWN.out, Hgne.out]
          clear HWN Hgne ce0 ce1
          obtain ⟨SS, hSS⟩ : ∃ SS : World → Prop, SS = fun W' => Below B W1 W' ∧ W'.heap[gn]? = some (.cells #[.int .i64 (y' : Int), .int .i64 (z' : Int)] 47) := ⟨_, rfl⟩
          have s9 : Hid (∀ W', SS W' → Below B W1 W' ∧ W'.heap[gn]? = some (.cells #[.int .i64 (y' : Int), .int .i64 (z' : Int)] 47)) := hide (fun W' h => by rw [hSS] at h; exact h)
          have s8 : Hid (∀ W', Below B W1 W' → W'.heap[gn]? = some (.cells #[.int .i64 (y' : Int), .int .i64 (z' : Int)] 47) → SS W') := hide (fun W' h1 h2 => by rw [hSS]; exact ⟨h1, h2⟩)
          have s1 : ∀ W', SS W' → W'.cell? ⟨gn, 0, none⟩ = some (.int .i64 (y' : Int)) ∧ W'.cell? ⟨gn, 1, none⟩ = some (.int .i64 (z' : Int)) := fun W' h => ⟨(cells_at (s9.out W' h).2 0).1, (cells_at (s9.out W' h).2 1).1⟩
          have s2 : ∀ W', SS W' → W'.cell? ⟨w.heap.size, 0, none⟩ = some (.slice (some ⟨bN, oN, none⟩) n c) := fun W' h => (HRW.out W' (HBW.out W' (s9.out W' h).1).1).2.2.2.1
          have s3 : ∀ W', SS W' → W'.cell? ⟨bN, oN + y' * 3, none⟩ = some (.string p1.name) := fun W' h => by rw [(s9.out W' h).1.cell (p := ⟨bN, oN + y' * 3, none⟩) hlt1]; exact HC1.out
          have s4 : ∀ W', SS W' → W'.cell? ⟨bN, oN + z' * 3, none⟩ = some (.string p2.name) := fun W' h => by rw [(s9.out W' h).1.cell (p := ⟨bN, oN + z' * 3, none⟩) hlt1]; exact HC2.out
          have hS0 := s8.out WN.drew (below_h3 HBN.out rfl rfl rfl rfl) hbxN
          have HBdD : Hid (Lib.IsBuilderF 55 5 B B (Lib.byteCells (ns.flatMap ndLine ++ (es.take i).flatMap (edLine ns))) WN.drew) := hide (bld_heap HBdN.out rfl rfl rfl rfl)
          clear hSS hbxN
          refine wp_region_held_drew (S := SS) (by kernel_rfl) (hS0) (fun hS1 => ?_)
          refine wpAnyH_take (i := 0) (v := .pointer (some ⟨w.heap.size, 0, none⟩)) rfl (by kernel_rfl) (by kernel_rfl) (by kernel_rfl) (fun _ _ _ h => h) (Or.inl ⟨by rfl, fun W' hW => by go_simp⟩) hS1 ?_
          refine wpAnyH_take (i := 1) (v := .slice (some ⟨bN, oN, none⟩) n c) rfl (by kernel_rfl) (by kernel_rfl) (by kernel_rfl) (fun _ _ _ h => h) (Or.inl ⟨by rfl, fun W' hW => by have x0 := s2 W' hW; go_simp⟩) hS1 ?_
          refine wpAnyH_take (i := 2) (v := .pointer (some ⟨gn, 0, none⟩)) rfl (by kernel_rfl) (by kernel_rfl) (by kernel_rfl) (fun _ _ _ h => h) (Or.inl ⟨by rfl, fun W' hW => by go_simp⟩) hS1 ?_
          refine wpAnyH_take (i := 3) (v := (.int .i64 (y' : Int))) rfl (by kernel_rfl) (by kernel_rfl) (by kernel_rfl) (fun _ _ _ h => h) (Or.inl ⟨by rfl, fun W' hW => by have x0 := (s1 W' hW).1; go_simp⟩) hS1 ?_
          refine wpAnyH_take (i := 4) (v := (.pointer (some ⟨bN, oN + y' * 3, none⟩))) rfl (by kernel_rfl) (by kernel_rfl) (by kernel_rfl) (fun _ _ _ h => h) (Or.inl ⟨by rfl, fun W' hW => by go_simp⟩) hS1 ?_
          refine wpAnyH_take (i := 5) (v := (.pointer (some ⟨bN, oN + y' * 3, none⟩))) rfl (by kernel_rfl) (by kernel_rfl) (by kernel_rfl) (fun _ _ _ h => h) (Or.inl ⟨by rfl, fun W' hW => by go_simp⟩) hS1 ?_
          refine wpAnyH_take (i := 6) (v := .string p1.name) rfl (by kernel_rfl) (by kernel_rfl) (by kernel_rfl) (fun _ _ _ h => h) (Or.inl ⟨by rfl, fun W' hW => by have x0 := s3 W' hW; go_simp⟩) hS1 ?_
          refine wpAnyH_take (i := 7) (v := .pointer (some ⟨w.heap.size, 0, none⟩)) rfl (by kernel_rfl) (by kernel_rfl) (by kernel_rfl) (fun _ _ _ h => h) (Or.inl ⟨by rfl, fun W' hW => by go_simp⟩) hS1 ?_
          refine wpAnyH_take (i := 8) (v := .slice (some ⟨bN, oN, none⟩) n c) rfl (by kernel_rfl) (by kernel_rfl) (by kernel_rfl) (fun _ _ _ h => h) (Or.inl ⟨by rfl, fun W' hW => by have x0 := s2 W' hW; go_simp⟩) hS1 ?_
          refine wpAnyH_take (i := 9) (v := .pointer (some ⟨gn, 1, none⟩)) rfl (by kernel_rfl) (by kernel_rfl) (by kernel_rfl) (fun _ _ _ h => h) (Or.inl ⟨by rfl, fun W' hW => by go_simp⟩) hS1 ?_
          refine wpAnyH_take (i := 10) (v := (.int .i64 (z' : Int))) rfl (by kernel_rfl) (by kernel_rfl) (by kernel_rfl) (fun _ _ _ h => h) (Or.inl ⟨by rfl, fun W' hW => by have x0 := (s1 W' hW).2; go_simp⟩) hS1 ?_
          refine wpAnyH_take (i := 11) (v := (.pointer (some ⟨bN, oN + z' * 3, none⟩))) rfl (by kernel_rfl) (by kernel_rfl) (by kernel_rfl) (fun _ _ _ h => h) (Or.inl ⟨by rfl, fun W' hW => by go_simp⟩) hS1 ?_
          refine wpAnyH_take (i := 12) (v := (.pointer (some ⟨bN, oN + z' * 3, none⟩))) rfl (by kernel_rfl) (by kernel_rfl) (by kernel_rfl) (fun _ _ _ h => h) (Or.inl ⟨by rfl, fun W' hW => by go_simp⟩) hS1 ?_
          refine wpAnyH_take (i := 13) (v := .string p2.name) rfl (by kernel_rfl) (by kernel_rfl) (by kernel_rfl) (fun _ _ _ h => h) (Or.inl ⟨by rfl, fun W' hW => by have x0 := s4 W' hW; go_simp⟩) hS1 ?_
          refine wpAnyH_ready (rs := [14]) (by kernel_rfl) (by simp) ?_
          refine AllReadyH.cons rfl (fun K hK => ?_) AllReadyH.nil
          go_simp
          have bU : Below WN.drew.heap.size WN.drew (WN.drew.alloc (.cells #[.string ⟨#[101, 100, 103, 101]⟩, .string p1.name, .string p2.name] 9)) := (Below.refl _ _).alloc (Nat.le_refl _) _
          have S2 := s8.out (WN.drew.alloc (.cells #[.string ⟨#[101, 100, 103, 101]⟩, .string p1.name, .string p2.name] 9)) ((s9.out _ hS1).1.trans (bU.mono (HBW.out _ (s9.out _ hS1).1).2)) (by rw [bU.block _ (heap_lt (s9.out _ hS1).2)]; exact (s9.out _ hS1).2)
          have hbU : (WN.drew.alloc (.cells #[.string ⟨#[101, 100, 103, 101]⟩, .string p1.name, .string p2.name] 9)).heap[WN.heap.size]? = some (.cells #[.string ⟨#[101, 100, 103, 101]⟩, .string p1.name, .string p2.name] 9) := heap_new _ _
          have HBd2 := hide (bld_keep HBdD.out bU)
          refine hK.out _ _ S2 (fun _ => ?_)
          clear hK K bU
          refine wpAnyH_ready (rs := [15]) (by kernel_rfl) (by simp) ?_
          refine AllReadyH.cons rfl (fun K hK => ?_) AllReadyH.nil
          go_simp
          refine (writeLine_any B B WN.heap.size 3 3 (ns.flatMap ndLine ++ (es.take i).flatMap (edLine ns)) [edgeWd, p1.name, p2.name] _ HBd2.out rfl (by omega) (fun j x hj => ?_) (by simp) (by omega) (by have := Hlen.out; omega) ?_ (HBW.out _ (s9.out _ S2).1).2).mono ?_
          · rcases j with _ | _ | _ | j
            · simp at hj; subst hj; exact (cells_at hbU 0).1
            · simp at hj; subst hj; exact (cells_at hbU 1).1
            · simp at hj; subst hj; exact (cells_at hbU 2).1
            · simp at hj
          · have h := edLine_small ns ((y' : Int), (z' : Int)) HN.out.2.2.1
            unfold edLine lineB at h
            rw [List.length_append, Hn1.out, Hn2.out] at h
            omega
          · rintro e U3 ⟨rfl, hb3, hbl, hok⟩
            have S3 := s8.out U3 ((s9.out _ S2).1.trans hbl) (hok gn _ (s9.out _ S2).2 (fun h => Hgn.out (Option.some.inj h)) (fun c fz h => by simp at h))
            have HBd3 : Hid (Lib.IsBuilderF 55 5 B B (Lib.byteCells (ns.flatMap ndLine ++ (es.take (i + 1)).flatMap (edLine ns))) U3) := hide (by
              rw [Htk.out]
              unfold edLine
              simp only [Hn1.out, Hn2.out]
              exact hb3)
            have HB3 := hide (s9.out _ S3).1
            refine hK.out _ _ S3 (fun _ => ?_)
            clear hK K hb3 hbl hok hbU
            refine wpAnyH_done (by kernel_rfl) ?_ _
            clear s1 s2 s3 s4
            go_wp2_with fail
            go_roundw
            case rel => exact ⟨i + 1, by have := Hlt.out; omega, by go_num, HBd3, HB3⟩
            case measure => have := Hlt.out; simp [intOf]; omega
        · obtain rfl : i = m := by omega
          have j1 : ¬ (i : Int) < (i : Int) := by omega
          have HEf : Hid (showL ns es = ns.flatMap ndLine ++ (es.take i).flatMap (edLine ns)) := hide (by unfold showL; rw [List.take_of_length_le (by rw [HN.out.2.1]; omega)])
          have K25 := hide (Tryd.Builder_String_any_k B B _ wr HBd.out (HBW.out wr HB.out).2)
          rw [← HEf.out] at K25
          go_wp2_with (go_at_call 25; refine (K25.out).mono ?_; rintro e W9 ⟨rfl, _, hb9, _⟩; have Hb9 := hide (HB.out.trans hb9); clear hb9)
          refine bodyPost_ret (v := .tuple #[.string ⟨(showL ns es).toArray⟩, .int .i64 0]) (by simp [results, Tryd.results11, go_sem]) rfl ⟨rfl, HA.out.trans ((HBW.out _ Hb9.out).1.mono HA.out.size)⟩
end Go.Proofs.YtpjolnaomdmnnaaDoor
