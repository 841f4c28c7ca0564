/- The document's Put. -/
import Derived.Test.YteihajppgooadaaRs
namespace Go.Proofs.Yteihajppgooadaa
open Go.RowKit
set_option linter.unusedVariables false

/-- a slice stays while another block is written -/
theorem kept_rd {α : Type} {E : El Try.prog α} {w w' : World} {g n cap : Nat} {row : Option Nat} {xs : List α} (h : E.Rd w (.slice (some ⟨g, 0, none⟩) n cap) xs) (hg : w.grownBy w' row) (hne : row ≠ some g) : E.Rd w' (.slice (some ⟨g, 0, none⟩) n cap) xs := by
  rcases h with h | ⟨x, c, h1, h2⟩
  · exact .inl h
  · refine .inr ⟨x, c, h1, fun i hi => ?_⟩
    have h := h2 i hi
    have hl : i < (E.fl xs).length := by rw [E.fl_len]; exact hi
    simp only [Value.slice.injEq, Option.some.injEq] at h1
    obtain ⟨rfl, _, _⟩ := h1
    rw [List.getElem?_eq_getElem hl] at h ⊢
    rw [World.cell?_of_block (w := w) (hg.block _ (cell_lt h) (by rw [addr_plain]; exact fun e => hne e.symm))]
    exact h
theorem rp_new (w : World) (p : Rp) (g : Nat) (hg : g = w.heap.size) : rE.Rd (w.alloc (.cells #[.int .i64 p.n, .string p.d, .int .i64 p.sent, .int .i64 p.ago] 85)) (.slice (some ⟨g, 0, none⟩) 1 1) [p] := by
  subst hg
  refine .inr ⟨_, 1, rfl, fun i hi => ?_⟩
  rw [addr_plain, Nat.zero_add]
  have e : (w.alloc (.cells #[.int .i64 p.n, .string p.d, .int .i64 p.sent, .int .i64 p.ago] 85)).heap[w.heap.size]? = some (.cells #[.int .i64 p.n, .string p.d, .int .i64 p.sent, .int .i64 p.ago] 85) := by
    show (w.heap.push _)[w.heap.size]? = _
    simp
  unfold World.cell?
  simp only [e]
  have : i < 4 := by simpa [rE] using hi
  match i, this with
  | 0, _ => rfl
  | 1, _ => rfl
  | 2, _ => rfl
  | 3, _ => rfl
theorem rd_at {w : World} {a : Option Addr} {n c : Nat} {ps : List Rp} (h : rE.Rd w (.slice a n c) ps) (i : Nat) (p : Rp) (hp : ps[i]? = some p) : ∃ b off, a = some ⟨b, off, none⟩ ∧ w.cell? ⟨b, off + i * 4, none⟩ = some (.int .i64 p.n) ∧ w.cell? ⟨b, off + i * 4 + 1, none⟩ = some (.string p.d) ∧ w.cell? ⟨b, off + i * 4 + 2, none⟩ = some (.int .i64 p.sent) ∧ w.cell? ⟨b, off + i * 4 + 3, none⟩ = some (.int .i64 p.ago) := by
  obtain ⟨b, off, h1, h2⟩ := h.at i p hp
  exact ⟨b, off, h1, h2 0 (by decide), h2 1 (by decide), h2 2 (by decide), h2 3 (by decide)⟩

section
variable (win pause times first count : Int) (av : Option Addr) (nv cv : Nat) (data : ByteArray) (w : World)

set_option maxRecDepth 100000 in
set_option maxHeartbeats 2000000 in
theorem rput_dead : Calls Try.prog 13 #[.agg #[.int .i64 win, .int .i64 pause, .int .i64 times, .int .u16 first, .int .i64 count, .slice av nv cv, .bool true], .string data] w fun e w' => e = .returned (.tuple #[.agg #[.int .i64 win, .int .i64 pause, .int .i64 times, .int .u16 first, .int .i64 count, .slice av nv cv, .bool true], .int .u16 0, .int .i64 190]) ∧ Below w.heap.size w w' := by
  have hB : Hid (∀ o o', Below w.heap.size w ((w.alloc o).alloc o')) := hide (fun o o' => ((Below.refl _ _).alloc (Nat.le_refl _) o).alloc (by simp) o')
  go_enter Try.func13, Try.ntmps13
  go_wp2_with fail
  exact bodyPost_ret (v := .tuple #[.agg #[.int .i64 win, .int .i64 pause, .int .i64 times, .int .u16 first, .int .i64 count, .slice av nv cv, .bool true], .int .u16 0, .int .i64 190]) (by simp [results, Try.results13, go_sem]) rfl ⟨rfl, hB.out _ _⟩

set_option maxRecDepth 100000 in
set_option maxHeartbeats 2000000 in
theorem rput_long (h : 256 < data.size) : Calls Try.prog 13 #[.agg #[.int .i64 win, .int .i64 pause, .int .i64 times, .int .u16 first, .int .i64 count, .slice av nv cv, .bool false], .string data] w fun e w' => e = .returned (.tuple #[.agg #[.int .i64 win, .int .i64 pause, .int .i64 times, .int .u16 first, .int .i64 count, .slice av nv cv, .bool false], .int .u16 0, .int .i64 3]) ∧ Below w.heap.size w w' := by
  have hB : Hid (∀ o o', Below w.heap.size w ((w.alloc o).alloc o')) := hide (fun o o' => ((Below.refl _ _).alloc (Nat.le_refl _) o).alloc (by simp) o')
  have hi : (256 : Int) < (data.size : Int) := by omega
  go_enter Try.func13, Try.ntmps13
  go_wp2_with fail
  exact bodyPost_ret (v := .tuple #[.agg #[.int .i64 win, .int .i64 pause, .int .i64 times, .int .u16 first, .int .i64 count, .slice av nv cv, .bool false], .int .u16 0, .int .i64 3]) (by simp [results, Try.results13, go_sem]) rfl ⟨rfl, hB.out _ _⟩
end

/-- the two boxes of a call -/
theorem two_boxes (w : World) (C C' : Array Value) : ((w.alloc (.cells C 33)).alloc (.cells C' 33)).heap[w.heap.size]? = some (.cells C 33) ∧ ((w.alloc (.cells C 33)).alloc (.cells C' 33)).heap[w.heap.size + 1]? = some (.cells C' 33) ∧ Below w.heap.size w ((w.alloc (.cells C 33)).alloc (.cells C' 33)) := by
  refine ⟨?_, ?_, ((Below.refl _ _).alloc (Nat.le_refl _) _).alloc (by simp) _⟩
  · rw [Below.heap_alloc _ _ _ (by simp)]
    show (w.heap.push _)[w.heap.size]? = _
    simp
  · show ((w.alloc (.cells C 33)).heap.push _)[w.heap.size + 1]? = _
    rw [show w.heap.size + 1 = (w.alloc (.cells C 33)).heap.size by simp]
    exact Array.getElem?_push_size

set_option maxRecDepth 100000 in
set_option maxHeartbeats 8000000 in
theorem rput_ok (win pause times first count : Int) (av : Option Addr) (cv : Nat) (data : ByteArray) (ps : List Rp) (w : World) (hv : rE.Rd w (.slice av ps.length cv) ps) (hl : ps.length ≤ 1000) (hd : data.size ≤ 256) (hf : 0 ≤ first ∧ first ≤ 65535) (hc : 0 ≤ count ∧ count ≤ 100000)
    (hn : ∀ p, ps[0]? = some p → 0 ≤ p.n ∧ p.n ≤ count ∧ count - p.n + 1 ≤ win) :
    Calls Try.prog 13 #[.agg #[.int .i64 win, .int .i64 pause, .int .i64 times, .int .u16 first, .int .i64 count, .slice av ps.length cv, .bool false], .string data] w fun e w' => ∃ a' c', e = .returned (.tuple #[.agg #[.int .i64 win, .int .i64 pause, .int .i64 times, .int .u16 first, .int .i64 (count + 1), .slice a' (ps.length + 1) c', .bool false], .int .u16 (sq first count), .int .i64 0]) ∧ rE.Own w' w.heap.size (.slice a' (ps.length + 1) c') (ps ++ [⟨count, data, 0, 0⟩]) ∧ Below w.heap.size w w' := by
  have hi : ¬ (256 : Int) < (data.size : Int) := by omega
  obtain ⟨c0, c1⟩ := hc
  obtain ⟨hb0, hb1, hB⟩ := two_boxes w #[.int .i64 win, .int .i64 pause, .int .i64 times, .int .u16 first, .int .i64 count, .slice av ps.length cv, .bool false] #[.int .i64 0, .int .i64 0, .int .i64 0, .int .u16 0, .int .i64 0, .slice none 0 0, .bool false]
  have hl2 : (ps.length : Int) ≤ 1000 := by omega
  obtain ⟨W0, hW0⟩ : ∃ W0, (w.alloc (.cells #[.int .i64 win, .int .i64 pause, .int .i64 times, .int .u16 first, .int .i64 count, .slice av ps.length cv, .bool false] 33)).alloc (.cells #[.int .i64 0, .int .i64 0, .int .i64 0, .int .u16 0, .int .i64 0, .slice none 0 0, .bool false] 33) = W0 := ⟨_, rfl⟩
  rw [hW0] at hb0 hb1 hB
  have Hv0 := hide (hv.keep hB)
  have HB0 := hide hB
  have Hb0 := hide hb0
  have Hb1 := hide hb1
  have Hl := hide hl
  have Hz0 : Hid (W0.heap.size = w.heap.size + 2) := hide (by rw [← hW0]; simp)
  have k5 := (cells_at hb0 5).1
  have k4 := (cells_at hb0 4).1
  have k0 := (cells_at hb0 0).1
  have k6 := (cells_at hb0 6).1
  simp at k0 k4 k5 k6
  clear hb0 hb1 hB hl hd
  have quiet : Hid (∀ p, ps[0]? = some p → ∃ b off, av = some ⟨b, off, none⟩ ∧ W0.cell? ⟨b, off, none⟩ = some (.int .i64 p.n)) := hide (fun p hp => by
    obtain ⟨b, off, h1, h2, _⟩ := rd_at Hv0.out 0 p hp
    exact ⟨b, off, h1, by simpa using h2⟩)
  clear hv
  go_enter Try.func13, Try.ntmps13
  go_upto_region 5 with fail
  go_cut [31] (fun v31 wx => v31 = .bool false ∧ ∃ q, wx = W0.drewN q)
  case first =>
    by_cases hps : ps.length = 0
    · have z0 : decide (0 < ps.length) = false := decide_eq_false (by omega)
      clear hps
      go_quiet (fail)
      go_wp2_with fail
      go_meet
      exact ⟨by simp, nq, rfl⟩
    · obtain ⟨p, hp⟩ : ∃ p, ps[0]? = some p := ⟨_, List.getElem?_eq_getElem (by omega)⟩
      obtain ⟨b, off, rfl, cb⟩ := quiet.out p hp
      obtain ⟨n0, n1, n2⟩ := hn p hp
      have z1 : decide (0 < ps.length) = true := decide_eq_true (by omega)
      have z3 : (0 : Int) < (ps.length : Int) := by omega
      generalize p.n = pn at *
      have z2 : decide (win < count - pn + 1) = false := decide_eq_false (by omega)
      clear hps hn quiet hp
      go_quiet (fail)
      go_wp2_with fail
      go_meet
      exact ⟨by simp, nq, rfl⟩
  case rest =>
  obtain ⟨rfl, q, rfl⟩ := hcut
  have bq : Below W0.heap.size W0 (W0.drewN q) := ⟨rfl, rfl, rfl, Nat.le_refl _, fun _ _ => rfl⟩
  have Hv := hide (Hv0.out.keep bq)
  have Hb : Hid ((W0.drewN q).heap[w.heap.size]? = some (.cells #[.int .i64 win, .int .i64 pause, .int .i64 times, .int .u16 first, .int .i64 count, .slice av ps.length cv, .bool false] 33)) := hide Hb0.out
  have Hr : Hid ((W0.drewN q).heap[w.heap.size + 1]? = some (.cells #[.int .i64 0, .int .i64 0, .int .i64 0, .int .u16 0, .int .i64 0, .slice none 0 0, .bool false] 33)) := hide Hb1.out
  have HB : Hid (Below w.heap.size w (W0.drewN q)) := hide ⟨HB0.out.os, HB0.out.tape, HB0.out.output, HB0.out.size, HB0.out.block⟩
  have Hz : Hid ((W0.drewN q).heap.size = w.heap.size + 2) := hide Hz0.out
  generalize W0.drewN q = W at *
  obtain ⟨g, hg⟩ : ∃ g, w.heap.size = g := ⟨_, rfl⟩
  rw [hg] at Hb Hr Hz ⊢
  have Hg := hide hg
  clear hg
  clear bq Hv0 HB0 Hb0 Hb1 Hz0 k0 k4 k5 k6 quiet hn hW0
  go_upto_region 7 with fail
  obtain ⟨SS, hSS⟩ : ∃ SS : World → Prop, SS = fun W' => W'.cell? ⟨g, 5, none⟩ = some (.slice av ps.length cv) ∧ W'.cell? ⟨g, 4, none⟩ = some (.int .i64 count) ∧ W'.frozen? ⟨g, 5, none⟩ = false := ⟨_, rfl⟩
  have s1 : ∀ W', SS W' → W'.cell? ⟨g, 5, none⟩ = some (.slice av ps.length cv) := fun W' h => by rw [hSS] at h; exact h.1
  have s2 : ∀ W', SS W' → W'.cell? ⟨g, 4, none⟩ = some (.int .i64 count) := fun W' h => by rw [hSS] at h; exact h.2.1
  have s3 : ∀ W', SS W' → W'.frozen? ⟨g, 5, none⟩ = false := fun W' h => by rw [hSS] at h; exact h.2.2
  have FS : Hid (∀ W', Below W.heap.size W W' → SS W') := hide (fun W' hW => by
    rw [hSS]
    have hlt := heap_lt Hb.out
    exact ⟨by rw [hW.cell hlt]; exact (cells_at Hb.out 5).1, by rw [hW.cell hlt]; exact (cells_at Hb.out 4).1, by rw [hW.frozen hlt]; exact (cells_at Hb.out 5).2⟩)
  clear hSS
  have bD : Below W.heap.size W W.drew := (Below.refl _ _).drew
  have hS0 := FS.out _ bD
  have HR : Hid (∀ W', Below W.heap.size W W' → rE.Rd W' (.slice av ps.length cv) ps) := hide (fun W' hW => Hv.out.keep hW)
  have bA : Below W.heap.size W (W.alloc (.cells #[] 85)).drew := ((Below.refl _ _).alloc (Nat.le_refl _) _).drew
  have bB : Below W.heap.size W (W.alloc (.cells #[.int .i64 count, .string data, .int .i64 0, .int .i64 0] 85)).drew := ((Below.refl _ _).alloc (Nat.le_refl _) _).drew
  have bAB : Below W.heap.size W ((W.alloc (.cells #[] 85)).alloc (.cells #[.int .i64 count, .string data, .int .i64 0, .int .i64 0] 85)).drew := ((((Below.refl W.heap.size W).alloc (Nat.le_refl _) (.cells #[] 85)).alloc (by simp) (.cells #[.int .i64 count, .string data, .int .i64 0, .int .i64 0] 85))).drew
  have bBA : Below W.heap.size W ((W.alloc (.cells #[.int .i64 count, .string data, .int .i64 0, .int .i64 0] 85)).alloc (.cells #[] 85)).drew := ((((Below.refl W.heap.size W).alloc (Nat.le_refl _) (.cells #[.int .i64 count, .string data, .int .i64 0, .int .i64 0] 85)).alloc (by simp) (.cells #[] 85))).drew
  have oA : rE.Own (W.alloc (.cells #[] 85)).drew W.heap.size (.slice (some ⟨W.heap.size, 0, none⟩) 0 0) [] := El.Own.new rE W _ (Nat.le_refl _) #[] [] rfl (by simp) _ _ _ rfl rfl rfl
  have oAB : rE.Own ((W.alloc (.cells #[] 85)).alloc (.cells #[.int .i64 count, .string data, .int .i64 0, .int .i64 0] 85)).drew W.heap.size (.slice (some ⟨W.heap.size, 0, none⟩) 0 0) [] := World.ownsRow.alloc oA _
  have oBA : rE.Own ((W.alloc (.cells #[.int .i64 count, .string data, .int .i64 0, .int .i64 0] 85)).alloc (.cells #[] 85)).drew W.heap.size (.slice (some ⟨W.heap.size + 1, 0, none⟩) 0 0) [] := El.Own.new rE (W.alloc (.cells #[.int .i64 count, .string data, .int .i64 0, .int .i64 0] 85)) _ (by simp) #[] [] rfl (by simp) _ _ _ (by simp) rfl rfl
  have rAB : rE.Rd ((W.alloc (.cells #[] 85)).alloc (.cells #[.int .i64 count, .string data, .int .i64 0, .int .i64 0] 85)).drew (.slice (some ⟨W.heap.size + 1, 0, none⟩) 1 1) [⟨count, data, 0, 0⟩] := rp_new (W.alloc (.cells #[] 85)) ⟨count, data, 0, 0⟩ _ (by simp)
  have rBA : rE.Rd ((W.alloc (.cells #[.int .i64 count, .string data, .int .i64 0, .int .i64 0] 85)).alloc (.cells #[] 85)).drew (.slice (some ⟨W.heap.size, 0, none⟩) 1 1) [⟨count, data, 0, 0⟩] := (rp_new W ⟨count, data, 0, 0⟩ _ rfl).keep ((Below.refl _ _).alloc (Nat.le_refl _) _).drew
  have en8 : (ps ++ [(⟨count, data, 0, 0⟩ : Rp)]).length = ps.length + 1 := by simp
  have hl' := Hl.out
  go_cut [] (fun wx => ∃ (W8 : World) (a8 : Option Addr) (c8 : Nat), wx = W8.setCell ⟨g, 5, none⟩ (.slice a8 (ps.length + 1) c8) ∧ Hid (rE.Own W8 W.heap.size (.slice a8 (ps.length + 1) c8) (ps ++ [⟨count, data, 0, 0⟩])) ∧ Hid (Below W.heap.size W W8))
  case first =>
    refine wp_region_E SS 11 (by kernel_rfl) ?_
    refine wpAnyE_take (i := 1) (v := .pointer (some ⟨g, 5, none⟩)) rfl (by kernel_rfl) (by kernel_rfl) (by kernel_rfl) (by kernel_rfl) (fun _ _ _ h => h) (Or.inl ⟨by rfl, fun W' hW => by go_simp⟩) hS0 ?_
    refine wpAnyE_take (i := 2) (v := .slice av ps.length cv) rfl (by kernel_rfl) (by kernel_rfl) (by kernel_rfl) (by kernel_rfl) (fun _ _ _ h => h) (Or.inl ⟨by rfl, fun W' hW => by have := s1 W' hW; go_simp⟩) hS0 ?_
    refine wpAnyE_take (i := 4) (v := .pointer (some ⟨g, 4, none⟩)) rfl (by kernel_rfl) (by kernel_rfl) (by kernel_rfl) (by kernel_rfl) (fun _ _ _ h => h) (Or.inl ⟨by rfl, fun W' hW => by go_simp⟩) hS0 ?_
    refine wpAnyE_take (i := 5) (v := .int .i64 count) rfl (by kernel_rfl) (by kernel_rfl) (by kernel_rfl) (by kernel_rfl) (fun _ _ _ h => h) (Or.inl ⟨by rfl, fun W' hW => by have := s2 W' hW; go_simp⟩) hS0 ?_
    refine wpAnyE_take (i := 6) (v := .string data) rfl (by kernel_rfl) (by kernel_rfl) (by kernel_rfl) (by kernel_rfl) (fun _ _ _ h => h) (Or.inl ⟨by rfl, fun W' hW => by go_simp⟩) hS0 ?_
    refine wpAnyE_take (i := 7) (v := .agg #[.int .i64 count, .string data, .int .i64 0, .int .i64 0]) rfl (by kernel_rfl) (by kernel_rfl) (by kernel_rfl) (by kernel_rfl) (fun _ _ _ h => h) (Or.inl ⟨by rfl, fun W' hW => by go_simp⟩) hS0 ?_
    refine wpAnyE_ready (rs := [0, 8]) (by kernel_rfl) (by simp) ?_
    refine AllReadyE.cons rfl (fun K hK => ?_) (AllReadyE.cons rfl (fun K hK => ?_) AllReadyE.nil)
    · go_simp
      refine hK.out _ _ (fun _ => FS.out _ ⟨bA.os, bA.tape, bA.output, bA.size, bA.block⟩) ?_
      clear hK K
      refine wpAnyE_ready (rs := [3, 8]) (by kernel_rfl) (by simp) ?_
      refine AllReadyE.cons rfl (fun K hK => ?_) (AllReadyE.cons rfl (fun K hK => ?_) AllReadyE.nil)
      · refine rE.step (w0 := W) ⟨bA.os, bA.tape, bA.output, bA.size, bA.block⟩ rfl (.tmp 33) (.tmp 35) rfl (.slice (some ⟨W.heap.size, 0, none⟩) 0 0) (.slice av ps.length cv) rfl rfl [] ps oA (HR.out _ ⟨bA.os, bA.tape, bA.output, bA.size, bA.block⟩) (by simp; omega) ?_
        intro v6 w6 ho6 hg6 hz6 hb6
        rw [List.nil_append] at ho6
        refine hK.out _ _ (fun _ => FS.out _ hb6) ?_
        clear hK K
        refine wpAnyE_ready (rs := [8]) (by kernel_rfl) (by simp) ?_
        refine AllReadyE.cons rfl (fun K hK => ?_) AllReadyE.nil
        go_simp
        have bX := hb6.alloc hb6.size (.cells #[.int .i64 count, .string data, .int .i64 0, .int .i64 0] 85)
        refine hK.out _ _ (fun _ => FS.out _ bX) ?_
        clear hK K
        refine wpAnyE_ready (rs := [9]) (by kernel_rfl) (by simp) ?_
        refine AllReadyE.cons rfl (fun K hK => ?_) AllReadyE.nil
        refine rE.step (w0 := W) bX rfl (.tmp 36) (.tmp 41) rfl _ _ rfl rfl ps [⟨count, data, 0, 0⟩] (World.ownsRow.alloc ho6 _) (rp_new w6 ⟨count, data, 0, 0⟩ _ rfl) (by simp; omega) ?_
        intro v8 w8 ho8 hg8 hz8 hb8
        obtain ⟨a8, c8, rfl⟩ := ho8.rd.form
        rw [en8] at ho8 ⊢
        refine hK.out _ _ (fun _ => FS.out _ hb8) ?_
        clear hK K
        refine wpAnyE_ready (rs := [10]) (by kernel_rfl) (by simp) ?_
        refine AllReadyE.cons rfl (fun K hK => ?_) AllReadyE.nil
        go_simp
        refine hK.out _ _ (fun _ => FS.out _ hb8) ?_
        clear hK K
        refine wpAnyE_ready (rs := [11]) (by kernel_rfl) (by simp) ?_
        refine AllReadyE.cons rfl (fun K hK => ?_) AllReadyE.nil
        have x1 := s1 _ (FS.out _ hb8)
        have x4 := s3 _ (FS.out _ hb8)
        go_simp
        refine hK.out _ _ (fun h => absurd rfl h) ?_
        clear hK K
        refine wpAnyE_done (by kernel_rfl) ?_ _
        go_wp2_with fail
        go_meet
        exact ⟨_, _, _, rfl, hide ho8, hide hb8⟩
      · go_simp
        refine hK.out _ _ (fun _ => FS.out _ ⟨bAB.os, bAB.tape, bAB.output, bAB.size, bAB.block⟩) ?_
        clear hK K
        refine wpAnyE_ready (rs := [3]) (by kernel_rfl) (by simp) ?_
        refine AllReadyE.cons rfl (fun K hK => ?_) AllReadyE.nil
        refine rE.step (w0 := W) ⟨bAB.os, bAB.tape, bAB.output, bAB.size, bAB.block⟩ rfl (.tmp 33) (.tmp 35) rfl (.slice (some ⟨W.heap.size, 0, none⟩) 0 0) (.slice av ps.length cv) rfl rfl [] ps oAB (HR.out _ ⟨bAB.os, bAB.tape, bAB.output, bAB.size, bAB.block⟩) (by simp; omega) ?_
        intro v6 w6 ho6 hg6 hz6 hb6
        rw [List.nil_append] at ho6
        refine hK.out _ _ (fun _ => FS.out _ hb6) ?_
        clear hK K
        refine wpAnyE_ready (rs := [9]) (by kernel_rfl) (by simp) ?_
        refine AllReadyE.cons rfl (fun K hK => ?_) AllReadyE.nil
        refine rE.step (w0 := W) hb6 rfl (.tmp 36) (.tmp 41) rfl _ _ rfl rfl ps [⟨count, data, 0, 0⟩] ho6 (kept_rd rAB hg6 (by simp [Value.ownBlock])) (by simp; omega) ?_
        intro v8 w8 ho8 hg8 hz8 hb8
        obtain ⟨a8, c8, rfl⟩ := ho8.rd.form
        rw [en8] at ho8 ⊢
        refine hK.out _ _ (fun _ => FS.out _ hb8) ?_
        clear hK K
        refine wpAnyE_ready (rs := [10]) (by kernel_rfl) (by simp) ?_
        refine AllReadyE.cons rfl (fun K hK => ?_) AllReadyE.nil
        go_simp
        refine hK.out _ _ (fun _ => FS.out _ hb8) ?_
        clear hK K
        refine wpAnyE_ready (rs := [11]) (by kernel_rfl) (by simp) ?_
        refine AllReadyE.cons rfl (fun K hK => ?_) AllReadyE.nil
        have x1 := s1 _ (FS.out _ hb8)
        have x4 := s3 _ (FS.out _ hb8)
        go_simp
        refine hK.out _ _ (fun h => absurd rfl h) ?_
        clear hK K
        refine wpAnyE_done (by kernel_rfl) ?_ _
        go_wp2_with fail
        go_meet
        exact ⟨_, _, _, rfl, hide ho8, hide hb8⟩
    · go_simp
      refine hK.out _ _ (fun _ => FS.out _ ⟨bB.os, bB.tape, bB.output, bB.size, bB.block⟩) ?_
      clear hK K
      refine wpAnyE_ready (rs := [0]) (by kernel_rfl) (by simp) ?_
      refine AllReadyE.cons rfl (fun K hK => ?_) AllReadyE.nil
      go_simp
      refine hK.out _ _ (fun _ => FS.out _ ⟨bBA.os, bBA.tape, bBA.output, bBA.size, bBA.block⟩) ?_
      clear hK K
      refine wpAnyE_ready (rs := [3]) (by kernel_rfl) (by simp) ?_
      refine AllReadyE.cons rfl (fun K hK => ?_) AllReadyE.nil
      refine rE.step (w0 := W) ⟨bBA.os, bBA.tape, bBA.output, bBA.size, bBA.block⟩ rfl (.tmp 33) (.tmp 35) rfl (.slice (some ⟨W.heap.size + 1, 0, none⟩) 0 0) (.slice av ps.length cv) rfl rfl [] ps oBA (HR.out _ ⟨bBA.os, bBA.tape, bBA.output, bBA.size, bBA.block⟩) (by simp; omega) ?_
      intro v6 w6 ho6 hg6 hz6 hb6
      rw [List.nil_append] at ho6
      refine hK.out _ _ (fun _ => FS.out _ hb6) ?_
      clear hK K
      refine wpAnyE_ready (rs := [9]) (by kernel_rfl) (by simp) ?_
      refine AllReadyE.cons rfl (fun K hK => ?_) AllReadyE.nil
      refine rE.step (w0 := W) hb6 rfl (.tmp 36) (.tmp 41) rfl _ _ rfl rfl ps [⟨count, data, 0, 0⟩] ho6 (kept_rd rBA hg6 (by simp [Value.ownBlock])) (by simp; omega) ?_
      intro v8 w8 ho8 hg8 hz8 hb8
      obtain ⟨a8, c8, rfl⟩ := ho8.rd.form
      rw [en8] at ho8 ⊢
      refine hK.out _ _ (fun _ => FS.out _ hb8) ?_
      clear hK K
      refine wpAnyE_ready (rs := [10]) (by kernel_rfl) (by simp) ?_
      refine AllReadyE.cons rfl (fun K hK => ?_) AllReadyE.nil
      go_simp
      refine hK.out _ _ (fun _ => FS.out _ hb8) ?_
      clear hK K
      refine wpAnyE_ready (rs := [11]) (by kernel_rfl) (by simp) ?_
      refine AllReadyE.cons rfl (fun K hK => ?_) AllReadyE.nil
      have x1 := s1 _ (FS.out _ hb8)
      have x4 := s3 _ (FS.out _ hb8)
      go_simp
      refine hK.out _ _ (fun h => absurd rfl h) ?_
      clear hK K
      refine wpAnyE_done (by kernel_rfl) ?_ _
      go_wp2_with fail
      go_meet
      exact ⟨_, _, _, rfl, hide ho8, hide hb8⟩
  case rest =>
    obtain ⟨W8, a8, c8, rfl, Ho8, Hb8⟩ := hcut
    clear FS s1 s2 s3 bD hS0 HR bA bB bAB bBA oA oAB oBA rAB rBA en8
    have hlt : g < W.heap.size := heap_lt Hb.out
    have y0 : W8.heap[g]? = some (.cells #[.int .i64 win, .int .i64 pause, .int .i64 times, .int .u16 first, .int .i64 count, .slice av ps.length cv, .bool false] 33) := by rw [Hb8.out.block g hlt]; exact Hb.out
    have y1 : W8.heap[g + 1]? = some (.cells #[.int .i64 0, .int .i64 0, .int .i64 0, .int .u16 0, .int .i64 0, .slice none 0 0, .bool false] 33) := by rw [Hb8.out.block (g + 1) (heap_lt Hr.out)]; exact Hr.out
    have u0 := heap_put (i := 4) (heap_put (i := 5) y0 (.slice a8 (ps.length + 1) c8)) (.int .i64 (count + 1))
    have u1 : ((W8.setCell ⟨g, 5, none⟩ (.slice a8 (ps.length + 1) c8)).setCell ⟨g, 4, none⟩ (.int .i64 (count + 1))).heap[g + 1]? = some (.cells #[.int .i64 0, .int .i64 0, .int .i64 0, .int .u16 0, .int .i64 0, .slice none 0 0, .bool false] 33) := by
      rw [Below.heap_setCell _ _ _ _ (by simp), Below.heap_setCell _ _ _ _ (by simp)]; exact y1
    have HO9 : Hid (rE.Own ((W8.setCell ⟨g, 5, none⟩ (.slice a8 (ps.length + 1) c8)).setCell ⟨g, 4, none⟩ (.int .i64 (count + 1))) W.heap.size (.slice a8 (ps.length + 1) c8) (ps ++ [⟨count, data, 0, 0⟩])) := hide (own_chg Ho8.out fun k cur hk hc => by
      have := Ho8.out.ge k hk
      rw [Below.heap_setCell _ _ _ _ (show k ≠ g by omega), Below.heap_setCell _ _ _ _ (show k ≠ g by omega)])
    have HB9 : Hid (Below w.heap.size w ((W8.setCell ⟨g, 5, none⟩ (.slice a8 (ps.length + 1) c8)).setCell ⟨g, 4, none⟩ (.int .i64 (count + 1)))) := hide (by
      have h1 := HB.out.trans (Hb8.out.mono (by rw [Hz.out, Hg.out]; omega))
      exact (h1.setCell (p := ⟨g, 5, none⟩) (by show w.heap.size ≤ g; rw [Hg.out]; exact Nat.le_refl _) _).setCell (p := ⟨g, 4, none⟩) (by show w.heap.size ≤ g; rw [Hg.out]; exact Nat.le_refl _) _)
    have k4 := (cells_at (heap_put (i := 5) y0 (.slice a8 (ps.length + 1) c8)) 4)
    simp at k4
    obtain ⟨k4, k4f⟩ := k4
    go_upto_region 9 with fail
    have v0 : ((W8.setCell ⟨g, 5, none⟩ (.slice a8 (ps.length + 1) c8)).setCell ⟨g, 4, none⟩ (.int .i64 (count + 1))).heap[g]? = some (.cells #[.int .i64 win, .int .i64 pause, .int .i64 times, .int .u16 first, .int .i64 (count + 1), .slice a8 (ps.length + 1) c8, .bool false] 33) := u0
    have hz9 : g + 1 < ((W8.setCell ⟨g, 5, none⟩ (.slice a8 (ps.length + 1) c8)).setCell ⟨g, 4, none⟩ (.int .i64 (count + 1))).heap.size := heap_lt u1
    clear u0 k4 k4f y0 y1 Ho8 Hb8
    generalize (W8.setCell ⟨g, 5, none⟩ (.slice a8 (ps.length + 1) c8)).setCell ⟨g, 4, none⟩ (.int .i64 (count + 1)) = W9 at *
    obtain ⟨SS, hSS⟩ : ∃ SS : World → Prop, SS = fun W' => W'.heap[g]? = some (.cells #[.int .i64 win, .int .i64 pause, .int .i64 times, .int .u16 first, .int .i64 (count + 1), .slice a8 (ps.length + 1) c8, .bool false] 33) := ⟨_, rfl⟩
    have s0 : ∀ W', SS W' → W'.cell? ⟨g, 0, none⟩ = some (.int .i64 win) := fun W' h => by rw [hSS] at h; exact (cells_at h 0).1
    have s1 : ∀ W', SS W' → W'.cell? ⟨g, 1, none⟩ = some (.int .i64 pause) := fun W' h => by rw [hSS] at h; exact (cells_at h 1).1
    have s2 : ∀ W', SS W' → W'.cell? ⟨g, 2, none⟩ = some (.int .i64 times) := fun W' h => by rw [hSS] at h; exact (cells_at h 2).1
    have s3 : ∀ W', SS W' → W'.cell? ⟨g, 3, none⟩ = some (.int .u16 first) := fun W' h => by rw [hSS] at h; exact (cells_at h 3).1
    have s4 : ∀ W', SS W' → W'.cell? ⟨g, 4, none⟩ = some (.int .i64 (count + 1)) := fun W' h => by rw [hSS] at h; exact (cells_at h 4).1
    have s5 : ∀ W', SS W' → W'.cell? ⟨g, 5, none⟩ = some (.slice a8 (ps.length + 1) c8) := fun W' h => by rw [hSS] at h; exact (cells_at h 5).1
    have s6 : ∀ W', SS W' → W'.cell? ⟨g, 6, none⟩ = some (.bool false) := fun W' h => by rw [hSS] at h; exact (cells_at h 6).1
    have FS : Hid (∀ W', W'.heap[g]? = W9.heap[g]? → SS W') := hide (fun W' hW => by rw [hSS]; show W'.heap[g]? = _; rw [hW]; exact v0)
    have hS0 := FS.out W9.drew rfl
    clear hSS
    have hw64 : IntKind.i64.wrap count = count := by unfold IntKind.wrap; simp [IntKind.bits, IntKind.signed]; omega
    have K32 := hide (fun W' => seq_any win pause times first (count + 1) count (.slice a8 (ps.length + 1) c8) false W' hf ⟨c0, by omega⟩)
    refine wp_region_E SS 8 (by kernel_rfl) ?_
    refine wpAnyE_take (i := 0) (v := .agg #[.int .i64 win, .int .i64 pause, .int .i64 times, .int .u16 first, .int .i64 (count + 1), .slice a8 (ps.length + 1) c8, .bool false]) rfl (by kernel_rfl) (by kernel_rfl) (by kernel_rfl) (by kernel_rfl) (fun _ _ _ h => h) (Or.inl ⟨by rfl, fun W' hW => by have x0 := s0 W' hW; have x1 := s1 W' hW; have x2 := s2 W' hW; have x3 := s3 W' hW; have x4 := s4 W' hW; have x5 := s5 W' hW; have x6 := s6 W' hW; go_simp⟩) hS0 ?_
    refine wpAnyE_take (i := 1) (v := .agg #[.int .i64 win, .int .i64 pause, .int .i64 times, .int .u16 first, .int .i64 (count + 1), .slice a8 (ps.length + 1) c8, .bool false]) rfl (by kernel_rfl) (by kernel_rfl) (by kernel_rfl) (by kernel_rfl) (fun _ _ _ h => h) (Or.inl ⟨by rfl, fun W' hW => by have x0 := s0 W' hW; have x1 := s1 W' hW; have x2 := s2 W' hW; have x3 := s3 W' hW; have x4 := s4 W' hW; have x5 := s5 W' hW; have x6 := s6 W' hW; go_simp⟩) hS0 ?_
    refine wpAnyE_take (i := 2) (v := .pointer (some ⟨g, 4, none⟩)) rfl (by kernel_rfl) (by kernel_rfl) (by kernel_rfl) (by kernel_rfl) (fun _ _ _ h => h) (Or.inl ⟨by rfl, fun W' hW => by go_simp⟩) hS0 ?_
    refine wpAnyE_take (i := 3) (v := .int .i64 (count + 1)) rfl (by kernel_rfl) (by kernel_rfl) (by kernel_rfl) (by kernel_rfl) (fun _ _ _ h => h) (Or.inl ⟨by rfl, fun W' hW => by have x4 := s4 W' hW; go_simp⟩) hS0 ?_
    refine wpAnyE_take (i := 4) (v := .int .i64 count) rfl (by kernel_rfl) (by kernel_rfl) (by kernel_rfl) (by kernel_rfl) (fun _ _ _ h => h) (Or.inl ⟨by rfl, fun W' hW => by go_simp⟩) hS0 ?_
    refine wpAnyE_ready (rs := [5]) (by kernel_rfl) (by simp) ?_
    refine AllReadyE.cons rfl (fun K hK => ?_) AllReadyE.nil
    go_simp
    refine (K32.out _).mono ?_
    rintro e w10 ⟨rfl, rfl⟩
    have bX : Below W9.heap.size W9 (W9.drew.alloc (.cells #[.int .i64 win, .int .i64 pause, .int .i64 times, .int .u16 first, .int .i64 (count + 1), .slice a8 (ps.length + 1) c8, .bool false] 33)) := ((Below.refl W9.heap.size W9).drew).alloc (Nat.le_refl _) _
    have HX := hide bX
    have hX1 : (W9.drew.alloc (.cells #[.int .i64 win, .int .i64 pause, .int .i64 times, .int .u16 first, .int .i64 (count + 1), .slice a8 (ps.length + 1) c8, .bool false] 33)).heap[g + 1]? = some (.cells #[.int .i64 0, .int .i64 0, .int .i64 0, .int .u16 0, .int .i64 0, .slice none 0 0, .bool false] 33) := by rw [bX.block _ hz9]; exact u1
    have hX0 : (W9.drew.alloc (.cells #[.int .i64 win, .int .i64 pause, .int .i64 times, .int .u16 first, .int .i64 (count + 1), .slice a8 (ps.length + 1) c8, .bool false] 33)).heap[g]? = W9.heap[g]? := bX.block _ (by omega)
    have HO10 := hide (HO9.out.keep bX)
    have HB10 := hide (HB9.out.trans (bX.mono HB9.out.size))
    refine hK.out _ _ (fun _ => FS.out _ hX0) ?_
    clear hK K
    generalize W9.drew.alloc (.cells #[.int .i64 win, .int .i64 pause, .int .i64 times, .int .u16 first, .int .i64 (count + 1), .slice a8 (ps.length + 1) c8, .bool false] 33) = W10 at *
    refine wpAnyE_ready (rs := [6]) (by kernel_rfl) (by simp) ?_
    refine AllReadyE.cons rfl (fun K hK => ?_) AllReadyE.nil
    have m0 := (cells_at hX1 0).1
    have f0 := (cells_at hX1 0).2
    have m1 := (cells_at hX1 1).1
    have f1 := (cells_at hX1 1).2
    have m2 := (cells_at hX1 2).1
    have f2 := (cells_at hX1 2).2
    have m3 := (cells_at hX1 3).1
    have f3 := (cells_at hX1 3).2
    have m4 := (cells_at hX1 4).1
    have f4 := (cells_at hX1 4).2
    have m5 := (cells_at hX1 5).1
    have f5 := (cells_at hX1 5).2
    have m6 := (cells_at hX1 6).1
    have f6 := (cells_at hX1 6).2
    simp at m0 m1 m2 m3 m4 m5 m6
    have z7 := (heap_put (i := 6) (heap_put (i := 5) (heap_put (i := 4) (heap_put (i := 3) (heap_put (i := 2) (heap_put (i := 1) (heap_put (i := 0) hX1 (.int .i64 win)) (.int .i64 pause)) (.int .i64 times)) (.int .u16 first)) (.int .i64 (count + 1))) (.slice a8 (ps.length + 1) c8)) (.bool false))
    have HO11 : Hid (rE.Own (((((((W10.setCell ⟨g + 1, 0, none⟩ (.int .i64 win)).setCell ⟨g + 1, 1, none⟩ (.int .i64 pause)).setCell ⟨g + 1, 2, none⟩ (.int .i64 times)).setCell ⟨g + 1, 3, none⟩ (.int .u16 first)).setCell ⟨g + 1, 4, none⟩ (.int .i64 (count + 1))).setCell ⟨g + 1, 5, none⟩ (.slice a8 (ps.length + 1) c8)).setCell ⟨g + 1, 6, none⟩ (.bool false)) W.heap.size (.slice a8 (ps.length + 1) c8) (ps ++ [⟨count, data, 0, 0⟩])) := hide (own_chg HO10.out fun k cur hk hc => by
      have := HO10.out.ge k hk
      have hk1 : k ≠ g + 1 := by rw [Hz.out] at this; omega
      rw [Below.heap_setCell _ _ _ _ hk1, Below.heap_setCell _ _ _ _ hk1, Below.heap_setCell _ _ _ _ hk1, Below.heap_setCell _ _ _ _ hk1, Below.heap_setCell _ _ _ _ hk1, Below.heap_setCell _ _ _ _ hk1, Below.heap_setCell _ _ _ _ hk1])
    have hgw : w.heap.size ≤ g + 1 := by rw [Hg.out]; omega
    have HB11 : Hid (Below w.heap.size w (((((((W10.setCell ⟨g + 1, 0, none⟩ (.int .i64 win)).setCell ⟨g + 1, 1, none⟩ (.int .i64 pause)).setCell ⟨g + 1, 2, none⟩ (.int .i64 times)).setCell ⟨g + 1, 3, none⟩ (.int .u16 first)).setCell ⟨g + 1, 4, none⟩ (.int .i64 (count + 1))).setCell ⟨g + 1, 5, none⟩ (.slice a8 (ps.length + 1) c8)).setCell ⟨g + 1, 6, none⟩ (.bool false))) := hide (((((((HB10.out.setCell (p := ⟨g + 1, 0, none⟩) hgw (.int .i64 win)).setCell (p := ⟨g + 1, 1, none⟩) hgw (.int .i64 pause)).setCell (p := ⟨g + 1, 2, none⟩) hgw (.int .i64 times)).setCell (p := ⟨g + 1, 3, none⟩) hgw (.int .u16 first)).setCell (p := ⟨g + 1, 4, none⟩) hgw (.int .i64 (count + 1))).setCell (p := ⟨g + 1, 5, none⟩) hgw (.slice a8 (ps.length + 1) c8)).setCell (p := ⟨g + 1, 6, none⟩) hgw (.bool false))
    have hX2 : (((((((W10.setCell ⟨g + 1, 0, none⟩ (.int .i64 win)).setCell ⟨g + 1, 1, none⟩ (.int .i64 pause)).setCell ⟨g + 1, 2, none⟩ (.int .i64 times)).setCell ⟨g + 1, 3, none⟩ (.int .u16 first)).setCell ⟨g + 1, 4, none⟩ (.int .i64 (count + 1))).setCell ⟨g + 1, 5, none⟩ (.slice a8 (ps.length + 1) c8)).setCell ⟨g + 1, 6, none⟩ (.bool false)).heap[g]? = W9.heap[g]? := by
      rw [Below.heap_setCell _ _ _ _ (show g ≠ g + 1 by omega), Below.heap_setCell _ _ _ _ (show g ≠ g + 1 by omega), Below.heap_setCell _ _ _ _ (show g ≠ g + 1 by omega), Below.heap_setCell _ _ _ _ (show g ≠ g + 1 by omega), Below.heap_setCell _ _ _ _ (show g ≠ g + 1 by omega), Below.heap_setCell _ _ _ _ (show g ≠ g + 1 by omega), Below.heap_setCell _ _ _ _ (show g ≠ g + 1 by omega)]
      exact hX0
    go_simp
    refine hK.out _ _ (fun _ => FS.out _ hX2) ?_
    clear hK K
    have y0 := (cells_at z7 0).1
    have y1 := (cells_at z7 1).1
    have y2 := (cells_at z7 2).1
    have y3 := (cells_at z7 3).1
    have y4 := (cells_at z7 4).1
    have y5 := (cells_at z7 5).1
    have y6 := (cells_at z7 6).1
    simp at y0 y1 y2 y3 y4 y5 y6
    generalize (((((((W10.setCell ⟨g + 1, 0, none⟩ (.int .i64 win)).setCell ⟨g + 1, 1, none⟩ (.int .i64 pause)).setCell ⟨g + 1, 2, none⟩ (.int .i64 times)).setCell ⟨g + 1, 3, none⟩ (.int .u16 first)).setCell ⟨g + 1, 4, none⟩ (.int .i64 (count + 1))).setCell ⟨g + 1, 5, none⟩ (.slice a8 (ps.length + 1) c8)).setCell ⟨g + 1, 6, none⟩ (.bool false)) = W11 at *
    refine wpAnyE_ready (rs := [7]) (by kernel_rfl) (by simp) ?_
    refine AllReadyE.cons rfl (fun K hK => ?_) AllReadyE.nil
    go_simp
    refine hK.out _ _ (fun _ => FS.out _ hX2) ?_
    clear hK K
    refine wpAnyE_ready (rs := [8]) (by kernel_rfl) (by simp) ?_
    refine AllReadyE.cons rfl (fun K hK => ?_) AllReadyE.nil
    go_simp
    refine hK.out _ _ (fun h => absurd rfl h) ?_
    clear hK K
    refine wpAnyE_done (by kernel_rfl) ?_ _
    clear m0 m1 m2 m3 m4 m5 m6 f0 f1 f2 f3 f4 f5 f6 z7 hX0 hX1 HX HO10 HB10 u1 v0
    go_wp2_with fail
    refine bodyPost_ret (v := .tuple #[.agg #[.int .i64 win, .int .i64 pause, .int .i64 times, .int .u16 first, .int .i64 (count + 1), .slice a8 (ps.length + 1) c8, .bool false], .int .u16 (sq first count), .int .i64 0]) (by simp [results, Try.results13, go_sem, y0, y1, y2, y3, y4, y5, y6]) rfl ?_
    exact ⟨a8, c8, rfl, HO11.out.mono (by rw [Hz.out, Hg.out]; omega), HB11.out⟩
end Go.Proofs.Yteihajppgooadaa
