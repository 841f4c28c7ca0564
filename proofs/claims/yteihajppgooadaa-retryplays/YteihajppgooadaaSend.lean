/- Whether a piece is due; that it is sent. -/
import Derived.Test.YteihajppgooadaaSput
namespace Go.Proofs.Yteihajppgooadaa
open Go.RowKit
set_option linter.unusedVariables false

set_option maxHeartbeats 1000000 in
theorem due_any (b o : Nat) (sent ago pause : Int) (w : World) (h2 : w.cell? ⟨b, o + 2, none⟩ = some (.int .i64 sent)) (h3 : w.cell? ⟨b, o + 3, none⟩ = some (.int .i64 ago)) :
    Calls Try.prog 33 #[.pointer (some ⟨b, o, none⟩), .int .i64 pause] w fun e w' => e = .returned (.bool (decide (sent = 0 ∨ ago = pause))) ∧ w' = w := by
  by_cases h : sent = 0
  · rw [decide_eq_true (.inl h)]
    subst h
    go_enter Try.func33, Try.ntmps33
    go_wp2_with fail
    go_ret
    exact ⟨rfl, rfl⟩
  · by_cases h' : ago = pause
    · rw [decide_eq_true (.inr h')]
      subst h'
      go_enter Try.func33, Try.ntmps33
      go_wp2_with fail
      go_ret
      exact ⟨by simp, rfl⟩
    · rw [decide_eq_false (fun hh => hh.elim h h')]
      go_enter Try.func33, Try.ntmps33
      go_wp2_with fail
      go_ret
      exact ⟨by simp [h, h'], rfl⟩

theorem Chg.alloc (g : Nat) (v : Value) (w : World) (o : Obj) : Chg g v w (w.alloc o) := Chg.of_below ((Below.refl _ _).alloc (Nat.le_refl _) o)
theorem cells_at {w : World} {g : Nat} {C : Array Value} {t : TypeId} (h : w.heap[g]? = some (.cells C t)) (i : Nat) : w.cell? ⟨g, i, none⟩ = C[i]? ∧ w.frozen? ⟨g, i, none⟩ = false := by
  constructor
  · unfold World.cell?
    simp only [h]
    rfl
  · unfold World.frozen?
    simp [h]

set_option maxRecDepth 100000 in
set_option maxHeartbeats 4000000 in
theorem send_any {w : World} {g B b n c i : Nat} {S : Sd} (H : Snd w g B S) (hv : S.v = .slice (some ⟨b, 0, none⟩) n c) (p : Pc) (hp : S.ps[i]? = some p) (hs : 0 ≤ p.sent ∧ p.sent ≤ 1000) (hl : p.d.length ≤ 256) :
    Calls Try.prog 34 #[.pointer (some ⟨b, i * 4, none⟩)] w fun e w' => ∃ v1, e = .returned (.agg #[.int .u16 (sq S.first p.n), v1]) ∧ Snd w' g B { S with ps := S.ps.set i { p with sent := p.sent + 1, ago := 0 } } ∧ Chg g S.v w w' ∧ bytesE.Own w' w.heap.size v1 p.d := by
  obtain ⟨s0, s1⟩ := hs
  have hbA : Below w.heap.size w (w.alloc (.cells #[.int .u16 0, .slice none 0 0] 64)) := (Below.refl _ _).alloc (Nat.le_refl _) _
  have HA := H.keep hbA
  have hL := HA.lies
  rw [hv] at hL
  obtain ⟨e0, e1, e2, e3, ef⟩ := hL.at i p hp
  have f2 := ef 2 (by omega)
  have f3 := ef 3 (by omega)
  obtain ⟨p1, hp1⟩ : ∃ p1 : Pc, p1 = { p with sent := p.sent + 1 } := ⟨_, rfl⟩
  obtain ⟨p2, hp2⟩ : ∃ p2 : Pc, p2 = { p with sent := p.sent + 1, ago := 0 } := ⟨_, rfl⟩
  have H1 := HA.putP hv i 2 p p1 hp (.int .i64 (p.sent + 1)) (by omega) (by rw [hp1]; rfl) (by rw [hp1]; exact ⟨rfl, rfl⟩)
  have hi : i < S.ps.length := (List.getElem?_eq_some_iff.1 hp).1
  have H2 := H1.putP hv i 3 p1 p2 (by simp [hi]) (.int .i64 0) (by omega) (by rw [hp1, hp2]; rfl) (by rw [hp1, hp2]; exact ⟨rfl, rfl⟩)
  simp only [List.set_set] at H2
  have hlt := heap_lt H.box
  have hbn : b ≠ w.heap.size := fun e => by
    have := H.lies.row.lt b (by rw [hv]; rfl)
    omega
  have hr : (((w.alloc (.cells #[.int .u16 0, .slice none 0 0] 64)).setCell ⟨b, i * 4 + 2, none⟩ (.int .i64 (p.sent + 1))).setCell ⟨b, i * 4 + 3, none⟩ (.int .i64 0)).heap[w.heap.size]? = some (.cells #[.int .u16 0, .slice none 0 0] 64) := by
    rw [Below.heap_setCell _ _ _ _ (fun e => hbn e.symm), Below.heap_setCell _ _ _ _ (fun e => hbn e.symm)]
    show (w.heap.push _)[w.heap.size]? = _
    simp
  have C2 : Chg g S.v w (((w.alloc (.cells #[.int .u16 0, .slice none 0 0] 64)).setCell ⟨b, i * 4 + 2, none⟩ (.int .i64 (p.sent + 1))).setCell ⟨b, i * 4 + 3, none⟩ (.int .i64 0)) := by
    rw [hv]
    exact ((Chg.alloc _ _ _ _).trans' (chg_row _ _ _ _ _ _ _)).trans' (chg_row _ _ _ _ _ _ _)
  rw [← hp2]
  have Hd : Hid (p2.d = p.d ∧ p2.v = p.v ∧ p2.n = p.n) := hide (by rw [hp2]; exact ⟨rfl, rfl, rfl⟩)
  have HC := hide C2
  have HR := hide hr
  have HH2 := hide H2
  have Hv := hide hv
  have Hi := hide hi
  have Hl := hide hl
  have Hw := hide H
  have Hpe := hide hp
  clear H HA hL hp H1 H2 hr C2 hlt e0 e1 hp2 hbA hp1 hv ef
  go_enter Try.func34, Try.ntmps34
  go_upto_region 3 with fail
  generalize ((w.alloc (.cells #[.int .u16 0, .slice none 0 0] 64)).setCell ⟨b, i * 4 + 2, none⟩ (.int .i64 (p.sent + 1))).setCell ⟨b, i * 4 + 3, none⟩ (.int .i64 0) = W at *
  have hL := HH2.out.lies
  simp only [Hv.out] at hL
  obtain ⟨e0, e1, _, _, _⟩ := hL.at i p2 (by have := Hi.out; simp [this])
  have hdat := HH2.out.lies.dat p2 (by have := Hi.out; exact List.mem_of_getElem? (i := i) (by simp [this]))
  rw [Hd.out.2.1, Hd.out.1] at hdat
  rw [Hd.out.2.2] at e0
  have e1' : W.cell? ⟨b, i * 4 + 1, none⟩ = some p.v := by rw [e1]; exact congrArg some Hd.out.2.1
  have hbW : b < W.heap.size := by have := cell_lt e0; exact this
  obtain ⟨sp, hsp⟩ : ∃ sp, sq S.first p.n = sp := ⟨_, rfl⟩
  rw [hsp] at e0
  have Hsp := hide hsp
  clear hsp
  obtain ⟨SS, hSS⟩ : ∃ SS : World → Prop, SS = fun W' => W'.cell? ⟨b, i * 4, none⟩ = some (.int .u16 sp) ∧ W'.cell? ⟨b, i * 4 + 1, none⟩ = some p.v := ⟨_, rfl⟩
  have t1 : ∀ W', SS W' → W'.cell? ⟨b, i * 4, none⟩ = some (.int .u16 sp) := fun W' h => by rw [hSS] at h; exact h.1
  have t2 : ∀ W', SS W' → W'.cell? ⟨b, i * 4 + 1, none⟩ = some p.v := fun W' h => by rw [hSS] at h; exact h.2
  have FS : Hid (∀ W', Below W.heap.size W W' → SS W') := hide (fun W' hW => by
    rw [hSS]
    exact ⟨by rw [hW.cell hbW]; exact e0, by rw [hW.cell hbW]; exact e1'⟩)
  clear hSS
  have bD : Below W.heap.size W W.drew := (Below.refl _ _).drew
  have hS0 := FS.out _ bD
  have K31 := hide (copy_any (hdat.rd.keep bD) (by have := Hl.out; omega))
  clear e0 e1 e1' hL hdat e2 e3 f2 f3
  refine wp_region_E SS 10 (by kernel_rfl) ?_
  refine wpAnyE_take (i := 0) (v := .pointer (some ⟨b, i * 4, none⟩)) rfl (by kernel_rfl) (by kernel_rfl) (by kernel_rfl) (by kernel_rfl) (fun _ _ _ h => h) (Or.inl ⟨by rfl, fun W' hW => by go_simp⟩) hS0 ?_
  refine wpAnyE_take (i := 1) (v := .pointer (some ⟨b, i * 4, none⟩)) rfl (by kernel_rfl) (by kernel_rfl) (by kernel_rfl) (by kernel_rfl) (fun _ _ _ h => h) (Or.inl ⟨by rfl, fun W' hW => by go_simp⟩) hS0 ?_
  refine wpAnyE_take (i := 2) (v := .pointer (some ⟨b, i * 4, none⟩)) rfl (by kernel_rfl) (by kernel_rfl) (by kernel_rfl) (by kernel_rfl) (fun _ _ _ h => h) (Or.inl ⟨by rfl, fun W' hW => by go_simp⟩) hS0 ?_
  refine wpAnyE_take (i := 3) (v := .int .u16 sp) rfl (by kernel_rfl) (by kernel_rfl) (by kernel_rfl) (by kernel_rfl) (fun _ _ _ h => h) (Or.inl ⟨by rfl, fun W' hW => by have := t1 W' hW; go_simp⟩) hS0 ?_
  refine wpAnyE_take (i := 4) (v := .pointer (some ⟨b, i * 4, none⟩)) rfl (by kernel_rfl) (by kernel_rfl) (by kernel_rfl) (by kernel_rfl) (fun _ _ _ h => h) (Or.inl ⟨by rfl, fun W' hW => by go_simp⟩) hS0 ?_
  refine wpAnyE_take (i := 5) (v := .pointer (some ⟨b, i * 4, none⟩)) rfl (by kernel_rfl) (by kernel_rfl) (by kernel_rfl) (by kernel_rfl) (fun _ _ _ h => h) (Or.inl ⟨by rfl, fun W' hW => by go_simp⟩) hS0 ?_
  refine wpAnyE_take (i := 6) (v := .pointer (some ⟨b, i * 4 + 1, none⟩)) rfl (by kernel_rfl) (by kernel_rfl) (by kernel_rfl) (by kernel_rfl) (fun _ _ _ h => h) (Or.inl ⟨by rfl, fun W' hW => by go_simp⟩) hS0 ?_
  refine wpAnyE_take (i := 7) (v := p.v) rfl (by kernel_rfl) (by kernel_rfl) (by kernel_rfl) (by kernel_rfl) (fun _ _ _ h => h) (Or.inl ⟨by rfl, fun W' hW => by have := t2 W' hW; go_simp⟩) hS0 ?_
  refine wpAnyE_ready (rs := [8]) (by kernel_rfl) (by simp) ?_
  refine AllReadyE.cons rfl (fun K hK => ?_) AllReadyE.nil
  go_simp
  refine K31.out.mono ?_
  rintro e w1 ⟨v1, rfl, ho1, hb1⟩
  have bW1 : Below W.heap.size W w1 := ⟨hb1.os, hb1.tape, hb1.output, hb1.size, hb1.block⟩
  have ho1' : bytesE.Own w1 W.heap.size v1 p.d := ho1
  clear ho1 hb1 K31
  obtain ⟨a1, cc1, rfl⟩ := ho1'.rd.form
  refine hK.out _ _ (fun _ => FS.out _ bW1) ?_
  clear hK K
  refine wpAnyE_ready (rs := [9]) (by kernel_rfl) (by simp) ?_
  refine AllReadyE.cons rfl (fun K hK => ?_) AllReadyE.nil
  go_simp
  refine hK.out _ _ (fun _ => FS.out _ bW1) ?_
  clear hK K
  refine wpAnyE_ready (rs := [10]) (by kernel_rfl) (by simp) ?_
  refine AllReadyE.cons rfl (fun K hK => ?_) AllReadyE.nil
  have hrW : w1.heap[w.heap.size]? = some (.cells #[.int .u16 0, .slice none 0 0] 64) := by rw [bW1.block _ (heap_lt HR.out)]; exact HR.out
  have r0 := cells_at hrW 0
  have r1 := cells_at hrW 1
  simp at r0 r1
  obtain ⟨r0, r0f⟩ := r0
  obtain ⟨r1, r1f⟩ := r1
  have z1 := heap_put (i := 1) (heap_put (i := 0) hrW (.int .u16 sp)) (.slice a1 p.d.length cc1)
  have HX : Hid (Snd ((w1.setCell ⟨w.heap.size, 0, none⟩ (.int .u16 sp)).setCell ⟨w.heap.size, 1, none⟩ (.slice a1 p.d.length cc1)) g B { S with ps := S.ps.set i p2 } ∧ Chg g S.v w ((w1.setCell ⟨w.heap.size, 0, none⟩ (.int .u16 sp)).setCell ⟨w.heap.size, 1, none⟩ (.slice a1 p.d.length cc1)) ∧ bytesE.Own ((w1.setCell ⟨w.heap.size, 0, none⟩ (.int .u16 sp)).setCell ⟨w.heap.size, 1, none⟩ (.slice a1 p.d.length cc1)) w.heap.size (.slice a1 p.d.length cc1) p.d) := hide (by
    have hst : ∀ k, k ≠ w.heap.size → ((w1.setCell ⟨w.heap.size, 0, none⟩ (.int .u16 sp)).setCell ⟨w.heap.size, 1, none⟩ (.slice a1 p.d.length cc1)).heap[k]? = w1.heap[k]? := fun k hk => by
      rw [Below.heap_setCell _ _ _ _ hk, Below.heap_setCell _ _ _ _ hk]
    have hWs : w.heap.size < W.heap.size := heap_lt HR.out
    refine ⟨(HH2.out.keep bW1).stay fun k _ hk => hst k fun e => ?_, ?_, ?_⟩
    · rcases hk with hk | hk | ⟨q, hq, hk⟩
      · have := heap_lt Hw.out.box; omega
      · have := Hw.out.lies.row.lt k hk; omega
      · have hq' : ∃ q' ∈ S.ps, q'.v = q.v := by
          have hq0 : q ∈ S.ps.set i p2 := hq
          rcases List.mem_or_eq_of_mem_set hq0 with h | h
          · exact ⟨q, h, rfl⟩
          · refine ⟨S.ps[i]'Hi.out, List.getElem_mem _, ?_⟩
            rw [h, Hd.out.2.1]
            have := Hpe.out
            rw [List.getElem?_eq_getElem Hi.out] at this
            simp only [Option.some.injEq] at this
            rw [this]
        obtain ⟨q', hq', ev⟩ := hq'
        have := (Hw.out.lies.dat q' hq').lt k (by rw [ev]; exact hk)
        omega
    · have x := HC.out.trans' (Chg.of_below bW1)
      exact ⟨x.os, x.tape, x.output, by simpa [World.setCell] using x.size, fun k hk h1 h2 => (hst k (by omega)).trans (x.block k hk h1 h2)⟩
    · exact own_stay (ho1'.mono (by omega)) fun k hk _ => hst k (by have := ho1'.ge k hk; omega))
  have y0 := (cells_at z1 0).1
  have y1 := (cells_at z1 1).1
  simp at y0 y1
  go_simp
  refine hK.out _ _ (fun h => absurd rfl h) ?_
  clear hK K
  refine wpAnyE_done (by kernel_rfl) ?_ _
  clear hS0 z1 hrW r0 r0f r1 r1f ho1' bW1 bD FS t1 t2
  generalize (w1.setCell ⟨w.heap.size, 0, none⟩ (.int .u16 sp)).setCell ⟨w.heap.size, 1, none⟩ (.slice a1 p.d.length cc1) = W6 at *
  go_wp2_with fail
  refine bodyPost_ret (v := .agg #[.int .u16 sp, .slice a1 p.d.length cc1]) (by simp [results, Try.results34, go_sem, y0, y1]) rfl ?_
  exact ⟨_, by rw [Hsp.out], HX.out⟩
end Go.Proofs.Yteihajppgooadaa
