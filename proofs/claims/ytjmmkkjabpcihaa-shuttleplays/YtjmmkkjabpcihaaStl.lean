/- The law's tells: all that is told is the document's. -/
import Derived.Test.YtjmmkkjabpcihaaSrt
namespace Go.Proofs.Ytjmmkkjabpcihaa
open Go.RowKit
set_option linter.unusedVariables false

structure Tl (w0 w : World) (g h : Nat) (S : Sh) : Prop where
  sh : Shb w g S
  bx : w.heap[h]? = some (.cells (shC S) 33)
  bel : Below w0.heap.size w0 w
theorem Tl.keep {w0 w w' : World} {g h : Nat} {S : Sh} (x : Tl w0 w g h S) (hb : Below w.heap.size w w') : Tl w0 w' g h S := ⟨x.sh.keep hb, (hb.block _ (heap_lt x.bx)).trans x.bx, x.bel.trans (hb.mono x.bel.size)⟩
theorem Tl.drew {w0 w : World} {g h : Nat} {S : Sh} (x : Tl w0 w g h S) : Tl w0 w.drew g h S := ⟨x.sh.stay rfl, x.bx, x.bel.drew⟩
set_option maxRecDepth 100000 in
set_option maxHeartbeats 1000000 in
theorem tells_any {w : World} {g : Nat} {S : Sh} (hS : Shb w g S) : Calls Try.prog 22 #[.pointer (some ⟨g, 0, none⟩), .agg #[.int .i64 S.n, .int .i64 S.pt, .int .i64 S.pl, .int .i64 S.st, .int .i64 S.was, .int .i64 S.tk, .int .i64 S.jt, .int .i64 S.jf, .int .i64 S.jo, .int .i64 S.dn]] w fun e w' => e = .returned (.bool true) ∧ Below w.heap.size w w' := by
  obtain ⟨h, hh⟩ : ∃ h, w.heap.size = h := ⟨_, rfl⟩
  have HT : Hid (Tl w (w.alloc (.cells #[.int .i64 S.n, .int .i64 S.pt, .int .i64 S.pl, .int .i64 S.st, .int .i64 S.was, .int .i64 S.tk, .int .i64 S.jt, .int .i64 S.jf, .int .i64 S.jo, .int .i64 S.dn] 33)) g h S) := hide (by
    have hb : Below w.heap.size w (w.alloc (.cells #[.int .i64 S.n, .int .i64 S.pt, .int .i64 S.pl, .int .i64 S.st, .int .i64 S.was, .int .i64 S.tk, .int .i64 S.jt, .int .i64 S.jf, .int .i64 S.jo, .int .i64 S.dn] 33)) := (Below.refl _ _).alloc (Nat.le_refl _) _
    exact ⟨hS.keep hb, by rw [← hh]; exact heap_new _ _, hb⟩)
  have Hh := hide hh
  clear hh hS
  have K23 : Hid (∀ W, Tl w W g h S → Calls Try.prog 23 #[.pointer (some ⟨g, 0, none⟩)] W fun e w' => e = .returned (.int .i64 S.st) ∧ w' = W) := hide (fun W x => state_any x.sh)
  have K24 : Hid (∀ W, Tl w W g h S → Calls Try.prog 24 #[.pointer (some ⟨g, 0, none⟩)] W fun e w' => e = .returned (.int .i64 S.pl) ∧ w' = W) := hide (fun W x => place_any x.sh)
  have K25 : Hid (∀ W, Tl w W g h S → Calls Try.prog 25 #[.pointer (some ⟨g, 0, none⟩)] W fun e w' => e = .returned (.int .i64 S.load) ∧ w' = W) := hide (fun W x => load_any x.sh)
  have K26 : Hid (∀ W, Tl w W g h S → Calls Try.prog 26 #[.pointer (some ⟨g, 0, none⟩)] W fun e w' => e = .returned (.int .i64 S.dn) ∧ w' = W) := hide (fun W x => done_any x.sh)
  have K33 : Hid (∀ W, Calls Try.prog 33 #[.agg #[.int .i64 S.n, .int .i64 S.pt, .int .i64 S.pl, .int .i64 S.st, .int .i64 S.was, .int .i64 S.tk, .int .i64 S.jt, .int .i64 S.jf, .int .i64 S.jo, .int .i64 S.dn]] W fun e w' => e = .returned (.int .i64 S.load) ∧ Below W.heap.size W w') := hide (fun W => rload_any S W)
  have r1 : (S.st == S.st) = true := beq_self_eq_true _
  have r2 : (S.pl == S.pl) = true := beq_self_eq_true _
  have r3 : (S.load == S.load) = true := beq_self_eq_true _
  have r4 : (S.dn == S.dn) = true := beq_self_eq_true _
  go_enter Try.func22, Try.ntmps22
  go_upto_region 1 with fail
  rw [Hh.out]
  generalize w.alloc (.cells #[.int .i64 S.n, .int .i64 S.pt, .int .i64 S.pl, .int .i64 S.st, .int .i64 S.was, .int .i64 S.tk, .int .i64 S.jt, .int .i64 S.jf, .int .i64 S.jo, .int .i64 S.dn] 33) = W at *
  obtain ⟨S0, hS⟩ : ∃ S0 : World → Prop, ∀ W, S0 W ↔ W.heap[h]? = some (.cells (shC S) 33) := ⟨_, fun _ => Iff.rfl⟩
  have SD : Hid (∀ W, S0 W → W.heap[h]? = some (.cells (shC S) 33)) := hide (fun W h => (hS W).1 h)
  have SI : Hid (∀ W, Tl w W g h S → S0 W) := hide (fun W x => (hS W).2 x.bx)
  have HTd := hide HT.out.drew
  clear hS HT
  refine wp_region_held_drew (S := S0) (by kernel_rfl) (SI.out _ HTd.out) (fun hS0 => ?_)
  refine wpAnyH_take (i := 0) (v := .pointer (some ⟨g, 0, none⟩)) rfl (by kernel_rfl) (by kernel_rfl) (by kernel_rfl) (fun _ _ _ h => h) (Or.inl ⟨by rfl, fun W' hW => by go_simp⟩) hS0 ?_
  refine wpAnyH_take (i := 2) (v := .pointer (some ⟨h, 3, none⟩)) rfl (by kernel_rfl) (by kernel_rfl) (by kernel_rfl) (fun _ _ _ h => h) (Or.inl ⟨by rfl, fun W' hW => by go_simp⟩) hS0 ?_
  refine wpAnyH_take (i := 3) (v := .int .i64 S.st) rfl (by kernel_rfl) (by kernel_rfl) (by kernel_rfl) (fun _ _ _ h => h) (Or.inl ⟨by rfl, fun W' hW => by obtain ⟨z0, z1, z2, z3, z4, z5, z6, z7, z8, z9, zf⟩ := cells10 (SD.out W' hW); go_simp⟩) hS0 ?_
  refine wpAnyH_ready (rs := [1]) (by kernel_rfl) (by simp) ?_
  refine AllReadyH.cons rfl (fun K hK => ?_) AllReadyH.nil
  go_simp
  go_at_call 23
  refine (K23.out _ HTd.out).mono ?_
  rintro e W6 ⟨rfl, hW⟩
  have hW' := hW.symm
  clear hW
  subst hW'
  go_simp
  refine hK.out _ _ (SI.out _ HTd.out) (fun _ => ?_)
  clear hK K
  refine wpAnyH_ready (rs := [4]) (by kernel_rfl) (by simp) ?_
  refine AllReadyH.cons rfl (fun K hK => ?_) AllReadyH.nil
  go_simp
  refine hK.out _ _ (SI.out _ HTd.out) (fun _ => ?_)
  clear hK K
  refine wpAnyH_ready (rs := [5]) (by kernel_rfl) (by simp) ?_
  refine AllReadyH.cons rfl (fun K hK => ?_) AllReadyH.nil
  go_simp
  refine hK.out _ _ (SI.out _ HTd.out) (fun _ => ?_)
  clear hK K
  refine wpAnyH_take (i := 6) (v := .pointer (some ⟨g, 0, none⟩)) rfl (by kernel_rfl) (by kernel_rfl) (by kernel_rfl) (fun _ _ _ h => h) (Or.inl ⟨by kernel_rfl, fun W' hW => by go_simp⟩) (SI.out _ HTd.out) ?_
  refine wpAnyH_take (i := 8) (v := .pointer (some ⟨h, 2, none⟩)) rfl (by kernel_rfl) (by kernel_rfl) (by kernel_rfl) (fun _ _ _ h => h) (Or.inl ⟨by kernel_rfl, fun W' hW => by go_simp⟩) (SI.out _ HTd.out) ?_
  refine wpAnyH_take (i := 9) (v := .int .i64 S.pl) rfl (by kernel_rfl) (by kernel_rfl) (by kernel_rfl) (fun _ _ _ h => h) (Or.inl ⟨by kernel_rfl, fun W' hW => by obtain ⟨z0, z1, z2, z3, z4, z5, z6, z7, z8, z9, zf⟩ := cells10 (SD.out W' hW); go_simp⟩) (SI.out _ HTd.out) ?_
  refine wpAnyH_ready (rs := [7]) (by kernel_rfl) (by simp) ?_
  refine AllReadyH.cons rfl (fun K hK => ?_) AllReadyH.nil
  go_simp
  go_at_call 24
  refine (K24.out _ HTd.out).mono ?_
  rintro e W6 ⟨rfl, hW⟩
  have hW' := hW.symm
  clear hW
  subst hW'
  go_simp
  refine hK.out _ _ (SI.out _ HTd.out) (fun _ => ?_)
  clear hK K
  refine wpAnyH_ready (rs := [10]) (by kernel_rfl) (by simp) ?_
  refine AllReadyH.cons rfl (fun K hK => ?_) AllReadyH.nil
  go_simp
  refine hK.out _ _ (SI.out _ HTd.out) (fun _ => ?_)
  clear hK K
  refine wpAnyH_ready (rs := [11]) (by kernel_rfl) (by simp) ?_
  refine AllReadyH.cons rfl (fun K hK => ?_) AllReadyH.nil
  go_simp
  refine hK.out _ _ (SI.out _ HTd.out) (fun _ => ?_)
  clear hK K
  refine wpAnyH_ready (rs := [12]) (by kernel_rfl) (by simp) ?_
  refine AllReadyH.cons rfl (fun K hK => ?_) AllReadyH.nil
  go_simp
  refine hK.out _ _ (SI.out _ HTd.out) (fun _ => ?_)
  clear hK K
  refine wpAnyH_take (i := 13) (v := .pointer (some ⟨g, 0, none⟩)) rfl (by kernel_rfl) (by kernel_rfl) (by kernel_rfl) (fun _ _ _ h => h) (Or.inl ⟨by kernel_rfl, fun W' hW => by go_simp⟩) (SI.out _ HTd.out) ?_
  refine wpAnyH_take (i := 15) (v := .agg #[.int .i64 S.n, .int .i64 S.pt, .int .i64 S.pl, .int .i64 S.st, .int .i64 S.was, .int .i64 S.tk, .int .i64 S.jt, .int .i64 S.jf, .int .i64 S.jo, .int .i64 S.dn]) rfl (by kernel_rfl) (by kernel_rfl) (by kernel_rfl) (fun _ _ _ h => h) (Or.inl ⟨by kernel_rfl, fun W' hW => by obtain ⟨z0, z1, z2, z3, z4, z5, z6, z7, z8, z9, zf⟩ := cells10 (SD.out W' hW); go_simp⟩) (SI.out _ HTd.out) ?_
  refine wpAnyH_ready (rs := [14]) (by kernel_rfl) (by simp) ?_
  refine AllReadyH.cons rfl (fun K hK => ?_) AllReadyH.nil
  go_simp
  go_at_call 25
  refine (K25.out _ HTd.out).mono ?_
  rintro e W6 ⟨rfl, hW⟩
  have hW' := hW.symm
  clear hW
  subst hW'
  go_simp
  refine hK.out _ _ (SI.out _ HTd.out) (fun _ => ?_)
  clear hK K
  refine wpAnyH_ready (rs := [16]) (by kernel_rfl) (by simp) ?_
  refine AllReadyH.cons rfl (fun K hK => ?_) AllReadyH.nil
  go_simp
  go_at_call 33
  refine (K33.out _).mono ?_
  rintro e W6 ⟨rfl, hb⟩
  have HTe := hide (HTd.out.keep hb)
  clear hb
  go_simp
  refine hK.out _ _ (SI.out _ HTe.out) (fun _ => ?_)
  clear hK K
  refine wpAnyH_ready (rs := [17]) (by kernel_rfl) (by simp) ?_
  refine AllReadyH.cons rfl (fun K hK => ?_) AllReadyH.nil
  go_simp
  refine hK.out _ _ (SI.out _ HTe.out) (fun _ => ?_)
  clear hK K
  refine wpAnyH_ready (rs := [18]) (by kernel_rfl) (by simp) ?_
  refine AllReadyH.cons rfl (fun K hK => ?_) AllReadyH.nil
  go_simp
  refine hK.out _ _ (SI.out _ HTe.out) (fun _ => ?_)
  clear hK K
  refine wpAnyH_ready (rs := [19]) (by kernel_rfl) (by simp) ?_
  refine AllReadyH.cons rfl (fun K hK => ?_) AllReadyH.nil
  go_simp
  refine hK.out _ _ (SI.out _ HTe.out) (fun _ => ?_)
  clear hK K
  refine wpAnyH_take (i := 20) (v := .pointer (some ⟨g, 0, none⟩)) rfl (by kernel_rfl) (by kernel_rfl) (by kernel_rfl) (fun _ _ _ h => h) (Or.inl ⟨by kernel_rfl, fun W' hW => by go_simp⟩) (SI.out _ HTe.out) ?_
  refine wpAnyH_take (i := 22) (v := .pointer (some ⟨h, 9, none⟩)) rfl (by kernel_rfl) (by kernel_rfl) (by kernel_rfl) (fun _ _ _ h => h) (Or.inl ⟨by kernel_rfl, fun W' hW => by go_simp⟩) (SI.out _ HTe.out) ?_
  refine wpAnyH_take (i := 23) (v := .int .i64 S.dn) rfl (by kernel_rfl) (by kernel_rfl) (by kernel_rfl) (fun _ _ _ h => h) (Or.inl ⟨by kernel_rfl, fun W' hW => by obtain ⟨z0, z1, z2, z3, z4, z5, z6, z7, z8, z9, zf⟩ := cells10 (SD.out W' hW); go_simp⟩) (SI.out _ HTe.out) ?_
  refine wpAnyH_ready (rs := [21]) (by kernel_rfl) (by simp) ?_
  refine AllReadyH.cons rfl (fun K hK => ?_) AllReadyH.nil
  go_simp
  go_at_call 26
  refine (K26.out _ HTe.out).mono ?_
  rintro e W6 ⟨rfl, hW⟩
  have hW' := hW.symm
  clear hW
  subst hW'
  go_simp
  refine hK.out _ _ (SI.out _ HTe.out) (fun _ => ?_)
  clear hK K
  refine wpAnyH_ready (rs := [24]) (by kernel_rfl) (by simp) ?_
  refine AllReadyH.cons rfl (fun K hK => ?_) AllReadyH.nil
  go_simp
  refine hK.out _ _ (SI.out _ HTe.out) (fun _ => ?_)
  clear hK K
  refine wpAnyH_ready (rs := [25]) (by kernel_rfl) (by simp) ?_
  refine AllReadyH.cons rfl (fun K hK => ?_) AllReadyH.nil
  go_simp
  refine hK.out _ _ (SI.out _ HTe.out) (fun _ => ?_)
  clear hK K
  refine wpAnyH_ready (rs := [26]) (by kernel_rfl) (by simp) ?_
  refine AllReadyH.cons rfl (fun K hK => ?_) AllReadyH.nil
  go_simp
  refine hK.out _ _ (SI.out _ HTe.out) (fun _ => ?_)
  clear hK K
  refine wpAnyH_done (by kernel_rfl) ?_ _
  go_wp2_with fail
  go_ret
  exact ⟨by first | rfl | simp, HTe.out.bel⟩
end Go.Proofs.Ytjmmkkjabpcihaa
