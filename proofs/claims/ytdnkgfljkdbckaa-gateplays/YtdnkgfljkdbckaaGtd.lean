/- find, remove, Accept, Cancel. -/
import Derived.Test.YtdnkgfljkdbckaaGdl
namespace Go.Proofs.Ytdnkgfljkdbckaa
open Go.Conc Go.RowKit
set_option linter.unusedVariables false

theorem frm_gf {w w' : World} {g c : Nat} {vw : Value} (h : Frm (fun k => k = c) w w') : Frm (gf g c vw) w w' := h.mono fun k _ e => .inr (.inl e)

set_option maxRecDepth 100000 in
set_option maxHeartbeats 1000000 in
theorem find_any {w : World} {B g c : Nat} {vw : Value} {S : Gt} (H : Gat w B g c vw S) (x : Int) : Calls Try.prog 24 #[.pointer (some ⟨g, 0, none⟩), .int .i64 x] w fun e w' =>
    e = .returned (.tuple #[.int .i64 (S.fp x), .int .i64 (S.fc x)]) ∧ Gat w' B g c vw S ∧ Frm (gf g c vw) w w' := by
  obtain ⟨c0, c1, _⟩ := H.cells
  obtain ⟨a, p, rfl⟩ := H.form
  have hm := H.ok.ml
  have K := hide (idx_any a p S.wt.length S.wt x w rfl H.row.rd (by omega))
  have KI := hide (inside_any H)
  have HG := hide H
  have hn : S.ins.length ≤ 64 := by omega
  by_cases hx : x ∈ S.wt
  · obtain ⟨e1, e2⟩ := loc_in hx
    have e3 : S.fp x = S.wt.idxOf x := if_pos hx
    have e4 : S.fc x = 0 := if_pos hx
    rw [e1] at K
    rw [e3, e4]
    have j0 : (0 : Int) ≤ (S.wt.idxOf x : Int) := by omega
    clear H e1 e3 e4 hx hm e2
    generalize S.wt.idxOf x = i at *
    generalize S.wt.length = n at *
    go_enter Try.func24, Try.ntmps24
    go_wp2_with (go_at_call 29; refine K.out.mono ?_; rintro e w1 ⟨rfl, rfl⟩)
    go_ret2
    exact ⟨rfl, HG.out, Frm.refl _ _⟩
  · have e3 : S.fp x = 0 := if_neg hx
    rw [loc_no hx] at K
    rw [e3]
    have KC : Hid (∀ (W : World) (a' : Option Addr) (c' : Nat), intE.Rd W (.slice a' S.ins.length c') S.ins → Calls Try.prog 30 #[.slice a' S.ins.length c', .int .i64 x] W fun e w' => e = .returned (.bool (decide (x ∈ S.ins))) ∧ w' = W) := hide (fun W a' c' hv => contains_any a' c' _ S.ins x W rfl hv (by omega))
    have e4 : S.fc x = if x ∈ S.ins then 140 else 4 := if_neg hx
    by_cases hi : x ∈ S.ins
    · rw [if_pos hi] at e4
      rw [e4]
      rw [decide_eq_true hi] at KC
      clear H e3 e4 hx hm hi hn
      generalize S.wt.length = n at *
      generalize S.ins.length = m at *
      go_enter Try.func24, Try.ntmps24
      go_wp2_with (first
        | (go_at_call 29; refine K.out.mono ?_; rintro e w1 ⟨rfl, rfl⟩)
        | (go_at_call 20; refine KI.out.mono ?_; rintro e w2 ⟨a2, c2, rfl, ho, hg, hf⟩; have HO := hide ho; have HG2 := hide hg; have HF2 := hide hf; clear ho hg hf)
        | (go_at_call 30; refine (KC.out _ _ _ HO.out.rd).mono ?_; rintro e w3 ⟨rfl, rfl⟩))
      go_ret2
      exact ⟨rfl, HG2.out, frm_gf HF2.out⟩
    · rw [if_neg hi] at e4
      rw [e4]
      rw [decide_eq_false hi] at KC
      clear H e3 e4 hx hm hi hn
      generalize S.wt.length = n at *
      generalize S.ins.length = m at *
      go_enter Try.func24, Try.ntmps24
      go_wp2_with (first
        | (go_at_call 29; refine K.out.mono ?_; rintro e w1 ⟨rfl, rfl⟩)
        | (go_at_call 20; refine KI.out.mono ?_; rintro e w2 ⟨a2, c2, rfl, ho, hg, hf⟩; have HO := hide ho; have HG2 := hide hg; have HF2 := hide hf; clear ho hg hf)
        | (go_at_call 30; refine (KC.out _ _ _ HO.out.rd).mono ?_; rintro e w3 ⟨rfl, rfl⟩))
      go_ret2
      exact ⟨rfl, HG2.out, frm_gf HF2.out⟩

/-- a gate's blocks, whatever they hold -/
structure Gar (w : World) (B g c : Nat) (vw : Value) (S : Gt) : Prop where
  bg : B ≤ g
  bc : B ≤ c
  box : w.heap[g]? = some (.cells #[vw, .chan (some c)] 53)
  row : intE.Own w B vw S.wt
  ch : ∃ s r, w.heap[c]? = some (.chan S.cr (S.ins.map (Value.int .i64)).toArray false s r false)
theorem Gat.raw {w : World} {B g c : Nat} {vw : Value} {S : Gt} (h : Gat w B g c vw S) : Gar w B g c vw S := ⟨h.bg, h.bc, h.box, h.row, h.ch⟩
theorem Gar.gat {w : World} {B g c : Nat} {vw : Value} {S : Gt} (h : Gar w B g c vw S) (hok : S.Ok) : Gat w B g c vw S := ⟨hok, h.bg, h.bc, h.box, h.row, h.ch⟩
theorem Gar.ne {w : World} {B g c : Nat} {vw : Value} {S : Gt} (h : Gar w B g c vw S) : g ≠ c ∧ vw.ownBlock ≠ some g ∧ vw.ownBlock ≠ some c := by
  obtain ⟨s, r, hc⟩ := h.ch
  refine ⟨fun e => ?_, zown_ne h.row h.box (by decide), fun e => ?_⟩
  · subst e; rw [h.box] at hc; cases hc
  · obtain ⟨cur, hh⟩ := own_type h.row c e
    rw [hc] at hh; cases hh
theorem Gar.cells {w : World} {B g c : Nat} {vw : Value} {S : Gt} (h : Gar w B g c vw S) : w.cell? ⟨g, 0, none⟩ = some vw ∧ w.cell? ⟨g, 1, none⟩ = some (.chan (some c)) ∧ (∀ i, w.frozen? ⟨g, i, none⟩ = false) :=
  ⟨(cells_at h.box 0).1, (cells_at h.box 1).1, fun i => (cells_at h.box i).2⟩
/-- the channel's content anew -/
theorem Gar.chan {w : World} {B g c : Nat} {vw : Value} {S : Gt} (h : Gar w B g c vw S) (ns : List Int) (s r : Nat) : Gar (w.setChan c S.cr (ns.map (Value.int .i64)).toArray false s r false) B g c vw ⟨S.cr, S.wt, ns⟩ := by
  obtain ⟨n1, n2, n3⟩ := h.ne
  have st : ∀ k, k ≠ c → (w.setChan c S.cr (ns.map (Value.int .i64)).toArray false s r false).heap[k]? = w.heap[k]? := fun k hk => by simp [World.setChan, hk.symm]
  obtain ⟨s0, r0, hc⟩ := h.ch
  exact ⟨h.bg, h.bc, by rw [st g n1]; exact h.box, own_stay h.row fun k hk _ => st k (fun e => n3 (e ▸ hk)), s, r, heap_setChan w c _ _ false s r false (heap_lt hc)⟩
/-- the slice of those that wait anew -/
theorem Gar.put {w w' : World} {B g c : Nat} {vw v' : Value} {S : Gt} {ns : List Int} (H : Gar w B g c vw S) (ho : intE.Own w' B v' ns) (hg : w.grownBy w' vw.ownBlock) :
    Gar (w'.setCell ⟨g, 0, none⟩ v') B g c v' ⟨S.cr, ns, S.ins⟩ ∧ Frm (gf g c vw) w (w'.setCell ⟨g, 0, none⟩ v') ∧ w'.cell? ⟨g, 0, none⟩ = some vw ∧ (∀ i, w'.frozen? ⟨g, i, none⟩ = false) := by
  obtain ⟨n1, n2, n3⟩ := H.ne
  obtain ⟨s, r, hc⟩ := H.ch
  have hglt := heap_lt H.box
  have hbox : w'.heap[g]? = some (.cells #[vw, .chan (some c)] 53) := (hg.block g hglt (fun e => n2 e.symm)).trans H.box
  have hch : w'.heap[c]? = _ := (hg.block c (heap_lt hc) (fun e => n3 e.symm)).trans hc
  have hne : v'.ownBlock ≠ some g := zown_ne ho hbox (by decide)
  refine ⟨⟨H.bg, H.bc, ?_, own_set_other ho hne, s, r, ?_⟩, ?_, (cells_at hbox 0).1, fun i => (cells_at hbox i).2⟩
  · rw [heap_put hbox]; rfl
  · rw [Below.heap_setCell _ _ _ _ (show c ≠ g from fun e => n1 e.symm)]; exact hch
  · refine ((Frm.of_grown hg).mono (f' := gf g c vw) fun k _ e => .inr (.inr e)).trans' (Frm.set w' g 0 v') (fun k _ e => .inl e)

/-- what a call leaves -/
def Gaf (w w' : World) (B g c : Nat) (vw : Value) (S' : Gt) : Prop := S'.Ok ∧ ∃ vw', Gar w' B g c vw' S' ∧ Frm (gf g c vw) w w' ∧ ∀ k, vw'.ownBlock = some k → vw.ownBlock = some k ∨ w.heap.size ≤ k
theorem Gaf.its {w0 w w' : World} {g c : Nat} {vw : Value} {S S' : Gt} {l : List It} (h : Its w0 (.gate w0.heap.size g c vw S :: l) w) (hg : Gaf w w' w0.heap.size g c vw S') : ∃ vw', Its w0 (.gate w0.heap.size g c vw' S' :: l) w' := by
  obtain ⟨hok, vw', h1, h2, h3⟩ := hg
  refine ⟨vw', h.chg (h1.gat hok) (fun k hk => ?_) h2⟩
  rcases hk with e | e | e
  · exact .inl (.inl e)
  · exact .inl (.inr (.inl e))
  · rcases h3 k e with q | q
    · exact .inl (.inr (.inr q))
    · exact .inr q
theorem Gaf.same {w w' : World} {B g c : Nat} {vw : Value} {S' : Gt} (h : Gat w' B g c vw S') (hf : Frm (gf g c vw) w w') : Gaf w w' B g c vw S' := ⟨h.ok, vw, h.raw, hf, fun k e => .inl e⟩
/-- one call behind another -/
theorem Gaf.after {w w1 w' : World} {B g c : Nat} {vw : Value} {S' : Gt} (hf : Frm (gf g c vw) w w1) (h : Gaf w1 w' B g c vw S') : Gaf w w' B g c vw S' := by
  obtain ⟨hok, vw', h1, h2, h3⟩ := h
  refine ⟨hok, vw', h1, hf.trans h2, fun k e => ?_⟩
  rcases h3 k e with q | q
  · exact .inl q
  · exact .inr (Nat.le_trans hf.size q)

set_option maxRecDepth 100000 in
set_option maxHeartbeats 1000000 in
theorem remove_any {w : World} {B g c : Nat} {vw : Value} {S : Gt} (H : Gar w B g c vw S) (hm : S.wt.length ≤ 1000) (i : Nat) (hi : i < S.wt.length) (hok : Gt.Ok ⟨S.cr, S.wt.take i ++ S.wt.drop (i + 1), S.ins⟩) :
    Calls Try.prog 26 #[.pointer (some ⟨g, 0, none⟩), .int .i64 (i : Int)] w fun e w' => e = .returned (.tuple #[]) ∧ Gaf w w' B g c vw ⟨S.cr, S.wt.take i ++ S.wt.drop (i + 1), S.ins⟩ := by
  obtain ⟨c0, c1, _⟩ := H.cells
  have K := hide (delete_any H.row i (i + 1) (by omega) (by omega) (by omega))
  rw [show ((i + 1 : Nat) : Int) = (i : Int) + 1 by omega] at K
  have HG := hide H
  have HR : Hid (∀ v' w', intE.Own w' B v' (S.wt.take i ++ S.wt.drop (i + 1)) → w.grownBy w' vw.ownBlock → v'.ownBlock = vw.ownBlock → Gaf w (w'.setCell ⟨g, 0, none⟩ v') B g c vw ⟨S.cr, S.wt.take i ++ S.wt.drop (i + 1), S.ins⟩ ∧ w'.cell? ⟨g, 0, none⟩ = some vw ∧ (∀ i, w'.frozen? ⟨g, i, none⟩ = false)) := hide (fun v' w' ho hg hb => by
    obtain ⟨h1, h2, h3, h4⟩ := HG.out.put ho hg
    exact ⟨⟨hok, v', h1, h2, fun k e => .inl (hb ▸ e)⟩, h3, h4⟩)
  have j0 : (0 : Int) ≤ (i : Int) := by omega
  have j1 : (i : Int) ≤ 1000 := by omega
  clear H hm hi hok
  go_enter Try.func26, Try.ntmps26
  go_wp2_with (go_at_call 31; refine K.out.mono ?_; rintro e w3 ⟨v3, rfl, L3, G3, O3⟩; obtain ⟨a3, n3, rfl⟩ := L3.rd.form; obtain ⟨t1, x4, x5⟩ := HR.out _ _ L3 G3 O3; have HT1 := hide t1; generalize (List.take i S.wt ++ List.drop (i + 1) S.wt).length = n4 at *; clear L3 G3 O3 t1)
  refine bodyPost_end (results_none rfl _ _ _) rfl ?_
  exact ⟨rfl, HT1.out⟩

/-- a number's place taken out -/
theorem erase_any {w : World} {B g c : Nat} {vw : Value} {S : Gt} (H : Gar w B g c vw S) (hm : S.wt.length ≤ 1000) (x : Int) (hx : x ∈ S.wt) (hok : (S.ca x).Ok) :
    Calls Try.prog 26 #[.pointer (some ⟨g, 0, none⟩), .int .i64 (S.wt.idxOf x : Int)] w fun e w' => e = .returned (.tuple #[]) ∧ Gaf w w' B g c vw (S.ca x) := by
  have h := remove_any H hm (S.wt.idxOf x) (List.idxOf_lt_length_iff.2 hx) (by rw [erase_cut]; exact hok)
  rw [erase_cut] at h
  exact h

set_option maxRecDepth 100000 in
set_option maxHeartbeats 1000000 in
theorem cancel_any {w : World} {B g c : Nat} {vw : Value} {S : Gt} (H : Gat w B g c vw S) (x : Int) : Calls Try.prog 13 #[.pointer (some ⟨g, 0, none⟩), .int .i64 x] w fun e w' =>
    e = .returned (.int .i64 (S.fc x)) ∧ Gaf w w' B g c vw (S.ca x) := by
  have KF := hide (find_any H x)
  by_cases hx : x ∈ S.wt
  · have e3 : S.fp x = S.wt.idxOf x := if_pos hx
    have e4 : S.fc x = 0 := if_pos hx
    rw [e3, e4] at KF
    rw [e4]
    have KR : Hid (∀ W, Gat W B g c vw S → Calls Try.prog 26 #[.pointer (some ⟨g, 0, none⟩), .int .i64 (S.wt.idxOf x : Int)] W fun e w' => e = .returned (.tuple #[]) ∧ Gaf W w' B g c vw (S.ca x)) := hide (fun W h => erase_any h.raw (by have := h.ok.ml; omega) x hx (h.ok.ca x))
    clear H e3 e4 hx
    generalize S.wt.idxOf x = i at *
    go_enter Try.func13, Try.ntmps13
    go_wp2_with (first
      | (go_at_call 24; refine KF.out.mono ?_; rintro e w2 ⟨rfl, hg, hf⟩; have HG2 := hide hg; have HF2 := hide hf; clear hg hf)
      | (go_at_call 26; refine (KR.out _ HG2.out).mono ?_; rintro e w3 ⟨rfl, hg⟩; have HG3 := hide (Gaf.after HF2.out hg); clear hg))
    go_ret
    exact ⟨rfl, HG3.out⟩
  · have e3 : S.fp x = 0 := if_neg hx
    rw [Gt.ca_no hx]
    rw [e3] at KF
    have e5 : ∃ y, S.fc x = y ∧ (y != 0) = true := by
      refine ⟨_, rfl, ?_⟩
      unfold Gt.fc
      rw [if_neg hx]
      by_cases hi : x ∈ S.ins
      · rw [if_pos hi]; rfl
      · rw [if_neg hi]; rfl
    obtain ⟨y, e5, e6⟩ := e5
    rw [e5] at KF ⊢
    clear H e3 hx e5
    go_enter Try.func13, Try.ntmps13
    go_wp2_with (go_at_call 24; refine KF.out.mono ?_; rintro e w2 ⟨rfl, hg, hf⟩; have HG2 := hide hg; have HF2 := hide hf; clear hg hf)
    go_ret
    exact ⟨rfl, Gaf.same HG2.out HF2.out⟩
end Go.Proofs.Ytdnkgfljkdbckaa
