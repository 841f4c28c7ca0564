/- What the laws share that hold a mirror against the document's. -/
import Derived.Test.YtlnnpdghcilioaaRmj
import Derived.Test.YtlnnpdghcilioaaMag
namespace Go.Proofs.Ytlnnpdghcilioaa
open Go.RowKit
set_option linter.unusedVariables false
section
variable {w0 w W : World} {l : List It} {B g gr k : Nat} {H : Nat × Nat} {S S1 : Mr} {V V' : Vm} {R : Rm} {P : Int × Mr} {a b : Option Addr} {c e n m : Nat} {ns : List Nd} {es : List Ed}
theorem good_n (h : good ns es = true) : 1 ≤ ns.length := by
  unfold good goodN at h
  simp only [Bool.and_eq_true, decide_eq_true_eq] at h
  exact h.1.1
theorem app1 (x : Nt) (h : x.kind = 1) : S.app x = S.put x.a x.b := by unfold Mr.app; rw [if_pos h]
theorem app4 (x : Nt) (h : x.kind = 4) : S.app x = S.snd x.a x.b x.c := by unfold Mr.app; rw [if_neg (by omega), if_pos h]
theorem app5 (x : Nt) (h : x.kind = 5) : S.app x = S.mov x.a x.b := by unfold Mr.app; rw [if_neg (by omega), if_neg (by omega), if_pos h]
theorem app7 (x : Nt) (h : x.kind = 7) : S.app x = S.drp x.a := by unfold Mr.app; rw [if_neg (by omega), if_neg (by omega), if_neg (by omega), if_pos h]
theorem app8 (x : Nt) (h : x.kind = 8) : S.app x = S.msk x.a (decide (x.b = 1)) := by unfold Mr.app; rw [if_neg (by omega), if_neg (by omega), if_neg (by omega), if_neg (by omega), if_pos h]
theorem app0 (x : Nt) (h1 : x.kind ≠ 1) (h4 : x.kind ≠ 4) (h5 : x.kind ≠ 5) (h7 : x.kind ≠ 7) (h8 : x.kind ≠ 8) : S.app x = (23, S) := by unfold Mr.app; rw [if_neg h1, if_neg h4, if_neg h5, if_neg h7, if_neg h8]
theorem put9 (h : Its w0 (.mir B g H n m es S :: l) w) (x : Nt) (hP : S.app x = P) (hk : x.kind = 1) : Calls Try.prog 23 #[.pointer (some ⟨g, 0, none⟩), .int .i64 x.a, .int .i64 x.b] w fun r w' => r = .returned (.int .i64 P.1) ∧ Its w0 (.mir B g H n m es P.2 :: l) w' := by
  rw [app1 x hk] at hP
  subst hP
  exact putS h x.a x.b
theorem snd9 (h : Its w0 (.mir B g H n m es S :: l) w) (x : Nt) (hP : S.app x = P) (hk : x.kind = 4) : Calls Try.prog 24 #[.pointer (some ⟨g, 0, none⟩), .int .i64 x.a, .int .i64 x.b, .int .i64 x.c] w fun r w' => r = .returned (.int .i64 P.1) ∧ Its w0 (.mir B g H n m es P.2 :: l) w' := by
  rw [app4 x hk] at hP
  subst hP
  exact sendS h x.a x.b x.c
theorem mov9 (h : Its w0 (.mir B g H n m es S :: l) w) (x : Nt) (hP : S.app x = P) (hk : x.kind = 5) : Calls Try.prog 25 #[.pointer (some ⟨g, 0, none⟩), .int .i64 x.a, .int .i64 x.b] w fun r w' => r = .returned (.int .i64 P.1) ∧ Its w0 (.mir B g H n m es P.2 :: l) w' := by
  rw [app5 x hk] at hP
  subst hP
  exact movedS h x.a x.b
theorem drp9 (h : Its w0 (.mir B g H n m es S :: l) w) (x : Nt) (hP : S.app x = P) (hk : x.kind = 7) : Calls Try.prog 26 #[.pointer (some ⟨g, 0, none⟩), .int .i64 x.a] w fun r w' => r = .returned (.int .i64 P.1) ∧ Its w0 (.mir B g H n m es P.2 :: l) w' := by
  rw [app7 x hk] at hP
  subst hP
  exact dropS h x.a
theorem msk9 (h : Its w0 (.mir B g H n m es S :: l) w) (x : Nt) (hP : S.app x = P) (hk : x.kind = 8) : Calls Try.prog 27 #[.pointer (some ⟨g, 0, none⟩), .int .i64 x.a, .bool (decide (x.b = 1))] w fun r w' => r = .returned (.int .i64 P.1) ∧ Its w0 (.mir B g H n m es P.2 :: l) w' := by
  rw [app8 x hk] at hP
  subst hP
  exact maskS h x.a (decide (x.b = 1))
theorem app9 (h : Its w0 (.mir B g H n m es S :: l) w) (x : Nt) (hP : S.app x = P) : Calls Try.prog 15 #[.pointer (some ⟨g, 0, none⟩), .agg #[.int .i64 x.kind, .int .i64 x.a, .int .i64 x.b, .int .i64 x.c]] w fun r w' => r = .returned (.int .i64 P.1) ∧ Its w0 (.mir B g H n m es P.2 :: l) w' := by
  subst hP
  exact applyS h x
/-- the document's Apply, beside a mirror that went on already -/
theorem rapp9 (h : Its w0 (.dm w0.heap.size V R k :: l) w) (L0 : Lyt w0 a b c e n m ns es) (hm : m ≤ 120) (hR : Rel S R n es) (hk : k + 1 ≤ 1000) (x : Nt) (hP : S.app x = P) : Calls Try.prog 16 #[.agg #[.slice a n c, .slice b m e, .slice V.aS V.nS V.cS, .slice V.aT V.nT V.cT, .slice V.aD V.nD V.cD, .slice V.aL V.nL V.cL], .agg #[.int .i64 x.kind, .int .i64 x.a, .int .i64 x.b, .int .i64 x.c]] w fun r w' => ∃ V' R', r = .returned (.tuple #[.agg #[.slice a n c, .slice b m e, .slice V'.aS V'.nS V'.cS, .slice V'.aT V'.nT V'.cT, .slice V'.aD V'.nD V'.cD, .slice V'.aL V'.nL V'.cL], .int .i64 P.1]) ∧ Rel P.2 R' n es ∧ Its w0 (.dm w0.heap.size V' R' (k + 1) :: l) w' := by
  have hT : ∀ y ∈ R.td, 1 ≤ y.dev ∧ y.dev ≤ m := fun y hy => by have := hR.devs y hy; rw [L0.hm] at this; exact this
  refine (rapplyS h L0 hT hm hk x).mono ?_
  rintro r w' ⟨V', rfl, q⟩
  obtain ⟨e1, e2⟩ := hR.app x
  rw [hP] at e1 e2
  exact ⟨V', _, by rw [e1], e2, q⟩
theorem rsnd9 (h : Its w0 (.dm w0.heap.size V R k :: l) w) (L0 : Lyt w0 a b c e n m ns es) (hm : m ≤ 120) (hR : Rel S R n es) (hk : k + 1 ≤ 1000) (d t q : Int) (hP : S.snd d t q = P) : Calls Try.prog 29 #[.agg #[.slice a n c, .slice b m e, .slice V.aS V.nS V.cS, .slice V.aT V.nT V.cT, .slice V.aD V.nD V.cD, .slice V.aL V.nL V.cL], .int .i64 d, .int .i64 t, .int .i64 q] w fun r w' => ∃ V' R', r = .returned (.tuple #[.agg #[.slice a n c, .slice b m e, .slice V'.aS V'.nS V'.cS, .slice V'.aT V'.nT V'.cT, .slice V'.aD V'.nD V'.cD, .slice V'.aL V'.nL V'.cL], .int .i64 P.1]) ∧ Rel P.2 R' n es ∧ Its w0 (.dm w0.heap.size V' R' (k + 1) :: l) w' := by
  have hT : ∀ y ∈ R.td, 1 ≤ y.dev ∧ y.dev ≤ m := fun y hy => by have := hR.devs y hy; rw [L0.hm] at this; exact this
  refine (rsendS h L0 hT hm hk d t q).mono ?_
  rintro r w' ⟨V', rfl, q9⟩
  obtain ⟨e1, e2⟩ := hR.snd d t q
  rw [hP] at e1 e2
  exact ⟨V', _, by rw [e1], e2, q9⟩
theorem rdrp9 (h : Its w0 (.dm w0.heap.size V R k :: l) w) (L0 : Lyt w0 a b c e n m ns es) (hR : Rel S R n es) (hk : k + 1 ≤ 1000) (d : Int) (hP : S.drp d = P) : Calls Try.prog 30 #[.agg #[.slice a n c, .slice b m e, .slice V.aS V.nS V.cS, .slice V.aT V.nT V.cT, .slice V.aD V.nD V.cD, .slice V.aL V.nL V.cL], .int .i64 d] w fun r w' => ∃ V' R', r = .returned (.tuple #[.agg #[.slice a n c, .slice b m e, .slice V'.aS V'.nS V'.cS, .slice V'.aT V'.nT V'.cT, .slice V'.aD V'.nD V'.cD, .slice V'.aL V'.nL V'.cL], .int .i64 P.1]) ∧ Rel P.2 R' n es ∧ Its w0 (.dm w0.heap.size V' R' (k + 1) :: l) w' := by
  refine (rdropS h hk L0.hm d).mono ?_
  rintro r w' ⟨V', rfl, q9⟩
  obtain ⟨e1, e2⟩ := hR.drp d
  rw [hP] at e1 e2
  exact ⟨V', _, by rw [e1], e2, q9⟩
/-- what the document's mirror says now is put into its box -/
theorem Its.rput (h : Its w0 (.box gr #[.slice a n c, .slice b m e, .slice V.aS V.nS V.cS, .slice V.aT V.nT V.cT, .slice V.aD V.nD V.cD, .slice V.aL V.nL V.cL] 38 :: l) W) (V' : Vm) : Its w0 (.box gr #[.slice a n c, .slice b m e, .slice V'.aS V'.nS V'.cS, .slice V'.aT V'.nT V'.cT, .slice V'.aD V'.nD V'.cD, .slice V'.aL V'.nL V'.cL] 38 :: l) (World.setCell (World.setCell (World.setCell (World.setCell (World.setCell (World.setCell W ⟨gr, 0, none⟩ (.slice a n c)) ⟨gr, 1, none⟩ (.slice b m e)) ⟨gr, 2, none⟩ (.slice V'.aS V'.nS V'.cS)) ⟨gr, 3, none⟩ (.slice V'.aT V'.nT V'.cT)) ⟨gr, 4, none⟩ (.slice V'.aD V'.nD V'.cD)) ⟨gr, 5, none⟩ (.slice V'.aL V'.nL V'.cL)) := h.out6 _ _ _ _ _ _
theorem rnew9 (h : Its w0 l w) (L0 : Lyt w0 a b c e n m ns es) (hg : good ns es = true) : Calls Try.prog 13 #[.agg #[.slice a n c, .slice b m e]] w fun r w' => r = .returned (.tuple #[.agg #[.slice a n c, .slice b m e, .slice none 0 0, .slice none 0 0, .slice none 0 0, .slice none 0 0], .int .i64 0]) ∧ Its w0 (.dm w0.heap.size V0 R0 0 :: l) w' := by
  refine (rnew_any h (h.keepL L0)).mono ?_
  rintro r w' ⟨h1, _, q⟩
  exact ⟨h1 hg, q⟩
theorem rnew9n (h : Its w0 l w) (L0 : Lyt w0 a b c e n m ns es) (hg : good ns es = false) : Calls Try.prog 13 #[.agg #[.slice a n c, .slice b m e]] w fun r w' => r = .returned (.tuple #[.agg #[.slice none 0 0, .slice none 0 0, .slice none 0 0, .slice none 0 0, .slice none 0 0, .slice none 0 0], .int .i64 61]) ∧ Its w0 (.dm w0.heap.size V0 R0 0 :: l) w' := by
  refine (rnew_any h (h.keepL L0)).mono ?_
  rintro r w' ⟨_, h1, q⟩
  exact ⟨h1 hg, q⟩
theorem rel_new (L0 : Lyt w0 a b c e n m ns es) (hg : good ns es = true) : Rel (Mr.nw n es) R0 n es := by
  obtain ⟨g1, g2, g3⟩ := good_he hg
  have g0 := good_n hg
  rw [L0.hn] at g0 g1 g3
  exact Rel.nw g0 (Mr.nw_ok g1 g2 g3)
theorem Its.p5 {x y z t u : It} (h : Its w0 (x :: y :: z :: t :: u :: l) w) : u.P w := h.all u (by simp)
theorem Its.fifth' {x y z t u : It} (h : Its w0 (u :: x :: y :: z :: t :: l) w) : Its w0 (x :: y :: z :: t :: u :: l) w :=
  h.perm ((List.Perm.cons x ((List.Perm.cons y ((List.Perm.cons z (.swap u t l)).trans (.swap u z _))).trans (.swap u y _))).trans (.swap u x _)).symm
theorem nt_new (w : World) (p : Nt) (g : Nat) (hg : g = w.heap.size) : ntE.Rd (w.alloc (.cells #[.int .i64 p.kind, .int .i64 p.a, .int .i64 p.b, .int .i64 p.c] 45)) (.slice (some ⟨g, 0, none⟩) 1 1) [p] :=
  (El.Own.new ntE w w.heap.size (Nat.le_refl _) _ [p] rfl (by simp) _ _ _ hg rfl rfl).rd
theorem El.Own.capE {α : Type} {E : El Try.prog α} {w : World} {B n c : Nat} {a : Option Addr} {xs : List α} (h : E.Own w B (.slice a n c) xs) : xs.length ≤ c := by
  rcases h.2 with ⟨e1, e2⟩ | ⟨g, cap, cur, e1, _, _, e2, _⟩
  · omega
  · cases e1; exact e2
/-- an edge is written over -/
theorem Its.eset {B gE cap : Nat} {xs : List Ed} (h : Its w0 (.row edE B (.slice (some ⟨gE, 0, none⟩) m cap) xs :: l) w) {i : Nat} {x : Ed} (hx : xs[i]? = some x) (u v : Int) :
    Its w0 (.row edE B (.slice (some ⟨gE, 0, none⟩) m cap) (xs.set i (u, v)) :: l) ((w.setCell ⟨gE, i * 2, none⟩ (.int .i64 u)).setCell ⟨gE, i * 2 + 1, none⟩ (.int .i64 v)) := by
  have h1 : Its w0 (.row edE B (.slice (some ⟨gE, 0, none⟩) m cap) (xs.set i (u, x.2)) :: l) (w.setCell ⟨gE, i * 2, none⟩ (.int .i64 u)) :=
    h.chg (x' := .row edE B (.slice (some ⟨gE, 0, none⟩) m cap) (xs.set i (u, x.2))) (own_setC (E := edE) (j := 0) (x := x) (z := (u, x.2)) (u := .int .i64 u) h.one hx (by decide) rfl) (fun _ hk => .inl hk) ((Frm.set w gE (i * 2) _).mono (fun j _ hj => by subst hj; rfl))
  have hi := (List.getElem?_eq_some_iff.1 hx).1
  have h2 := h1.chg (x' := .row edE B (.slice (some ⟨gE, 0, none⟩) m cap) ((xs.set i (u, x.2)).set i (u, v))) (own_setC (E := edE) (i := i) (j := 1) (x := (u, x.2)) (z := (u, v)) (u := .int .i64 v) h1.one (by rw [List.getElem?_set_self hi]) (by decide) rfl) (fun _ hk => .inl hk) ((Frm.set _ gE (i * 2 + 1) _).mono (fun j _ hj => by subst hj; rfl))
  rw [List.set_set] at h2
  exact h2
/-- a number of a slice of the call's own is written over -/
theorem Its.iset {B gE cap : Nat} {xs : List Int} (h : Its w0 (.ints B (.slice (some ⟨gE, 0, none⟩) m cap) xs :: l) w) (i : Nat) (u : Int) :
    Its w0 (.ints B (.slice (some ⟨gE, 0, none⟩) m cap) (xs.set i u) :: l) (w.setCell ⟨gE, i, none⟩ (.int .i64 u)) :=
  h.chg (x' := .ints B (.slice (some ⟨gE, 0, none⟩) m cap) (xs.set i u)) (El.Own.set (Value.int .i64) (fun _ => rfl) rfl h.one i u) (fun _ hk => .inl hk) ((Frm.set w gE i _).mono (fun j _ hj => by subst hj; rfl))
theorem nt_box {g' : Nat} {kd xa xb xc : Int} (h : W.heap[g']? = some (.cells #[.int .i64 kd, .int .i64 xa, .int .i64 xb, .int .i64 xc] 45)) : W.cell? ⟨g', 0, none⟩ = some (.int .i64 kd) ∧ W.cell? ⟨g', 1, none⟩ = some (.int .i64 xa) ∧ W.cell? ⟨g', 2, none⟩ = some (.int .i64 xb) ∧ W.cell? ⟨g', 3, none⟩ = some (.int .i64 xc) :=
  ⟨(cells_at h 0).1, (cells_at h 1).1, (cells_at h 2).1, (cells_at h 3).1⟩
end
end Go.Proofs.Ytlnnpdghcilioaa
