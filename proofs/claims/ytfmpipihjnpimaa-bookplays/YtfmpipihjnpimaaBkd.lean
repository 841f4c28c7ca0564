/- finish: an open request ends. -/
import Derived.Test.YtfmpipihjnpimaaBkc
namespace Go.Proofs.Ytfmpipihjnpimaa
open Go.RowKit Go.Maps Go.ChangeMaps
set_option linter.unusedVariables false

def setT1 (x v : Int) (p : Nat × En) : Nat × En := if p.2.r.id = x then (p.1, ⟨p.2.r, v⟩) else p
theorem setT1_fst (x v : Int) (p : Nat × En) : (setT1 x v p).1 = p.1 := by unfold setT1; split <;> rfl
def setT (T : List (Nat × En)) (x v : Int) : List (Nat × En) := T.map (fun p => if p.2.r.id = x then (p.1, ⟨p.2.r, v⟩) else p)
theorem setT_all (T : List (Nat × En)) (x v : Int) : (setT T x v).map (·.2) = setE (T.map (·.2)) x v := by
  unfold setT setE
  rw [List.map_map, List.map_map]
  apply List.map_congr_left
  intro p _
  simp only [Function.comp]
  split <;> rfl
theorem setT_fst (T : List (Nat × En)) (x v : Int) : (setT T x v).map (·.1) = T.map (·.1) := by
  unfold setT
  rw [List.map_map]
  apply List.map_congr_left
  intro p _
  simp only [Function.comp]
  split <;> rfl
theorem setT_fn (T : List (Nat × En)) (x v y : Int) : fnT (setT T x v) y = (fnT T y).map (fun p => if p.2.r.id = x then (p.1, ⟨p.2.r, v⟩) else p) := by
  unfold fnT setT
  rw [List.find?_map]
  congr 2
  funext p
  simp only [Function.comp]
  split <;> rfl
theorem setT_kn (T : List (Nat × En)) (x v : Int) : kn (setT T x v) = kn T := by
  funext y
  unfold kn
  rw [setT_fn, Option.map_map]
  congr 1
  funext p
  simp only [Function.comp]
  split <;> rfl
theorem setT_at {T : List (Nat × En)} {x v : Int} {p : Nat × En} (h : fnT T x = some p) : fnT (setT T x v) x = some (p.1, ⟨p.2.r, v⟩) := by
  rw [setT_fn, h]
  have : p.2.r.id = x := by have := List.find?_some h; simpa using this
  simp [this]
/-- the one with the number, and all others -/
theorem split_at {T : List (Nat × En)} {x : Int} {p : Nat × En} (hn : (T.map (·.2.r.id)).Nodup) (h : fnT T x = some p) : ∃ T1 T2, T = T1 ++ p :: T2 ∧ (∀ q ∈ T1, q.2.r.id ≠ x) ∧ (∀ q ∈ T2, q.2.r.id ≠ x) := by
  obtain ⟨T1, T2, rfl⟩ := List.append_of_mem (fnT_mem h)
  have hp : p.2.r.id = x := by have := List.find?_some h; simpa using this
  rw [List.map_append, List.map_cons, List.nodup_append] at hn
  obtain ⟨_, h2, h3⟩ := hn
  refine ⟨T1, T2, rfl, fun q hq e => ?_, fun q hq e => ?_⟩
  · exact h3 _ (List.mem_map.2 ⟨q, hq, rfl⟩) _ (List.mem_cons_self) (by rw [e, hp])
  · exact (List.nodup_cons.1 h2).1 (List.mem_map.2 ⟨q, hq, by rw [e, hp]⟩)
theorem setT_same {T : List (Nat × En)} {x v : Int} (h : ∀ q ∈ T, q.2.r.id ≠ x) : setT T x v = T := by
  unfold setT
  conv => rhs; rw [← List.map_id T]
  apply List.map_congr_left
  intro q hq
  rw [if_neg (h q hq)]; rfl
theorem setT_split {T1 T2 : List (Nat × En)} {p : Nat × En} {x v : Int} (hp : p.2.r.id = x) (h1 : ∀ q ∈ T1, q.2.r.id ≠ x) (h2 : ∀ q ∈ T2, q.2.r.id ≠ x) : setT (T1 ++ p :: T2) x v = T1 ++ (p.1, ⟨p.2.r, v⟩) :: T2 := by
  have e : setT (T1 ++ p :: T2) x v = setT T1 x v ++ (if p.2.r.id = x then (p.1, ⟨p.2.r, v⟩) else p) :: setT T2 x v := by simp [setT]
  rw [e, setT_same h1, setT_same h2, if_pos hp]
theorem opT_app (a b : List (Nat × En)) : opT (a ++ b) = opT a ++ opT b := by simp [opT]
theorem opT_cons (p : Nat × En) (b : List (Nat × En)) : opT (p :: b) = if p.2.en = 1 then p :: opT b else opT b := by
  unfold opT
  rw [List.filter_cons]
  by_cases h : p.2.en = 1 <;> simp [h]
theorem Lie.ids {T : List (Nat × En)} {S : Bk} (h : Lie T S) : (T.map (·.2.r.id)).Nodup := by
  have := h.1.nd
  rw [h.2.1, List.map_map] at this
  exact this
theorem Lie.set {T : List (Nat × En)} {S : Bk} (h : Lie T S) {x v : Int} (hv : v = 2 ∨ v = 3) (hx : S.sta x = 1) : Lie (setT T x v) ⟨setE S.all x v, S.done⟩ :=
  ⟨h.1.set hv hx _ (.inl rfl), by show setE S.all x v = _; rw [setT_all, h.2.1], by rw [setT_fst]; exact h.2.2⟩
theorem Srv.as {w : World} {B ms n n' : Nat} {fs : Int → Option Value} {sv sv' : Int → List Int} (h : Srv w B ms n fs sv) (h1 : n = n') (h2 : ∀ s, sv s = sv' s) : Srv w B ms n' fs sv' := by
  have : sv = sv' := funext h2
  subst this; subst h1
  exact h
theorem sv_set (S : Bk) (x v : Int) (s : Int) : S.sv s = Bk.sv ⟨setE S.all x v, S.done⟩ s := by
  unfold Bk.sv
  simp only [stn_set]

theorem cut_mid {α : Type} (A C : List α) (x : α) (n : Nat) (hn : n = A.length) : (A ++ x :: C).take n ++ (A ++ x :: C).drop (n + 1) = A ++ C := by
  subst hn
  simp
section
variable {w0 w : World} {g : Nat} {H : Hb} {S : Bk} {l : List It}
/-- the entry's cell is written: all else stays -/
theorem fin_one (h : Its w0 (limbs w0.heap.size g H S ++ l) w) (hlie : Lie H.T S) {x v : Int} {p : Nat × En} (hT : fnT H.T x = some p) :
    Its w0 (.row ptrE w0.heap.size H.vo ((opT H.T).map (·.1)) :: .ents (setT H.T x v) :: .box g #[.map (some H.kb), H.vo, .map (some H.sb)] 62 :: .srv w0.heap.size H.sb S.done.length H.fs (Bk.sv ⟨setE S.all x v, S.done⟩) :: .mp H.kb (setE S.all x v).length (kn (setT H.T x v)) :: l) (w.setCell ⟨p.1, 3, none⟩ (.int .i64 v)) := by
  have hpx : p.2.r.id = x := by have := List.find?_some hT; simpa using this
  obtain ⟨T1, T2, eT, h1, h2⟩ := split_at hlie.ids hT
  have he : ∀ q ∈ H.T, w.heap[q.1]? = some (.cells (enC q.2) 67) := h.all (.ents H.T) (by simp [limbs])
  have hs := h.swap
  have hc := hs.chg (x' := .ents (setT H.T x v)) (w' := w.setCell ⟨p.1, 3, none⟩ (.int .i64 v)) (by
    intro q hq
    rw [eT, setT_split hpx h1 h2] at hq
    have hnd := hlie.2.2
    rw [eT, List.map_append, List.map_cons, List.nodup_append] at hnd
    have other : ∀ q ∈ H.T, q.1 ≠ p.1 → (w.setCell ⟨p.1, 3, none⟩ (.int .i64 v)).heap[q.1]? = some (.cells (enC q.2) 67) := fun q hq hne => by
      rw [Below.heap_setCell _ _ _ _ hne]; exact he q hq
    rcases List.mem_append.1 hq with hq | hq
    · exact other q (by rw [eT]; exact List.mem_append.2 (.inl hq)) (hnd.2.2 _ (List.mem_map.2 ⟨q, hq, rfl⟩) _ (List.mem_cons_self))
    · rcases List.mem_cons.1 hq with rfl | hq
      · show (w.setCell ⟨p.1, 3, none⟩ _).heap[p.1]? = _
        rw [heap_put (he p (fnT_mem hT))]; rfl
      · exact other q (by rw [eT]; exact List.mem_append.2 (.inr (List.mem_cons_of_mem _ hq))) (fun e => (List.nodup_cons.1 hnd.2.1).1 (List.mem_map.2 ⟨q, hq, e⟩)))
    (fun k hk => .inl (by
      obtain ⟨q, hq, rfl⟩ := hk
      have : q.1 ∈ (setT H.T x v).map (·.1) := List.mem_map.2 ⟨q, hq, rfl⟩
      rw [setT_fst] at this
      obtain ⟨q', hq', e⟩ := List.mem_map.1 this
      exact ⟨q', hq', e⟩))
    ((Frm.set w p.1 3 _).mono fun k _ e => ⟨p, fnT_mem hT, e.symm⟩)
  have e1 : Bk.sv ⟨setE S.all x v, S.done⟩ = S.sv := funext fun s => (sv_set S x v s).symm
  have e2 : (setE S.all x v).length = S.all.length := by simp [setE]
  rw [e1, e2, setT_kn]
  exact hc.swap
/-- the slice of the open ones and the book's box -/
theorem fin_two {w1 w2 : World} {bs bs' : List Nat} {v' : Value} {y : It}
    (h : Its w0 (.row ptrE w0.heap.size H.vo bs :: y :: .box g #[.map (some H.kb), H.vo, .map (some H.sb)] 62 :: l) w1) (ho : ptrE.Own w2 w0.heap.size v' bs') (hg : w1.grownBy w2 H.vo.ownBlock) (hb : v'.ownBlock = H.vo.ownBlock ∨ v'.ownBlock = some w1.heap.size) :
    Its w0 (.row ptrE w0.heap.size v' bs' :: y :: .box g #[.map (some H.kb), v', .map (some H.sb)] 62 :: l) (w2.setCell ⟨g, 1, none⟩ v') ∧ w2.cell? ⟨g, 1, none⟩ = some H.vo ∧ ∀ i, w2.frozen? ⟨g, i, none⟩ = false := by
  have h1 := (h.grow ho hg hb).rot3
  have hbox : w2.heap[g]? = some (.cells #[.map (some H.kb), H.vo, .map (some H.sb)] 62) := h1.one
  refine ⟨?_, (cells_at hbox 1).1, fun i => (cells_at hbox i).2⟩
  refine (h1.chg (x' := .box g #[.map (some H.kb), v', .map (some H.sb)] 62) ?_ (fun k hk => .inl hk) (Frm.set w2 g 1 v')).rot3'
  show (w2.setCell ⟨g, 1, none⟩ v').heap[g]? = _
  rw [heap_put hbox]; rfl

set_option maxRecDepth 100000 in
set_option maxHeartbeats 2000000 in
theorem finish_any (h : Its w0 (.book w0.heap.size g H S :: l) w) {x v : Int} {p : Nat × En} (hT : fnT H.T x = some p) (hp : p.2.en = 1) (hv : v = 2 ∨ v = 3) :
    Calls Try.prog 28 #[.pointer (some ⟨g, 0, none⟩), .pointer (some ⟨p.1, 0, none⟩), .int .i64 v] w fun e w' => e = .returned (.tuple #[]) ∧ ∃ H', Its w0 (.book w0.heap.size g H' ⟨setE S.all x v, S.done⟩ :: l) w' ∧ fnT H'.T x = some (p.1, ⟨p.2.r, v⟩) := by
  obtain ⟨hb, hlie⟩ := h.bopen
  have hsta : S.sta x = 1 := by rw [Bk.sta_of (e := p.2) (by rw [hlie.fnd, hT]; rfl)]; exact hp
  have hpx : p.2.r.id = x := by have := List.find?_some hT; simpa using this
  have h1 := fin_one hb hlie (v := v) hT
  obtain ⟨T1, T2, eT, n1, n2⟩ := split_at hlie.ids hT
  have hfew : (opT H.T).length ≤ 1000 := by
    have := hlie.1.few
    rw [hlie.ops, List.length_map] at this
    omega
  obtain ⟨d0, d1, d2, d3, df⟩ := bk_ent h.one (fnT_mem hT)
  have hbox : (w.setCell ⟨p.1, 3, none⟩ (.int .i64 v)).heap[g]? = some (.cells #[.map (some H.kb), H.vo, .map (some H.sb)] 62) := h1.three
  have hrow := h1.one
  obtain ⟨a, c, ev⟩ := (bk_row h.one).rd.form
  have c1 : (w.setCell ⟨p.1, 3, none⟩ (.int .i64 v)).cell? ⟨g, 1, none⟩ = some H.vo := (cells_at hbox 1).1
  have ei : ((opT H.T).map (·.1))[(opT T1).length]? = some p.1 := by
    rw [eT, opT_app, opT_cons, if_pos hp, List.map_append, List.map_cons, List.getElem?_append_right (by simp)]
    simp
  have hnd : ((opT H.T).map (·.1)).Nodup := hlie.2.2.sublist (List.filter_sublist.map _)
  have hne1 : ¬ v = 1 := by rcases hv with rfl | rfl <;> decide
  have hcut : ((opT H.T).map (·.1)).take (opT T1).length ++ ((opT H.T).map (·.1)).drop ((opT T1).length + 1) = (opT (setT H.T x v)).map (·.1) := by
    rw [eT, setT_split hpx n1 n2, opT_app, opT_app, opT_cons, opT_cons, if_pos hp, if_neg hne1, List.map_append, List.map_append, List.map_cons]
    exact cut_mid _ _ _ _ (by simp)
  have hil : (opT T1).length < ((opT H.T).map (·.1)).length := idx_lt ei
  have hgp : g ≠ p.1 := fun e => by
    have h2 := bk_ents h.one p (fnT_mem hT)
    rw [← e, bk_box h.one] at h2
    simp at h2
  have c1' : w.cell? ⟨g, 1, none⟩ = some H.vo := (bk_cells h.one).2.1
  rw [ev] at c1 c1'
  have hr := hrow
  rw [ev] at hr
  have KI := hide (indexP_any a c _ _ p.1 (opT T1).length _ rfl (El.Own.rd hr) (by simp; omega) ei hnd (fun d hd => by
    obtain ⟨q, hq, rfl⟩ := List.mem_map.1 hd
    have hq' := h1.two (setT1 x v q) (List.mem_map.2 ⟨q, (List.mem_filter.1 hq).1, rfl⟩)
    rw [setT1_fst] at hq'
    exact ⟨_, hq'⟩))
  have KD := hide (delete_any hr (opT T1).length ((opT T1).length + 1) (by omega) (by omega) (by simp; omega))
  rw [hcut, show (((opT T1).length + 1 : Nat) : Int) = ((opT T1).length : Int) + 1 by omega] at KD
  have HR : Hid (∀ v' w2, ptrE.Own w2 w0.heap.size v' ((opT (setT H.T x v)).map (·.1)) → (w.setCell ⟨p.1, 3, none⟩ (.int .i64 v)).grownBy w2 H.vo.ownBlock → v'.ownBlock = H.vo.ownBlock → (∃ H', Its w0 (.book w0.heap.size g H' ⟨setE S.all x v, S.done⟩ :: l) (w2.setCell ⟨g, 1, none⟩ v') ∧ fnT H'.T x = some (p.1, ⟨p.2.r, v⟩)) ∧ w2.cell? ⟨g, 1, none⟩ = some H.vo ∧ ∀ i, w2.frozen? ⟨g, i, none⟩ = false) := hide (fun v' w2 ho hg hbk => by
    obtain ⟨k1, k2, k3⟩ := fin_two h1 ho hg (.inl hbk)
    exact ⟨⟨⟨H.kb, H.sb, v', H.fs, setT H.T x v⟩, Its.bshut (H := ⟨H.kb, H.sb, v', H.fs, setT H.T x v⟩) (S := ⟨setE S.all x v, S.done⟩) k1 (hlie.set hv hsta), setT_at hT⟩, k2, k3⟩)
  rw [ev] at HR
  obtain ⟨i, hi⟩ : ∃ i, (opT T1).length = i := ⟨_, rfl⟩
  obtain ⟨n, hn⟩ : ∃ n, ((opT H.T).map (·.1)).length = n := ⟨_, rfl⟩
  rw [hn] at KI KD c1 c1' HR hil
  rw [hi] at KI KD hil
  have hn1 : n ≤ 1000 := by rw [← hn]; simpa using hfew
  have j0 : (0 : Int) ≤ (i : Int) := by omega
  have j1 : (i : Int) ≤ 1000 := by omega
  have hpg : p.1 ≠ g := fun e => hgp e.symm
  obtain ⟨b, e⟩ := p
  simp only at *
  clear h hb hlie hsta hpx h1 eT n1 n2 hfew d0 d1 d2 hbox hrow ev ei hnd hcut hil hr hi hn hn1 hT hp hv hne1
  go_enter Try.func28, Try.ntmps28
  go_upto_region 1 with fail
  generalize w.setCell ⟨b, 3, none⟩ (.int .i64 v) = W1 at *
  go_wp2_with (first
    | (go_at_call 37; refine KI.out.mono ?_; rintro e w1 ⟨rfl, rfl⟩)
    | (go_at_call 38; refine KD.out.mono ?_; rintro e w3 ⟨v3, rfl, L3, G3, O3⟩; obtain ⟨a3, n3, rfl⟩ := L3.rd.form; obtain ⟨t1, x4, x5⟩ := HR.out _ _ L3 G3 O3; have HT1 := hide t1; generalize (List.map (fun x => x.fst) (opT (setT H.T x v))).length = n4 at *; clear L3 G3 O3 t1))
  refine bodyPost_end (results_none rfl _ _ _) rfl ?_
  exact ⟨rfl, HT1.out⟩
end
end Go.Proofs.Ytfmpipihjnpimaa
