/- The program's sender and the document's side by side: Tick, AckTo. -/
import Derived.Test.YteihajppgooadaaPly
namespace Go.Proofs.Yteihajppgooadaa
open Go.RowKit
set_option linter.unusedVariables false

def DTo (B : Nat) (S S' : Sd) (D : Dc) (x m code : Int) : Prop := ∀ W, Ag B W S D → B ≤ W.heap.size → Calls Try.prog 20 #[.agg D.cells, .int .u16 x] W fun e W' => ∃ D', e = .returned (.tuple #[.agg D'.cells, .int .i64 m, .int .i64 code]) ∧ Ag B W' S' D' ∧ Below W.heap.size W W'

theorem rleft_pre (m : Int) : ∀ (ps : List Pc), ps.Pairwise (fun p q => p.n < q.n) → rleft m (ps.map toR) = (ps.drop (pre m ps)).map toR
  | [], _ => rfl
  | p :: ps, h => by
    obtain ⟨h1, h2⟩ := List.pairwise_cons.1 h
    by_cases hm : p.n < m
    · have e1 : pre m (p :: ps) = pre m ps + 1 := by unfold pre; rw [List.takeWhile_cons_of_pos (by simpa using hm)]; rfl
      have e2 : rleft m ((p :: ps).map toR) = rleft m (ps.map toR) := by
        unfold rleft
        rw [List.map_cons, List.filter_cons_of_neg (by show ¬ decide (m ≤ p.n) = true; simp; omega)]
      rw [e1, e2, List.drop_succ_cons]
      exact rleft_pre m ps h2
    · have e1 : pre m (p :: ps) = 0 := by unfold pre; rw [List.takeWhile_cons_of_neg (by simpa using hm)]; rfl
      rw [e1, List.drop_zero]
      unfold rleft
      rw [List.filter_eq_self]
      intro q hq
      obtain ⟨p', hp', rfl⟩ := List.mem_map.1 hq
      show decide (m ≤ p'.n) = true
      rcases List.mem_cons.1 hp' with rfl | hp'
      · simp; omega
      · have := h1 p' hp'; simp; omega

theorem pto_any {w : World} {g B : Nat} {S : Sd} {D : Dc} (H : Snd w g B S) (hA : Ag B w S D) (hc : S.dead = false → S.count ≤ 1000) (x : Int) (x0 : 0 ≤ x) (x1 : x ≤ 65535) :
    Calls Try.prog 19 #[.pointer (some ⟨g, 0, none⟩), .int .u16 x] w fun e w' => ∃ S' m code, e = .returned (.tuple #[.int .i64 m, .int .i64 code]) ∧ Snd w' g B S' ∧ Chg g S.v w w' ∧ (S'.dead = false → S.dead = false ∧ S'.count ≤ S.count + 1) ∧ DTo B S S' D x m code := by
  cases hd : S.dead with
  | true =>
    refine (to_dead H hd x).mono ?_
    rintro e w' ⟨rfl, rfl⟩
    refine ⟨S, 0, 190, rfl, H, Chg.refl _ _ _, (fun h => by rw [hd] at h; cases h), fun W hW hBW => ?_⟩
    obtain ⟨y0, y1, y2, y3, y4, ya, yn, yc, yd⟩ := D
    have hyd : yd = true := hW.dead.trans hd
    subst hyd
    refine (rto_dead y0 y1 y2 y3 y4 ya yn yc x W).mono ?_
    rintro e W' ⟨rfl, hb⟩
    exact ⟨⟨y0, y1, y2, y3, y4, ya, yn, yc, true⟩, rfl, hW.keep hb, hb⟩
  | false =>
    have hL := hA.liv hd
    have hcc := hc hd
    have hlen := hL.fit.ok.len H.lim.win.1
    have hw := H.lim.win
    have hlo := hL.fit.ok.lo H.lim.win.1
    have hp := hL.pos.1
    have hl1 : S.ps.length ≤ 1000 := by omega
    have hlo0 : 0 ≤ S.lo := by
      cases hps : S.ps with
      | nil => rw [S.lo_nil hps]; exact hp
      | cons p0 r =>
        have h0 : S.ps[0]? = some p0 := by rw [hps]; rfl
        rw [S.lo_at h0]
        exact hL.pos.2 p0 (List.mem_of_getElem? h0)
    obtain ⟨y0, y1, y2, y3, y4, ya, yn, yc, yd⟩ := D
    have q0 := hL.win
    have q1 := hL.pause
    have q2 := hL.times
    have q3 := hL.fst
    have q4 := hL.count
    have q5 := hL.n
    have q6 : yd = false := hA.dead.trans hd
    simp only at q0 q1 q2 q3 q4 q5
    have q7 : (S.ps.map toR).length = yn := by rw [toR_len, q5]
    subst q0 q1 q2 q3 q4 q6
    have hlq : ((S.ps.map toR).length = 0 → S.lo = S.count) ∧ ∀ p, (S.ps.map toR)[0]? = some p → p.n = S.lo := by
      refine ⟨fun h => S.lo_nil (List.eq_nil_of_length_eq_zero (by rw [toR_len] at h; exact h)), fun q hq => ?_⟩
      rw [List.getElem?_map] at hq
      obtain ⟨p0, h0, rfl⟩ := Option.map_eq_some_iff.1 hq
      rw [S.lo_at h0]; rfl
    have doc : ∀ W, Ag B W S ⟨S.win, S.pause, S.times, S.first, S.count, ya, yn, yc, false⟩ → Calls Try.prog 20 #[.agg #[.int .i64 S.win, .int .i64 S.pause, .int .i64 S.times, .int .u16 S.first, .int .i64 S.count, .slice ya yn yc, .bool false], .int .u16 x] W fun e w' => Below W.heap.size W w' ∧ RTo S.win S.pause S.times S.first S.count S.lo x ya yc (S.ps.map toR) W e w' := fun W hW => by
      have hr := (hW.liv hd).row.rd
      simp only at hr
      rw [← q7] at hr ⊢
      exact rto_any S.win S.pause S.times S.first S.count S.lo x ya yc (S.ps.map toR) W hr (by rw [toR_len]; exact hl1) H.lim.first ⟨hlo0, hlo.2, by omega⟩ hlq
    by_cases hx : up (sq S.first S.lo) x < S.count - S.lo + 1
    · obtain ⟨m, hm⟩ : ∃ m, S.lo + up (sq S.first S.lo) x = m := ⟨_, rfl⟩
      have hm1 : S.lo ≤ m ∧ m ≤ S.count := by rw [← hm]; unfold up at hx ⊢; omega
      have hm2 : sq S.first m = x := by rw [← hm]; unfold up sq; omega
      have hto := to_ok H hL.fit.ok hd m hm1
      rw [hm2] at hto
      refine hto.mono ?_
      rintro e w' ⟨rfl, v', H', C', _⟩
      refine ⟨S.cut v' 0 (pre m S.ps), (pre m S.ps : Int), 0, rfl, H', C', (fun h => ⟨rfl, by show S.count ≤ _; omega⟩), fun W hW hBW => ?_⟩
      refine (doc W hW).mono ?_
      rintro e W' ⟨hb, h | h⟩
      · obtain ⟨m', m1, m2, m3, m4, a', c', rfl, ho⟩ := h
        have em : m' = m := sq_eq (first := S.first) (by rw [m3, hm2]) (by omega) (by omega)
        subst em
        have el := rleft_pre m' S.ps hL.fit.ok.ord
        rw [el, toR_len] at ho
        rw [el, toR_len, toR_len]
        have hpl := pre_le m' S.ps
        have ed : (S.ps.drop (pre m' S.ps)).length = S.ps.length - pre m' S.ps := List.length_drop
        refine ⟨⟨S.win, S.pause, S.times, S.first, S.count, a', (S.ps.drop (pre m' S.ps)).length, c', false⟩, ?_, ⟨hd.symm, H.lim.first, fun _ => ⟨hL.fit.cut v' _ _ (by omega), rfl, rfl, rfl, rfl, rfl, ⟨hL.pos.1, fun q hq => hL.pos.2 q (cut_mem hq)⟩, ?_, ?_⟩⟩, hb⟩
        · have ei : (S.ps.length : Int) - ((S.ps.drop (pre m' S.ps)).length : Int) = (pre m' S.ps : Int) := by rw [ed]; omega
          rw [ei]; rfl
        · show _ = (S.ps.take 0 ++ S.ps.drop (pre m' S.ps)).length
          simp
        · show rE.Own _ _ _ ((S.ps.take 0 ++ S.ps.drop (pre m' S.ps)).map toR)
          rw [List.take_zero, List.nil_append]
          exact ho.mono hBW
      · exact absurd hm2 (h.1 m hm1.1 hm1.2)
    · refine (to_none H hL.fit.ok hd x hx).mono ?_
      rintro e w' ⟨rfl, n, rfl⟩
      refine ⟨S, 0, 4, rfl, H.drewN n, Chg.of_below ⟨rfl, rfl, rfl, Nat.le_refl _, fun _ _ => rfl⟩, (fun h => ⟨rfl, by omega⟩), fun W hW hBW => ?_⟩
      refine (doc W hW).mono ?_
      rintro e W' ⟨hb, h | h⟩
      · obtain ⟨m', m1, m2, m3, m4, _⟩ := h
        exact absurd (show up (sq S.first S.lo) x < S.count - S.lo + 1 by rw [← m3]; unfold up sq; omega) hx
      · obtain ⟨_, rfl⟩ := h
        rw [q7]
        exact ⟨⟨S.win, S.pause, S.times, S.first, S.count, ya, yn, yc, false⟩, rfl, hW.keep hb, hb⟩

/-- what the document's Tick answers, and that the law finds the same -/
def DTick (B : Nat) (S S' : Sd) (D : Dc) (w' : World) (v : Value) (code : Int) : Prop := ∀ W, Ag B W S D → B ≤ W.heap.size → Below w'.heap.size w' W → Calls Try.prog 15 #[.agg D.cells] W fun e W' => ∃ D' vw, e = .returned (.tuple #[.agg D'.cells, vw, .int .i64 code]) ∧ Ag B W' S' D' ∧ Below W.heap.size W W' ∧
  ∀ W2, (∀ (k : Nat) (cur : Array Value) (t : TypeId), t ≠ 33 → W'.heap[k]? = some (Obj.cells cur t) → W2.heap[k]? = W'.heap[k]?) → Calls Try.prog 16 #[v, .agg D'.cells, vw] W2 fun e W3 => e = .returned (.bool true) ∧ Below W2.heap.size W2 W3

theorem due_eq {S : Sd} (hO : S.Ok) {p : Pc} (hp : p ∈ S.ps) : rdue S.pause (toR p) = due S.pause p := by
  have := hO.tim p hp
  unfold rdue due
  show decide (p.sent = 0 ∨ S.pause ≤ p.ago + 1) = _
  congr 1
  exact propext ⟨fun h => by omega, fun h => by omega⟩
theorem ends_eq {S : Sd} (hO : S.Ok) {p : Pc} (hp : p ∈ S.ps) : rends S.pause S.times (toR p) = ends S p := by
  have := hO.tim p hp
  unfold rends ends
  rw [due_eq hO hp]
  congr 1
  show decide (S.times ≤ p.sent) = _
  congr 1
  exact propext ⟨fun h => by omega, fun h => by omega⟩
theorem tk_eq {S : Sd} (hO : S.Ok) {p : Pc} (hp : p ∈ S.ps) : rtk S.pause (toR p) = toR (tk S.pause p) := by
  unfold rtk tk
  rw [due_eq hO hp]
  split <;> rfl
theorem dies_eq {S : Sd} (hO : S.Ok) : (S.ps.map toR).any (rends S.pause S.times) = S.dies := by
  unfold Sd.dies
  rw [List.any_map]
  have : ∀ (l : List Pc), (∀ p ∈ l, p ∈ S.ps) → l.any (rends S.pause S.times ∘ toR) = l.any (ends S) := by
    intro l
    induction l with
    | nil => intro _; rfl
    | cons p l ih =>
      intro h
      rw [List.any_cons, List.any_cons, ih (fun q hq => h q (by simp [hq]))]
      congr 1
      exact ends_eq hO (h p (by simp))
  exact this _ (fun p h => h)
theorem tks_eq {S : Sd} (hO : S.Ok) : (S.ps.map toR).map (rtk S.pause) = S.tick.ps.map toR := by
  show _ = (S.ps.map (tk S.pause)).map toR
  rw [List.map_map, List.map_map]
  exact List.map_congr_left fun p hp => tk_eq hO hp
theorem outs_eq {S : Sd} (hO : S.Ok) : (routs S.pause (S.ps.map toR)).map (fun p => (sq S.first p.n, p.d)) = S.outs.map (fun o => (o.1, str o.2)) := by
  unfold routs Sd.outs
  have : ∀ (l : List Pc), (∀ p ∈ l, p ∈ S.ps) → (((l.map toR).filter (rdue S.pause)).map (rtk S.pause)).map (fun p => (sq S.first p.n, p.d)) = ((l.filter (due S.pause)).map (fun p => (sq S.first p.n, p.d))).map (fun o => (o.1, str o.2)) := by
    intro l
    induction l with
    | nil => intro _; rfl
    | cons p l ih =>
      intro h
      have hp := h p (by simp)
      have ih := ih (fun q hq => h q (by simp [hq]))
      rw [List.map_cons]
      by_cases hdue : due S.pause p = true
      · rw [List.filter_cons_of_pos (by rw [due_eq hO hp]; exact hdue), List.filter_cons_of_pos hdue]
        simp only [List.map_cons]
        rw [ih, tk_eq hO hp]
        congr 1
        have e := tk_n S.pause p
        show (sq S.first (tk S.pause p).n, str (tk S.pause p).d) = _
        rw [e.1, e.2.1]
      · rw [List.filter_cons_of_neg (by rw [due_eq hO hp]; exact hdue), List.filter_cons_of_neg hdue]
        exact ih
  exact this _ (fun p h => h)

theorem ptick_any {w : World} {g B : Nat} {S : Sd} {D : Dc} (H : Snd w g B S) (hA : Ag B w S D) (hc : S.dead = false → S.count ≤ 1000) :
    Calls Try.prog 14 #[.pointer (some ⟨g, 0, none⟩)] w fun e w' => ∃ S' v code, e = .returned (.tuple #[v, .int .i64 code]) ∧ Snd w' g B S' ∧ Chg g S.v w w' ∧ (S'.dead = false → S.dead = false ∧ S'.count ≤ S.count + 1) ∧ DTick B S S' D w' v code := by
  have none : ∀ (D' : Dc) (W2 : World), (0 ≤ D'.first ∧ D'.first ≤ 65535) → Calls Try.prog 16 #[.slice none 0 0, .agg D'.cells, .slice none 0 0] W2 fun e W3 => e = .returned (.bool true) ∧ Below W2.heap.size W2 W3 := fun D' W2 hf =>
    osame_any D'.win D'.pause D'.times D'.first D'.count D'.a D'.n D'.c D'.dead none none 0 0 [] [] W2 (.inl ⟨rfl, rfl⟩) (.inl ⟨rfl, rfl⟩) (fun o h => by cases h) rfl (by simp) hf (fun p h => by cases h)
  cases hd : S.dead with
  | true =>
    refine (tick_dead H hd).mono ?_
    rintro e w' ⟨rfl, rfl⟩
    refine ⟨S, _, 190, rfl, H, Chg.refl _ _ _, (fun h => by rw [hd] at h; cases h), fun W hW hBW _ => ?_⟩
    obtain ⟨y0, y1, y2, y3, y4, ya, yn, yc, yd⟩ := D
    have hyd : yd = true := hW.dead.trans hd
    subst hyd
    refine (rtick_dead y0 y1 y2 y3 y4 ya yn yc W).mono ?_
    rintro e W' ⟨rfl, hb⟩
    exact ⟨⟨y0, y1, y2, y3, y4, ya, yn, yc, true⟩, _, rfl, hW.keep hb, hb, fun W2 _ => none _ W2 hW.first⟩
  | false =>
    have hL := hA.liv hd
    have hcc := hc hd
    have hlen := hL.fit.ok.len H.lim.win.1
    have hw := H.lim.win
    have hp := hL.pos.1
    have hl1 : S.ps.length ≤ 1000 := by omega
    obtain ⟨y0, y1, y2, y3, y4, ya, yn, yc, yd⟩ := D
    have q0 := hL.win
    have q1 := hL.pause
    have q2 := hL.times
    have q3 := hL.fst
    have q4 := hL.count
    have q5 := hL.n
    have q6 : yd = false := hA.dead.trans hd
    simp only at q0 q1 q2 q3 q4 q5
    have q7 : (S.ps.map toR).length = yn := by rw [toR_len, q5]
    subst q0 q1 q2 q3 q4 q6
    have hpz := H.lim.pause
    have htz := H.lim.times
    have hbs : ∀ p ∈ S.ps.map toR, 0 ≤ p.sent ∧ p.sent ≤ 1000 ∧ 0 ≤ p.ago ∧ p.ago ≤ 100000 := fun q hq => by
      obtain ⟨p, hp', rfl⟩ := List.mem_map.1 hq
      have h2 := hL.fit.ok.tim p hp'
      refine ⟨h2.1, ?_, h2.2.2.1, ?_⟩
      · show p.sent ≤ 1000; omega
      · show p.ago ≤ 100000; omega
    have doc : ∀ W, Ag B W S ⟨S.win, S.pause, S.times, S.first, S.count, ya, yn, yc, false⟩ → Calls Try.prog 15 #[.agg #[.int .i64 S.win, .int .i64 S.pause, .int .i64 S.times, .int .u16 S.first, .int .i64 S.count, .slice ya yn yc, .bool false]] W fun e w' => Below W.heap.size W w' ∧ RTick S.win S.pause S.times S.first S.count ya yc (S.ps.map toR) W e w' := fun W hW => by
      have hr := (hW.liv hd).row.rd
      simp only at hr
      rw [← q7] at hr ⊢
      exact rtick_any S.win S.pause S.times S.first S.count ya yc (S.ps.map toR) W hr (by rw [toR_len]; exact hl1) hbs
    cases hdie : S.dies with
    | true =>
      refine (tick_die H hL.fit hd hdie).mono ?_
      rintro e w' ⟨C', rfl, ps', H'⟩
      refine ⟨_, _, 190, rfl, H', C', (fun h => by cases h), fun W hW hBW _ => ?_⟩
      refine (doc W hW).mono ?_
      rintro e W' ⟨hb, h | h⟩
      · obtain ⟨_, rfl⟩ := h
        rw [q7]
        exact ⟨⟨S.win, S.pause, S.times, S.first, S.count, ya, yn, yc, true⟩, _, rfl, ⟨rfl, H.lim.first, fun h => by cases h⟩, hb, fun W2 _ => none _ W2 H.lim.first⟩
      · have := h.1
        rw [dies_eq hL.fit.ok, hdie] at this
        cases this
    | false =>
      refine (tick_ok H hL.fit hd hdie).mono ?_
      rintro e w' ⟨C', v, os, rfl, H', ho, he, hdat⟩
      refine ⟨_, v, 0, rfl, H', C', (fun h => ⟨rfl, by show S.count ≤ _; omega⟩), fun W hW hBW hbW => ?_⟩
      refine (doc W hW).mono ?_
      rintro e W' ⟨hb, h | h⟩
      · have := h.1
        rw [dies_eq hL.fit.ok, hdie] at this
        cases this
      · obtain ⟨_, vo, vn, rfl, o1, o2⟩ := h
        rw [tks_eq hL.fit.ok] at o2
        obtain ⟨an, cn, rfl⟩ := o2.rd.form
        obtain ⟨ao, co, rfl⟩ := o1.rd.form
        have hft := hL.fit.tick H.lim hdie
        refine ⟨⟨S.win, S.pause, S.times, S.first, S.count, an, (S.tick.ps.map toR).length, cn, false⟩, _, rfl, ⟨hd.symm, H.lim.first, fun _ => ⟨hft, rfl, rfl, rfl, rfl, rfl, ⟨hL.pos.1, ?_⟩, toR_len _, o2.mono hBW⟩⟩, hb, fun W2 h2 => ?_⟩
        · intro q hq
          obtain ⟨p, hp', rfl⟩ := List.mem_map.1 hq
          rw [(tk_n S.pause p).1]
          exact hL.pos.2 p hp'
        · obtain ⟨av, cv, rfl⟩ := ho.rd.form
          have ho2 : outE.Own W2 w.heap.size (.slice av os.length cv) os := own_chg ((ho.keep hbW).keep hb) fun k cur _ hc => h2 k cur 64 (by decide) hc
          have hd2 : ∀ o ∈ os, bytesE.Rd W2 o.v o.d := fun o hoo => (own_chg (((hdat o hoo).keep hbW).keep hb) fun k cur _ hc => h2 k cur 5 (by decide) hc).rd
          have ow2 : rE.Own W2 W.heap.size (.slice ao (routs S.pause (S.ps.map toR)).length co) (routs S.pause (S.ps.map toR)) := own_chg o1 fun k cur _ hc => h2 k cur 85 (by decide) hc
          have hm : os.map (fun o => (o.s, str o.d)) = (routs S.pause (S.ps.map toR)).map (fun p => (sq S.first p.n, p.d)) := by
            rw [outs_eq hL.fit.ok, ← he, List.map_map]; rfl
          refine osame_any S.win S.pause S.times S.first S.count an _ cn false av ao cv co os _ W2 ho2.rd ow2.rd hd2 hm ?_ H.lim.first ?_
          · have := routs_len S.pause (S.ps.map toR)
            rw [toR_len] at this
            omega
          · intro q hq
            unfold routs at hq
            obtain ⟨r, hr, rfl⟩ := List.mem_map.1 hq
            obtain ⟨p, hp', rfl⟩ := List.mem_map.1 (List.mem_filter.1 hr).1
            rw [tk_eq hL.fit.ok hp']
            have h1 := hL.pos.2 p hp'
            have h2 := hL.fit.ok.num p hp'
            show 0 ≤ (tk S.pause p).n ∧ (tk S.pause p).n ≤ 1000000
            rw [(tk_n S.pause p).1]
            omega
end Go.Proofs.Yteihajppgooadaa
