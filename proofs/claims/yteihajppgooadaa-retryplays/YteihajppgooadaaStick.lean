/- Tick. -/
import Derived.Test.YteihajppgooadaaSend
namespace Go.Proofs.Yteihajppgooadaa
open Go.RowKit
set_option linter.unusedVariables false

/-- what is sent: its number, its data's slice, and the bytes -/
structure Ot where
  s : Int
  a : Option Addr
  l : Nat
  c : Nat
  d : List Int
abbrev Ot.v (o : Ot) : Value := .slice o.a o.l o.c
def outE : El Try.prog Ot where
  t := 43
  e := 64
  k := 2
  by' := 32
  z := .agg #[.int .u16 0, .slice none 0 0]
  enc o := [.int .u16 o.s, .slice o.a o.l o.c]
  ht := Try.underlying43
  info := by kernel_rfl
  zc := rfl
  kpos := by omega
  bsm := by omega
  len _ := rfl
  one x v hv := by simp at hv; rcases hv with rfl | rfl <;> rfl

def due (pause : Int) (p : Pc) : Bool := decide (p.sent = 0 ∨ p.ago + 1 = pause)
/-- a piece behind a tick -/
def tk (pause : Int) (p : Pc) : Pc := if due pause p then { p with sent := p.sent + 1, ago := 0 } else { p with ago := p.ago + 1 }
/-- a piece would be sent once too often -/
def ends (S : Sd) (p : Pc) : Bool := due S.pause p && decide (p.sent = S.times)
def Sd.dies (S : Sd) : Bool := S.ps.any (ends S)
def Sd.tick (S : Sd) : Sd := { S with ps := S.ps.map (tk S.pause) }
/-- what is sent at a tick -/
def Sd.outs (S : Sd) : List (Int × List Int) := (S.ps.filter (due S.pause)).map (fun p => (sq S.first p.n, p.d))

/-- the pieces of which the first k had their tick -/
def part (pause : Int) (ps : List Pc) (k : Nat) : List Pc := (ps.take k).map (tk pause) ++ ps.drop k
theorem part_len (pause : Int) (ps : List Pc) (k : Nat) : (part pause ps k).length = ps.length := by
  unfold part
  rw [List.length_append, List.length_map, List.length_take, List.length_drop]; omega
theorem part_at (pause : Int) (ps : List Pc) (k : Nat) (hk : k ≤ ps.length) : (part pause ps k)[k]? = ps[k]? := by
  unfold part
  have hl : ((ps.take k).map (tk pause)).length = k := by rw [List.length_map, List.length_take]; omega
  rw [List.getElem?_append_right (by omega), hl, List.getElem?_drop]
  simp
theorem part_next (pause : Int) (ps : List Pc) (k : Nat) (p : Pc) (hp : ps[k]? = some p) : (part pause ps k).set k (tk pause p) = part pause ps (k + 1) := by
  obtain ⟨hk, he⟩ := List.getElem?_eq_some_iff.1 hp
  unfold part
  have hl : ((ps.take k).map (tk pause)).length = k := by rw [List.length_map, List.length_take]; omega
  rw [List.set_append_right _ _ (by omega), hl, Nat.sub_self, List.drop_eq_getElem_cons hk, he, List.set_cons_zero, List.take_add_one, hp, List.map_append]
  simp

/-- what was sent of the first k -/
structure Sent (w wr : World) (S : Sd) (k : Nat) (os : List Ot) : Prop where
  eq : os.map (fun o => (o.s, o.d)) = (((S.ps.take k).filter (due S.pause)).map (fun p => (sq S.first p.n, p.d)))
  dat : ∀ o ∈ os, bytesE.Own wr w.heap.size o.v o.d
  len : os.length ≤ k

theorem Sent.zero (w wr : World) (S : Sd) : Sent w wr S 0 [] := ⟨by simp, (fun o h => by cases h), Nat.le_refl _⟩
theorem Sent.skip {w wr wr' : World} {S : Sd} {k : Nat} {os : List Ot} {p : Pc} (h : Sent w wr S k os) (hp : S.ps[k]? = some p) (hd : due S.pause p = false) (hk : ∀ o ∈ os, bytesE.Own wr' w.heap.size o.v o.d) : Sent w wr' S (k + 1) os :=
  ⟨by rw [h.eq, List.take_add_one, hp, List.filter_append]; simp [hd], hk, Nat.le_succ_of_le h.len⟩
theorem Sent.more {w wr wr' : World} {S : Sd} {k : Nat} {os : List Ot} {p : Pc} {o : Ot} (h : Sent w wr S k os) (hp : S.ps[k]? = some p) (hd : due S.pause p = true) (hk : ∀ o ∈ os, bytesE.Own wr' w.heap.size o.v o.d) (ho : o.s = sq S.first p.n ∧ o.d = p.d) (ho' : bytesE.Own wr' w.heap.size o.v o.d) : Sent w wr' S (k + 1) (os ++ [o]) :=
  ⟨by rw [List.map_append, h.eq, List.take_add_one, hp, List.filter_append]; simp [hd, ho.1, ho.2], fun x hx => by
    rcases List.mem_append.1 hx with hx | hx
    · exact hk x hx
    · have e : x = o := by simpa using hx
      rw [e]; exact ho', by have := h.len; simp; omega⟩

theorem out_new (w : World) (o : Ot) (g : Nat) (hg : g = w.heap.size) : outE.Rd (w.alloc (.cells #[.int .u16 o.s, .slice o.a o.l o.c] 64)) (.slice (some ⟨g, 0, none⟩) 1 1) [o] := by
  subst hg
  refine .inr ⟨_, 1, rfl, fun i hi => ?_⟩
  rw [addr_plain, Nat.zero_add]
  have e : (w.alloc (.cells #[.int .u16 o.s, .slice o.a o.l o.c] 64)).heap[w.heap.size]? = some (.cells #[.int .u16 o.s, .slice o.a o.l o.c] 64) := by
    show (w.heap.push _)[w.heap.size]? = _
    simp
  unfold World.cell?
  simp only [e]
  have : i < 2 := by simpa [outE] using hi
  match i, this with
  | 0, _ => rfl
  | 1, _ => rfl

/-- append onto a row of whatever base, where the order is the text's -/
theorem El.step0 {P : Program} {α : Type} (E : El P α) {B : Nat} {w : World} (hB : B ≤ w.heap.size) {ops : Array Oper} {rest : List Oper} {o : Oper} {a : Act} {Q : Exit → Act → World → Prop} (hwant : Region.wanted o (yielded ops a.tmps) = true) (s x : Operand)
    (ho : o.op = .call { callee := .builtin .append, args := #[s, x], argTypes := #[E.t, E.t] }) (v u : Value) (hs : a.eval s = v) (hx : a.eval x = u)
    (xs ys : List α) (hown : E.Own w B v xs) (hu : E.Rd w u ys) (hn : xs.length + ys.length ≤ 1000000)
    (h : ∀ v' w', E.Own w' B v' (xs ++ ys) → w.grownBy w' v.ownBlock → (v'.ownBlock = v.ownBlock ∨ v'.ownBlock = some w.heap.size) → wpList P ops Q rest (a.put o.dst v') w') : wpList P ops Q (o :: rest) a w := by
  obtain ⟨v', w', hr, h2, h3, h4⟩ := E.run hown hB hu hn o.type
  refine wpList_step fun K hK => ?_
  rw [if_pos hwant]
  unfold Oper.wp execOp
  simp only [ho, resolve, invoke, builtin, Sem.run_bind, Sem.run_pure, Result.andThen_ok, List.map_toArray, List.map_cons, List.map_nil, hs, hx, hr]
  exact hK _ _ (h v' w' h2 h3 h4)

/-- a row outlives the growth of one of other elements -/
theorem own_grown {α β : Type} {E : El Try.prog α} {F : El Try.prog β} {w w' : World} {B B' : Nat} {v u : Value} {xs : List α} {ys : List β} (h : E.Own w B v xs) (h' : F.Own w B' u ys) (hne : E.e ≠ F.e) (hg : w.grownBy w' u.ownBlock) : E.Own w' B v xs :=
  own_chg h fun k cur _ hc => hg.block k (heap_lt hc) fun e => by
    obtain ⟨cur', hc', _⟩ := own_cells h' k e.symm
    rw [hc'] at hc; simp only [Option.some.injEq, Obj.cells.injEq] at hc; exact hne hc.2.1.symm
theorem Snd.grown {β : Type} {F : El Try.prog β} {w w' : World} {g B B' : Nat} {S : Sd} {u : Value} {ys : List β} (H : Snd w g B S) (h' : F.Own w B' u ys) (h1 : F.e ≠ 79) (h2 : F.e ≠ 83) (h3 : F.e ≠ 5) (hg : w.grownBy w' u.ownBlock) : Snd w' g B S := by
  have st : ∀ k cur t, t ≠ F.e → w.heap[k]? = some (Obj.cells cur t) → w'.heap[k]? = w.heap[k]? := fun k cur t ht hc => hg.block k (heap_lt hc) fun e => by
    obtain ⟨cur', hc', _⟩ := own_cells h' k e.symm
    rw [hc'] at hc; simp only [Option.some.injEq, Obj.cells.injEq] at hc; exact ht hc.2.1.symm
  exact ⟨H.lim, H.base, by rw [st g _ 79 h1.symm H.box]; exact H.box, H.lies.stay (fun k cur _ hc => st k cur 83 h2.symm hc) (fun k cur hc _ => st k cur 5 h3.symm hc)⟩
theorem Chg.grown {g : Nat} {v : Value} {a w w' : World} {row : Option Nat} (x : Chg g v a w) (hg : w.grownBy w' row) (hr : ∀ k, row = some k → a.heap.size ≤ k) : Chg g v a w' :=
  ⟨hg.os.trans x.os, hg.tape.trans x.tape, hg.output.trans x.output, Nat.le_trans x.size hg.size, fun k hk h1 h2 => (hg.block k (Nat.lt_of_lt_of_le hk x.size) (fun e => by have := hr k e.symm; omega)).trans (x.block k hk h1 h2)⟩

theorem o79 : outE.e ≠ 79 := by decide
theorem o83 : outE.e ≠ 83 := by decide

set_option maxHeartbeats 1000000 in
theorem tick_dead {w : World} {g B : Nat} {S : Sd} (H : Snd w g B S) (hd : S.dead = true) : Calls Try.prog 14 #[.pointer (some ⟨g, 0, none⟩)] w fun e w' => e = .returned (.tuple #[.slice none 0 0, .int .i64 190]) ∧ w' = w := by
  obtain ⟨c0, c1, c2, c3, c4, c5⟩ := H.cells
  rw [hd] at c5
  clear H hd
  go_enter Try.func14, Try.ntmps14
  go_wp2_with fail
  go_ret2
  exact ⟨rfl, rfl⟩

/-- what a tick that goes by answers -/
def TickOk (w : World) (g B : Nat) (S : Sd) (e : Ending) (w' : World) : Prop := ∃ v os, e = .returned (.tuple #[v, .int .i64 0]) ∧ Snd w' g B S.tick ∧ outE.Own w' w.heap.size v os ∧ os.map (fun o => (o.s, o.d)) = S.outs ∧ ∀ o ∈ os, bytesE.Own w' w.heap.size o.v o.d
/-- what a tick that is the last answers -/
def TickNo (g B : Nat) (S : Sd) (e : Ending) (w' : World) : Prop := e = .returned (.tuple #[.slice none 0 0, .int .i64 190]) ∧ ∃ ps', Snd w' g B { S with ps := ps', dead := true }
theorem any_take {S : Sd} {k : Nat} (h : ∀ j p, j < k → S.ps[j]? = some p → ends S p = false) (hk : S.ps.length ≤ k) : S.dies = false := by
  unfold Sd.dies
  rw [List.any_eq_false]
  intro p hp
  obtain ⟨j, hj, rfl⟩ := List.mem_iff_getElem.1 hp
  simp [h j _ (by omega) (List.getElem?_eq_getElem hj)]
theorem any_at {S : Sd} {k : Nat} {p : Pc} (hp : S.ps[k]? = some p) (h : ends S p = true) : S.dies = true := by
  unfold Sd.dies
  rw [List.any_eq_true]
  exact ⟨p, List.mem_of_getElem? hp, h⟩

set_option maxRecDepth 100000 in
set_option maxHeartbeats 8000000 in
theorem tick_any {w : World} {g B : Nat} {S : Sd} (H : Snd w g B S) (hO : S.Ok) (hdl : ∀ p ∈ S.ps, p.d.length ≤ 256) (hd : S.dead = false) : Calls Try.prog 14 #[.pointer (some ⟨g, 0, none⟩)] w fun e w' => Chg g S.v w w' ∧
    ((S.dies = false ∧ TickOk w g B S e w') ∨ (S.dies = true ∧ TickNo g B S e w')) := by
  obtain ⟨c0, c1, c2, c3, c4, c5⟩ := H.cells
  rw [hd] at c5
  have hlen := hO.len H.lim.win.1
  have hw := H.lim.win
  obtain ⟨a, c, hv, _, _, _, hax⟩ := H.lies.form
  obtain ⟨n, hn⟩ : ∃ n, S.ps.length = n := ⟨_, rfl⟩
  rw [hn] at hv hlen
  rw [hv] at c4
  have i0 : (n : Int) ≤ 1000 := by omega
  have HO := hide hO
  have HH := hide H
  have Hn := hide hn
  have Hv := hide hv
  have Hdl := hide hdl
  clear H hd c0 c1 c2 c3 hlen hw hn hv hO hdl
  go_enter Try.func14, Try.ntmps14
  go_wp2_with fail
  clear c4 c5
  go_loopw [4, 16] (fun v4 v16 wr => ∃ (k : Nat) (os : List Ot), k ≤ n ∧ v16 = .int .i64 k ∧ Hid (Snd wr g B { S with ps := part S.pause S.ps k }) ∧ Hid (outE.Own wr w.heap.size v4 os) ∧ Hid (Sent w wr S k os) ∧ Hid (Chg g S.v w wr) ∧ Hid (∀ j p, j < k → S.ps[j]? = some p → ends S p = false)) (fun _ v16 _ => n - (intOf v16).toNat)
  case atStart => exact ⟨0, [], by omega, rfl, by unfold part; simpa using HH, hide (El.Own.nil _ _ _), hide (Sent.zero _ _ _), hide (Chg.refl _ _ _), hide (fun j p h => by omega)⟩
  case round =>
    obtain ⟨k, os, hk, rfl, HS, Ho, Hs, HC, Hno⟩ := hrel
    by_cases hlt : k < n
    · obtain ⟨p, hp⟩ : ∃ p, S.ps[k]? = some p := ⟨_, List.getElem?_eq_getElem (by rw [Hn.out]; exact hlt)⟩
      have hp' : (part S.pause S.ps k)[k]? = some p := by rw [part_at _ _ _ (by rw [Hn.out]; omega)]; exact hp
      have hL := HS.out.lies
      obtain ⟨b, c', hv', _⟩ := hL.full (by show 0 < (part S.pause S.ps k).length; rw [part_len, Hn.out]; omega)
      have hv'' := hv'
      simp only [Hv.out, part_len, Value.slice.injEq] at hv''
      obtain ⟨rfl, hnn, rfl⟩ := hv''
      clear hnn
      rw [hv'] at hL
      obtain ⟨e0, e1, e2, e3, ef⟩ := hL.at k p hp'
      have f3 := ef 3 (by omega)
      have htm := HO.out.tim p (List.mem_of_getElem? hp)
      obtain ⟨t0, t1, t2, t3⟩ := htm
      have hpz := HS.out.lim.pause
      have htz := HS.out.lim.times
      simp only at hpz htz
      have t3' : p.ago ≤ 1000 := by omega
      have t1' : p.sent ≤ 20 := by omega
      obtain ⟨c0, c1, c2, c3, c4, c5⟩ := HS.out.cells
      simp only at c4
      rw [Hv.out] at c4
      have j0 : (0 : Int) ≤ (k : Int) := by omega
      have j1 : (k : Int) < (n : Int) := by omega
      obtain ⟨p1, hp1⟩ : ∃ p1 : Pc, p1 = { p with ago := p.ago + 1 } := ⟨_, rfl⟩
      have HS1 := hide (HS.out.putP Hv.out k 3 p p1 hp' (.int .i64 (p.ago + 1)) (by omega) (by rw [hp1]; rfl) (by rw [hp1]; exact ⟨rfl, rfl⟩))
      have HC1 := hide (HC.out.trans' (by rw [Hv.out]; exact chg_row g b (k * 4 + 3) n c (.int .i64 (p.ago + 1)) wr))
      have Ho1 := hide (HS.out.other o79 o83 Ho.out (by show Chg g S.v _ _; rw [Hv.out]; exact chg_row g b (k * 4 + 3) n c (.int .i64 (p.ago + 1)) wr))
      have Hs1 := hide (fun o ho => HS.out.other b79 b83 (Hs.out.dat o ho) (by show Chg g S.v _ _; rw [Hv.out]; exact chg_row g b (k * 4 + 3) n c (.int .i64 (p.ago + 1)) wr))
      have Hp := hide hp
      have Hp' := hide hp'
      clear hL hp hp' hv' e0 e1 e2 ef c0 c1 c2 c3 c5 hpz htz
      go_upto_region 9 with fail
      generalize wr.setCell ⟨b, k * 4 + 3, none⟩ (.int .i64 (p.ago + 1)) = W at *
      clear c4 e3 f3 HS HC Ho
      have hset : ((part S.pause S.ps k).set k p1)[k]? = some p1 := by
        have := (List.getElem?_eq_some_iff.1 Hp'.out).1
        simp [this]
      have hL1 := HS1.out.lies
      simp only [Hv.out] at hL1
      obtain ⟨_, _, e2, e3, _⟩ := hL1.at k p1 hset
      have q2 : p1.sent = p.sent := by rw [hp1]
      have q3 : p1.ago = p.ago + 1 := by rw [hp1]
      have K33 := hide (due_any b (k * 4) p1.sent p1.ago S.pause W e2 e3)
      rw [q2, q3] at K33
      have ed : decide (p.sent = 0 ∨ p.ago + 1 = S.pause) = due S.pause p := rfl
      rw [ed] at K33
      obtain ⟨c0, c1, c2, c3, c4, c5⟩ := HS1.out.cells
      simp only at c1 c2
      rw [q2] at e2
      clear ed c0 c3 c4 c5 e3 hL1
      by_cases hdue : due S.pause p = true
      · have hend : ends S p = decide (p.sent = S.times) := by unfold ends; rw [hdue]; rfl
        rw [hdue] at K33
        go_upto_region 10 with (go_at_call 33; refine K33.out.mono ?_; rintro e w5 ⟨rfl, rfl⟩)
        go_quiet (fail)
        have bq : Below w5.heap.size w5 (w5.drewN nq) := ⟨rfl, rfl, rfl, Nat.le_refl _, fun _ _ => rfl⟩
        have HS2 := hide (HS1.out.keep bq)
        have HC2 := hide (HC1.out.trans' (Chg.of_below bq))
        have Ho2 := hide (Ho1.out.keep bq)
        have Hs2 := hide (fun o ho => (Hs1.out o ho).keep bq)
        generalize w5.drewN nq = W2 at *
        clear HS1 HC1 Ho1 Hs1 bq c1 c2 e2 K33
        by_cases hst : p.sent = S.times
        · have Hd := hide (any_at Hp.out (by rw [hend]; exact decide_eq_true hst))
          have c5 := HS2.out.cells.2.2.2.2.2
          have f5 := HS2.out.cold 5
          have HD := hide HS2.out.die
          have HCD := hide (HC2.out.trans' (chg_box g 5 S.v (.bool true) W2))
          clear hend hdue
          go_wp2_with fail
          go_ret2
          exact ⟨HCD.out, .inr ⟨Hd.out, (show TickNo g B S _ _ from ⟨rfl, _, HD.out⟩)⟩⟩
        · have Hend := hide (hend.trans (decide_eq_false hst))
          have K34 := hide (send_any HS2.out Hv.out p1 hset (by rw [q2]; omega) (by rw [hp1]; exact Hdl.out p (List.mem_of_getElem? Hp.out)))
          rw [show sq S.first p1.n = sq S.first p.n by rw [hp1]] at K34
          have Hdue := hide hdue
          have Hq : Hid (∀ ps, (({ p1 with sent := p1.sent + 1, ago := 0 } : Pc) = ps) → ps = tk S.pause p) := hide (fun ps e => by rw [← e, hp1]; unfold tk; rw [if_pos Hdue.out])
          have Hp1 := hide hp1
          obtain ⟨sp, hsp⟩ : ∃ sp, sq S.first p.n = sp := ⟨_, rfl⟩
          simp only [hsp] at K34
          have Hsp := hide hsp
          clear hend hdue hset hp1 q2 q3 hsp
          go_upto_region 13 with fail
          go_wp2_with (first
            | (go_at_call 34; refine K34.out.mono ?_; rintro e w6 ⟨v1, rfl, h6, hc6, ho6⟩; obtain ⟨a1, cc1, rfl⟩ := ho6.rd.form; have HS6 := hide h6; have HC6 := hide (HC2.out.trans' hc6); have Hd6 := hide (ho6.mono (Nat.le_trans HC2.out.size (Nat.le_refl _))); have Ho6 := hide (HS2.out.other o79 o83 Ho2.out hc6); have Hs6 := hide (fun o ho => HS2.out.other b79 b83 (Hs2.out o ho) hc6); clear h6 hc6 ho6)
            | (at_builtin; refine outE.step0 (B := w.heap.size) (by have := HC6.out.size; simp; omega) (by rfl) _ _ rfl _ _ rfl rfl os [⟨sp, a1, p1.d.length, cc1, p1.d⟩] (World.ownsRow.alloc Ho6.out _) (out_new w6 ⟨sp, a1, p1.d.length, cc1, p1.d⟩ _ rfl) (by have := Hs.out.len; simp; omega) ?_; intro v7 w7 ho7 hg7 hz7; refine Hid.out ?_))
          refine hide ?_
          have bX : Below w6.heap.size w6 (w6.alloc (.cells #[.int .u16 sp, .slice a1 p1.d.length cc1] 64)) := (Below.refl _ _).alloc (Nat.le_refl _) _
          have HoX : outE.Own (w6.alloc (.cells #[.int .u16 sp, .slice a1 p1.d.length cc1] 64)) w.heap.size u4 os := Ho6.out.keep bX
          have HS7 := hide ((HS6.out.keep bX).grown HoX (by decide) (by decide) (by decide) hg7)
          have HC7 := hide ((HC6.out.trans' (Chg.of_below bX)).grown hg7 (fun k hk => HoX.ge k hk))
          have Ho7 := hide ho7
          have Hs7 := hide (fun o ho => own_grown ((Hs6.out o ho).keep bX) HoX (by decide) hg7)
          have Hd7 := hide (own_grown (Hd6.out.keep bX) HoX (by decide) hg7)
          have Hpn : Hid (((part S.pause S.ps k).set k p1).set k { p1 with sent := p1.sent + 1, ago := 0 } = part S.pause S.ps (k + 1)) := hide (by
            rw [List.set_set, Hq.out _ rfl, part_next S.pause S.ps k p Hp.out])
          simp only [Hpn.out] at HS7
          clear HS6 HC6 Ho6 Hs6 Hd6 bX HoX hg7 ho7 hz7 HS2 HC2 Ho2 Hs2 K34 Hpn
          go_wp2_with fail
          go_roundw
          case rel =>
            refine ⟨k + 1, os ++ [⟨sp, a1, p1.d.length, cc1, p1.d⟩], by omega, by go_num, HS7, Ho7, hide (Hs.out.more Hp.out Hdue.out Hs7.out ⟨by rw [Hsp.out], by rw [Hp1.out]⟩ Hd7.out), HC7, hide (fun j q hj hq => ?_)⟩
            by_cases e : j = k
            · subst e
              rw [Hp.out] at hq
              cases hq
              exact Hend.out
            · exact Hno.out j q (by omega) hq
          case measure => simp [intOf]; omega
      · have hdue' : due S.pause p = false := by simpa using hdue
        rw [hdue'] at K33
        have Hnext : Hid (((part S.pause S.ps k).set k p1) = part S.pause S.ps (k + 1)) := hide (by
          rw [← part_next S.pause S.ps k p Hp.out]
          unfold tk
          rw [hdue', if_neg (by simp), hp1])
        have Hend : Hid (ends S p = false) := hide (by unfold ends; rw [hdue']; rfl)
        have Hdue := hide hdue'
        clear hdue hdue' hp1 q2 q3
        go_wp2_with (go_at_call 33; refine K33.out.mono ?_; rintro e w5 ⟨rfl, rfl⟩)
        go_roundw
        case rel =>
          refine ⟨k + 1, os, by omega, by go_num, by rw [← Hnext.out]; exact HS1, Ho1, hide (Hs.out.skip Hp.out Hdue.out Hs1.out), HC1, hide (fun j q hj hq => ?_)⟩
          by_cases e : j = k
          · subst e
            rw [Hp.out] at hq
            cases hq
            exact Hend.out
          · exact Hno.out j q (by omega) hq
        case measure => simp [intOf]; omega
    · have j1 : ¬ (k : Int) < (n : Int) := by omega
      have hkn : k = n := by omega
      have hfin : part S.pause S.ps k = S.ps.map (tk S.pause) := by unfold part; rw [List.take_of_length_le (by rw [Hn.out]; omega), List.drop_of_length_le (by rw [Hn.out]; omega), List.append_nil]
      rw [hfin] at HS
      have Hd := hide (any_take Hno.out (by rw [Hn.out]; omega))
      have Heq : Hid (os.map (fun o => (o.s, o.d)) = S.outs) := hide (by rw [Hs.out.eq, List.take_of_length_le (by rw [Hn.out]; omega)]; rfl)
      clear hfin hkn
      go_wp2_with fail
      go_ret2
      exact ⟨HC.out, .inl ⟨Hd.out, (show TickOk w g B S _ _ from ⟨_, os, rfl, HS.out, Ho.out, Heq.out, Hs.out.dat⟩)⟩⟩
end Go.Proofs.Yteihajppgooadaa
