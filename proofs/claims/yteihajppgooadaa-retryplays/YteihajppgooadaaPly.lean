/- The program's sender and the document's side by side: Put, Ack. -/
import Derived.Test.YteihajppgooadaaRak
import Derived.Test.YteihajppgooadaaRta
import Derived.Test.YteihajppgooadaaRsm
import Derived.Test.YteihajppgooadaaOpz
namespace Go.Proofs.Yteihajppgooadaa
open Go.RowKit
set_option linter.unusedVariables false

/-- a piece as the document has it -/
def toR (p : Pc) : Rp := ⟨p.n, str p.d, p.sent, p.ago⟩
/-- the document's sender, as its value -/
structure Dc where
  win : Int
  pause : Int
  times : Int
  first : Int
  count : Int
  a : Option Addr
  n : Nat
  c : Nat
  dead : Bool
def Dc.cells (D : Dc) : Array Value := #[.int .i64 D.win, .int .i64 D.pause, .int .i64 D.times, .int .u16 D.first, .int .i64 D.count, .slice D.a D.n D.c, .bool D.dead]
/-- while it lives, the document's sender is the program's -/
structure Liv (B : Nat) (w : World) (S : Sd) (D : Dc) : Prop where
  fit : S.Fit
  win : D.win = S.win
  pause : D.pause = S.pause
  times : D.times = S.times
  fst : D.first = S.first
  count : D.count = S.count
  pos : 0 ≤ S.count ∧ ∀ p ∈ S.ps, 0 ≤ p.n
  n : D.n = S.ps.length
  row : rE.Own w B (.slice D.a D.n D.c) (S.ps.map toR)
structure Ag (B : Nat) (w : World) (S : Sd) (D : Dc) : Prop where
  dead : D.dead = S.dead
  first : 0 ≤ D.first ∧ D.first ≤ 65535
  liv : S.dead = false → Liv B w S D
theorem Ag.stay {B : Nat} {w w' : World} {S : Sd} {D : Dc} (h : Ag B w S D) (hs : ∀ (k : Nat) (cur : Array Value), w.heap[k]? = some (Obj.cells cur 85) → w'.heap[k]? = w.heap[k]?) : Ag B w' S D :=
  ⟨h.dead, h.first, fun hd => by
    have l := h.liv hd
    exact ⟨l.fit, l.win, l.pause, l.times, l.fst, l.count, l.pos, l.n, own_chg l.row fun k cur _ hc => hs k cur hc⟩⟩
theorem Ag.keep {B : Nat} {w w' : World} {S : Sd} {D : Dc} (h : Ag B w S D) (hb : Below w.heap.size w w') : Ag B w' S D := h.stay fun k cur hc => hb.block k (heap_lt hc)
theorem toR_len (ps : List Pc) : (ps.map toR).length = ps.length := List.length_map _

/-- what the document's Put answers, told by the program's answer -/
def DPut (B : Nat) (S S' : Sd) (D : Dc) (l : List Int) (x code : Int) : Prop := ∀ W, Ag B W S D → B ≤ W.heap.size → Calls Try.prog 13 #[.agg D.cells, .string (str l)] W fun e W' => ∃ D', e = .returned (.tuple #[.agg D'.cells, .int .u16 x, .int .i64 code]) ∧ Ag B W' S' D' ∧ Below W.heap.size W W'

theorem pput_any {w : World} {g B : Nat} {S : Sd} {D : Dc} (H : Snd w g B S) (hA : Ag B w S D) (hB : B ≤ w.heap.size) (hc : S.dead = false → S.count ≤ 1000) {v : Value} {l : List Int} (hv : bytesE.Rd w v l) :
    Calls Try.prog 12 #[.pointer (some ⟨g, 0, none⟩), v] w fun e w' => ∃ S' x code, e = .returned (.tuple #[.int .u16 x, .int .i64 code]) ∧ Snd w' g B S' ∧ Chg g S.v w w' ∧ (S'.dead = false → S.dead = false ∧ S'.count ≤ S.count + 1) ∧ DPut B S S' D l x code := by
  obtain ⟨a, ca, rfl⟩ := hv.form
  cases hd : S.dead with
  | true =>
    refine (put_dead H hd a l.length ca).mono ?_
    rintro e w' ⟨rfl, rfl⟩
    refine ⟨S, 0, 190, rfl, H, Chg.refl _ _ _, (fun h => by rw [hd] at h; cases h), fun W hW hBW => ?_⟩
    obtain ⟨y0, y1, y2, y3, y4, ya, yn, yc, yd⟩ := D
    have hyd : yd = true := hW.dead.trans hd
    subst hyd
    refine (rput_dead y0 y1 y2 y3 y4 ya yn yc (str l) W).mono ?_
    rintro e W' ⟨rfl, hb⟩
    exact ⟨⟨y0, y1, y2, y3, y4, ya, yn, yc, true⟩, rfl, hW.keep hb, hb⟩
  | false =>
    have hL := hA.liv hd
    have hcc := hc hd
    have hlen := hL.fit.ok.len H.lim.win.1
    have hw := H.lim.win
    have hlo := hL.fit.ok.lo H.lim.win.1
    have hp := hL.pos.1
    have hl1 : S.ps.length ≤ 1000 := by omega
    obtain ⟨y0, y1, y2, y3, y4, ya, yn, yc, yd⟩ := D
    have q0 := hL.win
    have q1 := hL.pause
    have q2 := hL.times
    have q3 := hL.fst
    have q4 := hL.count
    have q5 := hL.n
    have q6 : yd = false := hA.dead.trans hd
    simp only at q0 q1 q2 q3 q4 q5
    have q7 : (S.ps.map toR).length = yn := by rw [toR_len, q5]
    subst q0 q1 q2 q3 q4 q6
    by_cases h1 : 256 < l.length
    · refine (put_long H hd a l.length ca h1).mono ?_
      rintro e w' ⟨rfl, rfl⟩
      refine ⟨S, 0, 3, rfl, H, Chg.refl _ _ _, (fun h => ⟨rfl, by omega⟩), fun W hW hBW => ?_⟩
      refine (rput_long S.win S.pause S.times S.first S.count ya yn yc (str l) W (by rw [str_size]; exact h1)).mono ?_
      rintro e W' ⟨rfl, hb⟩
      exact ⟨⟨S.win, S.pause, S.times, S.first, S.count, ya, yn, yc, false⟩, rfl, hW.keep hb, hb⟩
    · by_cases h2 : S.win < S.count - S.lo + 1
      · refine (put_full H hL.fit.ok hd a l.length ca (by omega) h2).mono ?_
        rintro e w' ⟨rfl, n, rfl⟩
        refine ⟨S, 0, 5, rfl, H.drewN n, Chg.of_below ⟨rfl, rfl, rfl, Nat.le_refl _, fun _ _ => rfl⟩, (fun h => ⟨rfl, by omega⟩), fun W hW hBW => ?_⟩
        have hr := (hW.liv hd).row.rd
        simp only at hr
        cases hps : S.ps with
        | nil => have := S.lo_nil hps; omega
        | cons p0 r =>
          have h0 : S.ps[0]? = some p0 := by rw [hps]; rfl
          have e0 := S.lo_at h0
          have hpp := hL.pos.2 p0 (List.mem_of_getElem? h0)
          rw [← q7] at hr
          have := (rput_full S.win S.pause S.times S.first S.count ya yc (str l) (S.ps.map toR) (toR p0) W hr (by rw [List.getElem?_map, h0]; rfl) (by rw [str_size]; omega) ⟨by omega, by omega⟩ ⟨hpp, by show p0.n ≤ _; omega, by show S.win < S.count - p0.n + 1; omega⟩ (by rw [toR_len]; exact hl1))
          rw [q7] at this
          refine this.mono ?_
          rintro e W' ⟨rfl, hb⟩
          exact ⟨⟨S.win, S.pause, S.times, S.first, S.count, ya, yn, yc, false⟩, rfl, hW.keep hb, hb⟩
      · refine (put_ok H hL.fit.ok hB hd hv (by omega) (by omega)).mono ?_
        rintro e w' ⟨rfl, p, v', p1, p2, p3, p4, H', C', _, _⟩
        refine ⟨S.put v' p, sq S.first S.count, 0, rfl, H', C', (fun h => ⟨rfl, Int.le_refl _⟩), fun W hW hBW => ?_⟩
        have hr := (hW.liv hd).row.rd
        simp only at hr
        rw [← q7] at hr
        have hn0 : ∀ q, (S.ps.map toR)[0]? = some q → 0 ≤ q.n ∧ q.n ≤ S.count ∧ S.count - q.n + 1 ≤ S.win := fun q hq => by
          rw [List.getElem?_map] at hq
          obtain ⟨p0, h0, rfl⟩ := Option.map_eq_some_iff.1 hq
          have e0 := S.lo_at h0
          have hpp := hL.pos.2 p0 (List.mem_of_getElem? h0)
          refine ⟨hpp, ?_, ?_⟩
          · show p0.n ≤ _; omega
          · show S.count - p0.n + 1 ≤ _; omega
        have := rput_ok S.win S.pause S.times S.first S.count ya yc (str l) (S.ps.map toR) W hr (by rw [toR_len]; exact hl1) (by rw [str_size]; omega) H.lim.first ⟨by omega, by omega⟩ hn0
        rw [q7] at this
        refine this.mono ?_
        rintro e W' ⟨a', c', rfl, ho, hb⟩
        have ep : (S.put v' p).ps.map toR = S.ps.map toR ++ [⟨S.count, str l, 0, 0⟩] := by
          show (S.ps ++ [p]).map toR = _
          rw [List.map_append]
          congr 1
          show [toR p] = _
          unfold toR
          rw [p1, p2, p3, p4]
        refine ⟨⟨S.win, S.pause, S.times, S.first, S.count + 1, a', yn + 1, c', false⟩, rfl, ⟨hd.symm, H.lim.first, fun _ => ⟨hL.fit.put H.lim v' p p1 p3 p4 (by rw [p2]; omega) (by omega), rfl, rfl, rfl, rfl, rfl, ⟨?_, ?_⟩, ?_, ?_⟩⟩, hb⟩
        · show 0 ≤ S.count + 1; omega
        · intro q hq
          rcases List.mem_append.1 hq with hq | hq
          · exact hL.pos.2 q hq
          · have : q = p := by simpa using hq
            rw [this, p1]; omega
        · show yn + 1 = (S.ps ++ [p]).length
          rw [List.length_append, q5]; rfl
        · rw [ep]
          exact ho.mono hBW

def DAck (B : Nat) (S S' : Sd) (D : Dc) (x code : Int) : Prop := ∀ W, Ag B W S D → B ≤ W.heap.size → Calls Try.prog 18 #[.agg D.cells, .int .u16 x] W fun e W' => ∃ D', e = .returned (.tuple #[.agg D'.cells, .int .i64 code]) ∧ Ag B W' S' D' ∧ Below W.heap.size W W'

theorem rix_pix (first x : Int) (ps : List Pc) : rix first x (ps.map toR) = pix first x ps := by
  unfold rix pix
  rw [List.findIdx_map]
  rfl
theorem map_cut (ps : List Pc) (i j : Nat) : (ps.map toR).take i ++ (ps.map toR).drop j = (ps.take i ++ ps.drop j).map toR := by
  rw [List.map_append, List.map_take, List.map_drop]
theorem cut_mem {ps : List Pc} {i j : Nat} {p : Pc} (h : p ∈ ps.take i ++ ps.drop j) : p ∈ ps := by
  rcases List.mem_append.1 h with h | h
  · exact List.mem_of_mem_take h
  · exact List.mem_of_mem_drop h
theorem pack_any {w : World} {g B : Nat} {S : Sd} {D : Dc} (H : Snd w g B S) (hA : Ag B w S D) (hc : S.dead = false → S.count ≤ 1000) (x : Int) :
    Calls Try.prog 17 #[.pointer (some ⟨g, 0, none⟩), .int .u16 x] w fun e w' => ∃ S' code, e = .returned (.int .i64 code) ∧ Snd w' g B S' ∧ Chg g S.v w w' ∧ (S'.dead = false → S.dead = false ∧ S'.count ≤ S.count + 1) ∧ DAck B S S' D x code := by
  cases hd : S.dead with
  | true =>
    refine (ack_dead H hd x).mono ?_
    rintro e w' ⟨rfl, hb'⟩
    refine ⟨S, 190, rfl, H.keep hb', Chg.of_below hb', (fun h => by rw [hd] at h; cases h), fun W hW hBW => ?_⟩
    obtain ⟨y0, y1, y2, y3, y4, ya, yn, yc, yd⟩ := D
    have hyd : yd = true := hW.dead.trans hd
    subst hyd
    refine (rack_dead y0 y1 y2 y3 y4 ya yn yc x W).mono ?_
    rintro e W' ⟨rfl, hb⟩
    exact ⟨⟨y0, y1, y2, y3, y4, ya, yn, yc, true⟩, rfl, hW.keep hb, hb⟩
  | false =>
    have hL := hA.liv hd
    have hcc := hc hd
    have hlen := hL.fit.ok.len H.lim.win.1
    have hw := H.lim.win
    have hp := hL.pos.1
    have hl1 : S.ps.length ≤ 1000 := by omega
    obtain ⟨y0, y1, y2, y3, y4, ya, yn, yc, yd⟩ := D
    have q0 := hL.win
    have q1 := hL.pause
    have q2 := hL.times
    have q3 := hL.fst
    have q4 := hL.count
    have q5 := hL.n
    have q6 : yd = false := hA.dead.trans hd
    simp only at q0 q1 q2 q3 q4 q5
    have q7 : (S.ps.map toR).length = yn := by rw [toR_len, q5]
    subst q0 q1 q2 q3 q4 q6
    have hbd : ∀ p ∈ S.ps.map toR, 0 ≤ p.n ∧ p.n ≤ 1000000 := fun q hq => by
      obtain ⟨p, hp', rfl⟩ := List.mem_map.1 hq
      have h1 := hL.pos.2 p hp'
      have h2 := hL.fit.ok.num p hp'
      exact ⟨h1, by show p.n ≤ _; omega⟩
    have doc : ∀ W, Ag B W S ⟨S.win, S.pause, S.times, S.first, S.count, ya, yn, yc, false⟩ → Calls Try.prog 18 #[.agg #[.int .i64 S.win, .int .i64 S.pause, .int .i64 S.times, .int .u16 S.first, .int .i64 S.count, .slice ya yn yc, .bool false], .int .u16 x] W fun e w' => Below W.heap.size W w' ∧ RAck S.win S.pause S.times S.first S.count x ya yc (S.ps.map toR) W e w' := fun W hW => by
      have hr := (hW.liv hd).row
      simp only at hr
      rw [← q7] at hr ⊢
      exact rack_any S.win S.pause S.times S.first S.count x ya yc B (S.ps.map toR) W hr (by rw [toR_len]; exact hl1) H.lim.first hbd
    by_cases hx : pix S.first x S.ps < S.ps.length
    · refine (ack_ok H hl1 hd x hx).mono ?_
      rintro e w' ⟨rfl, v', H', C', _⟩
      refine ⟨S.cut v' (pix S.first x S.ps) (pix S.first x S.ps + 1), 0, rfl, H', C', (fun h => ⟨rfl, by show S.count ≤ _; omega⟩), fun W hW hBW => ?_⟩
      refine (doc W hW).mono ?_
      rintro e W' ⟨hb, h | h⟩
      · obtain ⟨_, a', l', c', rfl, ho⟩ := h
        rw [rix_pix, map_cut] at ho
        refine ⟨⟨S.win, S.pause, S.times, S.first, S.count, a', l', c', false⟩, rfl, ⟨hd.symm, H.lim.first, fun _ => ⟨hL.fit.cut v' _ _ (by omega), rfl, rfl, rfl, rfl, rfl, ⟨hL.pos.1, fun q hq => hL.pos.2 q (cut_mem hq)⟩, ?_, ho.mono hBW⟩⟩, hb⟩
        obtain ⟨a2, c2, e2⟩ := ho.rd.form
        simp only [Value.slice.injEq] at e2
        show l' = _
        rw [e2.2.1, toR_len]; rfl
      · have := h.1
        rw [rix_pix, toR_len] at this
        omega
    · have hpi : pixI S.first x S.ps < 0 := by unfold pixI; rw [if_neg hx]; omega
      refine (ack_none H hl1 hd x hpi).mono ?_
      rintro e w' ⟨rfl, hb'⟩
      refine ⟨S, 4, rfl, H.keep hb', Chg.of_below hb', (fun h => ⟨rfl, by omega⟩), fun W hW hBW => ?_⟩
      refine (doc W hW).mono ?_
      rintro e W' ⟨hb, h | h⟩
      · have := h.1
        rw [rix_pix, toR_len] at this
        omega
      · obtain ⟨_, rfl⟩ := h
        rw [q7]
        exact ⟨⟨S.win, S.pause, S.times, S.first, S.count, ya, yn, yc, false⟩, rfl, hW.keep hb, hb⟩
end Go.Proofs.Yteihajppgooadaa
