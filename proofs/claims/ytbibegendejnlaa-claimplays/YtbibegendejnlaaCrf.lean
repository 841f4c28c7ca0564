/- The document's tables: outside, find, may, Held, Waiting. -/
import Derived.Test.YtbibegendejnlaaCrm
namespace Go.Proofs.Ytbibegendejnlaa
open Go.RowKit
set_option linter.unusedVariables false
variable {pp : Nat → Nat → Prop}

def rcE : El Try.prog Cv where
  t := 29
  e := 71
  k := 2
  by' := 32
  z := .agg #[.int .i64 0, .slice none 0 0]
  enc x := [.int .i64 x.tote, .slice x.a x.l x.c]
  ht := Try.underlying29
  info := by kernel_rfl
  zc := rfl
  kpos := by omega
  bsm := by omega
  len _ := rfl
  one x v hv := by simp at hv; rcases hv with rfl | rfl <;> rfl
/-- a row's block is one of those -/
def blk (pp : Nat → Prop) (a : Option Addr) : Prop := ∀ x, a = some x → pp x.block
/-- a row's block has such a type -/
def typ (w : World) (a : Option Addr) (e : TypeId) : Prop := ∀ x, a = some x → ∃ C, w.heap[x.block]? = some (.cells C e)
theorem typ.keep {w w' : World} {a : Option Addr} {e : TypeId} (h : typ w a e) (hb : Below w.heap.size w w') : typ w' a e := fun x hx => by
  obtain ⟨C, hC⟩ := h x hx
  exact ⟨C, by rw [hb.block _ (heap_lt hC)]; exact hC⟩
/-- claims as they lie read so -/
def Crd (pp : Nat → Nat → Prop) (w : World) (cs : List Cv) (q : List Cl) : Prop := cs.length = q.length ∧ ∀ (i : Nat) (x : Cv) (p : Cl), cs[i]? = some x → q[i]? = some p → x.tote = p.tote ∧ intE.Rd w x.v p.nodes ∧ blk (pp 1) x.a
theorem Crd.keep {w w' : World} {cs : List Cv} {q : List Cl} (h : Crd pp w cs q) (hb : Below w.heap.size w w') : Crd pp w' cs q := ⟨h.1, fun i x p hx hp => ⟨(h.2 i x p hx hp).1, (h.2 i x p hx hp).2.1.keep hb, (h.2 i x p hx hp).2.2⟩⟩
/-- the document's table: its two slices read as U -/
structure DT (pp : Nat → Nat → Prop) (w : World) (aH : Option Addr) (cH : Nat) (aQ : Option Addr) (cQ : Nat) (U : Tb) : Prop where
  hold : intE.Rd w (.slice aH U.hold.length cH) U.hold
  q : ∃ cs, rcE.Rd w (.slice aQ U.q.length cQ) cs ∧ Crd pp w cs U.q
  pH : blk (pp 0) aH
  pQ : blk (pp 0) aQ
  tH : typ w aH 3
  tQ : typ w aQ 71
theorem DT.keep {w w' : World} {aH aQ : Option Addr} {cH cQ : Nat} {U : Tb} (h : DT pp w aH cH aQ cQ U) (hb : Below w.heap.size w w') : DT pp w' aH cH aQ cQ U := by
  obtain ⟨h1, ⟨cs, h2, h3⟩, h4, h5, h6, h7⟩ := h
  exact ⟨h1.keep hb, ⟨cs, h2.keep hb, h3.keep hb⟩, h4, h5, h6.keep hb, h7.keep hb⟩
theorem DT.at {w : World} {aH aQ : Option Addr} {cH cQ : Nat} {U : Tb} (h : DT pp w aH cH aQ cQ U) (i : Nat) (p : Cl) (hp : U.q[i]? = some p) :
    ∃ b off a' c', aQ = some ⟨b, off, none⟩ ∧ w.cell? ⟨b, off + i * 2, none⟩ = some (.int .i64 p.tote) ∧ w.cell? ⟨b, off + i * 2 + 1, none⟩ = some (.slice a' p.nodes.length c') ∧ intE.Rd w (.slice a' p.nodes.length c') p.nodes := by
  obtain ⟨h1, ⟨cs, h2, h3, h4⟩, _, _, _, _⟩ := h
  obtain ⟨x, hx⟩ : ∃ x, cs[i]? = some x := ⟨_, List.getElem?_eq_getElem (by rw [h3]; exact idx_lt hp)⟩
  obtain ⟨b, off, e, hc⟩ := h2.at i x hx
  obtain ⟨e1, e2, _⟩ := h4 i x p hx hp
  obtain ⟨a', c', e3⟩ := e2.form
  simp only [Value.slice.injEq] at e3
  have e5 : x.l = p.nodes.length := e3.2.1
  refine ⟨b, off, x.a, x.c, e, ?_, ?_, by rw [← e5]; exact e2⟩
  · rw [← e1]; exact hc 0 (by decide)
  · rw [← e5]; exact hc 1 (by decide)
/-- outside's answer -/
def outB (N : Nat) (t : Int) (ns : List Int) : Bool := !(ns.all (inB N)) || !(toteB t)

/-- a world behind draws -/
theorem drew_below {B : Nat} {W w : World} (hb : Below B W w) (q : Nat) : Below B W (w.drewN q) := ⟨hb.os, hb.tape, hb.output, hb.size, hb.block⟩

set_option maxRecDepth 100000 in
set_option maxHeartbeats 2000000 in
theorem outside_any (aH aQ a : Option Addr) (cH cQ c N M n : Nat) (t : Int) (ns : List Int) (w : World) (hn : ns.length = n) (hv : intE.Rd w (.slice a n c) ns) (hl : n ≤ 100000) :
    Calls Try.prog 30 #[.agg #[.slice aH N cH, .slice aQ M cQ], .int .i64 t, .slice a n c] w fun e w' => e = .returned (.bool (outB N t ns)) ∧ Below w.heap.size w w' := by
  obtain ⟨W1, hW1⟩ : ∃ W1, W1 = w.alloc (.cells #[.slice aH N cH, .slice aQ M cQ] 31) := ⟨_, rfl⟩
  have hB1 : Below w.heap.size w W1 := by rw [hW1]; exact (Below.refl _ _).alloc (Nat.le_refl _) _
  have hbox : W1.heap[w.heap.size]? = some (.cells #[.slice aH N cH, .slice aQ M cQ] 31) := by rw [hW1]; exact heap_new _ _
  have HF : Hid (∀ W, Below W1.heap.size W1 W → Below w.heap.size w W) := hide (fun W hb => hB1.trans (hb.mono hB1.size))
  have HD : Hid (∀ W q, Below W1.heap.size W1 W → Below W1.heap.size W1 (W.drewN q)) := hide (fun W q hb => ⟨hb.os, hb.tape, hb.output, hb.size, hb.block⟩)
  have HW1 := hide hW1
  have Hc : Hid (∀ W, Below W1.heap.size W1 W → W.cell? ⟨w.heap.size, 0, none⟩ = some (.slice aH N cH) ∧ intE.Rd W (.slice a n c) ns) := hide (fun W hb => ⟨by rw [hb.cell (p := ⟨w.heap.size, 0, none⟩) (heap_lt hbox)]; exact (cells_at hbox 0).1, (hv.keep hB1).keep hb⟩)
  have Hn := hide hn
  have i0 : (n : Int) ≤ 100000 := by omega
  have yes : Hid (∀ (k : Nat) (p : Int), ns[k]? = some p → inB N p = false → outB N t ns = true) := hide (fun k p h e => by
    unfold outB
    rw [show ns.all (inB N) = false from List.all_eq_false.2 ⟨p, List.mem_of_getElem? h, by simp [e]⟩]; rfl)
  have no : Hid ((∀ k : Nat, k < n → ∀ p, ns[k]? = some p → inB N p = true) → outB N t ns = !(toteB t)) := hide (fun h => by
    unfold outB
    rw [show ns.all (inB N) = true from List.all_eq_true.2 (fun p hp => by
      obtain ⟨k, hk⟩ := List.getElem?_of_mem hp
      exact h k (by have := idx_lt hk; omega) p hk)]; rfl)
  generalize outB N t ns = res at *
  obtain ⟨h0, hh0⟩ : ∃ h0, w.heap.size = h0 := ⟨_, rfl⟩
  rw [hh0] at Hc HF ⊢
  clear hn hv hl hB1 hbox hW1
  go_enter Try.func30, Try.ntmps30
  go_upto_region 2 with fail
  rw [← HW1.out]
  try rw [hh0]
  clear HW1 hh0
  go_loopw [10] (fun v10 wr => ∃ k : Nat, v10 = .int .i64 k ∧ k ≤ n ∧ Hid (Below W1.heap.size W1 wr) ∧ Hid (∀ i : Nat, i < k → ∀ p, ns[i]? = some p → inB N p = true)) (fun v10 _ => n - (intOf v10).toNat)
  case atStart => exact ⟨0, rfl, Nat.zero_le _, hide (Below.refl _ _), hide (fun i hi => by omega)⟩
  case round =>
    obtain ⟨k, rfl, hk, HB, HX⟩ := hrel
    obtain ⟨d0, hrd⟩ := Hc.out wr HB.out
    have j0 : (0 : Int) ≤ (k : Int) := by omega
    by_cases hlt : k < n
    · obtain ⟨p, hp⟩ : ∃ p, ns[k]? = some p := ⟨_, List.getElem?_eq_getElem (by rw [Hn.out]; exact hlt)⟩
      obtain ⟨b, off, rfl, c0⟩ := int_at hrd k p hp
      have j1 : (k : Int) < (n : Int) := by omega
      have Hp := hide hp
      clear hp hrd
      by_cases hp0 : p < 0
      · have e1 := yes.out k p Hp.out (decide_eq_false (fun h => by omega))
        subst e1
        have hd : decide (p < 0) = true := decide_eq_true hp0
        go_upto_region 4 with fail
        go_quiet (fail)
        go_wp2_with fail
        go_ret
        exact ⟨rfl, HF.out _ (HD.out _ _ HB.out)⟩
      · have hd : decide (p < 0) = false := decide_eq_false hp0
        by_cases hpN : p < (N : Int)
        · have hd2 : decide ((N : Int) ≤ p) = false := decide_eq_false (by omega)
          have HX1 : Hid (∀ i : Nat, i < k + 1 → ∀ p, ns[i]? = some p → inB N p = true) := hide (fun i hi q h => by
            rcases Nat.lt_or_ge i k with g | g
            · exact HX.out i g q h
            · obtain rfl : i = k := by omega
              rw [Hp.out] at h; cases h; exact decide_eq_true (by omega))
          have hp1 : 0 ≤ p := by omega
          go_upto_region 4 with fail
          go_quiet (fail)
          go_wp2_with fail
          go_roundw
          case rel => exact ⟨k + 1, by go_num, by omega, hide (HD.out _ _ HB.out), HX1⟩
          case measure => simp [intOf]; omega
        · have hd2 : decide ((N : Int) ≤ p) = true := decide_eq_true (by omega)
          have e1 := yes.out k p Hp.out (decide_eq_false (fun h => by omega))
          subst e1
          have hp1 : 0 ≤ p := by omega
          go_upto_region 4 with fail
          go_quiet (fail)
          go_wp2_with fail
          go_ret
          exact ⟨rfl, HF.out _ (HD.out _ _ HB.out)⟩
    · obtain rfl : k = n := by omega
      have j1 : ¬ (k : Int) < (k : Int) := by omega
      have e1 := no.out HX.out
      subst e1
      by_cases t1 : 1 ≤ t
      · by_cases t2 : t ≤ 30
        · have e1 : toteB t = true := decide_eq_true ⟨t1, t2⟩
          go_wp2_with fail
          go_ret
          exact ⟨by first | rfl | (simp; done) | (simp; omega), HF.out _ HB.out⟩
        · have e1 : toteB t = false := decide_eq_false (fun h => t2 h.2)
          go_wp2_with fail
          go_ret
          exact ⟨by first | rfl | (simp; done) | (simp; omega), HF.out _ HB.out⟩
      · have e1 : toteB t = false := decide_eq_false (fun h => t1 h.1)
        go_wp2_with fail
        go_ret
        exact ⟨by first | rfl | (simp; done) | (simp; omega), HF.out _ HB.out⟩

set_option maxRecDepth 100000 in
set_option maxHeartbeats 2000000 in
theorem rfind_any (aH aQ : Option Addr) (cH cQ : Nat) (U : Tb) (t : Int) (w : World) (hT : DT pp w aH cH aQ cQ U) (hl : U.q.length ≤ 1000) :
    Calls Try.prog 31 #[.agg #[.slice aH U.hold.length cH, .slice aQ U.q.length cQ], .int .i64 t] w fun e w' => e = .returned (.int .i64 (fnd t U.q)) ∧ Below w.heap.size w w' := by
  obtain ⟨N, hN⟩ : ∃ N, U.hold.length = N := ⟨_, rfl⟩
  obtain ⟨M, hM⟩ : ∃ M, U.q.length = M := ⟨_, rfl⟩
  rw [hN, hM]
  obtain ⟨W1, hW1⟩ : ∃ W1, W1 = w.alloc (.cells #[.slice aH N cH, .slice aQ M cQ] 31) := ⟨_, rfl⟩
  have hB1 : Below w.heap.size w W1 := by rw [hW1]; exact (Below.refl _ _).alloc (Nat.le_refl _) _
  have hbox : W1.heap[w.heap.size]? = some (.cells #[.slice aH N cH, .slice aQ M cQ] 31) := by rw [hW1]; exact heap_new _ _
  have HF : Hid (∀ W, Below W1.heap.size W1 W → Below w.heap.size w W) := hide (fun W hb => hB1.trans (hb.mono hB1.size))
  have HD : Hid (∀ W q, Below W1.heap.size W1 W → Below W1.heap.size W1 (W.drewN q)) := hide (fun W q hb => ⟨hb.os, hb.tape, hb.output, hb.size, hb.block⟩)
  have HW1 := hide hW1
  have Hc : Hid (∀ W, Below W1.heap.size W1 W → W.cell? ⟨w.heap.size, 1, none⟩ = some (.slice aQ M cQ) ∧ DT pp W aH cH aQ cQ U) := hide (fun W hb => ⟨by rw [hb.cell (p := ⟨w.heap.size, 1, none⟩) (heap_lt hbox)]; exact (cells_at hbox 1).1, (hT.keep hB1).keep hb⟩)
  have HM := hide hM
  have i0 : (M : Int) ≤ 1000 := by omega
  have yes : Hid (∀ (k : Nat) (p : Cl), U.q[k]? = some p → p.tote = t → (∀ j d, j < k → U.q[j]? = some d → d.tote ≠ t) → fnd t U.q = (k : Int)) := hide (fun k p h1 h2 h3 => ix_at h1 (decide_eq_true h2) (fun j d hj hd => decide_eq_false (h3 j d hj hd)))
  have no : Hid ((∀ (j : Nat) (d : Cl), j < M → U.q[j]? = some d → d.tote ≠ t) → fnd t U.q = -1) := hide (fun h => ix_none (fun j d hj hd => decide_eq_false (h j d (by rw [← hM]; exact hj) hd)))
  generalize fnd t U.q = res at *
  obtain ⟨h0, hh0⟩ : ∃ h0, w.heap.size = h0 := ⟨_, rfl⟩
  rw [hh0] at Hc HF ⊢
  clear hT hl hB1 hbox hW1 hN hM
  go_enter Try.func31, Try.ntmps31
  go_upto_region 1 with fail
  rw [← HW1.out]
  try rw [hh0]
  clear HW1 hh0
  have d0 := (Hc.out W1 (Below.refl _ _)).1
  go_upto_region 2 with fail
  clear d0
  go_loopw [9] (fun v9 wr => ∃ k : Nat, v9 = .int .i64 k ∧ k ≤ M ∧ wr = W1 ∧ Hid (∀ j d, j < k → U.q[j]? = some d → d.tote ≠ t)) (fun v9 _ => M - (intOf v9).toNat)
  case atStart => exact ⟨0, rfl, Nat.zero_le _, rfl, hide (fun i d hi => by omega)⟩
  case round =>
    obtain ⟨k, rfl, hk, hw, HX⟩ := hrel
    have hw' := hw.symm
    clear hw
    subst hw'
    obtain ⟨d0, hD⟩ := Hc.out W1 (Below.refl _ _)
    have j0 : (0 : Int) ≤ (k : Int) := by omega
    by_cases hlt : k < M
    · obtain ⟨p, hp⟩ : ∃ p, U.q[k]? = some p := ⟨_, List.getElem?_eq_getElem (by rw [HM.out]; exact hlt)⟩
      obtain ⟨b, off, a', c', rfl, c0, _, _⟩ := hD.at k p hp
      have j1 : (k : Int) < (M : Int) := by omega
      have Hp := hide hp
      clear hp hD
      by_cases he : p.tote = t
      · have e1 := yes.out k p Hp.out he HX.out
        subst e1
        rw [he] at c0
        go_wp2_with fail
        go_ret
        exact ⟨rfl, HF.out _ (Below.refl _ _)⟩
      · have q1 : (p.tote == t) = false := beq_eq_false_iff_ne.2 he
        have HX1 : Hid (∀ j d, j < k + 1 → U.q[j]? = some d → d.tote ≠ t) := hide (fun j d hj hd => by
          rcases Nat.lt_or_ge j k with g | g
          · exact HX.out j d g hd
          · obtain rfl : j = k := by omega
            rw [Hp.out] at hd; cases hd; exact he)
        generalize p.tote = s at *
        go_wp2_with fail
        go_roundw
        case rel => exact ⟨k + 1, by go_num, by omega, trivial, HX1⟩
        case measure => simp [intOf]; omega
    · obtain rfl : k = M := by omega
      have j1 : ¬ (k : Int) < (k : Int) := by omega
      have e1 := no.out HX.out
      subst e1
      go_wp2_with fail
      go_ret
      exact ⟨rfl, HF.out _ (Below.refl _ _)⟩

set_option maxRecDepth 100000 in
set_option maxHeartbeats 2000000 in
theorem rwaiting_any (aH aQ : Option Addr) (cH cQ : Nat) (U : Tb) (w : World) (hT : DT pp w aH cH aQ cQ U) (hl : U.q.length ≤ 1000) :
    Calls Try.prog 36 #[.agg #[.slice aH U.hold.length cH, .slice aQ U.q.length cQ]] w fun e w' => (∃ v, e = .returned v ∧ intE.Own w' w.heap.size v (U.q.map (·.tote))) ∧ Below w.heap.size w w' := by
  obtain ⟨N, hN⟩ : ∃ N, U.hold.length = N := ⟨_, rfl⟩
  obtain ⟨M, hM⟩ : ∃ M, U.q.length = M := ⟨_, rfl⟩
  rw [hN, hM]
  obtain ⟨W1, hW1⟩ : ∃ W1, W1 = w.alloc (.cells #[.slice aH N cH, .slice aQ M cQ] 31) := ⟨_, rfl⟩
  have hB1 : Below w.heap.size w W1 := by rw [hW1]; exact (Below.refl _ _).alloc (Nat.le_refl _) _
  have hbox : W1.heap[w.heap.size]? = some (.cells #[.slice aH N cH, .slice aQ M cQ] 31) := by rw [hW1]; exact heap_new _ _
  have HF : Hid (∀ W, Below W1.heap.size W1 W → Below w.heap.size w W) := hide (fun W hb => hB1.trans (hb.mono hB1.size))
  have HD : Hid (∀ W q, Below W1.heap.size W1 W → Below W1.heap.size W1 (W.drewN q)) := hide (fun W q hb => ⟨hb.os, hb.tape, hb.output, hb.size, hb.block⟩)
  have HW1 := hide hW1
  have Hc : Hid (∀ W, Below W1.heap.size W1 W → W.cell? ⟨w.heap.size, 1, none⟩ = some (.slice aQ M cQ) ∧ DT pp W aH cH aQ cQ U) := hide (fun W hb => ⟨by rw [hb.cell (p := ⟨w.heap.size, 1, none⟩) (heap_lt hbox)]; exact (cells_at hbox 1).1, (hT.keep hB1).keep hb⟩)
  have HM := hide hM
  have Hs : Hid (w.heap.size ≤ W1.heap.size) := hide hB1.size
  have i0 : (M : Int) ≤ 1000 := by omega
  obtain ⟨h0, hh0⟩ : ∃ h0, w.heap.size = h0 := ⟨_, rfl⟩
  rw [hh0] at Hc HF ⊢
  rw [hh0] at Hs
  clear hT hl hB1 hbox hW1 hN hM
  go_enter Try.func36, Try.ntmps36
  go_upto_region 2 with fail
  rw [← HW1.out]
  try rw [hh0]
  clear HW1 hh0
  have d0 := (Hc.out W1 (Below.refl _ _)).1
  go_upto_region 3 with fail
  clear d0
  go_loopw [3, 8] (fun v3 v8 wr => ∃ k : Nat, v8 = .int .i64 k ∧ k ≤ M ∧ Hid (Below W1.heap.size W1 wr) ∧ Hid (intE.Own wr W1.heap.size v3 ((U.q.take k).map (·.tote)))) (fun _ v8 _ => M - (intOf v8).toNat)
  case atStart => exact ⟨0, rfl, Nat.zero_le _, hide (Below.refl _ _), hide (El.Own.nil _ _ _)⟩
  case round =>
    obtain ⟨k, rfl, hk, HB, HO⟩ := hrel
    obtain ⟨d0, hD⟩ := Hc.out wr HB.out
    have j0 : (0 : Int) ≤ (k : Int) := by omega
    by_cases hlt : k < M
    · obtain ⟨p, hp⟩ : ∃ p, U.q[k]? = some p := ⟨_, List.getElem?_eq_getElem (by rw [HM.out]; exact hlt)⟩
      obtain ⟨b, off, a', c', rfl, c0, _, _⟩ := hD.at k p hp
      have j1 : (k : Int) < (M : Int) := by omega
      have HH : Hid ((U.q.take (k + 1)).map (·.tote) = (U.q.take k).map (·.tote) ++ [p.tote]) := hide (by rw [List.take_add_one, hp, List.map_append]; rfl)
      have Hl2 : Hid (((U.q.take k).map (·.tote)).length + [p.tote].length ≤ 1000000) := hide (by rw [List.length_map, List.length_take]; simp only [List.length_cons, List.length_nil]; omega)
      clear hp hD
      generalize p.tote = s at *
      have Hba : Hid (∀ (o : Obj), Below wr.heap.size wr (wr.alloc o)) := hide (fun o => (Below.refl _ _).alloc (Nat.le_refl _) o)
      have Hbw : Hid (∀ (o : Obj), Below W1.heap.size W1 (wr.alloc o)) := hide (fun o => HB.out.alloc HB.out.size o)
      go_wp2_with (at_builtin; refine intE.wp (w0 := W1) (Hbw.out _) (by rfl) _ _ rfl _ _ rfl rfl ((U.q.take k).map (·.tote)) [s] (HO.out.keep (Hba.out _)) (int_new _ _ _ rfl) Hl2.out ?_; intro v1 w2 ho2 _ _ hb2; rw [← HH.out] at ho2; have HO2 := hide ho2; have HB2 := hide hb2; clear ho2 hb2)
      go_roundw
      case rel => exact ⟨k + 1, by go_num, by omega, HB2, HO2⟩
      case measure => simp [intOf]; omega
    · obtain rfl : k = M := by omega
      have j1 : ¬ (k : Int) < (k : Int) := by omega
      have HO1 : Hid (intE.Own wr h0 u3 (U.q.map (·.tote))) := hide (by
        have := HO.out
        rw [List.take_of_length_le (by rw [HM.out]; exact Nat.le_refl _)] at this
        exact this.mono Hs.out)
      go_wp2_with fail
      go_ret
      exact ⟨⟨_, rfl, HO1.out⟩, HF.out _ HB.out⟩

/-- the document's Held -/
def heldD (t : Int) (h : List Int) : List Int := if 0 < t then hld t h h.length else []

set_option maxRecDepth 100000 in
set_option maxHeartbeats 2000000 in
theorem rheld_any (aH aQ : Option Addr) (cH cQ : Nat) (U : Tb) (t : Int) (w : World) (hT : DT pp w aH cH aQ cQ U) (hl : U.hold.length ≤ 1000) :
    Calls Try.prog 35 #[.agg #[.slice aH U.hold.length cH, .slice aQ U.q.length cQ], .int .i64 t] w fun e w' => (∃ v, e = .returned v ∧ intE.Own w' w.heap.size v (heldD t U.hold)) ∧ Below w.heap.size w w' := by
  obtain ⟨N, hN⟩ : ∃ N, U.hold.length = N := ⟨_, rfl⟩
  obtain ⟨M, hM⟩ : ∃ M, U.q.length = M := ⟨_, rfl⟩
  rw [hN, hM]
  obtain ⟨W1, hW1⟩ : ∃ W1, W1 = w.alloc (.cells #[.slice aH N cH, .slice aQ M cQ] 31) := ⟨_, rfl⟩
  have hB1 : Below w.heap.size w W1 := by rw [hW1]; exact (Below.refl _ _).alloc (Nat.le_refl _) _
  have hbox : W1.heap[w.heap.size]? = some (.cells #[.slice aH N cH, .slice aQ M cQ] 31) := by rw [hW1]; exact heap_new _ _
  have HF : Hid (∀ W, Below W1.heap.size W1 W → Below w.heap.size w W) := hide (fun W hb => hB1.trans (hb.mono hB1.size))
  have HD : Hid (∀ W q, Below W1.heap.size W1 W → Below W1.heap.size W1 (W.drewN q)) := hide (fun W q hb => ⟨hb.os, hb.tape, hb.output, hb.size, hb.block⟩)
  have HW1 := hide hW1
  have Hc : Hid (∀ W, Below W1.heap.size W1 W → W.cell? ⟨w.heap.size, 0, none⟩ = some (.slice aH N cH) ∧ intE.Rd W (.slice aH N cH) U.hold) := hide (fun W hb => ⟨by rw [hb.cell (p := ⟨w.heap.size, 0, none⟩) (heap_lt hbox)]; exact (cells_at hbox 0).1, by have := (hT.hold.keep hB1).keep hb; rwa [hN] at this⟩)
  have HN := hide hN
  have Hs : Hid (w.heap.size ≤ W1.heap.size) := hide hB1.size
  have i0 : (N : Int) ≤ 1000 := by omega
  obtain ⟨h0, hh0⟩ : ∃ h0, w.heap.size = h0 := ⟨_, rfl⟩
  rw [hh0] at Hc HF ⊢
  rw [hh0] at Hs
  clear hT hl hB1 hbox hW1 hN hM
  go_enter Try.func35, Try.ntmps35
  go_upto_region 2 with fail
  rw [← HW1.out]
  try rw [hh0]
  clear HW1 hh0
  have d0 := (Hc.out W1 (Below.refl _ _)).1
  go_upto_region 3 with fail
  clear d0
  go_loopw [5, 10] (fun v5 v10 wr => ∃ k : Nat, v10 = .int .i64 k ∧ k ≤ N ∧ Hid (Below W1.heap.size W1 wr) ∧ Hid (intE.Own wr W1.heap.size v5 (if 0 < t then hld t U.hold k else []))) (fun _ v10 _ => N - (intOf v10).toNat)
  case atStart => exact ⟨0, rfl, Nat.zero_le _, hide (Below.refl _ _), hide (by
    have : (if 0 < t then hld t U.hold 0 else []) = [] := by split <;> rfl
    rw [this]; exact El.Own.nil _ _ _)⟩
  case round =>
    obtain ⟨k, rfl, hk, HB, HO⟩ := hrel
    obtain ⟨d0, hrd⟩ := Hc.out wr HB.out
    have j0 : (0 : Int) ≤ (k : Int) := by omega
    by_cases hlt : k < N
    · obtain ⟨p, hp⟩ : ∃ p, U.hold[k]? = some p := ⟨_, List.getElem?_eq_getElem (by rw [HN.out]; exact hlt)⟩
      obtain ⟨b, off, rfl, c0⟩ := int_at hrd k p hp
      have j1 : (k : Int) < (N : Int) := by omega
      have hpe := hat_at hp
      clear hrd
      by_cases ht : 0 < t
      · rw [if_pos ht] at HO
        by_cases he : p = t
        · have HH := hide (hld_yes (hpe.trans he))
          subst he
          have Hba : Hid (∀ (o : Obj), Below wr.heap.size wr (wr.alloc o)) := hide (fun o => (Below.refl _ _).alloc (Nat.le_refl _) o)
          have Hbw : Hid (∀ (o : Obj), Below W1.heap.size W1 (wr.alloc o)) := hide (fun o => HB.out.alloc HB.out.size o)
          have Hl2 : Hid ((hld p U.hold k).length + [(k : Int)].length ≤ 1000000) := hide (by have := hld_len p U.hold k; simp only [List.length_cons, List.length_nil]; omega)
          clear hp hpe
          go_wp2_with (at_builtin; refine intE.wp (w0 := W1) (Hbw.out _) (by rfl) _ _ rfl _ _ rfl rfl (hld p U.hold k) [(k : Int)] (HO.out.keep (Hba.out _)) (int_new _ _ _ rfl) Hl2.out ?_; intro v1 w2 ho2 _ _ hb2; rw [← HH.out] at ho2; have HO2 := hide ho2; have HB2 := hide hb2; clear ho2 hb2)
          go_roundw
          case rel => exact ⟨k + 1, by go_num, by omega, HB2, hide (by rw [if_pos ht]; exact HO2.out)⟩
          case measure => simp [intOf]; omega
        · have q1 : (p == t) = false := beq_eq_false_iff_ne.2 he
          have HO1 : Hid (intE.Own wr W1.heap.size u5 (if 0 < t then hld t U.hold (k + 1) else [])) := hide (by rw [if_pos ht, hld_no (by rw [hpe]; exact he)]; exact HO.out)
          clear hp hpe
          go_wp2_with fail
          go_roundw
          case rel => exact ⟨k + 1, by go_num, by omega, HB, HO1⟩
          case measure => simp [intOf]; omega
      · have HO1 : Hid (intE.Own wr W1.heap.size u5 (if 0 < t then hld t U.hold (k + 1) else [])) := hide (by
          have := HO.out
          rw [if_neg ht] at this ⊢
          exact this)
        clear hp hpe
        go_wp2_with fail
        go_roundw
        case rel => exact ⟨k + 1, by go_num, by omega, HB, HO1⟩
        case measure => simp [intOf]; omega
    · obtain rfl : k = N := by omega
      have j1 : ¬ (k : Int) < (k : Int) := by omega
      have HO1 : Hid (intE.Own wr h0 u5 (heldD t U.hold)) := hide (by
        have := HO.out.mono Hs.out
        unfold heldD
        rw [HN.out]
        exact this)
      go_wp2_with fail
      go_ret
      exact ⟨⟨_, rfl, HO1.out⟩, HF.out _ HB.out⟩
theorem may_no' {T : Tb} {i j : Nat} {p : Cl} {n : Int} (hp : T.q[i]? = some p) (hn : p.nodes[j]? = some n) (hb : barB T.hold (T.q.take i) p.tote n = true) : mayB T i = false := by rw [mayB_at hp]; exact mayC_false (List.mem_of_getElem? hn) hb
theorem may_yes' {T : Tb} {i : Nat} {p : Cl} (hp : T.q[i]? = some p) (h : ∀ (j : Nat) (n : Int), j < p.nodes.length → p.nodes[j]? = some n → barB T.hold (T.q.take i) p.tote n = false) : mayB T i = true := may_yes hp h

set_option maxRecDepth 100000 in
set_option maxHeartbeats 4000000 in
theorem rmay_any (aH aQ : Option Addr) (cH cQ : Nat) (U : Tb) (w : World) (hT : DT pp w aH cH aQ cQ U) (hw : Wf U) (i : Nat) (cl : Cl) (hi : U.q[i]? = some cl) :
    Calls Try.prog 43 #[.agg #[.slice aH U.hold.length cH, .slice aQ U.q.length cQ], .int .i64 (i : Int)] w fun e w' => e = .returned (.bool (mayB U i)) ∧ Below w.heap.size w w' := by
  have hql := hw.qlen
  have hilt := idx_lt hi
  have hnl := (hw.nodes cl (List.mem_of_getElem? hi)).2.2
  have Hin : Hid (∀ k x, cl.nodes[k]? = some x → ∃ y : Nat, x = (y : Int) ∧ y < U.hold.length) := hide (fun k x hx => by
    have := (hw.nodes cl (List.mem_of_getElem? hi)).1 x (List.mem_of_getElem? hx)
    exact ⟨x.toNat, by omega, by omega⟩)
  have Hl5 : Hid (∀ p ∈ U.q, p.nodes.length ≤ 100000) := hide (fun p hp => (hw.nodes p hp).2.2)
  have yes : Hid ((∀ (j : Nat) (n : Int), j < cl.nodes.length → cl.nodes[j]? = some n → barB U.hold (U.q.take i) cl.tote n = false) → mayB U i = true) := hide (fun h => may_yes' hi h)
  have no : Hid (∀ (j : Nat) (n : Int), cl.nodes[j]? = some n → barB U.hold (U.q.take i) cl.tote n = true → mayB U i = false) := hide (fun j n h1 h2 => may_no' hi h1 h2)
  obtain ⟨N, hN⟩ : ∃ N, U.hold.length = N := ⟨_, rfl⟩
  obtain ⟨M, hM⟩ : ∃ M, U.q.length = M := ⟨_, rfl⟩
  rw [hN] at Hin
  rw [hN, hM]
  obtain ⟨W1, hW1⟩ : ∃ W1, W1 = w.alloc (.cells #[.slice aH N cH, .slice aQ M cQ] 31) := ⟨_, rfl⟩
  have hB1 : Below w.heap.size w W1 := by rw [hW1]; exact (Below.refl _ _).alloc (Nat.le_refl _) _
  have hbox : W1.heap[w.heap.size]? = some (.cells #[.slice aH N cH, .slice aQ M cQ] 31) := by rw [hW1]; exact heap_new _ _
  have HF : Hid (∀ W, Below W1.heap.size W1 W → Below w.heap.size w W) := hide (fun W hb => hB1.trans (hb.mono hB1.size))
  have HD : Hid (∀ W q, Below W1.heap.size W1 W → Below W1.heap.size W1 (W.drewN q)) := hide (fun W q hb => ⟨hb.os, hb.tape, hb.output, hb.size, hb.block⟩)
  have HW1 := hide hW1
  obtain ⟨bq, oq, a', c', rfl, z0, z1, hzr⟩ := (hT.keep hB1).at i cl hi
  obtain ⟨W2, hW2⟩ : ∃ W2, W2 = W1.alloc (.cells #[.int .i64 cl.tote, .slice a' cl.nodes.length c'] 71) := ⟨_, rfl⟩
  have hB2 : Below W1.heap.size W1 W2 := by rw [hW2]; exact (Below.refl _ _).alloc (Nat.le_refl _) _
  have hbox2 : W2.heap[W1.heap.size]? = some (.cells #[.int .i64 cl.tote, .slice a' cl.nodes.length c'] 71) := by rw [hW2]; exact heap_new _ _
  have HF2 : Hid (∀ W, Below W2.heap.size W2 W → Below w.heap.size w W) := hide (fun W hb => HF.out W (hB2.trans (hb.mono hB2.size)))
  have HW2 := hide hW2
  have Hc : Hid (∀ W, Below W2.heap.size W2 W → W.cell? ⟨w.heap.size, 0, none⟩ = some (.slice aH N cH) ∧ W.cell? ⟨w.heap.size, 1, none⟩ = some (.slice (some ⟨bq, oq, none⟩) M cQ) ∧ W.cell? ⟨W1.heap.size, 0, none⟩ = some (.int .i64 cl.tote) ∧ W.cell? ⟨W1.heap.size, 1, none⟩ = some (.slice a' cl.nodes.length c') ∧ intE.Rd W (.slice a' cl.nodes.length c') cl.nodes ∧ intE.Rd W (.slice aH N cH) U.hold ∧ DT pp W aH cH (some ⟨bq, oq, none⟩) cQ U) := hide (fun W hb => by
    have hb1 := hB2.trans (hb.mono hB2.size)
    have hD := (hT.keep hB1).keep hb1
    refine ⟨by rw [hb1.cell (p := ⟨w.heap.size, 0, none⟩) (heap_lt hbox)]; exact (cells_at hbox 0).1, by rw [hb1.cell (p := ⟨w.heap.size, 1, none⟩) (heap_lt hbox)]; exact (cells_at hbox 1).1, by rw [hb.cell (p := ⟨W1.heap.size, 0, none⟩) (heap_lt hbox2)]; exact (cells_at hbox2 0).1, by rw [hb.cell (p := ⟨W1.heap.size, 1, none⟩) (heap_lt hbox2)]; exact (cells_at hbox2 1).1, hzr.keep hb1, by have := hD.hold; rwa [hN] at this, hD⟩)
  have y0 := (cells_at hbox 1).1
  simp only [List.getElem?_toArray, List.getElem?_cons_zero, List.getElem?_cons_succ] at y0
  have HM := hide hM
  have HN := hide hN
  have Hbw : Hid (heldB U.hold cl.tote = fun n => decide (hat U.hold n ≠ 0 ∧ hat U.hold n ≠ cl.tote)) := hide rfl
  generalize mayB U i = res at *
  obtain ⟨h0, hh0⟩ : ∃ h0, w.heap.size = h0 := ⟨_, rfl⟩
  obtain ⟨h1, hh1⟩ : ∃ h1, W1.heap.size = h1 := ⟨_, rfl⟩
  rw [hh0] at Hc HF2 y0 ⊢
  rw [hh1] at Hc
  obtain ⟨m, hm⟩ : ∃ m, cl.nodes.length = m := ⟨_, rfl⟩
  obtain ⟨s, hs⟩ : ∃ s, cl.tote = s := ⟨_, rfl⟩
  rw [hm] at Hc yes z1 HW2
  rw [hs] at Hc z0 HW2
  have Hm := hide hm
  have Hs := hide hs
  have i0 : (m : Int) ≤ 100000 := by omega
  have i1 : (0 : Int) ≤ (i : Int) := by omega
  have i2 : (i : Int) < (M : Int) := by omega
  have i3 : (M : Int) ≤ 30 := by omega
  have Hi30 : Hid (i < M) := hide (by omega)
  clear hT hw hql hilt hnl hi hB1 hB2 hbox hbox2 hW1 hW2 hN hM hzr hm hs HF HD
  go_enter Try.func43, Try.ntmps43
  go_upto_region 1 with fail
  rw [← HW1.out]
  try rw [hh0]
  clear HW1 hh0
  go_upto_region 2 with fail
  rw [← HW2.out]
  try rw [hh1]
  clear HW2 hh1 z0 z1 y0
  obtain ⟨d0, d1, d2, d3, _, _, _⟩ := Hc.out W2 (Below.refl _ _)
  go_upto_region 3 with fail
  clear d0 d1 d2 d3
  go_loopw [17] (fun v17 wr => ∃ k : Nat, v17 = .int .i64 k ∧ k ≤ m ∧ Hid (Below W2.heap.size W2 wr) ∧ Hid (∀ (j : Nat) (n : Int), j < k → cl.nodes[j]? = some n → barB U.hold (U.q.take i) cl.tote n = false)) (fun v17 _ => m - (intOf v17).toNat)
  case atStart => exact ⟨0, rfl, Nat.zero_le _, hide (Below.refl _ _), hide (fun j n hj => by omega)⟩
  case round =>
    obtain ⟨k, rfl, hk, HB, HX⟩ := hrel
    obtain ⟨d0, d1, d2, d3, hrd, hhd, hD⟩ := Hc.out wr HB.out
    have j0 : (0 : Int) ≤ (k : Int) := by omega
    by_cases hlt : k < m
    · obtain ⟨x, hx⟩ : ∃ x, cl.nodes[k]? = some x := ⟨_, List.getElem?_eq_getElem (by rw [Hm.out]; exact hlt)⟩
      obtain ⟨y, rfl, hy⟩ := Hin.out k x hx
      obtain ⟨b, off, rfl, c0⟩ := int_at hrd k _ hx
      obtain ⟨hv, hhv⟩ : ∃ v, U.hold[y]? = some v := ⟨_, List.getElem?_eq_getElem (by rw [HN.out]; exact hy)⟩
      obtain ⟨b2, off2, rfl, c1⟩ := int_at hhd y _ hhv
      have hhe := hat_at hhv
      have j1 : (k : Int) < (m : Int) := by omega
      have j2 : (0 : Int) ≤ (y : Int) := by omega
      have j3 : (y : Int) < (N : Int) := by omega
      have Hx := hide hx
      have Hbar : Hid (barB U.hold (U.q.take i) cl.tote (y : Int) = (decide (hv ≠ 0 ∧ hv ≠ s) || wantB (U.q.take i) (y : Int))) := hide (by unfold barB heldB; rw [hhe, Hs.out])
      clear hx hrd hhd hhv hhe hD
      by_cases e1 : hv = 0
      · subst e1
        have q1 : ((0 : Int) != 0) = false := rfl
        rw [show decide ((0 : Int) ≠ 0 ∧ (0 : Int) ≠ s) = false from decide_eq_false (fun h => h.1 rfl), Bool.false_or] at Hbar
        go_upto_region 6 with fail
        go_quiet (fail)
        have HB2 := hide (drew_below HB.out nq)
        generalize wr.drewN nq = W4 at *
        clear d0 d1 d2 d3 c0 c1
        go_upto_region 9 with fail
        go_loopw [8] (fun v8 wr => ∃ j : Nat, v8 = .int .i64 j ∧ j ≤ i ∧ wr = W4 ∧ Hid (wantB (U.q.take j) (y : Int) = false)) (fun v8 _ => i - (intOf v8).toNat)
        case atStart => exact ⟨0, rfl, Nat.zero_le _, rfl, hide (by simp [wantB])⟩
        case round =>
          obtain ⟨j, rfl, hj, hw, HX2⟩ := hrel
          have hw' := hw.symm
          clear hw
          subst hw'
          obtain ⟨d0, d1, d2, d3, _, _, hD⟩ := Hc.out W4 HB2.out
          have g0 : (0 : Int) ≤ (j : Int) := by omega
          by_cases hji : j < i
          · obtain ⟨dl, hdl⟩ : ∃ x, U.q[j]? = some x := ⟨_, List.getElem?_eq_getElem (by rw [HM.out]; have := Hi30.out; omega)⟩
            obtain ⟨b3, off3, a3, c3, hb3, _, e3, hr3⟩ := hD.at j dl hdl
            cases hb3
            have K48 := hide (has_any a3 c3 dl.nodes.length dl.nodes (y : Int) W4 rfl hr3 (Hl5.out dl (List.mem_of_getElem? hdl)))
            have Hw2 : Hid (wantB (U.q.take (j + 1)) (y : Int) = (wantB (U.q.take j) (y : Int) || decide ((y : Int) ∈ dl.nodes))) := hide (by
              unfold wantB
              rw [List.take_add_one, hdl, List.any_append]
              simp)
            have g1 : (j : Int) < (i : Int) := by omega
            have g2 : (j : Int) < (M : Int) := by have := Hi30.out; omega
            have Hmon : Hid (wantB (U.q.take (j + 1)) (y : Int) = true → wantB (U.q.take i) (y : Int) = true) := hide (fun h => by
              unfold wantB at h ⊢
              rw [List.any_eq_true] at h ⊢
              obtain ⟨c, hc, hc2⟩ := h
              refine ⟨c, ?_, hc2⟩
              have : (U.q.take (j + 1)) = (U.q.take i).take (j + 1) := by rw [List.take_take, Nat.min_eq_left (by omega)]
              rw [this] at hc
              exact List.mem_of_mem_take hc)
            rw [HX2.out, Bool.false_or] at Hw2
            clear hdl hr3 hD
            generalize dl.nodes.length = md at *
            cases hb : decide ((y : Int) ∈ dl.nodes) with
            | true =>
              rw [hb] at K48 Hw2
              have er := no.out k _ Hx.out (Hbar.out.trans (Hmon.out Hw2.out))
              subst er
              clear hb
              go_wp2_with (go_at_call 48; refine K48.out.mono ?_; rintro e W5 ⟨rfl, hW⟩; have hW' := hW.symm; clear hW; subst hW')
              go_ret
              exact ⟨rfl, HF2.out _ HB2.out⟩
            | false =>
              rw [hb] at K48 Hw2
              clear hb
              go_wp2_with (go_at_call 48; refine K48.out.mono ?_; rintro e W5 ⟨rfl, hW⟩; have hW' := hW.symm; clear hW; subst hW')
              go_roundw
              case rel => exact ⟨j + 1, by go_num, by omega, trivial, Hw2⟩
              case measure => simp [intOf]; omega
          · obtain rfl : j = i := by omega
            have g1 : ¬ (j : Int) < (j : Int) := by omega
            have HX1 : Hid (∀ (j' : Nat) (n : Int), j' < k + 1 → cl.nodes[j']? = some n → barB U.hold (U.q.take j) cl.tote n = false) := hide (fun j' n hj' hn' => by
              rcases Nat.lt_or_ge j' k with h | h
              · exact HX.out j' n h hn'
              · obtain rfl : j' = k := by omega
                rw [Hx.out] at hn'; cases hn'; exact Hbar.out.trans HX2.out)
            go_wp2_with fail
            go_roundw
            case rel => exact ⟨k + 1, by go_num, by omega, HB2, HX1⟩
            case measure => simp [intOf]; omega
      · have q1 : (hv != 0) = true := bne_iff_ne.2 e1
        by_cases e2 : hv = s
        · subst e2
          rw [show decide (hv ≠ 0 ∧ hv ≠ hv) = false from decide_eq_false (fun h => h.2 rfl), Bool.false_or] at Hbar
          have q2 : (hv != hv) = false := bne_self_eq_false _
          go_upto_region 6 with fail
          go_quiet (fail)
          have HB2 := hide (drew_below HB.out nq)
          generalize wr.drewN nq = W4 at *
          clear d0 d1 d2 d3 c0 c1
          go_upto_region 9 with fail
          go_loopw [8] (fun v8 wr => ∃ j : Nat, v8 = .int .i64 j ∧ j ≤ i ∧ wr = W4 ∧ Hid (wantB (U.q.take j) (y : Int) = false)) (fun v8 _ => i - (intOf v8).toNat)
          case atStart => exact ⟨0, rfl, Nat.zero_le _, rfl, hide (by simp [wantB])⟩
          case round =>
            obtain ⟨j, rfl, hj, hw, HX2⟩ := hrel
            have hw' := hw.symm
            clear hw
            subst hw'
            obtain ⟨d0, d1, d2, d3, _, _, hD⟩ := Hc.out W4 HB2.out
            have g0 : (0 : Int) ≤ (j : Int) := by omega
            by_cases hji : j < i
            · obtain ⟨dl, hdl⟩ : ∃ x, U.q[j]? = some x := ⟨_, List.getElem?_eq_getElem (by rw [HM.out]; have := Hi30.out; omega)⟩
              obtain ⟨b3, off3, a3, c3, hb3, _, e3, hr3⟩ := hD.at j dl hdl
              cases hb3
              have K48 := hide (has_any a3 c3 dl.nodes.length dl.nodes (y : Int) W4 rfl hr3 (Hl5.out dl (List.mem_of_getElem? hdl)))
              have Hw2 : Hid (wantB (U.q.take (j + 1)) (y : Int) = (wantB (U.q.take j) (y : Int) || decide ((y : Int) ∈ dl.nodes))) := hide (by
                unfold wantB
                rw [List.take_add_one, hdl, List.any_append]
                simp)
              have g1 : (j : Int) < (i : Int) := by omega
              have g2 : (j : Int) < (M : Int) := by have := Hi30.out; omega
              have Hmon : Hid (wantB (U.q.take (j + 1)) (y : Int) = true → wantB (U.q.take i) (y : Int) = true) := hide (fun h => by
                unfold wantB at h ⊢
                rw [List.any_eq_true] at h ⊢
                obtain ⟨c, hc, hc2⟩ := h
                refine ⟨c, ?_, hc2⟩
                have : (U.q.take (j + 1)) = (U.q.take i).take (j + 1) := by rw [List.take_take, Nat.min_eq_left (by omega)]
                rw [this] at hc
                exact List.mem_of_mem_take hc)
              rw [HX2.out, Bool.false_or] at Hw2
              clear hdl hr3 hD
              generalize dl.nodes.length = md at *
              cases hb : decide ((y : Int) ∈ dl.nodes) with
              | true =>
                rw [hb] at K48 Hw2
                have er := no.out k _ Hx.out (Hbar.out.trans (Hmon.out Hw2.out))
                subst er
                clear hb
                go_wp2_with (go_at_call 48; refine K48.out.mono ?_; rintro e W5 ⟨rfl, hW⟩; have hW' := hW.symm; clear hW; subst hW')
                go_ret
                exact ⟨rfl, HF2.out _ HB2.out⟩
              | false =>
                rw [hb] at K48 Hw2
                clear hb
                go_wp2_with (go_at_call 48; refine K48.out.mono ?_; rintro e W5 ⟨rfl, hW⟩; have hW' := hW.symm; clear hW; subst hW')
                go_roundw
                case rel => exact ⟨j + 1, by go_num, by omega, trivial, Hw2⟩
                case measure => simp [intOf]; omega
            · obtain rfl : j = i := by omega
              have g1 : ¬ (j : Int) < (j : Int) := by omega
              have HX1 : Hid (∀ (j' : Nat) (n : Int), j' < k + 1 → cl.nodes[j']? = some n → barB U.hold (U.q.take j) cl.tote n = false) := hide (fun j' n hj' hn' => by
                rcases Nat.lt_or_ge j' k with h | h
                · exact HX.out j' n h hn'
                · obtain rfl : j' = k := by omega
                  rw [Hx.out] at hn'; cases hn'; exact Hbar.out.trans HX2.out)
              go_wp2_with fail
              go_roundw
              case rel => exact ⟨k + 1, by go_num, by omega, HB2, HX1⟩
              case measure => simp [intOf]; omega
        · have q2 : (hv != s) = true := bne_iff_ne.2 e2
          rw [show decide (hv ≠ 0 ∧ hv ≠ s) = true from decide_eq_true ⟨e1, e2⟩, Bool.true_or] at Hbar
          have er := no.out k _ Hx.out Hbar.out
          subst er
          go_upto_region 6 with fail
          go_quiet (fail)
          go_wp2_with fail
          go_ret
          exact ⟨rfl, HF2.out _ (drew_below HB.out _)⟩
    · obtain rfl : k = m := by omega
      have j1 : ¬ (k : Int) < (k : Int) := by omega
      have e1 := yes.out HX.out
      subst e1
      go_wp2_with fail
      go_ret
      exact ⟨rfl, HF2.out _ HB.out⟩
end Go.Proofs.Ytbibegendejnlaa
