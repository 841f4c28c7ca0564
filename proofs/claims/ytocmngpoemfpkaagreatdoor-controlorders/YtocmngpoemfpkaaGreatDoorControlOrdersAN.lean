/- ControlOrders: texts Kia Kob Koc Ref. -/
import Derived.Test.YtocmngpoemfpkaaGreatDoorControlOrdersAC
import Derived.Test.YtocmngpoemfpkaaGreatDoorControlOrdersAG
import Derived.Test.YtocmngpoemfpkaaGreatDoorControlOrdersAI
import Derived.Test.YtocmngpoemfpkaaGreatDoorControlOrdersAL
import Derived.Test.YtocmngpoemfpkaaGreatDoorControlOrdersAM
namespace Go.Proofs.YtocmngpoemfpkaaGreatDoor
open Go.RowKit
set_option linter.unusedVariables false
def stN (E : Ev) (x : Int) : Bool := decide (0 ≤ x ∧ x < E.ns.length) && decide (kindAt E.ns x = 3)
noncomputable def frmF (E : Ev) (s : Nat) : List Int := open Classical in if h : ∃ l, Far (Eg E.es (clo E.es.length []) 0) (Tk E.ns) s E.ns.length l then Classical.choose h else []
theorem frmF_of {E : Ev} {s : Nat} {l : List Int} (g : Far (Eg E.es (clo E.es.length []) 0) (Tk E.ns) s E.ns.length l) : frmF E s = l := by
  have h : ∃ l, Far (Eg E.es (clo E.es.length []) 0) (Tk E.ns) s E.ns.length l := ⟨l, g⟩
  unfold frmF
  rw [dif_pos h]
  exact (Classical.choose_spec h).uniq g
def TwoP (w0 : World) (l : List It) (g : Nat) (E : Ev) (n m : Nat) (p : Bool × Int × Ct) (e : Ending) (w' : World) : Prop := e = .returned (.tuple #[.bool p.1, .int .i64 p.2.1]) ∧ ∃ P', Liv P' p.2.2 ∧ Its w0 (.ctl w0.heap.size g E n m P' p.2.2 :: l) w'
noncomputable def Ct.order (E : Ev) (c : Ct) (r : Rq) : Bool × Int × Ct :=
  if c.dead = true then (false, 190, c) else if r.id < 0 ∨ 2147483647 < r.id then (false, 1, c) else if c.K.sta r.id ≠ 0 then (c.K.adY r, c.K.adC r, c) else
    if stN E r.st = false then (false, 1, c) else if c.S.whr r.tt = -1 then (false, 160, c) else if va (frmF E (c.S.whr r.tt).toNat) r.st.toNat < 0 then (false, 161, c) else
      (decide ((c.note ⟨2, r.id, r.st, r.tt⟩).1 = 0), (c.note ⟨2, r.id, r.st, r.tt⟩).1, (c.note ⟨2, r.id, r.st, r.tt⟩).2)
section
set_option maxRecDepth 100000
set_option maxHeartbeats 4000000
variable {w0 w : World} {l : List It} {B g n m : Nat} {E : Ev} {P : Kp} {c : Ct}
theorem isStation_any (h : (It.ctl B g E n m P c).P w) (x : Int) : Calls Tryz.prog 81 #[.pointer (some ⟨g, 0, none⟩), .int .i64 x] w fun e w' => e = .returned (.bool (stN E x)) ∧ ∃ q, w' = w.drewN q := by
  obtain ⟨c0, c1, _⟩ := kt_c h
  have hn := (kt_f h).hn
  have hn4 := (kt_ly h).n4
  have HL := hide (kt_ns h).rd
  have e0 : stN E x = (decide (0 ≤ x ∧ x < (n : Int)) && decide (kindAt E.ns x = 3)) := by unfold stN; rw [hn]
  rw [e0]
  by_cases h1 : 0 ≤ x
  · by_cases h2 : x < (n : Int)
    · obtain ⟨k, rfl⟩ : ∃ k : Nat, x = (k : Int) := ⟨x.toNat, by omega⟩
      obtain ⟨p, hp⟩ : ∃ p, E.ns[k]? = some p := ⟨_, List.getElem?_eq_getElem (by omega)⟩
      obtain ⟨b, off, hb, q0, q1, q2⟩ := nd_at HL.out k p hp
      rw [hb] at c0
      have hk : kindAt E.ns (k : Int) = p.kind := by unfold kindAt; rw [show ((k : Int)).toNat = k by omega, hp]; rfl
      rw [hk, decide_eq_true ⟨h1, h2⟩, Bool.true_and]
      obtain ⟨nm, kd, zn⟩ := p
      dsimp only at *
      clear hk hb hp e0 hn4 hn HL h
      by_cases h3 : kd = 3
      · subst h3
        go_enter Tryz.func81, Tryz.ntmps81
        go_wp2_with fail
        go_ret
        exact ⟨by simp, 0, rfl⟩
      · have h3' : (kd == 3) = false := beq_eq_false_iff_ne.2 h3
        go_enter Tryz.func81, Tryz.ntmps81
        go_wp2_with fail
        go_ret
        exact ⟨by simp [h3], 0, rfl⟩
    · rw [decide_eq_false (fun q => h2 q.2), Bool.false_and]
      clear e0 hn4 hn HL h
      go_enter Tryz.func81, Tryz.ntmps81
      go_wp2_with fail
      go_ret
      exact ⟨rfl, 0, rfl⟩
  · rw [decide_eq_false (fun q => h1 q.1), Bool.false_and]
    clear e0 hn4 hn HL h
    go_enter Tryz.func81, Tryz.ntmps81
    go_wp2_with fail
    go_ret
    exact ⟨rfl, 0, rfl⟩
theorem Its.hp {w0 w w' : World} {l : List It} (h : Its w0 l w) (e : w'.heap = w.heap) (e1 : w'.os = w.os) (e2 : w'.tape = w.tape) (e3 : w'.output = w.output) : Its w0 l w' := h.keep ⟨e1, e2, e3, by rw [e]; exact Nat.le_refl _, fun k hk => by rw [e]⟩
theorem ad_known {K : Bk} {r : Rq} (h : K.sta r.id ≠ 0) : K.ad r = K := Bk.ad_no (by
  unfold Bk.adY
  unfold Bk.sta at h
  cases hf : fnd K.all r.id with
  | none => rw [hf] at h; exact absurd rfl h
  | some e => simp)
theorem korderS (h : Its w0 (.ctl w0.heap.size g E n m P c :: l) w) (hv : Liv P c) {k : Nat} (hg : Gd c k) (hk : k ≤ 7000) (r : Rq) :
    Calls Tryz.prog 29 #[.pointer (some ⟨g, 0, none⟩), .agg #[.int .i64 r.id, .int .i64 r.st, .int .i64 r.tt]] w (TwoP w0 l g E n m (c.order E r)) := by
  obtain ⟨l', hl'⟩ : ∃ l', It.box w.heap.size #[.int .i64 r.id, .int .i64 r.st, .int .i64 r.tt] 57 :: l = l' := ⟨_, rfl⟩
  obtain ⟨w1, hw1⟩ : ∃ w1, w.alloc (.cells #[.int .i64 r.id, .int .i64 r.st, .int .i64 r.tt] 57) = w1 := ⟨_, rfl⟩
  have h1 : Its w0 (.ctl w0.heap.size g E n m P c :: l') w1 := by
    rw [← hw1, ← hl']
    exact (h.new (x := .box w.heap.size _ 57) (heap_new w _) (fun k hk => by cases hk; exact Nat.le_refl _) (below_new w _)).swap
  have SX : Hid (∀ W, Its w0 (.ctl w0.heap.size g E n m P c :: l') W → (W.cell? ⟨w.heap.size, 0, none⟩ = some (.int .i64 r.id) ∧ W.cell? ⟨w.heap.size, 1, none⟩ = some (.int .i64 r.st) ∧ W.cell? ⟨w.heap.size, 2, none⟩ = some (.int .i64 r.tt)) ∧ W.cell? ⟨g, 0, none⟩ = some (.slice P.la n P.lc) ∧ W.cell? ⟨g, 1, none⟩ = some (.slice P.lb m P.le) ∧ W.cell? ⟨g, 4, none⟩ = some (.pointer (some ⟨P.gm, 0, none⟩)) ∧ W.cell? ⟨g, 5, none⟩ = some (.pointer (some ⟨P.gb, 0, none⟩)) ∧ W.cell? ⟨g, 38, none⟩ = some (.bool c.dead)) := hide (fun W hW => by
    subst hl'
    obtain ⟨c0, c1, c2, c3, c4, c5, c37, c38⟩ := kt_c hW.one
    have hb := hW.two
    exact ⟨⟨(cells_at hb 0).1, (cells_at hb 1).1, (cells_at hb 2).1⟩, c0, c1, c4, c5, c38⟩)
  have SBX : Hid (∀ W P', P'.gb = P.gb → Its w0 (.ctl w0.heap.size g E n m P' c :: l') W → W.cell? ⟨g, 5, none⟩ = some (.pointer (some ⟨P.gb, 0, none⟩)) ∧ W.cell? ⟨w.heap.size, 0, none⟩ = some (.int .i64 r.id) ∧ W.cell? ⟨w.heap.size, 1, none⟩ = some (.int .i64 r.st) ∧ W.cell? ⟨w.heap.size, 2, none⟩ = some (.int .i64 r.tt)) := hide (fun W P' e hW => by
    subst hl'
    obtain ⟨c0, c1, c2, c3, c4, c5, c37, c38⟩ := kt_c hW.one
    have hb := hW.two
    rw [e] at c5
    exact ⟨c5, (cells_at hb 0).1, (cells_at hb 1).1, (cells_at hb 2).1⟩)
  have drop : Hid (∀ W P' c', Its w0 (.ctl w0.heap.size g E n m P' c' :: l') W → Its w0 (.ctl w0.heap.size g E n m P' c' :: l) W) := hide (fun W P' c' hW => by subst hl'; exact hW.swap.tail)
  have hp : c.order E r = if c.dead = true then (false, 190, c) else if r.id < 0 ∨ 2147483647 < r.id then (false, 1, c) else if c.K.sta r.id ≠ 0 then (c.K.adY r, c.K.adC r, c) else if stN E r.st = false then (false, 1, c) else if c.S.whr r.tt = -1 then (false, 160, c) else if va (frmF E (c.S.whr r.tt).toNat) r.st.toNat < 0 then (false, 161, c) else (decide ((c.note ⟨2, r.id, r.st, r.tt⟩).1 = 0), (c.note ⟨2, r.id, r.st, r.tt⟩).1, (c.note ⟨2, r.id, r.st, r.tt⟩).2) := rfl
  rw [hp]
  clear hp
  have HI := hide h1
  have HV := hide hv
  have hI64 : 0 ≤ r.id → r.id ≤ 2147483647 → I64 r.id := fun a b => by unfold I64; omega
  have KN : Hid (c.dead = false → 0 ≤ r.id → r.id ≤ 2147483647 → ∀ W, Its w0 (.ctl w0.heap.size g E n m P c :: l') W → Calls Tryz.prog 82 #[.pointer (some ⟨g, 0, none⟩), .agg #[.int .i64 2, .int .i64 r.id, .int .i64 r.st, .int .i64 r.tt]] W (CodeP w0 l' g E n m (c.note ⟨2, r.id, r.st, r.tt⟩))) := hide (fun hd a b W hW => knote_any hW hv hd hg hk ⟨2, r.id, r.st, r.tt⟩ (hI64 a b))
  have KS : Hid (c.dead = false → 0 ≤ r.id → r.id ≤ 2147483647 → ∀ W, Its w0 (.ctl w0.heap.size g E n m P c :: l') W → Calls Tryz.prog 79 #[.pointer (some ⟨P.gb, 0, none⟩), .int .i64 r.id] W fun e w' => e = .returned (.int .i64 (c.K.sta r.id)) ∧ w' = W) := hide (fun hd a b W hW => by rw [← (hv hd).2]; exact state_any (kt_b hW.one) (hI64 a b))
  have KA : Hid (c.dead = false → 0 ≤ r.id → r.id ≤ 2147483647 → c.K.sta r.id ≠ 0 → ∀ W, Its w0 (.ctl w0.heap.size g E n m P c :: l') W → Calls Tryz.prog 80 #[.pointer (some ⟨P.gb, 0, none⟩), .agg #[.int .i64 r.id, .int .i64 r.st, .int .i64 r.tt]] W fun q w' => q = .returned (.tuple #[.bool (c.K.adY r), .int .i64 (c.K.adC r)]) ∧ ∃ P', P'.gb = P.gb ∧ Liv P' c ∧ Its w0 (.ctl w0.heap.size g E n m P' c :: l') w') := hide (fun hd a b hs W hW => by
    have hf := kt_f hW.one
    obtain ⟨eS, eK⟩ := hv hd
    obtain ⟨got, _, _, h3, h4⟩ := hg.nt hd
    refine (addS r hW.kbook (hI64 a b) (by rw [eK]; omega) ⟨rfl, rfl⟩ rfl).mono ?_
    rintro q w' ⟨rfl, H', hq⟩
    exact ⟨by rw [eK], { P with Hk := H', K := P.K.ad r }, rfl, fun _ => ⟨eS, by show P.K.ad r = c.K; rw [eK]; exact ad_known hs⟩, Its.kbookB hf hq⟩)
  have KT : Hid (∀ W, Its w0 (.ctl w0.heap.size g E n m P c :: l') W → Calls Tryz.prog 81 #[.pointer (some ⟨g, 0, none⟩), .int .i64 r.st] W fun e w' => e = .returned (.bool (stN E r.st)) ∧ ∃ q, w' = W.drewN q) := hide (fun W hW => isStation_any hW.one r.st)
  have KW : Hid (c.dead = false → ∀ W, Its w0 (.ctl w0.heap.size g E n m P c :: l') W → Calls Tryz.prog 76 #[.pointer (some ⟨P.gm, 0, none⟩), .int .i64 r.tt] W fun e w' => e = .returned (.int .i64 (c.S.whr r.tt)) ∧ w' = W) := hide (fun hd W hW => by rw [← (hv hd).1]; exact where_m (kt_m hW.one) r.tt)
  have KF : Hid (∀ (s j : Nat), s < n → j < n → r.st = (j : Int) → ∀ W, Its w0 (.ctl w0.heap.size g E n m P c :: l') W → Calls Tryz.prog 39 #[.agg #[.slice P.la n P.lc, .slice P.lb m P.le], .slice none 0 0, .int .i64 (s : Int)] W fun e w' => ∃ gl, e = .returned (.tuple #[.slice (some ⟨gl, 0, none⟩) n n, .int .i64 0]) ∧ w'.cell? ⟨gl, j, none⟩ = some (.int .i64 (va (frmF E s) r.st.toNat)) ∧ Its w0 (.ctl w0.heap.size g E n m P c :: l') w') := hide (fun s j hs hj hst W hW => by
    have hf := kt_f hW.one
    refine (from_ok _ _ _ _ _ _ n m 0 s E.ns E.es [] W (kt_ly hW.one) ⟨rfl, .inl ⟨rfl, rfl⟩, by omega⟩ hs).mono ?_
    rintro e w' ⟨⟨gl, L, rfl, ho, hfar⟩, hb⟩
    have hfar' : Far (Eg E.es (clo E.es.length []) 0) (Tk E.ns) s E.ns.length L := by rw [hf.hm, hf.hn]; exact hfar
    have hL := hfar.1
    have e1 := El.Own.at1 (Value.int .i64) (fun _ => rfl) rfl ho j (va L j) (va_at L j (by rw [hL]; exact hj))
    refine ⟨gl, rfl, ?_, hW.keep hb⟩
    rw [frmF_of hfar', hst, show ((j : Int)).toNat = j by omega]
    exact e1.1)
  have Hwn : Hid (∀ t, c.dead = false → c.S.whr t ≠ -1 → ∃ s : Nat, c.S.whr t = (s : Int) ∧ s < n) := hide (fun t hd ht => by
    obtain ⟨eS, _⟩ := hv hd
    have hl := (mr_len (kt_m h.one)).1
    have hT : isT t = true := by
      cases hb : isT t with
      | true => rfl
      | false => exfalso; apply ht; unfold Mr.whr; rw [hb]; rfl
    have h2 := (whr_at hT ht).1
    rw [← eS] at h2 ⊢
    have h3 := Mr.isN_iff.1 h2
    exact ⟨(P.S.whr t).toNat, by omega, by omega⟩)
  have Hst : Hid (stN E r.st = true → ∃ j : Nat, r.st = (j : Int) ∧ j < n) := hide (fun hs => by
    have hn := (kt_f h.one).hn
    unfold stN at hs
    simp only [Bool.and_eq_true, decide_eq_true_eq] at hs
    exact ⟨r.st.toNat, by omega, by omega⟩)
  have hnn := hide (kt_f h.one).hn
  obtain ⟨⟨y0, y1, y2⟩, x0, x1, x4, x5, x38⟩ := SX.out _ HI.out
  clear h h1 hl' hv hg hI64
  obtain ⟨rid, rst, rtt⟩ := r
  dsimp only at *
  cases hd : c.dead with
  | true =>
    rw [hd] at x38
    rw [if_pos rfl]
    clear hd KN KS KA KT KW KF Hwn Hst
    go_enter Tryz.func29, Tryz.ntmps29
    go_wp2_with fail
    go_ret2
    exact ⟨rfl, P, HV.out, drop.out _ _ _ HI.out⟩
  | false =>
  rw [hd] at x38
  rw [if_neg (by simp)]
  have KN := hide (KN.out hd)
  have KS := hide (KS.out hd)
  have KA := hide (KA.out hd)
  have KW := hide (KW.out hd)
  have Hwn := hide (fun t => Hwn.out t hd)
  clear hd
  by_cases q1 : rid < 0
  · rw [if_pos (.inl q1)]
    clear KN KS KA KT KW KF Hwn Hst
    go_enter Tryz.func29, Tryz.ntmps29
    go_wp2_with fail
    go_ret2
    exact ⟨rfl, P, HV.out, drop.out _ _ _ HI.out⟩
  by_cases q2 : 2147483647 < rid
  · rw [if_pos (.inr q2)]
    clear KN KS KA KT KW KF Hwn Hst
    go_enter Tryz.func29, Tryz.ntmps29
    go_wp2_with fail
    go_ret2
    exact ⟨rfl, P, HV.out, drop.out _ _ _ HI.out⟩
  rw [if_neg (by omega)]
  have KN := hide (KN.out (by omega) (by omega))
  have KS := hide (KS.out (by omega) (by omega))
  have KA := hide (KA.out (by omega) (by omega))
  generalize c.K.sta rid = sx at *
  by_cases q3 : sx = 0
  · subst q3
    rw [if_neg (by simp)]
    clear KA
    cases q4 : stN E rst with
    | false =>
      rw [q4] at KT
      rw [if_pos rfl]
      clear q4 KN KW KF Hwn Hst SBX
      go_enter Tryz.func29, Tryz.ntmps29
      go_upto_region 5 with fail
      go_region_held3 (fun W => W.cell? ⟨g, 5, none⟩ = some (.pointer (some ⟨P.gb, 0, none⟩)) ∧ W.cell? ⟨w.heap.size, 0, none⟩ = some (.int .i64 rid)) (exact ⟨x5, y0⟩) (first | (go_at_call 79; refine (KS.out _ ?_).mono ?_; exact HI.out.hp rfl rfl rfl rfl; rintro e w2 ⟨rfl, rfl⟩) | fail)
      go_wp2_with (go_at_call 81; refine (KT.out _ ?_).mono ?_; exact HI.out.hp rfl rfl rfl rfl; rintro e w3 ⟨rfl, q9, rfl⟩)
      go_ret2
      exact ⟨rfl, P, HV.out, drop.out _ _ _ (HI.out.hp rfl rfl rfl rfl)⟩
    | true =>
    rw [q4] at KT
    rw [if_neg (by simp)]
    obtain ⟨j, rfl, hj⟩ := Hst.out q4
    clear q4 Hst
    generalize hwt : c.S.whr rtt = wt at *
    by_cases q5 : wt = -1
    · rw [if_pos q5]
      have q5' : (wt == -1) = true := by rw [q5]; rfl
      subst q5
      clear KN KF Hwn hwt SBX
      go_enter Tryz.func29, Tryz.ntmps29
      go_upto_region 5 with fail
      go_region_held3 (fun W => W.cell? ⟨g, 5, none⟩ = some (.pointer (some ⟨P.gb, 0, none⟩)) ∧ W.cell? ⟨w.heap.size, 0, none⟩ = some (.int .i64 rid)) (exact ⟨x5, y0⟩) (first | (go_at_call 79; refine (KS.out _ ?_).mono ?_; exact HI.out.hp rfl rfl rfl rfl; rintro e w2 ⟨rfl, rfl⟩) | fail)
      go_upto_region 9 with (go_at_call 81; refine (KT.out _ ?_).mono ?_; exact HI.out.hp rfl rfl rfl rfl; rintro e w3 ⟨rfl, q9, rfl⟩)
      go_region_held3 (fun W => W.cell? ⟨g, 4, none⟩ = some (.pointer (some ⟨P.gm, 0, none⟩)) ∧ W.cell? ⟨w.heap.size, 2, none⟩ = some (.int .i64 rtt)) (exact ⟨x4, y2⟩) (first | (go_at_call 76; refine (KW.out _ ?_).mono ?_; exact HI.out.hp rfl rfl rfl rfl; rintro e w6 ⟨rfl, rfl⟩) | fail)
      go_wp2_with fail
      go_ret2
      exact ⟨rfl, P, HV.out, drop.out _ _ _ (HI.out.hp rfl rfl rfl rfl)⟩
    rw [if_neg q5]
    have q5' : (wt == -1) = false := beq_eq_false_iff_ne.2 q5
    obtain ⟨s, hs1, hs2⟩ := Hwn.out rtt (by rw [hwt]; exact q5)
    rw [hwt] at hs1
    subst hs1
    have KF := hide (KF.out s j hs2 hj rfl)
    rw [show ((s : Int)).toNat = s by omega]
    generalize va (frmF E s) ((j : Int)).toNat = d at *
    have j0 : (0 : Int) ≤ (j : Int) := by omega
    have j1 : (j : Int) < (n : Int) := by omega
    clear hwt Hwn SBX hs2
    by_cases q6 : d < 0
    · rw [if_pos q6]
      clear KN
      go_enter Tryz.func29, Tryz.ntmps29
      go_upto_region 5 with fail
      go_region_held3 (fun W => W.cell? ⟨g, 5, none⟩ = some (.pointer (some ⟨P.gb, 0, none⟩)) ∧ W.cell? ⟨w.heap.size, 0, none⟩ = some (.int .i64 rid)) (exact ⟨x5, y0⟩) (first | (go_at_call 79; refine (KS.out _ ?_).mono ?_; exact HI.out.hp rfl rfl rfl rfl; rintro e w2 ⟨rfl, rfl⟩) | fail)
      go_upto_region 9 with (go_at_call 81; refine (KT.out _ ?_).mono ?_; exact HI.out.hp rfl rfl rfl rfl; rintro e w3 ⟨rfl, q9, rfl⟩)
      go_region_held3 (fun W => W.cell? ⟨g, 4, none⟩ = some (.pointer (some ⟨P.gm, 0, none⟩)) ∧ W.cell? ⟨w.heap.size, 2, none⟩ = some (.int .i64 rtt)) (exact ⟨x4, y2⟩) (first | (go_at_call 76; refine (KW.out _ ?_).mono ?_; exact HI.out.hp rfl rfl rfl rfl; rintro e w6 ⟨rfl, rfl⟩) | fail)
      go_wp2_with (go_at_call 39; refine (KF.out _ ?_).mono ?_; exact HI.out.hp rfl rfl rfl rfl; rintro e w4 ⟨gl, rfl, e4, q⟩; have HI4 := hide q; obtain ⟨⟨v0, v1, v2⟩, _⟩ := SX.out _ q; clear q)
      go_ret2
      exact ⟨rfl, P, HV.out, drop.out _ _ _ HI4.out⟩
    · rw [if_neg q6]
      generalize c.note ⟨2, rid, (j : Int), rtt⟩ = np at *
      obtain ⟨cd, c'⟩ := np
      dsimp only at *
      by_cases hc : cd = 0
      · subst hc
        go_enter Tryz.func29, Tryz.ntmps29
        go_upto_region 5 with fail
        go_region_held3 (fun W => W.cell? ⟨g, 5, none⟩ = some (.pointer (some ⟨P.gb, 0, none⟩)) ∧ W.cell? ⟨w.heap.size, 0, none⟩ = some (.int .i64 rid)) (exact ⟨x5, y0⟩) (first | (go_at_call 79; refine (KS.out _ ?_).mono ?_; exact HI.out.hp rfl rfl rfl rfl; rintro e w2 ⟨rfl, rfl⟩) | fail)
        go_upto_region 9 with (go_at_call 81; refine (KT.out _ ?_).mono ?_; exact HI.out.hp rfl rfl rfl rfl; rintro e w3 ⟨rfl, q9, rfl⟩)
        go_region_held3 (fun W => W.cell? ⟨g, 4, none⟩ = some (.pointer (some ⟨P.gm, 0, none⟩)) ∧ W.cell? ⟨w.heap.size, 2, none⟩ = some (.int .i64 rtt)) (exact ⟨x4, y2⟩) (first | (go_at_call 76; refine (KW.out _ ?_).mono ?_; exact HI.out.hp rfl rfl rfl rfl; rintro e w6 ⟨rfl, rfl⟩) | fail)
        go_wp2_with (first
          | (go_at_call 39; refine (KF.out _ ?_).mono ?_; exact HI.out.hp rfl rfl rfl rfl; rintro e w4 ⟨gl, rfl, e4, q⟩; have HI4 := hide q; obtain ⟨⟨v0, v1, v2⟩, _⟩ := SX.out _ q; clear q)
          | (go_at_call 82; refine (KN.out _ HI4.out).mono ?_; rintro e w5 ⟨rfl, P', hv', q⟩; have HV' := hide hv'; have HQ := hide q; clear hv' q))
        go_ret2
        exact ⟨rfl, P', HV'.out, drop.out _ _ _ HQ.out⟩
      · have hc' : (cd == 0) = false := beq_eq_false_iff_ne.2 hc
        rw [decide_eq_false hc]
        go_enter Tryz.func29, Tryz.ntmps29
        go_upto_region 5 with fail
        go_region_held3 (fun W => W.cell? ⟨g, 5, none⟩ = some (.pointer (some ⟨P.gb, 0, none⟩)) ∧ W.cell? ⟨w.heap.size, 0, none⟩ = some (.int .i64 rid)) (exact ⟨x5, y0⟩) (first | (go_at_call 79; refine (KS.out _ ?_).mono ?_; exact HI.out.hp rfl rfl rfl rfl; rintro e w2 ⟨rfl, rfl⟩) | fail)
        go_upto_region 9 with (go_at_call 81; refine (KT.out _ ?_).mono ?_; exact HI.out.hp rfl rfl rfl rfl; rintro e w3 ⟨rfl, q9, rfl⟩)
        go_region_held3 (fun W => W.cell? ⟨g, 4, none⟩ = some (.pointer (some ⟨P.gm, 0, none⟩)) ∧ W.cell? ⟨w.heap.size, 2, none⟩ = some (.int .i64 rtt)) (exact ⟨x4, y2⟩) (first | (go_at_call 76; refine (KW.out _ ?_).mono ?_; exact HI.out.hp rfl rfl rfl rfl; rintro e w6 ⟨rfl, rfl⟩) | fail)
        go_wp2_with (first
          | (go_at_call 39; refine (KF.out _ ?_).mono ?_; exact HI.out.hp rfl rfl rfl rfl; rintro e w4 ⟨gl, rfl, e4, q⟩; have HI4 := hide q; obtain ⟨⟨v0, v1, v2⟩, _⟩ := SX.out _ q; clear q)
          | (go_at_call 82; refine (KN.out _ HI4.out).mono ?_; rintro e w5 ⟨rfl, P', hv', q⟩; have HV' := hide hv'; have HQ := hide q; clear hv' q))
        go_ret2
        exact ⟨rfl, P', HV'.out, drop.out _ _ _ HQ.out⟩
  · rw [if_pos q3]
    have q3' : (sx == 0) = false := beq_eq_false_iff_ne.2 q3
    have KA := hide (KA.out q3)
    clear KN KT KW KF Hwn Hst
    generalize c.K.adY ⟨rid, rst, rtt⟩ = ay at *
    generalize c.K.adC ⟨rid, rst, rtt⟩ = ac at *
    go_enter Tryz.func29, Tryz.ntmps29
    go_upto_region 5 with fail
    go_region_held3 (fun W => W.cell? ⟨g, 5, none⟩ = some (.pointer (some ⟨P.gb, 0, none⟩)) ∧ W.cell? ⟨w.heap.size, 0, none⟩ = some (.int .i64 rid) ∧ W.cell? ⟨w.heap.size, 1, none⟩ = some (.int .i64 rst) ∧ W.cell? ⟨w.heap.size, 2, none⟩ = some (.int .i64 rtt)) (exact ⟨x5, y0, y1, y2⟩)
      (first
        | (go_at_call 79; refine (KS.out _ ?_).mono ?_; exact HI.out.hp rfl rfl rfl rfl; rintro e w2 ⟨rfl, rfl⟩)
        | fail)
    go_upto_region 6 with fail
    have SB : Hid (∀ W P', P'.gb = P.gb → Its w0 (.ctl w0.heap.size g E n m P' c :: l') W → W.cell? ⟨g, 5, none⟩ = some (.pointer (some ⟨P.gb, 0, none⟩)) ∧ W.cell? ⟨w.heap.size, 0, none⟩ = some (.int .i64 rid) ∧ W.cell? ⟨w.heap.size, 1, none⟩ = some (.int .i64 rst) ∧ W.cell? ⟨w.heap.size, 2, none⟩ = some (.int .i64 rtt)) := SBX
    go_region_held3 (fun W => W.cell? ⟨g, 5, none⟩ = some (.pointer (some ⟨P.gb, 0, none⟩)) ∧ W.cell? ⟨w.heap.size, 0, none⟩ = some (.int .i64 rid) ∧ W.cell? ⟨w.heap.size, 1, none⟩ = some (.int .i64 rst) ∧ W.cell? ⟨w.heap.size, 2, none⟩ = some (.int .i64 rtt)) (first | exact s6 | exact ⟨x5, y0, y1, y2⟩)
      (first
        | (go_at_call 80; refine (KA.out _ ?_).mono ?_; exact HI.out.hp rfl rfl rfl rfl; rintro e w2 ⟨rfl, P', hgb, hv', q⟩; have HV' := hide hv'; have HQ := hide q; have s6 := SB.out _ _ hgb q; clear hv' q)
        | fail)
    go_wp2_with fail
    go_ret2
    exact ⟨rfl, P', HV'.out, drop.out _ _ _ HQ.out⟩
end
end Go.Proofs.YtocmngpoemfpkaaGreatDoor

namespace Go.Proofs.YtocmngpoemfpkaaGreatDoor
open Go.RowKit
set_option linter.unusedVariables false
section
set_option maxRecDepth 100000
set_option maxHeartbeats 4000000
theorem nclone_any (a : Option Addr) (n c : Nat) (ms : List Nd) (w : World) (hn : ms.length = n) (hl : n ≤ 100000) (hv : ndE.Rd w (.slice a n c) ms) :
    Calls Tryz.prog 111 #[.slice a n c] w fun e w' => ∃ a' c', e = .returned (.slice a' n c') ∧ ndE.Own w' w.heap.size (.slice a' n c') ms ∧ Below w.heap.size w w' := by
  have hq : ∀ W a n c, (binOp .eql 22 (.slice a n c) (.slice none 0 0)).run Tryz.prog W = .ok (.bool a.isNone) W := fun W a n c => Lib.run_eql_slice_nil W 22 53 a n c 0 0 Tryz.underlying22
  cases a with
  | none =>
    obtain ⟨rfl, rfl, rfl⟩ : n = 0 ∧ c = 0 ∧ ms = [] := by
      rcases hv with ⟨h1, h2⟩ | ⟨x, cap, h, _⟩
      · simp only [Value.slice.injEq] at h1; exact ⟨h1.2.1, h1.2.2, h2⟩
      · simp only [Value.slice.injEq] at h; cases h.1
    clear hv hn hl
    go_enter Tryz.func111, Tryz.ntmps111
    go_wp2_with fail
    go_ret
    exact ⟨_, _, rfl, El.Own.nil _ _ _, Below.refl _ _⟩
  | some x =>
    have HR : Hid (∀ o, ndE.Rd (w.alloc o) (.slice (some x) n c) ms) := hide (fun o => hv.keep ((Below.refl _ _).alloc (Nat.le_refl _) o))
    have Hnew : Hid (ndE.Own (w.alloc (.cells #[] 53)) w.heap.size (.slice (some ⟨w.heap.size, 0, none⟩) 0 0) []) := hide (El.Own.new ndE w w.heap.size (Nat.le_refl _) #[] [] rfl (by simp) _ _ _ rfl rfl rfl)
    have Hb : Hid (∀ o, Below w.heap.size w (w.alloc o)) := hide (fun o => (Below.refl _ _).alloc (Nat.le_refl _) o)
    have Hn : Hid (([] : List Nd).length + ms.length ≤ 1000000) := hide (by simp; omega)
    have Hl := hide hn
    clear hv hl hn
    go_enter Tryz.func111, Tryz.ntmps111
    go_wp2_with (at_builtin; refine ndE.wp (w0 := w) (Hb.out _) (by rfl) _ _ rfl _ _ rfl rfl [] ms Hnew.out (HR.out _) Hn.out ?_; intro v1 w2 ho2 _ _ hb2; have Ho := hide ho2; have HB2 := hide hb2; clear ho2 hb2)
    obtain ⟨a', c', e⟩ := Ho.out.rd.form
    rw [List.nil_append, Hl.out] at e
    subst e
    go_ret
    exact ⟨_, _, rfl, Ho.out, HB2.out⟩
theorem eclone_any (a : Option Addr) (n c : Nat) (ms : List Ed) (w : World) (hn : ms.length = n) (hl : n ≤ 100000) (hv : edE.Rd w (.slice a n c) ms) :
    Calls Tryz.prog 112 #[.slice a n c] w fun e w' => ∃ a' c', e = .returned (.slice a' n c') ∧ edE.Own w' w.heap.size (.slice a' n c') ms ∧ Below w.heap.size w w' := by
  have hq : ∀ W a n c, (binOp .eql 23 (.slice a n c) (.slice none 0 0)).run Tryz.prog W = .ok (.bool a.isNone) W := fun W a n c => Lib.run_eql_slice_nil W 23 78 a n c 0 0 Tryz.underlying23
  cases a with
  | none =>
    obtain ⟨rfl, rfl, rfl⟩ : n = 0 ∧ c = 0 ∧ ms = [] := by
      rcases hv with ⟨h1, h2⟩ | ⟨x, cap, h, _⟩
      · simp only [Value.slice.injEq] at h1; exact ⟨h1.2.1, h1.2.2, h2⟩
      · simp only [Value.slice.injEq] at h; cases h.1
    clear hv hn hl
    go_enter Tryz.func112, Tryz.ntmps112
    go_wp2_with fail
    go_ret
    exact ⟨_, _, rfl, El.Own.nil _ _ _, Below.refl _ _⟩
  | some x =>
    have HR : Hid (∀ o, edE.Rd (w.alloc o) (.slice (some x) n c) ms) := hide (fun o => hv.keep ((Below.refl _ _).alloc (Nat.le_refl _) o))
    have Hnew : Hid (edE.Own (w.alloc (.cells #[] 78)) w.heap.size (.slice (some ⟨w.heap.size, 0, none⟩) 0 0) []) := hide (El.Own.new edE w w.heap.size (Nat.le_refl _) #[] [] rfl (by simp) _ _ _ rfl rfl rfl)
    have Hb : Hid (∀ o, Below w.heap.size w (w.alloc o)) := hide (fun o => (Below.refl _ _).alloc (Nat.le_refl _) o)
    have Hn : Hid (([] : List Ed).length + ms.length ≤ 1000000) := hide (by simp; omega)
    have Hl := hide hn
    clear hv hl hn
    go_enter Tryz.func112, Tryz.ntmps112
    go_wp2_with (at_builtin; refine edE.wp (w0 := w) (Hb.out _) (by rfl) _ _ rfl _ _ rfl rfl [] ms Hnew.out (HR.out _) Hn.out ?_; intro v1 w2 ho2 _ _ hb2; have Ho := hide ho2; have HB2 := hide hb2; clear ho2 hb2)
    obtain ⟨a', c', e⟩ := Ho.out.rd.form
    rw [List.nil_append, Hl.out] at e
    subst e
    go_ret
    exact ⟨_, _, rfl, Ho.out, HB2.out⟩
variable {w : World} {a b : Option Addr} {n m c e : Nat} {ns : List Nd} {es : List Ed}
theorem Its.ndsame {w0 w : World} {l : List It} {g n cp k : Nat} {ns : List Nd} {p : Nd} (h : Its w0 (.row ndE w0.heap.size (.slice (some ⟨g, 0, none⟩) n cp) ns :: l) w) (hp : ns[k]? = some p) : Its w0 (.row ndE w0.heap.size (.slice (some ⟨g, 0, none⟩) n cp) ns :: l) (w.setCell ⟨g, k * 3, none⟩ (.string p.name)) := by
  have h1 := own_setC (j := 0) h.one hp (z := p) (u := .string p.name) (by decide) rfl
  rw [set_same hp] at h1
  exact h.chg h1 (fun k hk => .inl hk) ((Frm.set w g (k * 3) (.string p.name)).mono (fun j _ e => by subst e; rfl))
theorem Its.ndsame0 {w0 w : World} {l : List It} {g n cp k o : Nat} {ns : List Nd} {p : Nd} (ho : o = 0) (h : Its w0 (.row ndE w0.heap.size (.slice (some ⟨g, o, none⟩) n cp) ns :: l) w) (hp : ns[k]? = some p) : Its w0 (.row ndE w0.heap.size (.slice (some ⟨g, o, none⟩) n cp) ns :: l) (w.setCell ⟨g, o + k * 3, none⟩ (.string p.name)) := by
  subst ho
  rw [Nat.zero_add]
  exact h.ndsame hp
theorem Its.add2 {w0 w w' : World} {l : List It} {α β : Type} {E : El Tryz.prog α} {F : El Tryz.prog β} {u v : Value} {xs : List α} {ys : List β} (h : Its w0 l w) (h' : Its w [.row E w.heap.size u xs, .row F w.heap.size v ys] w') : Its w0 (.row E w0.heap.size u xs :: .row F w0.heap.size v ys :: l) w' := by
  have hs := List.pairwise_cons.1 h'.sep
  have hk := h.keep h'.bel
  have g1 := h'.ge (.row E w.heap.size u xs) (by simp)
  have g2 := h'.ge (.row F w.heap.size v ys) (by simp)
  have hsz := h.size
  refine ⟨hk.bel, ?_, ?_, List.pairwise_cons.2 ⟨?_, List.pairwise_cons.2 ⟨?_, h.sep⟩⟩⟩
  · intro y hy
    rcases List.mem_cons.1 hy with rfl | hy
    · exact El.Own.mono h'.one hsz
    · rcases List.mem_cons.1 hy with rfl | hy
      · exact El.Own.mono h'.two hsz
      · exact hk.all y hy
  · intro y hy k hk'
    rcases List.mem_cons.1 hy with rfl | hy
    · have := g1 k hk'; omega
    · rcases List.mem_cons.1 hy with rfl | hy
      · have := g2 k hk'; omega
      · exact h.ge y hy k hk'
  · intro y hy k q q'
    rcases List.mem_cons.1 hy with rfl | hy
    · exact hs.1 (.row F w.heap.size v ys) (by simp) k q q'
    · have := y.lt (h.all y hy) k q'
      have := g1 k q
      omega
  · intro y hy k q q'
    have := y.lt (h.all y hy) k q'
    have := g2 k q
    omega
theorem kcopy_any (hn : ns.length = n) (hm : es.length = m) (hn4 : n ≤ 1000) (hm4 : m ≤ 1000) (hs : ∀ p ∈ ns, p.name.size ≤ 100000) (hv : ndE.Rd w (.slice a n c) ns) (hu : edE.Rd w (.slice b m e) es) :
    Calls Tryz.prog 45 #[.agg #[.slice a n c, .slice b m e]] w fun r w' => ∃ a1 c1 b1 e1, r = .returned (.agg #[.slice a1 n c1, .slice b1 m e1]) ∧ Its w [.row ndE w.heap.size (.slice a1 n c1) ns, .row edE w.heap.size (.slice b1 m e1) es] w' := by
  have I0 : Hid (Its w [.box (w.heap.size + 1) #[.slice none 0 0, .slice none 0 0] 25, .box w.heap.size #[.slice a n c, .slice b m e] 25] ((w.alloc (.cells #[.slice a n c, .slice b m e] 25)).alloc (.cells #[.slice none 0 0, .slice none 0 0] 25))) := hide (by
    have := ((Its.nil w).box1 #[.slice a n c, .slice b m e] 25).boxN #[.slice none 0 0, .slice none 0 0] 25 rfl
    rwa [show (w.alloc (.cells #[.slice a n c, .slice b m e] 25)).heap.size = w.heap.size + 1 by simp] at this)
  obtain ⟨l1, hl1⟩ : ∃ l1 : List It, [.box (w.heap.size + 1) #[.slice none 0 0, .slice none 0 0] 25, .box w.heap.size #[.slice a n c, .slice b m e] 25] = l1 := ⟨_, rfl⟩
  have SB0 : Hid (∀ W, Its w l1 W → W.cell? ⟨w.heap.size, 0, none⟩ = some (.slice a n c) ∧ W.cell? ⟨w.heap.size, 1, none⟩ = some (.slice b m e)) := hide (fun W hW => by subst hl1; exact ⟨(cells_at hW.two 0).1, (cells_at hW.two 1).1⟩)
  have SB1 : Hid (∀ W x, Its w (x :: l1) W → W.cell? ⟨w.heap.size, 0, none⟩ = some (.slice a n c) ∧ W.cell? ⟨w.heap.size, 1, none⟩ = some (.slice b m e)) := hide (fun W x hW => SB0.out W hW.tail)
  have SB2 : Hid (∀ W x y, Its w (x :: y :: l1) W → W.cell? ⟨w.heap.size, 0, none⟩ = some (.slice a n c) ∧ W.cell? ⟨w.heap.size, 1, none⟩ = some (.slice b m e)) := hide (fun W x y hW => SB0.out W hW.tail.tail)
  have SB3 : Hid (∀ W x y z, Its w (x :: y :: z :: l1) W → W.cell? ⟨w.heap.size, 0, none⟩ = some (.slice a n c) ∧ W.cell? ⟨w.heap.size, 1, none⟩ = some (.slice b m e)) := hide (fun W x y z hW => SB0.out W hW.tail.tail.tail)
  have KN : Hid (∀ W L, Its w L W → Calls Tryz.prog 111 #[.slice a n c] W fun r w' => ∃ a1 c1, r = .returned (.slice a1 n c1) ∧ Its w (.row ndE w.heap.size (.slice a1 n c1) ns :: L) w') := hide (fun W L hW => by
    refine (nclone_any a n c ns W hn (by omega) (hv.keep hW.bel)).mono ?_
    rintro r w' ⟨a1, c1, rfl, q1, q2⟩
    exact ⟨a1, c1, rfl, hW.fresh q1 q2⟩)
  have KE : Hid (∀ W L, Its w L W → Calls Tryz.prog 112 #[.slice b m e] W fun r w' => ∃ b1 e1, r = .returned (.slice b1 m e1) ∧ Its w (.row edE w.heap.size (.slice b1 m e1) es :: L) w') := hide (fun W L hW => by
    refine (eclone_any b m e es W hm (by omega) (hu.keep hW.bel)).mono ?_
    rintro r w' ⟨b1, e1, rfl, q1, q2⟩
    exact ⟨b1, e1, rfl, hW.fresh q1 q2⟩)
  have KS : Hid (∀ p ∈ ns, ∀ W, Calls Tryz.prog 113 #[.string p.name] W fun r w' => r = .returned (.string p.name) ∧ Below W.heap.size W w') := hide (fun p hp W => clone_any p.name W (hs p hp))
  have i0 : (n : Int) ≤ 1000 := by omega
  have Hn := hide hn
  have HX0 : Hid (Its w l1 ((w.alloc (.cells #[.slice a n c, .slice b m e] 25)).alloc (.cells #[.slice none 0 0, .slice none 0 0] 25))) := hide (by rw [← hl1]; exact I0.out)
  have Hl1 := hide hl1
  clear hn hm hn4 hm4 hs hv hu I0 hl1
  go_enter Tryz.func45, Tryz.ntmps45
  go_upto_region 1 with fail
  generalize (w.alloc (.cells #[.slice a n c, .slice b m e] 25)).alloc (.cells #[.slice none 0 0, .slice none 0 0] 25) = W0 at *
  go_cut [3] (fun v3 wx => ∃ (x3 : Nat) (a1 : Option Addr) (c1 : Nat) (b1 : Option Addr) (e1 : Nat), v3 = .pointer (some ⟨x3, 0, none⟩) ∧ Hid (Its w (.box x3 #[.slice a1 n c1, .slice b1 m e1] 25 :: .row ndE w.heap.size (.slice a1 n c1) ns :: .row edE w.heap.size (.slice b1 m e1) es :: l1) wx))
  case first =>
    refine wp_region_held_drew (S := (fun W => W.cell? ⟨w.heap.size, 0, none⟩ = some (.slice a n c) ∧ W.cell? ⟨w.heap.size, 1, none⟩ = some (.slice b m e))) (by kernel_rfl) (by first | exact SB0.out _ HX0.out | exact SB0.out _ (HX0.out.hp rfl rfl rfl rfl)) (fun hS => ?_)
    refine wpAnyH_take (i := 0) (v := .pointer (some ⟨w.heap.size, 0, none⟩)) rfl (by kernel_rfl) (by kernel_rfl) (by kernel_rfl) (fun _ _ _ h => h) (Or.inl ⟨by kernel_rfl, fun W' hW => by obtain ⟨s0, s1⟩ := hW; go_simp⟩) hS ?_
    refine wpAnyH_take (i := 1) (v := .slice a n c) rfl (by kernel_rfl) (by kernel_rfl) (by kernel_rfl) (fun _ _ _ h => h) (Or.inl ⟨by kernel_rfl, fun W' hW => by obtain ⟨s0, s1⟩ := hW; go_simp⟩) hS ?_
    refine wpAnyH_take (i := 3) (v := .pointer (some ⟨w.heap.size, 1, none⟩)) rfl (by kernel_rfl) (by kernel_rfl) (by kernel_rfl) (fun _ _ _ h => h) (Or.inl ⟨by kernel_rfl, fun W' hW => by obtain ⟨s0, s1⟩ := hW; go_simp⟩) hS ?_
    refine wpAnyH_take (i := 4) (v := .slice b m e) rfl (by kernel_rfl) (by kernel_rfl) (by kernel_rfl) (fun _ _ _ h => h) (Or.inl ⟨by kernel_rfl, fun W' hW => by obtain ⟨s0, s1⟩ := hW; go_simp⟩) hS ?_
    refine wpAnyH_ready (rs := [2, 7]) (by kernel_rfl) (by simp) ?_
    refine AllReadyH.cons rfl (fun K hK => ?_) (AllReadyH.cons rfl (fun K hK => ?_) AllReadyH.nil)
    · go_simp
      go_at_call 111
      refine (KN.out _ (l1) ?_).mono ?_
      first | exact HX0.out | exact HX0.out.hp rfl rfl rfl rfl
      rintro r w1 ⟨a1, c1, rfl, q⟩
      have HX1 := hide q
      clear q
      go_simp
      refine hK.out _ _ (by first | exact SB1.out _ _ HX1.out | exact SB1.out _ _ (HX1.out.hp rfl rfl rfl rfl)) (fun _ => ?_)
      clear hK K
      refine wpAnyH_ready (rs := [5, 7]) (by kernel_rfl) (by simp) ?_
      refine AllReadyH.cons rfl (fun K hK => ?_) (AllReadyH.cons rfl (fun K hK => ?_) AllReadyH.nil)
      · go_simp
        go_at_call 112
        refine (KE.out _ ((.row ndE w.heap.size (.slice a1 n c1) ns : It) :: l1) ?_).mono ?_
        first | exact HX1.out | exact HX1.out.hp rfl rfl rfl rfl
        rintro r w2 ⟨b1, e1, rfl, q⟩
        have HX2 := hide q
        clear q
        go_simp
        refine hK.out _ _ (by first | exact SB2.out _ _ _ HX2.out | exact SB2.out _ _ _ (HX2.out.hp rfl rfl rfl rfl)) (fun _ => ?_)
        clear hK K
        refine wpAnyH_take (i := 6) (v := .agg #[.slice a1 n c1, .slice b1 m e1]) rfl (by kernel_rfl) (by kernel_rfl) (by kernel_rfl) (fun _ _ _ h => h) (Or.inl ⟨by kernel_rfl, fun W' hW => by obtain ⟨s0, s1⟩ := hW; go_simp⟩) (by first | exact SB2.out _ _ _ HX2.out | exact SB2.out _ _ _ (HX2.out.hp rfl rfl rfl rfl)) ?_
        refine wpAnyH_ready (rs := [7]) (by kernel_rfl) (by simp) ?_
        refine AllReadyH.cons rfl (fun K hK => ?_) AllReadyH.nil
        · go_simp
          have HX3 := hide (HX2.out.boxN #[.slice none 0 0, .slice none 0 0] 25 rfl)
          obtain ⟨xb, hxb⟩ : ∃ xb, xb = w2.heap.size := ⟨_, rfl⟩
          rw [← hxb] at HX3
          try rw [← hxb]
          have Hxb := hide hxb
          clear hxb
          refine hK.out _ _ (by first | exact SB3.out _ _ _ _ HX3.out | exact SB3.out _ _ _ _ (HX3.out.hp rfl rfl rfl rfl)) (fun _ => ?_)
          clear hK K
          have HB := hide (show Its w (.box xb #[.slice none 0 0, .slice none 0 0] 25 :: .row ndE w.heap.size (.slice a1 n c1) ns :: .row edE w.heap.size (.slice b1 m e1) es :: l1) _ from ((((((HX3.out).pick 1 rfl)).pick 2 rfl)).pick 2 rfl))
          have hb := HB.out.one
          have z0 := (cells_at hb 0).1
          have z1 := (cells_at hb 1).1
          have f0 := (cells_at hb 0).2
          have f1 := (cells_at hb 1).2
          have HB2 := hide ((HB.out.put1 0 (.slice a1 n c1)).put1 1 (.slice b1 m e1))
          clear hb
          refine wpAnyH_ready (rs := [8]) (by kernel_rfl) (by simp) ?_
          refine AllReadyH.cons rfl (fun K hK => ?_) AllReadyH.nil
          go_simp
          refine hK.out _ _ (by first | exact SB3.out _ _ _ _ HB2.out | exact SB3.out _ _ _ _ (HB2.out.hp rfl rfl rfl rfl)) (fun _ => ?_)
          clear hK K
          refine wpAnyH_done (by kernel_rfl) ?_ _
          go_wp2_with fail
          go_meet
          exact ⟨xb, a1, c1, b1, e1, rfl, hide (by first | exact HB2.out | exact HB2.out.hp rfl rfl rfl rfl)⟩
      · go_simp
        have HX2 := hide (HX1.out.boxN #[.slice none 0 0, .slice none 0 0] 25 rfl)
        obtain ⟨xb, hxb⟩ : ∃ xb, xb = w1.heap.size := ⟨_, rfl⟩
        rw [← hxb] at HX2
        try rw [← hxb]
        have Hxb := hide hxb
        clear hxb
        refine hK.out _ _ (by first | exact SB2.out _ _ _ HX2.out | exact SB2.out _ _ _ (HX2.out.hp rfl rfl rfl rfl)) (fun _ => ?_)
        clear hK K
        refine wpAnyH_ready (rs := [5]) (by kernel_rfl) (by simp) ?_
        refine AllReadyH.cons rfl (fun K hK => ?_) AllReadyH.nil
        · go_simp
          go_at_call 112
          refine (KE.out _ ((.box xb #[.slice none 0 0, .slice none 0 0] 25 : It) :: (.row ndE w.heap.size (.slice a1 n c1) ns : It) :: l1) ?_).mono ?_
          first | exact HX2.out | exact HX2.out.hp rfl rfl rfl rfl
          rintro r w3 ⟨b1, e1, rfl, q⟩
          have HX3 := hide q
          clear q
          go_simp
          refine hK.out _ _ (by first | exact SB3.out _ _ _ _ HX3.out | exact SB3.out _ _ _ _ (HX3.out.hp rfl rfl rfl rfl)) (fun _ => ?_)
          clear hK K
          refine wpAnyH_take (i := 6) (v := .agg #[.slice a1 n c1, .slice b1 m e1]) rfl (by kernel_rfl) (by kernel_rfl) (by kernel_rfl) (fun _ _ _ h => h) (Or.inl ⟨by kernel_rfl, fun W' hW => by obtain ⟨s0, s1⟩ := hW; go_simp⟩) (by first | exact SB3.out _ _ _ _ HX3.out | exact SB3.out _ _ _ _ (HX3.out.hp rfl rfl rfl rfl)) ?_
          have HB := hide (show Its w (.box xb #[.slice none 0 0, .slice none 0 0] 25 :: .row ndE w.heap.size (.slice a1 n c1) ns :: .row edE w.heap.size (.slice b1 m e1) es :: l1) _ from ((((((HX3.out).pick 0 rfl)).pick 2 rfl)).pick 2 rfl))
          have hb := HB.out.one
          have z0 := (cells_at hb 0).1
          have z1 := (cells_at hb 1).1
          have f0 := (cells_at hb 0).2
          have f1 := (cells_at hb 1).2
          have HB2 := hide ((HB.out.put1 0 (.slice a1 n c1)).put1 1 (.slice b1 m e1))
          clear hb
          refine wpAnyH_ready (rs := [8]) (by kernel_rfl) (by simp) ?_
          refine AllReadyH.cons rfl (fun K hK => ?_) AllReadyH.nil
          go_simp
          refine hK.out _ _ (by first | exact SB3.out _ _ _ _ HB2.out | exact SB3.out _ _ _ _ (HB2.out.hp rfl rfl rfl rfl)) (fun _ => ?_)
          clear hK K
          refine wpAnyH_done (by kernel_rfl) ?_ _
          go_wp2_with fail
          go_meet
          exact ⟨xb, a1, c1, b1, e1, rfl, hide (by first | exact HB2.out | exact HB2.out.hp rfl rfl rfl rfl)⟩
    · go_simp
      have HX1 := hide (HX0.out.boxN #[.slice none 0 0, .slice none 0 0] 25 rfl)
      obtain ⟨xb, hxb⟩ : ∃ xb, xb = W0.heap.size := ⟨_, rfl⟩
      rw [← hxb] at HX1
      try rw [← hxb]
      have Hxb := hide hxb
      clear hxb
      refine hK.out _ _ (by first | exact SB1.out _ _ HX1.out | exact SB1.out _ _ (HX1.out.hp rfl rfl rfl rfl)) (fun _ => ?_)
      clear hK K
      refine wpAnyH_ready (rs := [2]) (by kernel_rfl) (by simp) ?_
      refine AllReadyH.cons rfl (fun K hK => ?_) AllReadyH.nil
      · go_simp
        go_at_call 111
        refine (KN.out _ ((.box xb #[.slice none 0 0, .slice none 0 0] 25 : It) :: l1) ?_).mono ?_
        first | exact HX1.out | exact HX1.out.hp rfl rfl rfl rfl
        rintro r w2 ⟨a1, c1, rfl, q⟩
        have HX2 := hide q
        clear q
        go_simp
        refine hK.out _ _ (by first | exact SB2.out _ _ _ HX2.out | exact SB2.out _ _ _ (HX2.out.hp rfl rfl rfl rfl)) (fun _ => ?_)
        clear hK K
        refine wpAnyH_ready (rs := [5]) (by kernel_rfl) (by simp) ?_
        refine AllReadyH.cons rfl (fun K hK => ?_) AllReadyH.nil
        · go_simp
          go_at_call 112
          refine (KE.out _ ((.row ndE w.heap.size (.slice a1 n c1) ns : It) :: (.box xb #[.slice none 0 0, .slice none 0 0] 25 : It) :: l1) ?_).mono ?_
          first | exact HX2.out | exact HX2.out.hp rfl rfl rfl rfl
          rintro r w3 ⟨b1, e1, rfl, q⟩
          have HX3 := hide q
          clear q
          go_simp
          refine hK.out _ _ (by first | exact SB3.out _ _ _ _ HX3.out | exact SB3.out _ _ _ _ (HX3.out.hp rfl rfl rfl rfl)) (fun _ => ?_)
          clear hK K
          refine wpAnyH_take (i := 6) (v := .agg #[.slice a1 n c1, .slice b1 m e1]) rfl (by kernel_rfl) (by kernel_rfl) (by kernel_rfl) (fun _ _ _ h => h) (Or.inl ⟨by kernel_rfl, fun W' hW => by obtain ⟨s0, s1⟩ := hW; go_simp⟩) (by first | exact SB3.out _ _ _ _ HX3.out | exact SB3.out _ _ _ _ (HX3.out.hp rfl rfl rfl rfl)) ?_
          have HB := hide (show Its w (.box xb #[.slice none 0 0, .slice none 0 0] 25 :: .row ndE w.heap.size (.slice a1 n c1) ns :: .row edE w.heap.size (.slice b1 m e1) es :: l1) _ from ((((((HX3.out).pick 0 rfl)).pick 1 rfl)).pick 2 rfl))
          have hb := HB.out.one
          have z0 := (cells_at hb 0).1
          have z1 := (cells_at hb 1).1
          have f0 := (cells_at hb 0).2
          have f1 := (cells_at hb 1).2
          have HB2 := hide ((HB.out.put1 0 (.slice a1 n c1)).put1 1 (.slice b1 m e1))
          clear hb
          refine wpAnyH_ready (rs := [8]) (by kernel_rfl) (by simp) ?_
          refine AllReadyH.cons rfl (fun K hK => ?_) AllReadyH.nil
          go_simp
          refine hK.out _ _ (by first | exact SB3.out _ _ _ _ HB2.out | exact SB3.out _ _ _ _ (HB2.out.hp rfl rfl rfl rfl)) (fun _ => ?_)
          clear hK K
          refine wpAnyH_done (by kernel_rfl) ?_ _
          go_wp2_with fail
          go_meet
          exact ⟨xb, a1, c1, b1, e1, rfl, hide (by first | exact HB2.out | exact HB2.out.hp rfl rfl rfl rfl)⟩
  case rest =>
    obtain ⟨x3, a1, c1, b1, e1, rfl, HC⟩ := hcut
    obtain ⟨l2, hl2⟩ : ∃ l2, .row edE w.heap.size (.slice b1 m e1) es :: l1 = l2 := ⟨_, rfl⟩
    have HC2 : Hid (Its w (.row ndE w.heap.size (.slice a1 n c1) ns :: .box x3 #[.slice a1 n c1, .slice b1 m e1] 25 :: l2) wc) := hide (by rw [← hl2]; exact HC.out.swap)
    have HCE : Hid (l2 = .row edE w.heap.size (.slice b1 m e1) es :: l1) := hide hl2.symm
    have hbx := HC2.out.two
    have x0 := (cells_at hbx 0).1
    clear hbx HC hl2 KN KE SB0 SB1 SB2 SB3 HX0
    go_wp2_with fail
    clear x0
    go_loopw [16] (fun v16 wr => ∃ (k : Nat), v16 = .int .i64 k ∧ k ≤ n ∧ Hid (Its w (.row ndE w.heap.size (.slice a1 n c1) ns :: .box x3 #[.slice a1 n c1, .slice b1 m e1] 25 :: l2) wr)) (fun v16 _ => n - (intOf v16).toNat)
    case atStart => exact ⟨0, rfl, Nat.zero_le _, hide (by first | exact HC2.out | exact HC2.out.hp rfl rfl rfl rfl)⟩
    case round =>
      obtain ⟨k, rfl, hk, HR⟩ := hrel
      by_cases hlt : k < n
      · obtain ⟨p, hp⟩ : ∃ p, ns[k]? = some p := ⟨_, List.getElem?_eq_getElem (by rw [Hn.out]; exact hlt)⟩
        obtain ⟨g1, o1, rfl, q0, q1, q2⟩ := nd_at HR.out.one.rd k p hp
        have ho : o1 = 0 := by
          obtain ⟨g', cap, z, _⟩ := El.Own.some HR.out.one (by intro z; rw [z] at hp; cases hp)
          simp only [Value.slice.injEq, Option.some.injEq, Addr.mk.injEq] at z
          exact z.1.2.1
        have Ho := hide ho
        have hz0 : wr.frozen? ⟨g1, o1 + k * 3, none⟩ = false := by
          obtain ⟨cur, hcur, _⟩ := own_cells HR.out.one g1 (by rw [ho]; rfl)
          exact (cells_at hcur _).2
        have Hp := hide hp
        have KSp := hide (KS.out p (List.mem_of_getElem? hp))
        have j0 : (0 : Int) ≤ (k : Int) := by omega
        have j1 : (k : Int) < (n : Int) := by omega
        have j2 : wrap64 ((k : Int) + 1) = (k : Int) + 1 := by unfold wrap64; omega
        have HX := hide (HR.out.boxN #[.string p.name, .int .i64 p.kind, .int .i64 p.zone] 53 rfl)
        have SS : Hid (∀ W, Its w (.box wr.heap.size #[.string p.name, .int .i64 p.kind, .int .i64 p.zone] 53 :: .row ndE w.heap.size (.slice (some ⟨g1, o1, none⟩) n c1) ns :: .box x3 #[.slice (some ⟨g1, o1, none⟩) n c1, .slice b1 m e1] 25 :: l2) W → W.cell? ⟨wr.heap.size, 0, none⟩ = some (.string p.name) ∧ W.cell? ⟨x3, 0, none⟩ = some (.slice (some ⟨g1, o1, none⟩) n c1) ∧ W.cell? ⟨g1, o1 + k * 3, none⟩ = some (.string p.name) ∧ W.frozen? ⟨g1, o1 + k * 3, none⟩ = false) := hide (fun W hW => by
          obtain ⟨g', o', z0, z1, z2, z3⟩ := nd_at hW.two.rd k p Hp.out
          simp only [Option.some.injEq, Addr.mk.injEq, and_true] at z0
          obtain ⟨rfl, rfl⟩ := z0
          refine ⟨(cells_at hW.one 0).1, (cells_at hW.three 0).1, z1, ?_⟩
          obtain ⟨cur, hcur, _⟩ := own_cells hW.two g1 (by rw [Ho.out]; rfl)
          exact (cells_at hcur _).2)
        obtain ⟨s0, s1, _, _⟩ := SS.out _ HX.out
        clear hp ho hz0
        obtain ⟨nm, kd, zn⟩ := p
        dsimp only at *
        go_upto_region 5 with fail
        clear s0 s1 q0 q1 q2
        go_region_held3 (fun W => W.cell? ⟨wr.heap.size, 0, none⟩ = some (.string nm) ∧ W.cell? ⟨x3, 0, none⟩ = some (.slice (some ⟨g1, o1, none⟩) n c1) ∧ W.cell? ⟨g1, o1 + k * 3, none⟩ = some (.string nm) ∧ W.frozen? ⟨g1, o1 + k * 3, none⟩ = false) (first | exact HSS.out | exact SS.out _ HS.out | exact SS.out _ (HS.out.hp rfl rfl rfl rfl) | exact SS.out _ HY.out | exact SS.out _ (HY.out.hp rfl rfl rfl rfl) | exact SS.out _ HX.out | exact SS.out _ (HX.out.hp rfl rfl rfl rfl) | fail)
          (first
            | (go_at_call 113; refine (KSp.out _).mono ?_; rintro r w5 ⟨rfl, q9⟩; (first | (have HY := hide (HX.out.keep q9)) | (have HY := hide (Its.keep (HX.out.hp (w' := (wr.alloc (.cells #[.string nm, .int .i64 kd, .int .i64 zn] 53)).drew) rfl rfl rfl rfl) q9)) | (have HY := hide (Its.keep (HX.out.hp (w' := ((wr.alloc (.cells #[.string nm, .int .i64 kd, .int .i64 zn] 53)).drewN _)) rfl rfl rfl rfl) q9))); have HS := hide ((HY.out.swap.ndsame0 Ho.out Hp.out).swap); have HSS := hide (SS.out _ HS.out); clear q9)
            | fail)
        all_goals (
          go_wp2_with fail
          go_roundw
          case rel => exact ⟨k + 1, by go_num, by omega, hide (HS.out.tail.hp rfl rfl rfl rfl)⟩
          case measure => simp [intOf]; omega)
      · obtain rfl : k = n := by omega
        have j1 : ¬ (k : Int) < (k : Int) := by omega
        have hbx := HR.out.two
        have y0 := (cells_at hbx 0).1
        have y1 := (cells_at hbx 1).1
        have HF := hide (show Its w [.row ndE w.heap.size (.slice a1 k c1) ns, .row edE w.heap.size (.slice b1 m e1) es] wr from by
          have h2 := HR.out
          rw [HCE.out] at h2
          have h3 := h2.swap.tail
          rw [← Hl1.out] at h3
          exact ⟨h3.bel, fun x hx => h3.all x (by simp only [List.mem_cons, List.not_mem_nil, or_false] at hx ⊢; rcases hx with h | h <;> simp [h]), fun x hx => h3.ge x (by simp only [List.mem_cons, List.not_mem_nil, or_false] at hx ⊢; rcases hx with h | h <;> simp [h]), ((List.pairwise_append (l₁ := [_, _])).1 h3.sep).1⟩)
        have hz := HR.out
        rw [HCE.out, ← Hl1.out] at hz
        have HP2 := hide hz
        clear hbx hz
        have hb2 := (HP2.out.pick 3 rfl).one
        have z0 := (cells_at hb2 0).1
        have z1 := (cells_at hb2 1).1
        have f0 := (cells_at hb2 0).2
        have f1 := (cells_at hb2 1).2
        have HQ := hide (((HP2.out.pick 3 rfl).put1 0 (.slice a1 k c1)).put1 1 (.slice b1 m e1))
        clear hb2
        go_wp2_with fail
        have q0 := (cells_at HQ.out.one 0).1
        have q1 := (cells_at HQ.out.one 1).1
        simp at q0 q1
        refine bodyPost_ret (v := .agg #[.slice a1 k c1, .slice b1 m e1]) (by simp [results, Tryz.results45, go_sem, q0, q1]) rfl ?_
        refine ⟨a1, c1, b1, e1, rfl, ?_⟩
        have h4 := HQ.out.tail
        have h5 := h4.swap.tail
        have h6 : Its w [.row ndE w.heap.size (.slice a1 k c1) ns, .row edE w.heap.size (.slice b1 m e1) es] _ := ⟨h5.bel, fun x hx => h5.all x (by simp only [List.mem_cons, List.not_mem_nil, or_false] at hx; rcases hx with h | h <;> simp [h]), fun x hx => h5.ge x (by simp only [List.mem_cons, List.not_mem_nil, or_false] at hx; rcases hx with h | h <;> simp [h]), ((List.pairwise_append (l₁ := [_, _])).1 h5.sep).1⟩
        first
          | exact h6
          | exact h6.hp rfl rfl rfl rfl
end
end Go.Proofs.YtocmngpoemfpkaaGreatDoor

namespace Go.Proofs.YtocmngpoemfpkaaGreatDoor
open Go.RowKit
set_option linter.unusedVariables false
def cc0 (P : Kp) (v4 v5 : Value) (n m : Nat) (pause : Int) (dead : Bool) : Array Value := #[.slice P.la n P.lc, .slice P.lb m P.le, .int .i64 pause, .pointer (some ⟨P.gt, 0, none⟩), v4, v5, P.vJ 0, P.vJ 1, P.vJ 2, P.vJ 3, P.vJ 4, P.vJ 5, P.vJ 6, P.vJ 7, P.vJ 8, P.vJ 9, P.vJ 10, P.vJ 11, P.vJ 12, P.vJ 13, P.vJ 14, P.vJ 15, P.vJ 16, P.vJ 17, P.vJ 18, P.vJ 19, P.vJ 20, P.vJ 21, P.vJ 22, P.vJ 23, P.vJ 24, P.vJ 25, P.vJ 26, P.vJ 27, P.vJ 28, P.vJ 29, P.vJ 30, .slice (some ⟨P.kg, 0, none⟩) (m + 1) (m + 1), .bool dead]
def pre0 (B g : Nat) (E : Ev) (n m : Nat) (P : Kp) (c : Ct) (v4 v5 : Value) : List It := [.box g (cc0 P v4 v5 n m E.pause c.dead) 121, .row ndE B (.slice P.la n P.lc) E.ns, .row edE B (.slice P.lb m P.le) E.es, .ints B (.slice (some ⟨P.kg, 0, none⟩) (m + 1) (m + 1)) c.tk, .jobs P.vJ c.J, .tape B P.gt P.Ht c.T]
def It.ct0 (B g : Nat) (E : Ev) (n m : Nat) (P : Kp) (c : Ct) (v4 v5 : Value) : It := .grp (.fact (KF E n m P c) :: pre0 B g E n m P c v4 v5)
theorem Its.tails {w0 w : World} {l : List It} : ∀ (a : List It), Its w0 (a ++ l) w → Its w0 l w
  | [], h => h
  | _ :: a, h => Its.tails a h.tail
section
variable {w0 w : World} {l : List It} {B g n m : Nat} {E : Ev} {P : Kp} {c : Ct} {v4 v5 : Value}
theorem ct0_f (h : (It.ct0 B g E n m P c v4 v5).P w) : KF E n m P c := h.1 (.fact (KF E n m P c)) (by simp [pre0])
theorem ct0_box (h : (It.ct0 B g E n m P c v4 v5).P w) : w.heap[g]? = some (.cells (cc0 P v4 v5 n m E.pause c.dead) 121) := h.1 (.box g (cc0 P v4 v5 n m E.pause c.dead) 121) (by simp [pre0])
theorem ct0_c (h : (It.ct0 B g E n m P c v4 v5).P w) : w.cell? ⟨g, 0, none⟩ = some (.slice P.la n P.lc) ∧ w.cell? ⟨g, 1, none⟩ = some (.slice P.lb m P.le) ∧ w.cell? ⟨g, 4, none⟩ = some v4 ∧ w.cell? ⟨g, 5, none⟩ = some v5 :=
  ⟨(cells_at (ct0_box h) 0).1, (cells_at (ct0_box h) 1).1, (cells_at (ct0_box h) 4).1, (cells_at (ct0_box h) 5).1⟩
theorem ct0_z (h : (It.ct0 B g E n m P c v4 v5).P w) (i : Nat) : w.frozen? ⟨g, i, none⟩ = false := (cells_at (ct0_box h) i).2
theorem ct0_l (h : (It.ct0 B g E n m P c v4 v5).P w) : Lyt w P.la P.lb P.lc P.le n m E.ns E.es := by
  have f := ct0_f h
  have h1 : ndE.Own w B (.slice P.la n P.lc) E.ns := h.1 (.row ndE B (.slice P.la n P.lc) E.ns) (by simp [pre0])
  have h2 : edE.Own w B (.slice P.lb m P.le) E.es := h.1 (.row edE B (.slice P.lb m P.le) E.es) (by simp [pre0])
  exact ⟨f.hn, f.hm, h1.rd, h2.rd, by have := nd_cap h2; rw [f.hm] at this; exact this, f.hs⟩
theorem Its.kn1 {gm : Nat} {Hm : Nat × Nat} {S : Mr} (h : Its w0 (.mir w0.heap.size gm Hm n m E.es S :: .ct0 w0.heap.size g E n m P c v4 v5 :: l) w) :
    Its w0 (.ct0 w0.heap.size g E n m P c (.pointer (some ⟨gm, 0, none⟩)) v5 :: .mir w0.heap.size gm Hm n m E.es S :: l) (w.setCell ⟨g, 4, none⟩ (.pointer (some ⟨gm, 0, none⟩))) := by
  have h1 := h.swap.opn
  have h2 := (h1.pick 1 rfl).put1 4 (.pointer (some ⟨gm, 0, none⟩))
  have h3 := Its.back (l := .fact (KF E n m P c) :: (pre0 w0.heap.size g E n m P c v4 v5 ++ .mir w0.heap.size gm Hm n m E.es S :: l)) 1 (by simp [pre0]) h2
  exact Its.shut (a := .fact (KF E n m P c) :: pre0 w0.heap.size g E n m P c (.pointer (some ⟨gm, 0, none⟩)) v5) h3
theorem Its.kn2 {gm gb : Nat} {Hm : Nat × Nat} {S : Mr} {Hk : Hb} {K : Bk} (h : Its w0 (.book w0.heap.size gb Hk K :: .ct0 w0.heap.size g E n m P c (.pointer (some ⟨gm, 0, none⟩)) v5 :: .mir w0.heap.size gm Hm n m E.es S :: l) w) :
    Its w0 (.ctl w0.heap.size g E n m { P with gm := gm, Hm := Hm, S := S, gb := gb, Hk := Hk, K := K } c :: l) (w.setCell ⟨g, 5, none⟩ (.pointer (some ⟨gb, 0, none⟩))) := by
  have hf := ct0_f h.two
  have h1 := h.swap.opn
  have h2 := (h1.pick 1 rfl).put1 5 (.pointer (some ⟨gb, 0, none⟩))
  have h3 := Its.back (l := .fact (KF E n m P c) :: (pre0 w0.heap.size g E n m P c (.pointer (some ⟨gm, 0, none⟩)) v5 ++ .book w0.heap.size gb Hk K :: .mir w0.heap.size gm Hm n m E.es S :: l)) 1 (by simp [pre0]) h2
  have h4 := h3.tail
  have h5 := h4.pick 7 rfl
  refine Its.kshut (P := { P with gm := gm, Hm := Hm, S := S, gb := gb, Hk := Hk, K := K }) ?_ ⟨hf.gd, hf.hn, hf.hm, hf.hs, hf.gq, hf.pa, hf.tk, hf.jo, hf.jd⟩
  refine h5.perm ?_
  show List.Perm (_ :: _ :: _ :: _ :: _ :: _ :: _ :: _ :: l) (_ :: _ :: _ :: _ :: _ :: _ :: _ :: _ :: l)
  exact (List.perm_middle (l₁ := [_, _, _, _, _, _])).symm
set_option maxRecDepth 100000 in
set_option maxHeartbeats 4000000 in
theorem krecall0 {v4 v5 : Value} (h : Its w0 (.ct0 w0.heap.size g E n m P c v4 v5 :: l) w) {got : List Nt} {r : List Int} (hr : NRds c.T.now got r) (hN : got.length ≤ 8000) : Calls Tryz.prog 46 #[.pointer (some ⟨g, 0, none⟩)] w (RecP w0 l g E n m c got) := by
  obtain ⟨c0, c1, c4, c5⟩ := ct0_c h.one
  have z4 := ct0_z h.one 4
  have hf := ct0_f h.one
  have L := ct0_l h.one
  have KN := hide (new_ok L hf.gd)
  have HI := hide h
  have KB : Hid (∀ W L, Its w0 L W → Calls Tryz.prog 115 #[] W fun e w' => ∃ g' H, e = .returned (.pointer (some ⟨g', 0, none⟩)) ∧ Its w0 (.book w0.heap.size g' H Bk.new :: L) w') := hide (fun W L hW => new_any w0 W _ hW)
  have KR : Hid (∀ W P', Its w0 (.ctl w0.heap.size g E n m P' c :: l) W → Calls Tryz.prog 65 #[.pointer (some ⟨P'.gt, 0, none⟩)] W fun e w' => ∃ v, e = .returned v ∧ Its w0 (.row ntE w0.heap.size v got :: .ctl w0.heap.size g E n m P' c :: l) w') := hide (fun W P' hW => by
    refine (readS hW.ktape hr).mono ?_
    rintro e w' ⟨v, rfl, q⟩
    refine ⟨v, rfl, ?_⟩
    have q2 := (Its.back (l := kparts w0.heap.size g E n m P' c ++ l) 5 (by simp [kparts]) q.tail)
    have q3 : Its w0 (.ctl w0.heap.size g E n m P' c :: l) w' := Its.kshut q2 (kt_f hW.one)
    have q4 := Its.back (l := (.row ntE w0.heap.size v got :: (kparts w0.heap.size g E n m P' c ++ l))) 6 (by simp [kparts]) (q.swap)
    exact (Its.kshut (l := .row ntE w0.heap.size v got :: l) (P := P') (c := c) (q4.perm (by
      show List.Perm (_ :: kparts w0.heap.size g E n m P' c ++ l) (kparts w0.heap.size g E n m P' c ++ _ :: l)
      exact (List.perm_middle).symm)) (kt_f hW.one)).swap)
  have KD : Hid (∀ W P' (v : Value) (x : Nt), P'.K.all.length ≤ 9000 ∧ P'.K.done.length ≤ 9000 → I64 x.a → Its w0 (.row ntE w0.heap.size v got :: .ctl w0.heap.size g E n m P' c :: l) W → Calls Tryz.prog 116 #[.pointer (some ⟨g, 0, none⟩), .agg #[.int .i64 x.kind, .int .i64 x.a, .int .i64 x.b, .int .i64 x.c]] W (DoP w0 (.row ntE w0.heap.size v got :: l) g E n m P' c x)) := hide (fun W P' v x hb hx hW => kdoS hW.swap x hx hb)
  have HO : Hid (∀ x ∈ got, x.ok = true) := hide hr.ok
  have i0 : (got.length : Int) ≤ 8000 := by omega
  have HNl := hide hN
  clear h hf L hN
  go_enter Tryz.func46, Tryz.ntmps46
  go_wp2_with (first
    | (go_at_call 114; refine KN.out.mono ?_; rintro e w1 ⟨gm, Hm, rfl, q⟩; have I1 := hide (HI.out.addm q); clear q; obtain ⟨d0, d1, d4, d5⟩ := ct0_c I1.out.two; have zz4 := ct0_z I1.out.two 4; have I2 := hide I1.out.kn1)
    | (go_at_call 115; refine (KB.out _ _ I2.out).mono ?_; rintro e w2 ⟨gb, Hk, rfl, q⟩; have I3 := hide q; clear q; obtain ⟨d0, d1, d4, d5⟩ := ct0_c I3.out.two; have zz5 := ct0_z I3.out.two 5; have I4 := hide I3.out.kn2; obtain ⟨f0, f1, f2, f3, f4, f5, f37, f38⟩ := kt_c I4.out.one)
    | (go_at_call 65; refine (KR.out _ _ I4.out).mono ?_; rintro e w3 ⟨v, rfl, q⟩; obtain ⟨av, cv, hv⟩ := q.one.rd.form; have HLn := hide (rfl : got.length = got.length); subst hv; have I5 := hide q; clear q))
  have HT0 : Hid (rpl (got.take 0) (Mr.nw n E.es) Bk.new = some (Mr.nw n E.es, Bk.new)) := hide rfl
  obtain ⟨N, hN⟩ : ∃ N, got.length = N := ⟨_, rfl⟩
  rw [hN] at I5 i0 HNl ⊢
  have HN := hide hN
  clear hN KN KB KR HI I1 I2 I3 I4 HLn c0 c1 c4 c5 z4 d0 d1 d4 d5 zz4 zz5
  go_loopw [28] (fun v28 wr => ∃ (k : Nat) (P' : Kp), v28 = .int .i64 k ∧ k ≤ N ∧ Hid (rpl (got.take k) (Mr.nw n E.es) Bk.new = some (P'.S, P'.K)) ∧ Hid (Its w0 (.row ntE w0.heap.size (.slice av N cv) got :: .ctl w0.heap.size g E n m P' c :: l) wr)) (fun v28 _ => N - (intOf v28).toNat)
  case atStart => exact ⟨0, _, rfl, Nat.zero_le _, HT0, I5⟩
  case round =>
    obtain ⟨k, P', rfl, hk, HT, HR⟩ := hrel
    by_cases hlt : k < N
    · obtain ⟨x, hx⟩ : ∃ x, got[k]? = some x := ⟨_, List.getElem?_eq_getElem (by rw [HN.out]; exact hlt)⟩
      have hxo := nt_i64 (HO.out x (List.mem_of_getElem? hx))
      have hsz := rpl_size _ _ _ _ HT.out
      have hsb : P'.K.all.length ≤ 9000 ∧ P'.K.done.length ≤ 9000 := by
        have h1 := HNl.out
        simp only [List.length_take, Bk.new, List.length_nil] at hsz
        omega
      obtain ⟨b, off, rfl, q0, q1, q2, q3⟩ := nt_at HR.out.one.rd k x hx
      have HZ : Hid (rpl (got.take (k + 1)) (Mr.nw n E.es) Bk.new = if ndC P'.S P'.K x = 0 ∧ ndY P'.K x = true then some (ndS P'.S x, ndK P'.K x) else none) := hide (by
        rw [take_one hx, rpl_app, HT.out])
      have HZn : Hid (rpl (got.take (k + 1)) (Mr.nw n E.es) Bk.new = none → rpl got (Mr.nw n E.es) Bk.new = none) := hide (fun h => by
        rw [← List.take_append_drop (k + 1) got]; exact rpl_none h)
      have KDx := hide (fun W => KD.out W P' (.slice (some ⟨b, off, none⟩) N cv) x hsb hxo)
      have HX := hide (HR.out.boxN #[.int .i64 x.kind, .int .i64 x.a, .int .i64 x.b, .int .i64 x.c] 69 rfl)
      obtain ⟨t0, t1, t2, t3, _⟩ := Its.cells4 HX.out
      have j0 : (0 : Int) ≤ (k : Int) := by omega
      have j1 : (k : Int) < (N : Int) := by omega
      have j2 : wrap64 ((k : Int) + 1) = (k : Int) + 1 := by unfold wrap64; omega
      clear hx hxo hsz hsb
      unfold DoP at KDx
      generalize hz : ndC P'.S P'.K x = z at *
      generalize hy : ndY P'.K x = y at *
      clear hz hy
      obtain ⟨kd, xa, xb, xc⟩ := x
      dsimp only at *
      by_cases hz : z = 0
      · subst hz
        cases y with
        | true =>
          have HT' := hide (by have := HZ.out; rw [if_pos ⟨rfl, rfl⟩] at this; exact this : rpl (got.take (k + 1)) (Mr.nw n E.es) Bk.new = some (ndS P'.S ⟨kd, xa, xb, xc⟩, ndK P'.K ⟨kd, xa, xb, xc⟩))
          clear HZ HZn
          go_wp2_with (go_at_call 116; refine (KDx.out _ HX.out.tail).mono ?_; rintro e w4 ⟨rfl, H', q⟩; have HQ := hide q; clear q)
          go_roundw
          case rel => exact ⟨k + 1, _, by go_num, by omega, HT', hide HQ.out.swap⟩
          case measure => simp [intOf]; omega
        | false =>
          have HF := hide (HZn.out (by have := HZ.out; rw [if_neg (fun h => by cases h.2)] at this; exact this))
          clear HZ HZn
          go_wp2_with (go_at_call 116; refine (KDx.out _ HX.out.tail).mono ?_; rintro e w4 ⟨rfl, H', q⟩; have HQ := hide q; clear q)
          go_ret
          exact ⟨_, HQ.out.swap.tail, .inr ⟨rfl, HF.out⟩⟩
      · have hz' : (z == 0) = false := beq_eq_false_iff_ne.2 hz
        have HF := hide (HZn.out (by have := HZ.out; rw [if_neg (fun h => hz h.1)] at this; exact this))
        clear HZ HZn
        go_wp2_with (go_at_call 116; refine (KDx.out _ HX.out.tail).mono ?_; rintro e w4 ⟨rfl, H', q⟩; have HQ := hide q; clear q)
        go_ret
        exact ⟨_, HQ.out.swap.tail, .inr ⟨rfl, HF.out⟩⟩
    · obtain rfl : k = N := by omega
      have j1 : ¬ (k : Int) < (k : Int) := by omega
      have HF := hide (by have := HT.out; rw [List.take_of_length_le (by rw [HN.out]; exact Nat.le_refl _)] at this; exact this : rpl got (Mr.nw n E.es) Bk.new = some (P'.S, P'.K))
      go_wp2_with fail
      go_ret
      exact ⟨P', HR.out.tail, .inl ⟨rfl, HF.out⟩⟩
def opn (ns : List Nd) (es : List Ed) (pause : Int) (T : Tp) (got : List Nt) (r : List Int) : Int × Tp × Option (Mr × Bk) :=
  if good ns es = false then (61, T, none) else if pause < 1 ∨ 1000 < pause then (1, T, none) else if (T.rep r).2.1 ≠ 0 then ((T.rep r).2.1, (T.rep r).2.2, none) else
    if rpl got (Mr.nw ns.length es) Bk.new = none then (180, (T.rep r).2.2, none) else (0, (T.rep r).2.2, rpl got (Mr.nw ns.length es) Bk.new)
def ct1 (m : Nat) (T : Tp) (S : Mr) (K : Bk) : Ct := ⟨S, K, T, fun _ => [], List.replicate (m + 1) 0, false⟩
def OpenP (w0 : World) (l : List It) (gt : Nat) (ns : List Nd) (es : List Ed) (pause : Int) (n m : Nat) (p : Int × Tp × Option (Mr × Bk)) (e : Ending) (w' : World) : Prop :=
  (p.1 ≠ 0 ∧ e = .returned (.tuple #[.pointer none, .int .i64 p.1]) ∧ ∃ H', Its w0 (.tape w0.heap.size gt H' p.2.1 :: l) w') ∨
  (p.1 = 0 ∧ ∃ g P S K, p.2.2 = some (S, K) ∧ e = .returned (.tuple #[.pointer (some ⟨g, 0, none⟩), .int .i64 0]) ∧ (P.S = S ∧ P.K = K) ∧ Its w0 (.ctl w0.heap.size g ⟨ns, es, pause, gt⟩ n m P (ct1 m p.2.1 S K) :: l) w')
theorem rep_now {T : Tp} {got : List Nt} {r : List Int} (hr : NRds T.now got r) (h0 : (T.rep r).2.1 = 0) : NRds (T.rep r).2.2.now got [] := by
  have hl := rds_len hr
  have e : T.now.take (T.now.length - r.length) = got.flatMap Nt.bts := by
    rw [show T.now.length - r.length = (got.flatMap Nt.bts).length by show _ = tot got; omega, hr.eq, List.take_left]
  unfold Tp.rep at h0 ⊢
  by_cases hd : T.dd = true
  · rw [if_pos hd] at h0; cases h0
  rw [if_neg hd] at h0 ⊢
  by_cases hc : (T.cut T.cn (T.now.length - r.length)).1 = 0
  case neg => rw [if_neg hc] at h0; cases h0
  rw [if_pos hc]
  show NRds (T.cut T.cn (T.now.length - r.length)).2.now got []
  have : (T.cut T.cn (T.now.length - r.length)).2.now = T.now.take (T.now.length - r.length) := by
    unfold Tp.cut at hc ⊢
    by_cases q : (T.A T.cn).length = T.now.length - r.length
    · rw [if_pos q]
      show T.now = _
      rw [← q]; exact (List.take_length).symm
    · rw [if_neg q] at hc ⊢
      by_cases z : T.can 1 = true
      · rw [if_pos z]
        show (if T.cn = T.cn then _ else _) = _
        rw [if_pos rfl]; rfl
      · rw [if_neg z] at hc; cases hc
  rw [this, e]
  exact rds_all hr.ok
theorem good_names {ns : List Nd} {es : List Ed} (h : good ns es = true) : ∀ p ∈ ns, p.name.size ≤ 8 := by
  intro p hp
  unfold good goodN at h
  simp only [Bool.and_eq_true, decide_eq_true_eq] at h
  have := h.1.2.2.1 p hp
  unfold ndB nameB at this
  simp only [Bool.and_eq_true, decide_eq_true_eq] at this
  exact this.1.1.2.1
set_option maxRecDepth 100000
set_option maxHeartbeats 4000000
theorem kopenS {gt : Nat} {H : Bool → Value} {T : Tp} {a b : Option Addr} {c' e' : Nat} {ns : List Nd} {es : List Ed} (h : Its w0 (.tape w0.heap.size gt H T :: l) w) (HL : ∀ W x, Its w0 (x :: l) W → Lyt W a b c' e' n m ns es) (pause : Int) {got : List Nt} {r : List Int} (hr : NRds T.now got r) (hN : got.length ≤ 8000) (hKb : Hb) :
    Calls Tryz.prog 12 #[.agg #[.slice a n c', .slice b m e'], .int .i64 pause, .pointer (some ⟨gt, 0, none⟩)] w (OpenP w0 l gt ns es pause n m (opn ns es pause T got r)) := by
  have L0 := HL w _ h
  have hn := L0.hn
  have hm := L0.hm
  have HI := hide h
  have HB1 : Hid (Its w0 (.box w.heap.size #[.slice a n c', .slice b m e'] 25 :: .tape w0.heap.size gt H T :: l) (w.alloc (.cells #[.slice a n c', .slice b m e'] 25))) := hide (h.boxN _ 25 rfl)
  have HLH := hide HL
  have K43 : Hid (Calls Tryz.prog 43 #[.agg #[.slice a n c', .slice b m e']] (w.alloc (.cells #[.slice a n c', .slice b m e'] 25)) fun e w' => e = .returned (.int .i64 (if good ns es = true then 0 else 61)) ∧ Its w0 (.box w.heap.size #[.slice a n c', .slice b m e'] 25 :: .tape w0.heap.size gt H T :: l) w') := hide ((check_l (HL _ _ HB1.out.tail)).mono (by
    rintro e w' ⟨rfl, q⟩
    exact ⟨rfl, HB1.out.keep q⟩))
  have SB : Hid (∀ W x, Its w0 (.box w.heap.size #[.slice a n c', .slice b m e'] 25 :: x :: l) W → W.cell? ⟨w.heap.size, 0, none⟩ = some (.slice a n c') ∧ W.cell? ⟨w.heap.size, 1, none⟩ = some (.slice b m e')) := hide (fun W x hW => ⟨(cells_at hW.one 0).1, (cells_at hW.one 1).1⟩)
  obtain ⟨pr, hpr⟩ : ∃ pr, opn ns es pause T got r = pr := ⟨_, rfl⟩
  have HPR := hide hpr
  have hbx := HB1.out.one
  have b0 := (cells_at hbx 0).1
  have b1 := (cells_at hbx 1).1
  rw [hpr]
  have HERR : Hid (∀ (cd : Int) (T' : Tp) (H' : Bool → Value) w', cd ≠ 0 → pr = (cd, T', none) → Its w0 (.tape w0.heap.size gt H' T' :: l) w' → OpenP w0 l gt ns es pause n m pr (.returned (.tuple #[.pointer none, .int .i64 cd])) w') := hide (fun cd T' H' w' q1 q2 q3 => by subst q2; exact .inl ⟨q1, rfl, H', q3⟩)
  cases hg : good ns es with
  | false =>
    rw [hg] at K43
    have HE : Hid (pr = (61, T, none)) := hide (by rw [← hpr]; unfold opn; rw [if_pos hg])
    generalize OpenP w0 l gt ns es pause n m pr = R at *
    clear h HL L0 hn hm hr hN hpr hbx hg
    go_enter Tryz.func12, Tryz.ntmps12
    go_wp2_with (go_at_call 43; refine K43.out.mono ?_; rintro e w1 ⟨rfl, q⟩; have H1 := hide q; clear q)
    exact HERR.out 61 T H _ (by decide) HE.out H1.out.tail
  | true =>
  rw [hg] at K43
  by_cases hp : pause < 1 ∨ 1000 < pause
  case pos =>
    have HE : Hid (pr = (1, T, none)) := hide (by rw [← hpr]; unfold opn; rw [if_neg (by rw [hg]; simp), if_pos hp])
    generalize OpenP w0 l gt ns es pause n m pr = R at *
    clear h HL L0 hn hm hr hN hpr hbx hg
    by_cases p1 : pause < 1
    · clear hp
      go_enter Tryz.func12, Tryz.ntmps12
      go_wp2_with (go_at_call 43; refine K43.out.mono ?_; rintro e w1 ⟨rfl, q⟩; have H1 := hide q; clear q)
      exact HERR.out 1 T H _ (by decide) HE.out H1.out.tail
    · have p2 : 1000 < pause := by omega
      clear hp
      go_enter Tryz.func12, Tryz.ntmps12
      go_wp2_with (go_at_call 43; refine K43.out.mono ?_; rintro e w1 ⟨rfl, q⟩; have H1 := hide q; clear q)
      exact HERR.out 1 T H _ (by decide) HE.out H1.out.tail
  have p1 : ¬ pause < 1 := by omega
  have p2 : ¬ 1000 < pause := by omega
  have HP : Hid (1 ≤ pause ∧ pause ≤ 1000) := hide (by omega)
  have K44 : Hid (∀ W, Its w0 (.box w.heap.size #[.slice a n c', .slice b m e'] 25 :: .tape w0.heap.size gt H T :: l) W → Calls Tryz.prog 44 #[.pointer (some ⟨gt, 0, none⟩)] W fun e w' => e = .returned (.tuple #[.int .i64 (T.rep r).1, .int .i64 (T.rep r).2.1]) ∧ ∃ H', Its w0 (.box w.heap.size #[.slice a n c', .slice b m e'] 25 :: .tape w0.heap.size gt H' (T.rep r).2.2 :: l) w') := hide (fun W hW => by
    refine (repairS hW.swap hr).mono ?_
    rintro e w' ⟨rfl, H', q⟩
    exact ⟨rfl, H', q.swap⟩)
  have HE1 : Hid ((T.rep r).2.1 ≠ 0 → pr = ((T.rep r).2.1, (T.rep r).2.2, none)) := hide (fun q => by rw [← hpr]; unfold opn; rw [if_neg (by rw [hg]; simp), if_neg hp, if_pos q])
  have HE2 : Hid ((T.rep r).2.1 = 0 → rpl got (Mr.nw n es) Bk.new = none → pr = (180, (T.rep r).2.2, none)) := hide (fun q z => by rw [← hpr]; unfold opn; rw [if_neg (by rw [hg]; simp), if_neg hp, if_neg (by rw [q]; simp), hn, if_pos z])
  have HE3 : Hid (∀ S K, (T.rep r).2.1 = 0 → rpl got (Mr.nw n es) Bk.new = some (S, K) → pr = (0, (T.rep r).2.2, some (S, K))) := hide (fun S K q z => by rw [← hpr]; unfold opn; rw [if_neg (by rw [hg]; simp), if_neg hp, if_neg (by rw [q]; simp), hn, if_neg (by rw [z]; simp), z])
  have HNow : Hid ((T.rep r).2.1 = 0 → NRds (T.rep r).2.2.now got []) := hide (fun q => rep_now hr q)
  have HOK : Hid (∀ (g : Nat) (P : Kp) (T' : Tp) S K w', pr = (0, T', some (S, K)) → (P.S = S ∧ P.K = K) → Its w0 (.ctl w0.heap.size g ⟨ns, es, pause, gt⟩ n m P (ct1 m T' S K) :: l) w' → OpenP w0 l gt ns es pause n m pr (.returned (.tuple #[.pointer (some ⟨g, 0, none⟩), .int .i64 0])) w') := hide (fun g P T' S K w' q1 q2 q3 => by subst q1; exact .inr ⟨rfl, g, P, S, K, rfl, rfl, q2, q3⟩)
  generalize OpenP w0 l gt ns es pause n m pr = R at *
  generalize (T.rep r).1 = rc at *
  generalize (T.rep r).2.1 = rcd at *
  generalize (T.rep r).2.2 = T2 at *
  clear hpr HPR hp
  by_cases h0 : rcd = 0
  case neg =>
    have h0' : (rcd == 0) = false := beq_eq_false_iff_ne.2 h0
    clear h HL L0 hn hm hr hN hbx hg HE2 HE3 HNow HOK
    go_enter Tryz.func12, Tryz.ntmps12
    go_wp2_with (first
      | (go_at_call 43; refine K43.out.mono ?_; rintro e w1 ⟨rfl, q⟩; have H1 := hide q; clear q)
      | (go_at_call 44; refine (K44.out _ H1.out).mono ?_; rintro e w2 ⟨rfl, H', q⟩; have H2 := hide q; clear q))
    exact HERR.out rcd T2 H' _ h0 (HE1.out h0) H2.out.tail
  subst h0
  obtain ⟨CI, mk, oI⟩ := made_any intE 0 rfl (m + 1) (by have := (good_he hg).2; omega) (by decide)
  have hmk : ∀ W, (Instr.makeSlice 39 (.int .i64 ((m : Int) + 1)) (.int .i64 ((m : Int) + 1))).run Tryz.prog W = .ok (.slice (some ⟨W.heap.size, 0, none⟩) (m + 1) (m + 1)) (W.alloc (.cells CI 3)) := fun W => by
    have := mk W
    rw [show (((m + 1 : Nat)) : Int) = (m : Int) + 1 by omega] at this
    exact this
  have HMI : Hid (∀ W : World, intE.Own (W.alloc (.cells CI 3)) W.heap.size (.slice (some ⟨W.heap.size, 0, none⟩) (m + 1) (m + 1)) (List.replicate (m + 1) 0)) := hide oI
  have hm120 : m ≤ 1000 ∧ n ≤ 1000 := by have := good_he hg; omega
  have j1 : wrap64 ((m : Int) + 1) = (m : Int) + 1 := by unfold wrap64; omega
  have j1k : IntKind.i64.wrap ((m : Int) + 1) = (m : Int) + 1 := by unfold IntKind.wrap; simp [IntKind.signed, IntKind.bits]; omega
  have K45 : Hid (∀ W x y z, Its w0 (x :: y :: z :: l) W → Calls Tryz.prog 45 #[.agg #[.slice a n c', .slice b m e']] W fun r w' => ∃ a1 c1 b1 e1, r = .returned (.agg #[.slice a1 n c1, .slice b1 m e1]) ∧ Its w0 (.row ndE w0.heap.size (.slice a1 n c1) ns :: .row edE w0.heap.size (.slice b1 m e1) es :: x :: y :: z :: l) w') := hide (fun W x y z hW => by
    have L := HL W z hW.tail.tail
    refine (kcopy_any L.hn L.hm hm120.2 hm120.1 (fun p hp => Nat.le_trans (good_names hg p hp) (by decide)) L.hv L.hu).mono ?_
    rintro r w' ⟨a1, c1, b1, e1, rfl, q⟩
    exact ⟨a1, c1, b1, e1, rfl, hW.add2 q⟩)
  have HGd : Hid (good ns es = true ∧ ns.length = n ∧ es.length = m) := hide ⟨hg, hn, hm⟩
  have KR : Hid (∀ W g P v4 v5, Its w0 (.ct0 w0.heap.size g ⟨ns, es, pause, gt⟩ n m P (ct1 m T2 (Mr.nw n es) Bk.new) v4 v5 :: l) W → Calls Tryz.prog 46 #[.pointer (some ⟨g, 0, none⟩)] W (RecP w0 l g ⟨ns, es, pause, gt⟩ n m (ct1 m T2 (Mr.nw n es) Bk.new) got)) := hide (fun W g P v4 v5 hW => krecall0 hW (HNow.out rfl) hN)
  clear h HL L0 hn hm hr hN hbx hg mk oI HE1 hm120
  obtain ⟨l3, hl3⟩ : ∃ l3 : Nat → List It, l3 = fun _ => l := ⟨_, rfl⟩
  clear hl3
  have HFIN : Hid (∀ W g kg a1 c1 b1 e1 H', Its w0 (.box g (cc0 ⟨a1, c1, b1, e1, gt, H', 0, (0, 0), 0, hKb, kg, fun _ => .slice none 0 0, Mr.nw n es, Bk.new⟩ (.pointer none) (.pointer none) n m pause false) 121 :: .row ndE w0.heap.size (.slice a1 n c1) ns :: .row edE w0.heap.size (.slice b1 m e1) es :: .ints w0.heap.size (.slice (some ⟨kg, 0, none⟩) (m + 1) (m + 1)) (List.replicate (m + 1) 0) :: .tape w0.heap.size gt H' T2 :: l) W → Its w0 (.ct0 w0.heap.size g ⟨ns, es, pause, gt⟩ n m ⟨a1, c1, b1, e1, gt, H', 0, (0, 0), 0, hKb, kg, fun _ => .slice none 0 0, Mr.nw n es, Bk.new⟩ (ct1 m T2 (Mr.nw n es) Bk.new) (.pointer none) (.pointer none) :: l) W) := hide (fun W g kg a1 c1 b1 e1 H' hW => by
    have h1 := hW.new (x := .jobs (fun _ => .slice none 0 0) (fun _ => [])) (fun t ht => JRd.nil _) (fun k hk => by obtain ⟨t, ht, q⟩ := hk; cases q) (Below.refl _ _)
    have h2 : Its w0 (.box g (cc0 ⟨a1, c1, b1, e1, gt, H', 0, (0, 0), 0, hKb, kg, fun _ => .slice none 0 0, Mr.nw n es, Bk.new⟩ (.pointer none) (.pointer none) n m pause false) 121 :: .row ndE w0.heap.size (.slice a1 n c1) ns :: .row edE w0.heap.size (.slice b1 m e1) es :: .ints w0.heap.size (.slice (some ⟨kg, 0, none⟩) (m + 1) (m + 1)) (List.replicate (m + 1) 0) :: .jobs (fun _ => .slice none 0 0) (fun _ => []) :: .tape w0.heap.size gt H' T2 :: l) W := h1.perm (by
      exact (List.perm_middle (l₁ := [_, _, _, _])).symm)
    obtain ⟨g1, g2, g3⟩ := HGd.out
    have h3 := h2.new (x := .fact (KF ⟨ns, es, pause, gt⟩ n m ⟨a1, c1, b1, e1, gt, H', 0, (0, 0), 0, hKb, kg, fun _ => .slice none 0 0, Mr.nw n es, Bk.new⟩ (ct1 m T2 (Mr.nw n es) Bk.new))) ⟨g1, g2, g3, fun p hp => Nat.le_trans (good_names g1 p hp) (by decide), rfl, HP.out, by simp [ct1], fun t ht => rfl, fun t d hd => by cases hd⟩ (fun k hk => hk.elim) (Below.refl _ _)
    exact Its.shut (a := .fact _ :: pre0 w0.heap.size g ⟨ns, es, pause, gt⟩ n m ⟨a1, c1, b1, e1, gt, H', 0, (0, 0), 0, hKb, kg, fun _ => .slice none 0 0, Mr.nw n es, Bk.new⟩ (ct1 m T2 (Mr.nw n es) Bk.new) (.pointer none) (.pointer none)) h3)
  go_enter Tryz.func12, Tryz.ntmps12
  go_upto_region 11 with (first
    | (go_at_call 43; refine K43.out.mono ?_; rintro e w1 ⟨rfl, q⟩; have H1 := hide q; clear q)
    | (go_at_call 44; refine (K44.out _ H1.out).mono ?_; rintro e w2 ⟨rfl, H', q⟩; have H2 := hide q; clear q))
  clear b0 b1
  go_cut [11] (fun v11 wx => ∃ (g kg : Nat) (a1 : Option Addr) (c1 : Nat) (b1 : Option Addr) (e1 : Nat), v11 = .pointer (some ⟨g, 0, none⟩) ∧ Hid (Its w0 (.box g (cc0 ⟨a1, c1, b1, e1, gt, H', 0, (0, 0), 0, hKb, kg, fun _ => .slice none 0 0, Mr.nw n es, Bk.new⟩ (.pointer none) (.pointer none) n m pause false) 121 :: .row ndE w0.heap.size (.slice a1 n c1) ns :: .row edE w0.heap.size (.slice b1 m e1) es :: .ints w0.heap.size (.slice (some ⟨kg, 0, none⟩) (m + 1) (m + 1)) (List.replicate (m + 1) 0) :: .tape w0.heap.size gt H' T2 :: l) wx))
  case first =>
    have SBx : Hid (∀ W, Its w0 (.box w.heap.size #[.slice a n c', .slice b m e'] 25 :: .tape w0.heap.size gt H' T2 :: l) W → W.cell? ⟨w.heap.size, 0, none⟩ = some (.slice a n c') ∧ W.cell? ⟨w.heap.size, 1, none⟩ = some (.slice b m e')) := hide (fun W hW => SB.out W _ hW)
    refine wp_region_held_drew (S := (fun W => W.cell? ⟨w.heap.size, 0, none⟩ = some (.slice a n c') ∧ W.cell? ⟨w.heap.size, 1, none⟩ = some (.slice b m e'))) (by kernel_rfl) (by first | exact SBx.out _ H2.out | exact SBx.out _ (H2.out.hp rfl rfl rfl rfl)) (fun hS => ?_)
    refine wpAnyH_take (i := 0) (v := .agg #[.slice a n c', .slice b m e']) rfl (by kernel_rfl) (by kernel_rfl) (by kernel_rfl) (fun _ _ _ h => h) (Or.inl ⟨by kernel_rfl, fun W' hW => by obtain ⟨s0, s1⟩ := hW; go_simp⟩) hS ?_
    refine wpAnyH_take (i := 2) (v := .int .i64 pause) rfl (by kernel_rfl) (by kernel_rfl) (by kernel_rfl) (fun _ _ _ h => h) (Or.inl ⟨by kernel_rfl, fun W' hW => by obtain ⟨s0, s1⟩ := hW; go_simp⟩) hS ?_
    refine wpAnyH_take (i := 3) (v := .pointer (some ⟨gt, 0, none⟩)) rfl (by kernel_rfl) (by kernel_rfl) (by kernel_rfl) (fun _ _ _ h => h) (Or.inl ⟨by kernel_rfl, fun W' hW => by obtain ⟨s0, s1⟩ := hW; go_simp⟩) hS ?_
    refine wpAnyH_take (i := 4) (v := .pointer (some ⟨w.heap.size, 1, none⟩)) rfl (by kernel_rfl) (by kernel_rfl) (by kernel_rfl) (fun _ _ _ h => h) (Or.inl ⟨by kernel_rfl, fun W' hW => by obtain ⟨s0, s1⟩ := hW; go_simp⟩) hS ?_
    refine wpAnyH_take (i := 5) (v := .slice b m e') rfl (by kernel_rfl) (by kernel_rfl) (by kernel_rfl) (fun _ _ _ h => h) (Or.inl ⟨by kernel_rfl, fun W' hW => by obtain ⟨s0, s1⟩ := hW; go_simp⟩) hS ?_
    refine wpAnyH_take (i := 6) (v := .int .i64 (m : Int)) rfl (by kernel_rfl) (by kernel_rfl) (by kernel_rfl) (fun _ _ _ h => h) (Or.inl ⟨by kernel_rfl, fun W' hW => by obtain ⟨s0, s1⟩ := hW; go_simp⟩) hS ?_
    refine wpAnyH_take (i := 7) (v := .int .i64 ((m : Int) + 1)) rfl (by kernel_rfl) (by kernel_rfl) (by kernel_rfl) (fun _ _ _ h => h) (Or.inl ⟨by kernel_rfl, fun W' hW => by obtain ⟨s0, s1⟩ := hW; go_simp; try exact j1k⟩) hS ?_
    refine wpAnyH_ready (rs := [1, 8]) (by kernel_rfl) (by simp) ?_
    refine AllReadyH.cons rfl (fun K hK => ?_) (AllReadyH.cons rfl (fun K hK => ?_) AllReadyH.nil)
    · go_simp
      go_at_call 45
      refine (K45.out _ (.fact True) (.box w.heap.size #[.slice a n c', .slice b m e'] 25) (.tape w0.heap.size gt H' T2) ?_).mono ?_
      · exact (H2.out.new (x := .fact True) trivial (fun k hk => hk.elim) (Below.refl _ _)).hp rfl rfl rfl rfl
      rintro e w3 ⟨a1, c1, b1, e1, rfl, q⟩
      have H3 := hide (show Its w0 (.row ndE w0.heap.size (.slice a1 n c1) ns :: .row edE w0.heap.size (.slice b1 m e1) es :: .box w.heap.size #[.slice a n c', .slice b m e'] 25 :: .tape w0.heap.size gt H' T2 :: l) w3 from ((q.pick 2 rfl).tail))
      clear q
      go_simp
      have hS3 := SBx.out _ H3.out.tail.tail
      refine hK.out _ _ hS3 (fun _ => ?_)
      clear hK K
      refine wpAnyH_ready (rs := [8]) (by kernel_rfl) (by simp) ?_
      refine AllReadyH.cons rfl (fun K hK => ?_) AllReadyH.nil
      have H4 := hide (H3.out.new (x := .ints w0.heap.size (.slice (some ⟨w3.heap.size, 0, none⟩) (m + 1) (m + 1)) (List.replicate (m + 1) 0)) ((HMI.out w3).mono H3.out.size) (fun k hk => by cases hk; exact Nat.le_refl _) (below_new w3 (.cells CI 3)))
      go_simp
      have hS4 := SBx.out _ H4.out.tail.tail.tail
      refine hK.out _ _ (by first | exact hS4 | exact SBx.out _ (H4.out.tail.tail.tail.hp rfl rfl rfl rfl)) (fun _ => ?_)
      clear hK K
      obtain ⟨kg, hkg⟩ : ∃ kg, w3.heap.size = kg := ⟨_, rfl⟩
      rw [hkg] at H4
      simp only [hkg]
      have H5 := hide (show Its w0 (.row ndE w0.heap.size (.slice a1 n c1) ns :: .row edE w0.heap.size (.slice b1 m e1) es :: .ints w0.heap.size (.slice (some ⟨kg, 0, none⟩) (m + 1) (m + 1)) (List.replicate (m + 1) 0) :: .tape w0.heap.size gt H' T2 :: l) _ from (((H4.out.pick 3 rfl).tail).pick 2 rfl).pick 2 rfl)
      have HB5 := hide (show Its w0 (.box w.heap.size #[.slice a n c', .slice b m e'] 25 :: _) _ from H4.out.pick 3 rfl)
      refine wpAnyH_ready (rs := [9]) (by kernel_rfl) (by simp) ?_
      refine AllReadyH.cons rfl (fun K hK => ?_) AllReadyH.nil
      go_simp
      refine hK.out _ _ (by first | exact ⟨(cells_at HB5.out.one 0).1, (cells_at HB5.out.one 1).1⟩) (fun _ => ?_)
      clear hK K
      refine wpAnyH_ready (rs := [10]) (by kernel_rfl) (by simp) ?_
      refine AllReadyH.cons rfl (fun K hK => ?_) AllReadyH.nil
      have H6 := hide (HB5.out.boxN (cc0 ⟨a1, c1, b1, e1, gt, H', 0, (0, 0), 0, hKb, kg, fun _ => .slice none 0 0, Mr.nw n es, Bk.new⟩ (.pointer none) (.pointer none) n m pause false) 121 rfl)
      have H7 := hide (H5.out.boxN (cc0 ⟨a1, c1, b1, e1, gt, H', 0, (0, 0), 0, hKb, kg, fun _ => .slice none 0 0, Mr.nw n es, Bk.new⟩ (.pointer none) (.pointer none) n m pause false) 121 rfl)
      go_simp
      refine hK.out _ _ (by first | exact (fun hW => ⟨(cells_at hW.two 0).1, (cells_at hW.two 1).1⟩) H6.out | exact (fun hW => ⟨(cells_at (Its.two hW) 0).1, (cells_at (Its.two hW) 1).1⟩) (H6.out.hp rfl rfl rfl rfl)) (fun _ => ?_)
      clear hK K
      refine wpAnyH_ready (rs := [11]) (by kernel_rfl) (by simp) ?_
      refine AllReadyH.cons rfl (fun K hK => ?_) AllReadyH.nil
      go_simp
      refine hK.out _ _ (by first | exact (fun hW => ⟨(cells_at (Its.two hW) 0).1, (cells_at (Its.two hW) 1).1⟩) H6.out | exact (fun hW => ⟨(cells_at (Its.two hW) 0).1, (cells_at (Its.two hW) 1).1⟩) (H6.out.hp rfl rfl rfl rfl)) (fun _ => ?_)
      clear hK K
      refine wpAnyH_done (by kernel_rfl) ?_ _
      go_wp2_with fail
      go_meet
      first
        | exact ⟨_, kg, a1, c1, b1, e1, rfl, H7⟩
        | (have ez : (w3.alloc (.cells CI 3)).heap.size = kg + 1 := by (simp [hkg])
           rw [ez] at H7
           exact ⟨_, kg, a1, c1, b1, e1, rfl, H7⟩)
    · have H4 := hide (H2.out.new (x := .ints w0.heap.size (.slice (some ⟨w2.heap.size, 0, none⟩) (m + 1) (m + 1)) (List.replicate (m + 1) 0)) ((HMI.out w2).mono H2.out.size) (fun k hk => by cases hk; exact Nat.le_refl _) (below_new w2 (.cells CI 3)))
      go_simp
      refine hK.out _ _ (by first | exact SBx.out _ H4.out.tail | exact SBx.out _ (H4.out.tail.hp rfl rfl rfl rfl)) (fun _ => ?_)
      clear hK K
      obtain ⟨kg, hkg⟩ : ∃ kg, w2.heap.size = kg := ⟨_, rfl⟩
      rw [hkg] at H4
      simp only [hkg]
      refine wpAnyH_ready (rs := [1]) (by kernel_rfl) (by simp) ?_
      refine AllReadyH.cons rfl (fun K hK => ?_) AllReadyH.nil
      go_simp
      go_at_call 45
      refine (K45.out _ (.ints w0.heap.size (.slice (some ⟨kg, 0, none⟩) (m + 1) (m + 1)) (List.replicate (m + 1) 0)) (.box w.heap.size #[.slice a n c', .slice b m e'] 25) (.tape w0.heap.size gt H' T2) ?_).mono ?_
      · first
          | exact H4.out
          | exact H4.out.hp rfl rfl rfl rfl
      rintro e w3 ⟨a1, c1, b1, e1, rfl, q⟩
      have H3 := hide q
      clear q
      go_simp
      have hS3 := SBx.out _ H3.out.tail.tail.tail
      refine hK.out _ _ hS3 (fun _ => ?_)
      clear hK K
      have H5 := hide (show Its w0 (.row ndE w0.heap.size (.slice a1 n c1) ns :: .row edE w0.heap.size (.slice b1 m e1) es :: .ints w0.heap.size (.slice (some ⟨kg, 0, none⟩) (m + 1) (m + 1)) (List.replicate (m + 1) 0) :: .tape w0.heap.size gt H' T2 :: l) _ from (H3.out.pick 3 rfl).tail)
      have HB5 := hide (show Its w0 (.box w.heap.size #[.slice a n c', .slice b m e'] 25 :: _) _ from H3.out.pick 3 rfl)
      refine wpAnyH_ready (rs := [9]) (by kernel_rfl) (by simp) ?_
      refine AllReadyH.cons rfl (fun K hK => ?_) AllReadyH.nil
      go_simp
      refine hK.out _ _ (by first | exact ⟨(cells_at HB5.out.one 0).1, (cells_at HB5.out.one 1).1⟩) (fun _ => ?_)
      clear hK K
      refine wpAnyH_ready (rs := [10]) (by kernel_rfl) (by simp) ?_
      refine AllReadyH.cons rfl (fun K hK => ?_) AllReadyH.nil
      have H6 := hide (HB5.out.boxN (cc0 ⟨a1, c1, b1, e1, gt, H', 0, (0, 0), 0, hKb, kg, fun _ => .slice none 0 0, Mr.nw n es, Bk.new⟩ (.pointer none) (.pointer none) n m pause false) 121 rfl)
      have H7 := hide (H5.out.boxN (cc0 ⟨a1, c1, b1, e1, gt, H', 0, (0, 0), 0, hKb, kg, fun _ => .slice none 0 0, Mr.nw n es, Bk.new⟩ (.pointer none) (.pointer none) n m pause false) 121 rfl)
      go_simp
      refine hK.out _ _ (by first | exact (fun hW => ⟨(cells_at hW.two 0).1, (cells_at hW.two 1).1⟩) H6.out | exact (fun hW => ⟨(cells_at (Its.two hW) 0).1, (cells_at (Its.two hW) 1).1⟩) (H6.out.hp rfl rfl rfl rfl)) (fun _ => ?_)
      clear hK K
      refine wpAnyH_ready (rs := [11]) (by kernel_rfl) (by simp) ?_
      refine AllReadyH.cons rfl (fun K hK => ?_) AllReadyH.nil
      go_simp
      refine hK.out _ _ (by first | exact (fun hW => ⟨(cells_at (Its.two hW) 0).1, (cells_at (Its.two hW) 1).1⟩) H6.out | exact (fun hW => ⟨(cells_at (Its.two hW) 0).1, (cells_at (Its.two hW) 1).1⟩) (H6.out.hp rfl rfl rfl rfl)) (fun _ => ?_)
      clear hK K
      refine wpAnyH_done (by kernel_rfl) ?_ _
      go_wp2_with fail
      go_meet
      first
        | exact ⟨_, kg, a1, c1, b1, e1, rfl, H7⟩
        | (have ez : (w3.alloc (.cells CI 3)).heap.size = kg + 1 := by (simp [hkg])
           rw [ez] at H7
           exact ⟨_, kg, a1, c1, b1, e1, rfl, H7⟩)
  case rest =>
    obtain ⟨g, kg, a1, c1, b1, e1, rfl, HC⟩ := hcut
    have KRx := hide (KR.out wc g _ _ _ (HFIN.out _ _ _ _ _ _ _ _ HC.out))
    cases hrp : rpl got (Mr.nw n es) Bk.new with
    | none =>
      have HEr := hide (HE2.out (by first | rfl | trivial) hrp)
      have KR2 : Hid (Calls Tryz.prog 46 #[.pointer (some ⟨g, 0, none⟩)] wc fun e w' => e = .returned (.int .i64 180) ∧ ∃ H', Its w0 (.tape w0.heap.size gt H' T2 :: l) w') := hide (KRx.out.mono (by
        rintro e w' ⟨P, q, (⟨_, z⟩ | ⟨rfl, z⟩)⟩
        · rw [hrp] at z; cases z
        · refine ⟨rfl, P.Ht, ?_⟩
          have hgq := (kt_f q.one).gq
          have q1 := q.kopen.1.pick 5 rfl
          rw [hgq] at q1
          exact Its.tails [_, _, _, _, _, _, _] (q1.perm (by exact (List.perm_middle (l₁ := [_, _, _, _, _, _, _])).symm))))
      clear KRx HFIN KR hrp
      go_wp2_with (go_at_call 46; refine KR2.out.mono ?_; rintro e w5 ⟨rfl, H9, q⟩; have H6 := hide q; clear q)
      exact HERR.out 180 T2 H9 _ (by decide) HEr.out H6.out
    | some p =>
      obtain ⟨S, K0⟩ := p
      have HEr := hide (HE3.out S K0 (by first | rfl | trivial) hrp)
      have KR2 : Hid (Calls Tryz.prog 46 #[.pointer (some ⟨g, 0, none⟩)] wc fun e w' => e = .returned (.int .i64 0) ∧ ∃ P, (P.S = S ∧ P.K = K0) ∧ Its w0 (.ctl w0.heap.size g ⟨ns, es, pause, gt⟩ n m P (ct1 m T2 S K0) :: l) w') := hide (KRx.out.mono (by
        rintro e w' ⟨P, q, (⟨rfl, z⟩ | ⟨_, z⟩)⟩
        · rw [hrp] at z
          cases z
          exact ⟨rfl, P, ⟨rfl, rfl⟩, q.kany⟩
        · rw [hrp] at z; cases z))
      clear KRx HFIN KR hrp
      go_wp2_with (go_at_call 46; refine KR2.out.mono ?_; rintro e w5 ⟨rfl, P9, q1, q2⟩; have H6 := hide q2; have H7 := hide q1; clear q1 q2)
      exact HOK.out g P9 T2 S K0 _ HEr.out H7.out H6.out
end
end Go.Proofs.YtocmngpoemfpkaaGreatDoor

namespace Go.Proofs.YtocmngpoemfpkaaGreatDoor
open Go.RowKit
set_option linter.unusedVariables false
set_option maxRecDepth 100000 in
set_option maxHeartbeats 2000000 in
theorem rname_any (s : ByteArray) (w : World) : Calls Tryz.prog 126 #[.string s] w fun e w' => e = .returned (.bool (nameB s)) ∧ w' = w := by
  by_cases h1 : s.size < 1
  · have e1 : nameB s = false := by unfold nameB; exact decide_eq_false (by omega)
    rw [e1]
    have h1' : (s.size : Int) < 1 := by omega
    go_enter Tryz.func126, Tryz.ntmps126
    go_wp2_with fail
    go_ret
    exact ⟨rfl, rfl⟩
  by_cases h2 : 8 < s.size
  · have e1 : nameB s = false := by unfold nameB; exact decide_eq_false (by omega)
    rw [e1]
    have h1' : ¬ (s.size : Int) < 1 := by omega
    have h2' : (8 : Int) < s.size := by omega
    go_enter Tryz.func126, Tryz.ntmps126
    go_wp2_with fail
    go_ret
    exact ⟨rfl, rfl⟩
  have h1' : ¬ (s.size : Int) < 1 := by omega
  have h2' : ¬ (8 : Int) < s.size := by omega
  have no : Hid (∀ i, i < s.size → chOk i (byteAt s i) = false → nameB s = false) := hide (fun i hi hc => by
    unfold nameB
    refine decide_eq_false (fun h => ?_)
    rw [h.2.2 i hi] at hc; cases hc)
  have yes : Hid ((∀ i, i < s.size → chOk i (byteAt s i) = true) → nameB s = true) := hide (fun h => by
    unfold nameB
    exact decide_eq_true ⟨by omega, by omega, h⟩)
  generalize nameB s = res at *
  have Hsz := hide (And.intro h1 h2)
  clear h1 h2
  go_enter Tryz.func126, Tryz.ntmps126
  go_wp2_with fail
  go_loopw [3] (fun v3 wr => ∃ pos : Nat, wr = w ∧ v3 = .int .i64 pos ∧ pos ≤ s.size ∧ Hid (∀ i, i < pos → chOk i (byteAt s i) = true)) (fun v3 _ => s.size - (intOf v3).toNat)
  case atStart => exact ⟨0, rfl, rfl, Nat.zero_le _, hide (fun i hi => by omega)⟩
  case round =>
    obtain ⟨pos, rfl, rfl, hp, hall⟩ := hrel
    by_cases hlt : pos < s.size
    · have j1 : (pos : Int) < (s.size : Int) := by omega
      have j0 : (0 : Int) ≤ (pos : Int) := by omega
      have hidx : ∀ W : World, (Instr.index 9 (.string s) (.int .i64 (pos : Int))).run Tryz.prog W = .ok (.int .u8 (byteAt s pos : Int)) W := fun W => by
        rw [run_index_string W 9 s .i64 (pos : Int) Tryz.underlying9]
        rw [dif_pos ⟨j0, j1⟩, byteAt_eq s pos hlt]
        rfl
      have step : Hid (chOk pos (byteAt s pos) = true → ∀ i, i < pos + 1 → chOk i (byteAt s i) = true) := hide (fun h i hi => by
        rcases Nat.lt_or_ge i pos with h' | h'
        · exact hall.out i h'
        · obtain rfl : i = pos := by omega
          exact h)
      have Hkk : Hid (chOk pos (byteAt s pos) = (decide (97 ≤ byteAt s pos ∧ byteAt s pos ≤ 122) || (decide (48 ≤ byteAt s pos ∧ byteAt s pos ≤ 57) && decide (pos ≠ 0)))) := hide rfl
      have no' : Hid (chOk pos (byteAt s pos) = false → res = false) := hide (no.out pos hlt)
      generalize byteAt s pos = r at *
      by_cases l1 : 97 ≤ r ∧ r ≤ 122
      · have Hst := hide (step.out (by rw [Hkk.out, decide_eq_true l1]; rfl))
        have l2' : (97 : Int) ≤ (r : Int) := by omega
        have l3' : (r : Int) ≤ 122 := by omega
        have d2' : (48 : Int) ≤ (r : Int) := by omega
        have d3' : ¬ (r : Int) ≤ 57 := by omega
        clear step Hkk l1
        go_wp2_with fail
        go_roundw
        case rel => exact ⟨pos + 1, trivial, by go_num, by omega, Hst⟩
        case measure => simp [intOf]; omega
      · have lf : ¬ ((97 : Int) ≤ (r : Int) ∧ (r : Int) ≤ 122) := by omega
        by_cases d1 : 48 ≤ r ∧ r ≤ 57
        · have l2' : ¬ (97 : Int) ≤ (r : Int) := by omega
          have d2' : (48 : Int) ≤ (r : Int) := by omega
          have d3' : (r : Int) ≤ 57 := by omega
          by_cases p0 : pos = 0
          · have c2 := no'.out (by rw [Hkk.out, decide_eq_false l1, decide_eq_true d1, decide_eq_false (by simpa using p0)]; rfl)
            subst c2
            subst p0
            have hidx0 : ∀ W : World, (Instr.index 9 (.string s) (.int .i64 0)).run Tryz.prog W = .ok (.int .u8 (r : Int)) W := hidx
            have j1 : (0 : Int) < (s.size : Int) := j1
            clear hidx j0
            clear l1 lf d1 step Hkk
            go_wp2_with fail
            go_ret
            exact ⟨rfl, rfl⟩
          · have Hst := hide (step.out (by rw [Hkk.out, decide_eq_false l1, decide_eq_true d1, decide_eq_true (by simpa using p0)]; rfl))
            have p0' : ¬ (pos : Int) = 0 := by omega
            clear step Hkk l1 lf d1
            go_wp2_with fail
            go_roundw
            case rel => exact ⟨pos + 1, trivial, by go_num, by omega, Hst⟩
            case measure => simp [intOf]; omega
        · have c2 := no'.out (by rw [Hkk.out, decide_eq_false l1, decide_eq_false d1]; rfl)
          subst c2
          have df : ¬ ((48 : Int) ≤ (r : Int) ∧ (r : Int) ≤ 57) := by omega
          clear step Hkk l1 d1
          by_cases l2 : (97 : Int) ≤ (r : Int)
          · have l3 : ¬ (r : Int) ≤ 122 := fun h => lf ⟨l2, h⟩
            have d2 : (48 : Int) ≤ (r : Int) := by omega
            have d3 : ¬ (r : Int) ≤ 57 := by omega
            clear lf df
            by_cases p0 : pos = 0
            · subst p0
              have hidx0 : ∀ W : World, (Instr.index 9 (.string s) (.int .i64 0)).run Tryz.prog W = .ok (.int .u8 (r : Int)) W := hidx
              have j1 : (0 : Int) < (s.size : Int) := j1
              clear hidx j0
              go_wp2_with fail
              go_ret
              exact ⟨rfl, rfl⟩
            · have p0' : ¬ (pos : Int) = 0 := by omega
              go_wp2_with fail
              go_ret
              exact ⟨rfl, rfl⟩
          · by_cases d2 : (48 : Int) ≤ (r : Int)
            · have d3 : ¬ (r : Int) ≤ 57 := fun h => df ⟨d2, h⟩
              clear lf df
              by_cases p0 : pos = 0
              · subst p0
                have hidx0 : ∀ W : World, (Instr.index 9 (.string s) (.int .i64 0)).run Tryz.prog W = .ok (.int .u8 (r : Int)) W := hidx
                have j1 : (0 : Int) < (s.size : Int) := j1
                clear hidx j0
                go_wp2_with fail
                go_ret
                exact ⟨rfl, rfl⟩
              · have p0' : ¬ (pos : Int) = 0 := by omega
                go_wp2_with fail
                go_ret
                exact ⟨rfl, rfl⟩
            · clear lf df
              by_cases p0 : pos = 0
              · subst p0
                have hidx0 : ∀ W : World, (Instr.index 9 (.string s) (.int .i64 0)).run Tryz.prog W = .ok (.int .u8 (r : Int)) W := hidx
                have j1 : (0 : Int) < (s.size : Int) := j1
                clear hidx j0
                go_wp2_with fail
                go_ret
                exact ⟨rfl, rfl⟩
              · have p0' : ¬ (pos : Int) = 0 := by omega
                go_wp2_with fail
                go_ret
                exact ⟨rfl, rfl⟩
    · obtain rfl : pos = s.size := by omega
      have j1 : ¬ (s.size : Int) < (s.size : Int) := by omega
      have c2 := yes.out hall.out
      subst c2
      go_wp2_with fail
      go_ret
      exact ⟨rfl, rfl⟩
def firstFrom : Nat → List Nd → ByteArray → Option Int
  | _, [], _ => none
  | i, n :: l, s => if n.name = s then some (i : Int) else firstFrom (i + 1) l s
def firstAt (ns : List Nd) (s : ByteArray) : Option Int := firstFrom 0 ns s
theorem firstFrom_drop (s : ByteArray) (ns : List Nd) : ∀ k, k ≤ ns.length → (∀ i p, i < k → ns[i]? = some p → p.name ≠ s) → firstFrom 0 ns s = firstFrom k (ns.drop k) s := by
  intro k
  induction k with
  | zero => intro _ _; rfl
  | succ k ih =>
    intro hk h
    rw [ih (by omega) (fun i p hi => h i p (by omega)), ← List.getElem_cons_drop (show k < ns.length by omega)]
    have := h k ns[k] (by omega) (List.getElem?_eq_getElem (by omega))
    rw [firstFrom, if_neg this]
set_option maxRecDepth 100000 in
set_option maxHeartbeats 2000000 in
theorem rfind_any (a : Option Addr) (c : Nat) (vE : Value) (ns : List Nd) (s : ByteArray) (w : World) (hv : ndE.Rd w (.slice a ns.length c) ns) (hl : ns.length ≤ 100000) (hE : ∃ aE nE cE, vE = .slice aE nE cE) :
    Calls Tryz.prog 127 #[.agg #[.slice a ns.length c, vE], .string s] w fun e w' => e = .returned (.int .i64 ((firstAt ns s).getD (-1))) ∧ Below w.heap.size w w' := by
  obtain ⟨n, hn⟩ : ∃ n, ns.length = n := ⟨_, rfl⟩
  obtain ⟨aE, nE, cE, rfl⟩ := hE
  rw [hn] at hv hl ⊢
  obtain ⟨W0, hW0⟩ : ∃ W0, w.alloc (.cells #[.slice a n c, .slice aE nE cE] 25) = W0 := ⟨_, rfl⟩
  have bA : Below w.heap.size w W0 := by rw [← hW0]; exact (Below.refl _ _).alloc (Nat.le_refl _) _
  have hbox : W0.heap[w.heap.size]? = some (.cells #[.slice a n c, .slice aE nE cE] 25) := by rw [← hW0]; exact heap_new _ _
  have d0 := (cells_at hbox 0).1
  simp at d0
  have HA := hide bA
  have Hv := hide (hv.keep bA)
  have Hn := hide hn
  have HW0 := hide hW0
  have i0 : (n : Int) ≤ 100000 := by omega
  have i1 : (0 : Int) ≤ (n : Int) := by omega
  obtain ⟨res, hres⟩ : ∃ res, (firstAt ns s).getD (-1) = res := ⟨_, rfl⟩
  rw [hres]
  have Hres := hide hres
  clear hn hv hl hbox bA hW0 hres
  go_enter Tryz.func127, Tryz.ntmps127
  go_wp2_with fail
  rw [HW0.out]
  clear HW0
  go_loopw [9] (fun v9 wr => ∃ k : Nat, k ≤ n ∧ v9 = .int .i64 k ∧ wr = W0 ∧ Hid (∀ i p, i < k → ns[i]? = some p → p.name ≠ s)) (fun v9 _ => n - (intOf v9).toNat)
  case atStart => exact ⟨0, by omega, rfl, rfl, hide (fun i p hi => by omega)⟩
  case round =>
    obtain ⟨k, hk, rfl, rfl, HX⟩ := hrel
    by_cases hlt : k < n
    · obtain ⟨p, hp⟩ : ∃ p, ns[k]? = some p := ⟨_, List.getElem?_eq_getElem (by rw [Hn.out]; exact hlt)⟩
      obtain ⟨b, off, rfl, c0, c1, c2⟩ := nd_at Hv.out k p hp
      have j0 : (0 : Int) ≤ (k : Int) := by omega
      have j1 : (k : Int) < (n : Int) := by omega
      have Hp := hide hp
      have ee := eq_bytes p.name s
      clear hp
      by_cases he : p.name = s
      · rw [decide_eq_true he] at ee
        have hr : res = (k : Int) := by
          rw [← Hres.out]
          unfold firstAt
          rw [firstFrom_drop s ns k (by rw [Hn.out]; omega) HX.out]
          have hk' : k < ns.length := by rw [Hn.out]; exact hlt
          have := Hp.out
          rw [List.getElem?_eq_getElem hk'] at this
          cases this
          rw [← List.getElem_cons_drop hk', firstFrom, if_pos he]
          rfl
        subst hr
        clear he
        go_wp2_with fail
        go_ret
        exact ⟨rfl, HA.out⟩
      · rw [decide_eq_false he] at ee
        have HX1 : Hid (∀ i p, i < k + 1 → ns[i]? = some p → p.name ≠ s) := hide (fun i q hi hq => by
          rcases Nat.lt_or_ge i k with h' | h'
          · exact HX.out i q h' hq
          · obtain rfl : i = k := by omega
            rw [Hp.out] at hq
            cases hq
            exact he)
        clear he
        go_wp2_with fail
        go_roundw
        case rel => exact ⟨k + 1, by omega, by go_num, trivial, HX1⟩
        case measure => simp [intOf]; omega
    · obtain rfl : k = n := by omega
      have j1 : ¬ (k : Int) < (k : Int) := by omega
      have hr : res = -1 := by
        rw [← Hres.out]
        unfold firstAt
        rw [firstFrom_drop s ns k (by rw [Hn.out]; omega) HX.out, List.drop_of_length_le (by rw [Hn.out]; omega)]
        rfl
      subst hr
      go_wp2_with fail
      go_ret
      exact ⟨rfl, HA.out⟩
end Go.Proofs.YtocmngpoemfpkaaGreatDoor
