/- The document's Set. -/
import Derived.Test.YthcdfclhenmleaaDpb
namespace Go.Proofs.Ythcdfclhenmleaa
open Go.RowKit
set_option linter.unusedVariables false
/-- a plant of the document's that is handed back, with a telegram and a code -/
def RS (w0 : World) (l : List It) (a b : Option Addr) (c e n m k : Nat) (P : (Tl × Int) × Rp) (r : Ending) (w' : World) : Prop := ∃ V : Vp, r = .returned (.tuple #[.agg #[.slice a n c, .slice b m e, .slice V.aS V.nS V.cS, .slice V.aD V.nD V.cD, .slice V.aL V.nL V.cL, .int .i64 P.2.mv], tv P.1.1, .int .i64 P.1.2]) ∧ Its w0 (.dm w0.heap.size V P.2 k :: l) w'
theorem RS.mk {w0 : World} {l : List It} {a b : Option Addr} {c e n m k : Nat} {P : (Tl × Int) × Rp} {w' : World} (V : Vp) {x : Int} (t : Tl) (R : Rp) {v : Int} (hP : P = ((t, x), R)) (hv : R.mv = v) (h : Its w0 (.dm w0.heap.size V R k :: l) w') : RS w0 l a b c e n m k P (.returned (.tuple #[.agg #[.slice a n c, .slice b m e, .slice V.aS V.nS V.cS, .slice V.aD V.nD V.cD, .slice V.aL V.nL V.cL, .int .i64 v], .agg #[.int .u8 t.k, .int .u16 t.d, .int .u16 t.s, .int .u16 t.a, .int .u16 t.b], .int .i64 x])) w' := by subst hP; subst hv; exact ⟨V, rfl, h⟩
theorem pick_perm {α : Type} (l : List α) (i : Nat) (x : α) (h : l[i]? = some x) : l.Perm (x :: l.eraseIdx i) := by
  induction l generalizing i with
  | nil => simp at h
  | cons y t ih =>
    cases i with
    | zero =>
      simp at h
      subst h
      exact .refl _
    | succ i => exact (List.Perm.cons y (ih i (by simpa using h))).trans (.swap x y _)
/-- one of the things to the front -/
theorem Its.pick {w0 w : World} {l : List It} {x : It} (h : Its w0 l w) (i : Nat) (hx : l[i]? = some x) : Its w0 (x :: l.eraseIdx i) w := h.perm (pick_perm l i x hx)
/-- what is left of the first ones -/
def kpF (l : List Int) (d : Int) (j : Nat) : List Int := (l.take j).filter (fun x => decide (x ≠ d))
theorem kpF_succ {l : List Int} {d : Int} {j : Nat} {x : Int} (h : l[j]? = some x) : kpF l d (j + 1) = kpF l d j ++ (if x = d then [] else [x]) := by
  unfold kpF
  rw [List.take_add_one, h, List.filter_append]
  congr 1
  by_cases e : x = d
  · rw [if_pos e]; simp [e]
  · rw [if_neg e]; simp [e]
theorem kpF_len (l : List Int) (d : Int) (j : Nat) : (kpF l d j).length ≤ l.length := by
  unfold kpF
  refine Nat.le_trans (List.length_filter_le _ _) ?_
  simp; omega
theorem kpF_end (l : List Int) (d : Int) : kpF l d l.length = l.filter (fun x => decide (x ≠ d)) := by unfold kpF; rw [List.take_length]
section
variable {w0 w : World} {l : List It} {k : Nat} {V : Vp} {R : Rp} {a b : Option Addr} {c e n m : Nat}
set_option maxRecDepth 100000 in
set_option maxHeartbeats 4000000 in
theorem rsetS (h : Its w0 (.dm w0.heap.size V R k :: l) w) (hk : k + 1 ≤ 1000) (hm : m ≤ 1000) (d : Int) (wk : Bool) : Calls Try.prog 20 #[.agg #[.slice a n c, .slice b m e, .slice V.aS V.nS V.cS, .slice V.aD V.nD V.cD, .slice V.aL V.nL V.cL, .int .i64 R.mv], .int .i64 d, .bool wk] w fun r w' => RS w0 l a b c e n m (k + 1) (R.set m d wk) r w' := by
  have I1 : Hid (Its w0 (.box (w.heap.size + 1 + 1) #[.int .u8 0, .int .u16 0, .int .u16 0, .int .u16 0, .int .u16 0] 45 :: .box (w.heap.size + 1) #[.slice none 0 0, .slice none 0 0, .slice none 0 0, .slice none 0 0, .slice none 0 0, .int .i64 0] 38 :: .box w.heap.size #[.slice a n c, .slice b m e, .slice V.aS V.nS V.cS, .slice V.aD V.nD V.cD, .slice V.aL V.nL V.cL, .int .i64 R.mv] 38 :: .dm w0.heap.size V R k :: l) (((w.alloc (.cells #[.slice a n c, .slice b m e, .slice V.aS V.nS V.cS, .slice V.aD V.nD V.cD, .slice V.aL V.nL V.cL, .int .i64 R.mv] 38)).alloc (.cells #[.slice none 0 0, .slice none 0 0, .slice none 0 0, .slice none 0 0, .slice none 0 0, .int .i64 0] 38)).alloc (.cells #[.int .u8 0, .int .u16 0, .int .u16 0, .int .u16 0, .int .u16 0] 45))) := hide ((h.two6 (a := a) (b := b) (c := c) (e := e) (n := n) (m := m)).boxN #[.int .u8 0, .int .u16 0, .int .u16 0, .int .u16 0, .int .u16 0] 45 (n := w.heap.size + 1 + 1) (by show ((w.heap.push _).push _).size = _; simp))
  have HF := hide (dm_f h.one)
  have HS : Hid (∀ W t u v, Its w0 (.box t u v :: .box (w.heap.size + 1) #[.slice a n c, .slice b m e, .slice V.aS V.nS V.cS, .slice V.aD V.nD V.cD, .slice V.aL V.nL V.cL, .int .i64 R.mv] 38 :: .box w.heap.size #[.slice a n c, .slice b m e, .slice V.aS V.nS V.cS, .slice V.aD V.nD V.cD, .slice V.aL V.nL V.cL, .int .i64 R.mv] 38 :: .dm w0.heap.size V R k :: l) W → Its w0 (.dm w0.heap.size V R (k + 1) :: l) W) := hide (fun W t u v hW => hW.tail.tail.tail.dmono (by omega) hk)
  have HDm : Hid (∀ W (al : Option Addr) (nl cl : Nat) (L : List Int), L.length = nl → nl ≤ V.nD + 1 → Its w0 (.ints w0.heap.size (.slice al nl cl) L :: .box (w.heap.size + 1 + 1) #[.int .u8 0, .int .u16 0, .int .u16 0, .int .u16 0, .int .u16 0] 45 :: .box (w.heap.size + 1) #[.slice none 0 0, .slice none 0 0, .slice none 0 0, .slice none 0 0, .slice none 0 0, .int .i64 0] 38 :: .box w.heap.size #[.slice a n c, .slice b m e, .slice V.aS V.nS V.cS, .slice V.aD V.nD V.cD, .slice V.aL V.nL V.cL, .int .i64 R.mv] 38 :: .dm w0.heap.size V R k :: l) W → Its w0 (.box (w.heap.size + 1 + 1) #[.int .u8 0, .int .u16 0, .int .u16 0, .int .u16 0, .int .u16 0] 45 :: .box (w.heap.size + 1) #[.slice none 0 0, .slice none 0 0, .slice none 0 0, .slice none 0 0, .slice none 0 0, .int .i64 0] 38 :: .box w.heap.size #[.slice a n c, .slice b m e, .slice V.aS V.nS V.cS, .slice al nl cl, .slice V.aL V.nL V.cL, .int .i64 R.mv] 38 :: .dm w0.heap.size { V with aD := al, nD := nl, cD := cl } { R with bk := L } (k + 1) :: l) (W.setCell ⟨w.heap.size, 3, none⟩ (.slice al nl cl))) := hide (fun W al nl cl L hl hl2 hW => by
    have q1 := hW.rot4.put1 3 (.slice al nl cl)
    have q2 : Its w0 (.dm w0.heap.size V R k :: .box w.heap.size #[.slice a n c, .slice b m e, .slice V.aS V.nS V.cS, .slice al nl cl, .slice V.aL V.nL V.cL, .int .i64 R.mv] 38 :: .ints w0.heap.size (.slice al nl cl) L :: .box (w.heap.size + 1 + 1) #[.int .u8 0, .int .u16 0, .int .u16 0, .int .u16 0, .int .u16 0] 45 :: .box (w.heap.size + 1) #[.slice none 0 0, .slice none 0 0, .slice none 0 0, .slice none 0 0, .slice none 0 0, .int .i64 0] 38 :: l) (W.setCell ⟨w.heap.size, 3, none⟩ (.slice al nl cl)) := q1.fifth
    have q3 : Its w0 (.row spE w0.heap.size (.slice V.aS V.nS V.cS) R.sp :: .ints w0.heap.size (.slice V.aD V.nD V.cD) R.bk :: .row lsE w0.heap.size (.slice V.aL V.nL V.cL) R.la :: .box w.heap.size #[.slice a n c, .slice b m e, .slice V.aS V.nS V.cS, .slice al nl cl, .slice V.aL V.nL V.cL, .int .i64 R.mv] 38 :: .ints w0.heap.size (.slice al nl cl) L :: .box (w.heap.size + 1 + 1) #[.int .u8 0, .int .u16 0, .int .u16 0, .int .u16 0, .int .u16 0] 45 :: .box (w.heap.size + 1) #[.slice none 0 0, .slice none 0 0, .slice none 0 0, .slice none 0 0, .slice none 0 0, .int .i64 0] 38 :: l) (W.setCell ⟨w.heap.size, 3, none⟩ (.slice al nl cl)) := q2.dopen.1
    have q4 : Its w0 (.row spE w0.heap.size (.slice V.aS V.nS V.cS) R.sp :: .ints w0.heap.size (.slice al nl cl) L :: .row lsE w0.heap.size (.slice V.aL V.nL V.cL) R.la :: .box w.heap.size #[.slice a n c, .slice b m e, .slice V.aS V.nS V.cS, .slice al nl cl, .slice V.aL V.nL V.cL, .int .i64 R.mv] 38 :: .box (w.heap.size + 1 + 1) #[.int .u8 0, .int .u16 0, .int .u16 0, .int .u16 0, .int .u16 0] 45 :: .box (w.heap.size + 1) #[.slice none 0 0, .slice none 0 0, .slice none 0 0, .slice none 0 0, .slice none 0 0, .int .i64 0] 38 :: l) (W.setCell ⟨w.heap.size, 3, none⟩ (.slice al nl cl)) := ((q3.pick 1 rfl).tail.pick 3 rfl).pick 1 rfl
    have q5 := Its.dshut (V := { V with aD := al, nD := nl, cD := cl }) (R := { R with bk := L }) (k := k + 1) q4 ⟨HF.out.lS, hl, HF.out.lL, by have := HF.out.bS; simp only; omega, by have := HF.out.bD; simp only; omega, by have := HF.out.bL; simp only; omega, hk, HF.out.mv.1, by have := HF.out.mv.2; simp only; omega⟩
    exact ((q5.pick 1 rfl).pick 3 rfl).pick 3 rfl)
  obtain ⟨P, hP⟩ : ∃ P, R.set m d wk = P := ⟨_, rfl⟩
  rw [hP]
  unfold Rp.set at hP
  have HPP := hide hP
  have i0 : (V.nD : Int) ≤ 1000 := by have := HF.out.bD; have := HF.out.bk; omega
  clear h hP
  obtain ⟨mv, hmv⟩ : ∃ mv, R.mv = mv := ⟨_, rfl⟩
  have Hmv := hide hmv
  rw [hmv] at I1 HS HDm ⊢
  clear hmv
  have HRd : Hid (∀ W, (It.dm w0.heap.size V R k).P W → intE.Rd W (.slice V.aD V.nD V.cD) R.bk) := hide (fun W hW => (dm_d hW).rd)
  have Hln : Hid (∀ j (x : Int), (kpF R.bk d j).length + [x].length ≤ 1000000) := hide (fun j x => by have := kpF_len R.bk d j; have := HF.out.lD; simp only [List.length_singleton]; omega)
  have Hll : Hid (∀ j, (kpF R.bk d j).length ≤ V.nD) := hide (fun j => by have := kpF_len R.bk d j; have := HF.out.lD; omega)
  have HlD := hide HF.out.lD
  have ru : Hid ((1 ≤ d ∧ d ≤ (m : Int)) → IntKind.u16.wrap d = d) := hide (fun h => by simp [IntKind.wrap, IntKind.bits, IntKind.signed]; omega)
  obtain ⟨aS, nS, cS, aD, nD, cD, aL, nL, cL⟩ := V
  dsimp only at *
  go_enter Try.func20, Try.ntmps20
  go_upto_region 1 with fail
  generalize ((w.alloc (.cells #[.slice a n c, .slice b m e, .slice aS nS cS, .slice aD nD cD, .slice aL nL cL, .int .i64 mv] 38)).alloc (.cells #[.slice none 0 0, .slice none 0 0, .slice none 0 0, .slice none 0 0, .slice none 0 0, .int .i64 0] 38)).alloc (.cells #[.int .u8 0, .int .u16 0, .int .u16 0, .int .u16 0, .int .u16 0] 45) = W1 at *
  obtain ⟨t0, t1, t2, t3, t4, tf⟩ := Its.cells5 I1.out; obtain ⟨e0, e1, e2, e3, e4, e5, ef⟩ := Its.cells6 I1.out.tail; obtain ⟨c0, c1, c2, c3, c4, c5, cf⟩ := Its.cells6 I1.out.tail.tail
  by_cases h0 : d < 1
  case pos =>
    have HI6 := hide (Its.out6 I1.out.swap (.slice a n c) (.slice b m e) (.slice aS nS cS) (.slice aD nD cD) (.slice aL nL cL) (.int .i64 mv))
    have HIe := hide (Its.out5 HI6.out.swap (.int .u8 0) (.int .u16 0) (.int .u16 0) (.int .u16 0) (.int .u16 0))
    go_wp2_with fail
    obtain ⟨y0, y1, y2, y3, y4, _⟩ := Its.cells5 HIe.out
    obtain ⟨z0, z1, z2, z3, z4, z5, _⟩ := Its.cells6 HIe.out.tail
    exact bodyPost_ret (v := .tuple #[.agg #[.slice a n c, .slice b m e, .slice aS nS cS, .slice aD nD cD, .slice aL nL cL, .int .i64 mv], .agg #[.int .u8 0, .int .u16 0, .int .u16 0, .int .u16 0, .int .u16 0], .int .i64 1]) (by simp [results, Try.results20, go_sem, y0, y1, y2, y3, y4, z0, z1, z2, z3, z4, z5]) rfl (RS.mk ⟨aS, nS, cS, aD, nD, cD, aL, nL, cL⟩ tz R (by rw [← HPP.out]; simp [h0]) Hmv.out (HS.out _ _ _ _ HIe.out))
  case neg =>
  by_cases h1 : (m : Int) < d
  case pos =>
    have HI6 := hide (Its.out6 I1.out.swap (.slice a n c) (.slice b m e) (.slice aS nS cS) (.slice aD nD cD) (.slice aL nL cL) (.int .i64 mv))
    have HIe := hide (Its.out5 HI6.out.swap (.int .u8 0) (.int .u16 0) (.int .u16 0) (.int .u16 0) (.int .u16 0))
    go_wp2_with fail
    obtain ⟨y0, y1, y2, y3, y4, _⟩ := Its.cells5 HIe.out
    obtain ⟨z0, z1, z2, z3, z4, z5, _⟩ := Its.cells6 HIe.out.tail
    exact bodyPost_ret (v := .tuple #[.agg #[.slice a n c, .slice b m e, .slice aS nS cS, .slice aD nD cD, .slice aL nL cL, .int .i64 mv], .agg #[.int .u8 0, .int .u16 0, .int .u16 0, .int .u16 0, .int .u16 0], .int .i64 1]) (by simp [results, Try.results20, go_sem, y0, y1, y2, y3, y4, z0, z1, z2, z3, z4, z5]) rfl (RS.mk ⟨aS, nS, cS, aD, nD, cD, aL, nL, cL⟩ tz R (by rw [← HPP.out]; simp [h1]) Hmv.out (HS.out _ _ _ _ HIe.out))
  case neg =>
  have hP : ((⟨if wk = true then 5 else 4, d, 0, 0, 0⟩, 0), { R with bk := R.bk.filter (fun x => decide (x ≠ d)) ++ (if wk = true then [] else [d]) }) = P := by
    rw [← HPP.out]
    rw [if_neg (show ¬ ((decide (d < 1) || decide ((m : Int) < d)) = true) by rw [decide_eq_false h0, decide_eq_false h1]; simp)]
  have HPQ := hide hP
  clear hP HPP
  have HR1 := hide (ru.out ⟨by omega, by omega⟩)
  clear ru HS
  go_upto_region 4 with fail
  have J0 := hide (I1.out.empty intE)
  clear t0 t1 t2 t3 t4 tf e0 e1 e2 e3 e4 e5 ef c0 c1 c2 c3 c4 c5 cf
  clear I1
  obtain ⟨t0, t1, t2, t3, t4, tf⟩ := Its.cells5 J0.out.tail; obtain ⟨c0, c1, c2, c3, c4, c5, cf⟩ := Its.cells6 J0.out.tail.tail.tail
  go_wp2_with fail
  go_loopw [9, 27] (fun v9 v27 wr => ∃ (j : Nat) (al : Option Addr) (nl cl : Nat), v9 = .slice al nl cl ∧ v27 = .int .i64 (j : Int) ∧ j ≤ nD ∧ Hid ((kpF R.bk d j).length = nl) ∧ Hid (Its w0 (.ints w0.heap.size (.slice al nl cl) (kpF R.bk d j) :: .box (w.heap.size + 1 + 1) #[.int .u8 0, .int .u16 0, .int .u16 0, .int .u16 0, .int .u16 0] 45 :: .box (w.heap.size + 1) #[.slice none 0 0, .slice none 0 0, .slice none 0 0, .slice none 0 0, .slice none 0 0, .int .i64 0] 38 :: .box w.heap.size #[.slice a n c, .slice b m e, .slice aS nS cS, .slice aD nD cD, .slice aL nL cL, .int .i64 mv] 38 :: .dm w0.heap.size ⟨aS, nS, cS, aD, nD, cD, aL, nL, cL⟩ R k :: l) wr)) (fun _ v27 _ => nD - (intOf v27).toNat)
  case atStart => exact ⟨0, none, 0, 0, rfl, rfl, by omega, hide rfl, J0⟩
  case round =>
    clear J0 t0 t1 t2 t3 t4 tf c0 c1 c2 c3 c4 c5 cf
    obtain ⟨j, al, nl, cl, rfl, rfl, hj, HN, HR⟩ := hrel
    obtain ⟨c0, c1, c2, c3, c4, c5, cf⟩ := Its.cells6 HR.out.tail.tail.tail
    by_cases hlt : j < nD
    case pos =>
      have j0 : (0 : Int) ≤ (j : Int) := by omega
      have j1 : (j : Int) < (nD : Int) := by omega
      obtain ⟨p, hp⟩ : ∃ p, R.bk[j]? = some p := ⟨_, List.getElem?_eq_getElem (by rw [HlD.out]; exact hlt)⟩
      obtain ⟨bb, off, rfl, d0⟩ := int_at (HRd.out _ (HR.out.pick 4 rfl).one) j p hp
      have HT := hide (kpF_succ (d := d) hp)
      clear hp
      by_cases he : p = d
      · have he' : (p == d) = true := by rw [he]; simp
        rw [if_pos he, List.append_nil] at HT
        rw [he] at d0
        clear he
        go_wp2_with fail
        go_roundw
        case rel => exact ⟨j + 1, al, nl, cl, rfl, by go_num, by omega, hide (by rw [HT.out]; exact HN.out), hide (by rw [HT.out]; exact HR.out)⟩
        case measure => simp [intOf]; omega
      · have he' : (p == d) = false := beq_eq_false_iff_ne.2 he
        rw [if_neg he] at HT
        have HX := hide (HR.out.alloc (.cells #[.int .i64 p] 3))
        have HSn : Hid (intE.Rd (wr.alloc (.cells #[.int .i64 p] 3)) (.slice (some ⟨wr.heap.size, 0, none⟩) 1 1) [p]) := hide (int_new _ _ _ rfl)
        have HLn := hide (Hln.out j p)
        generalize hdl : kpF R.bk d j = dl at *
        clear hdl
        go_wp2_with (at_builtin; refine intE.wpB (B := w0.heap.size) HX.out.size (by rfl) _ _ rfl _ _ rfl rfl dl [p] HX.out.one HSn.out HLn.out ?_; intro v4 W4 ho hg hs; obtain ⟨a4, p4, hf4⟩ := ho.rd.form; obtain ⟨n4, hn4⟩ : ∃ n4, (dl ++ [p]).length = n4 := ⟨_, rfl⟩; rw [hn4] at hf4; subst hf4; have HI4 := hide (HX.out.grow ho hg hs); have Hn4 := hide hn4; clear ho hg hs hn4)
        go_roundw
        case rel => exact ⟨j + 1, a4, n4, p4, rfl, by go_num, by omega, hide (by rw [HT.out]; exact Hn4.out), hide (by rw [HT.out]; exact HI4.out)⟩
        case measure => simp [intOf]; omega
    case neg =>
      have j1 : ¬ (j : Int) < (nD : Int) := by omega
      have HE : Hid (kpF R.bk d j = R.bk.filter (fun x => decide (x ≠ d))) := hide (by rw [← kpF_end, HlD.out]; congr 1; omega)
      have HLn := hide (Hln.out j d)
      have Hl9 := hide (Hll.out j)
      generalize hdl : kpF R.bk d j = dl at *
      clear hdl
      cases wk with
      | true =>
        have I6 := hide (HDm.out _ al nl cl dl HN.out (by have := Hl9.out; have := HN.out; omega) HR.out)
        go_upto_region 15 with fail
        generalize wr.setCell ⟨w.heap.size, 3, none⟩ (.slice al nl cl) = W6 at *
        clear c0 c1 c2 c3 c4 c5 cf HR
        obtain ⟨t0, t1, t2, t3, t4, tf⟩ := Its.cells5 I6.out; obtain ⟨e0, e1, e2, e3, e4, e5, ef⟩ := Its.cells6 I6.out.tail; obtain ⟨c0, c1, c2, c3, c4, c5, cf⟩ := Its.cells6 I6.out.tail.tail
        have r1 := HR1.out
        have HI6 := hide (Its.out6 I6.out.swap (.slice a n c) (.slice b m e) (.slice aS nS cS) (.slice al nl cl) (.slice aL nL cL) (.int .i64 mv))
        have HIe := hide (Its.out5 HI6.out.swap (.int .u8 5) (.int .u16 d) (.int .u16 0) (.int .u16 0) (.int .u16 0))
        go_wp2_with fail
        obtain ⟨y0, y1, y2, y3, y4, _⟩ := Its.cells5 HIe.out
        obtain ⟨z0, z1, z2, z3, z4, z5, _⟩ := Its.cells6 HIe.out.tail
        exact bodyPost_ret (v := .tuple #[.agg #[.slice a n c, .slice b m e, .slice aS nS cS, .slice al nl cl, .slice aL nL cL, .int .i64 mv], .agg #[.int .u8 5, .int .u16 d, .int .u16 0, .int .u16 0, .int .u16 0], .int .i64 0]) (by simp [results, Try.results20, go_sem, y0, y1, y2, y3, y4, z0, z1, z2, z3, z4, z5]) rfl (RS.mk ⟨aS, nS, cS, al, nl, cl, aL, nL, cL⟩ ⟨5, d, 0, 0, 0⟩ ⟨R.sp, dl, R.la, mv⟩ (by rw [← HPQ.out, HE.out, Hmv.out]; simp) rfl HIe.out.tail.tail.tail)
      | false =>
        have HX := hide (HR.out.alloc (.cells #[.int .i64 d] 3))
        have HSn : Hid (intE.Rd (wr.alloc (.cells #[.int .i64 d] 3)) (.slice (some ⟨wr.heap.size, 0, none⟩) 1 1) [d]) := hide (int_new _ _ _ rfl)
        go_upto_region 14 with (at_builtin; refine intE.wpB (B := w0.heap.size) HX.out.size (by rfl) _ _ rfl _ _ rfl rfl dl [d] HX.out.one HSn.out HLn.out ?_; intro v4 W4 ho hg hs; obtain ⟨a4, p4, hf4⟩ := ho.rd.form; obtain ⟨n4, hn4⟩ : ∃ n4, (dl ++ [d]).length = n4 := ⟨_, rfl⟩; rw [hn4] at hf4; subst hf4; have HI4 := hide (HX.out.grow ho hg hs); have Hn4 := hide hn4; clear ho hg hs hn4)
        clear c0 c1 c2 c3 c4 c5 cf
        obtain ⟨c0, c1, c2, c3, c4, c5, cf⟩ := Its.cells6 HI4.out.tail.tail.tail
        have I6 := hide (HDm.out _ a4 n4 p4 (dl ++ [d]) Hn4.out (by have := Hl9.out; have := Hn4.out; simp only [List.length_append, List.length_singleton] at this; omega) HI4.out)
        go_upto_region 15 with fail
        generalize W4.setCell ⟨w.heap.size, 3, none⟩ (.slice a4 n4 p4) = W6 at *
        clear c0 c1 c2 c3 c4 c5 cf HI4 HX HR
        obtain ⟨t0, t1, t2, t3, t4, tf⟩ := Its.cells5 I6.out; obtain ⟨e0, e1, e2, e3, e4, e5, ef⟩ := Its.cells6 I6.out.tail; obtain ⟨c0, c1, c2, c3, c4, c5, cf⟩ := Its.cells6 I6.out.tail.tail
        have r1 := HR1.out
        have HI6 := hide (Its.out6 I6.out.swap (.slice a n c) (.slice b m e) (.slice aS nS cS) (.slice a4 n4 p4) (.slice aL nL cL) (.int .i64 mv))
        have HIe := hide (Its.out5 HI6.out.swap (.int .u8 4) (.int .u16 d) (.int .u16 0) (.int .u16 0) (.int .u16 0))
        go_wp2_with fail
        obtain ⟨y0, y1, y2, y3, y4, _⟩ := Its.cells5 HIe.out
        obtain ⟨z0, z1, z2, z3, z4, z5, _⟩ := Its.cells6 HIe.out.tail
        exact bodyPost_ret (v := .tuple #[.agg #[.slice a n c, .slice b m e, .slice aS nS cS, .slice a4 n4 p4, .slice aL nL cL, .int .i64 mv], .agg #[.int .u8 4, .int .u16 d, .int .u16 0, .int .u16 0, .int .u16 0], .int .i64 0]) (by simp [results, Try.results20, go_sem, y0, y1, y2, y3, y4, z0, z1, z2, z3, z4, z5]) rfl (RS.mk ⟨aS, nS, cS, a4, n4, p4, aL, nL, cL⟩ ⟨4, d, 0, 0, 0⟩ ⟨R.sp, dl ++ [d], R.la, mv⟩ (by rw [← HPQ.out, HE.out, Hmv.out]; simp) rfl HIe.out.tail.tail.tail)
end
end Go.Proofs.Ythcdfclhenmleaa

