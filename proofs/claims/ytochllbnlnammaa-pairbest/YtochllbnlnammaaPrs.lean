/- The document's Cost. -/
import Derived.Test.YtochllbnlnammaaPrr
namespace Go.Proofs.Ytochllbnlnammaa
open Go.RowKit
set_option linter.unusedVariables false

def boolE : El Try.prog Bool where
  t := 55
  e := 4
  k := 1
  by' := 1
  z := .bool false
  enc x := [.bool x]
  ht := Try.underlying55
  info := by kernel_rfl
  zc := rfl
  kpos := by omega
  bsm := by omega
  len _ := rfl
  one x v hv := by simp at hv; subst hv; rfl
theorem made_bools (w : World) (n : Nat) (hn : n ≤ 100000) : ∃ w', (Instr.makeSlice 55 (.int .i64 (n : Int)) (.int .i64 (n : Int))).run Try.prog w = .ok (.slice (some ⟨w.heap.size, 0, none⟩) n n) w' ∧
    boolE.Own w' w.heap.size (.slice (some ⟨w.heap.size, 0, none⟩) n n) (List.replicate n false) ∧ Below w.heap.size w w' ∧ w.heap.size < w'.heap.size := by
  obtain ⟨i, hi, he⟩ := Option.map_eq_some_iff.1 boolE.info
  have e1 : i.zero = some (.bool false) := congrArg Prod.fst he
  have e2 : i.size = 1 := congrArg (fun p => p.2.1) he
  have e3 : i.bytes = 1 := congrArg (fun p => p.2.2) he
  obtain ⟨w', h1, h2, h3⟩ := run_make_full (P := Try.prog) w w.heap.size 55 4 i (.bool false) 1 Try.underlying55 hi e1 e2 .i64 .i64 n (by rw [e3]; omega) (by unfold maxLen; omega) (Nat.le_refl _)
  have ho : boolE.Own w' w.heap.size (.slice (some ⟨w.heap.size, 0, none⟩) n n) (List.replicate n false) := by
    unfold El.Own
    rw [fl_map boolE Value.bool (fun _ => rfl), List.length_replicate, show (List.replicate n false).map Value.bool = (madeCells #[Value.bool false] (n * 1)).toList by rw [toList_madeCells_one, Nat.mul_one, List.map_replicate]]
    exact h2
  refine ⟨w', h1, ho, (Below.refl _ _).grown h3 (Nat.le_refl _) (by simp), ?_⟩
  exact ho.lt w.heap.size rfl

/-- the drive of those that are used, each alone -/
def usd : List (Int × Int) → List Bool → Int
  | p :: M, u :: us => (if u then alo p else 0) + usd M us
  | _, _ => 0
/-- of the others -/
def nsd : List (Int × Int) → List Bool → Int
  | p :: M, u :: us => (if u then 0 else alo p) + nsd M us
  | _, _ => 0
theorem usd_set {M : List (Int × Int)} {us : List Bool} {j : Nat} {q : Int × Int} (hq : M[j]? = some q) (hu : us[j]? = some false) : usd M (us.set j true) = usd M us + alo q := by
  induction M generalizing us j with
  | nil => simp at hq
  | cons p M ih =>
    cases us with
    | nil => simp at hu
    | cons u us =>
      cases j with
      | zero => simp at hq hu; subst hq hu; simp [usd]; omega
      | succ j => simp at hq hu; rw [List.set_cons_succ, usd, usd, ih hq hu]; omega
theorem usd_nsd {M : List (Int × Int)} {us : List Bool} (h : us.length = M.length) : usd M us + nsd M us = tot M := by
  induction M generalizing us with
  | nil => simp [usd, nsd, tot]
  | cons p M ih =>
    cases us with
    | nil => simp at h
    | cons u us =>
      have := ih (us := us) (by simpa using h)
      have e : tot (p :: M) = alo p + tot M := rfl
      rw [usd, nsd, e]
      cases u <;> simp <;> omega
theorem nsd_step {M : List (Int × Int)} {us : List Bool} {k : Nat} {q : Int × Int} {u : Bool} (hq : M[k]? = some q) (hu : us[k]? = some u) : nsd (M.take (k + 1)) (us.take (k + 1)) = nsd (M.take k) (us.take k) + if u then 0 else alo q := by
  induction M generalizing us k with
  | nil => simp at hq
  | cons p M ih =>
    cases us with
    | nil => simp at hu
    | cons u' us =>
      cases k with
      | zero => simp at hq hu; subst hq hu; simp [nsd]
      | succ k =>
        simp at hq hu
        rw [List.take_succ_cons, List.take_succ_cons, nsd, ih hq hu, List.take_succ_cons, List.take_succ_cons, nsd]; omega
theorem usd_rep (M : List (Int × Int)) (n : Nat) : usd M (List.replicate n false) = 0 := by
  induction M generalizing n with
  | nil => cases n <;> rfl
  | cons p M ih => cases n with
    | zero => rfl
    | succ n => rw [List.replicate_succ, usd, ih]; simp
theorem usd_bd {M : List (Int × Int)} (h : ∀ p ∈ M, In p) (us : List Bool) : 0 ≤ usd M us ∧ usd M us ≤ 2000 * M.length := by
  induction M generalizing us with
  | nil => simp [usd]
  | cons p M ih =>
    have h1 := dr_bd In.zero (h p (List.mem_cons_self ..))
    cases us with
    | nil => simp [usd]; omega
    | cons u us =>
      have h2 := ih (fun q hq => h q (List.mem_cons_of_mem _ hq)) us
      rw [usd, List.length_cons]
      unfold alo
      split <;> omega
theorem nsd_bd {M : List (Int × Int)} (h : ∀ p ∈ M, In p) (us : List Bool) : 0 ≤ nsd M us ∧ nsd M us ≤ 2000 * M.length := by
  induction M generalizing us with
  | nil => simp [nsd]
  | cons p M ih =>
    have h1 := dr_bd In.zero (h p (List.mem_cons_self ..))
    cases us with
    | nil => simp [nsd]; omega
    | cons u us =>
      have h2 := ih (fun q hq => h q (List.mem_cons_of_mem _ hq)) us
      rw [nsd, List.length_cons]
      unfold alo
      split <;> omega
theorem tot_take {L : List (Int × Int)} {k : Nat} {q : Int × Int} (h : L[k]? = some q) : tot (L.take (k + 1)) = tot (L.take k) + alo q := by
  rw [List.take_add_one, h]
  exact (tot_app _ _).trans (by rw [show tot ((some q).toList) = alo q from tot_one _])

set_option maxRecDepth 100000 in
set_option maxHeartbeats 2000000 in
theorem rcost_bad (a b p : Option Addr) (n c m d k c' : Nat) (L M : List (Int × Int)) (ps : List Int) (w : World) (hn : L.length = n) (hm : M.length = m) (hk : ps.length = k) (hn1 : n ≤ 100) (hm1 : m ≤ 100) (hk1 : k ≤ 100) (hv : rsE.Rd w (.slice a n c) L) (hu : rsE.Rd w (.slice b m d) M) (hbad : ¬ (Alw L ∧ Alw M ∧ ps.length = L.length)) :
    Calls Try.prog 14 #[.slice a n c, .slice b m d, .slice p k c'] w (CostP L M ps w) := by
  obtain ⟨w0, rfl⟩ : ∃ w0, w0 = w := ⟨_, rfl⟩
  have K1 := hide (good_any a n c L w0 hn hn1 hv)
  have K2 := hide (good_any b m d M w0 hm hm1 hu)
  have HP : Hid (CostP L M ps w0 (.returned (.tuple #[.int .i64 0, .int .i64 1])) w0) := hide ⟨by rw [(cstC_bad hbad).1, (cstC_bad hbad).2], Below.refl _ _⟩
  rw [hk, hn] at hbad
  by_cases h1 : Alw L
  · rw [decide_eq_true h1] at K1
    by_cases h2 : Alw M
    · rw [decide_eq_true h2] at K2
      have hne : ((k : Int) != (n : Int)) = true := bne_iff_ne.2 (fun e => hbad ⟨h1, h2, by omega⟩)
      clear hn hm hk hv hu h1 h2 hbad
      go_enter Try.func14, Try.ntmps14
      go_wp2_with (first
        | (go_at_call_of 25 (Value.slice a n c); refine (K1.out).mono ?_; rintro e W1 ⟨rfl, rfl⟩)
        | (go_at_call_of 25 (Value.slice b m d); refine (K2.out).mono ?_; rintro e W2 ⟨rfl, rfl⟩))
      exact bodyPost_ret (v := .tuple #[.int .i64 0, .int .i64 1]) (by simp [results, Try.results14, go_sem]) rfl HP.out
    · rw [decide_eq_false h2] at K2
      clear hn hm hk hv hu h1 h2 hbad
      go_enter Try.func14, Try.ntmps14
      go_wp2_with (first
        | (go_at_call_of 25 (Value.slice a n c); refine (K1.out).mono ?_; rintro e W1 ⟨rfl, rfl⟩)
        | (go_at_call_of 25 (Value.slice b m d); refine (K2.out).mono ?_; rintro e W2 ⟨rfl, rfl⟩))
      exact bodyPost_ret (v := .tuple #[.int .i64 0, .int .i64 1]) (by simp [results, Try.results14, go_sem]) rfl HP.out
  · rw [decide_eq_false h1] at K1
    clear hn hm hk hv hu h1 hbad
    go_enter Try.func14, Try.ntmps14
    go_wp2_with (go_at_call_of 25 (Value.slice a n c); refine (K1.out).mono ?_; rintro e W1 ⟨rfl, rfl⟩)
    exact bodyPost_ret (v := .tuple #[.int .i64 0, .int .i64 1]) (by simp [results, Try.results14, go_sem]) rfl HP.out

/-- the world of Cost: home in a box -/
def Rh (w : World) (gh : Nat) (W : World) : Prop := Below w.heap.size w W ∧ W.cell? ⟨gh, 0, none⟩ = some (.int .i64 0) ∧ W.cell? ⟨gh, 1, none⟩ = some (.int .i64 0)
theorem Rh.keep {w : World} {gh : Nat} {W W' : World} (h : Rh w gh W) (hb : Below W.heap.size W W') : Rh w gh W' :=
  ⟨h.1.trans (hb.mono h.1.size), by rw [hb.cell (cell_lt h.2.1)]; exact h.2.1, by rw [hb.cell (cell_lt h.2.2)]; exact h.2.2⟩
theorem Rh.put {w : World} {gh : Nat} {W : World} (h : Rh w gh W) {g i : Nat} {v : Value} (hg : w.heap.size ≤ g) (hne : g ≠ gh) : Rh w gh (W.setCell ⟨g, i, none⟩ v) :=
  ⟨below_put h.1 hg, by rw [cell_put_other hne]; exact h.2.1, by rw [cell_put_other hne]; exact h.2.2⟩

set_option maxRecDepth 100000 in
set_option maxHeartbeats 6000000 in
theorem rcost_good (a b p : Option Addr) (n c m d c' : Nat) (L M : List (Int × Int)) (ps : List Int) (w : World) (hn : L.length = n) (hm : M.length = m) (hk : ps.length = n) (hv : rsE.Rd w (.slice a n c) L) (hu : rsE.Rd w (.slice b m d) M) (hq : intE.Rd w (.slice p n c') ps) (h1 : Alw L) (h2 : Alw M) :
    Calls Try.prog 14 #[.slice a n c, .slice b m d, .slice p n c'] w (CostP L M ps w) := by
  obtain ⟨w0, rfl⟩ : ∃ w0, w0 = w := ⟨_, rfl⟩
  have hA : Alw L ∧ Alw M ∧ ps.length = L.length := ⟨h1, h2, by rw [hk, hn]⟩
  have n6 : n ≤ 6 := by rw [← hn]; exact h1.1
  have m6 : m ≤ 6 := by rw [← hm]; exact h2.1
  have K1 : Hid (Calls Try.prog 25 #[.slice a n c] w0 fun e w' => e = .returned (.bool true) ∧ w' = w0) := hide (by have := good_any a n c L w0 hn (by omega) hv; rw [decide_eq_true h1] at this; exact this)
  have K2 : Hid (Calls Try.prog 25 #[.slice b m d] w0 fun e w' => e = .returned (.bool true) ∧ w' = w0) := hide (by have := good_any b m d M w0 hm (by omega) hu; rw [decide_eq_true h2] at this; exact this)
  have HP1 : Hid (∀ W, ¬ Rg m ps → Below w0.heap.size w0 W → CostP L M ps w0 (.returned (.tuple #[.int .i64 0, .int .i64 1])) W) := hide (fun W hr h => ⟨by rw [← hm] at hr; rw [(cstC_rg hA hr).1, (cstC_rg hA hr).2], h⟩)
  have HP2 : Hid (∀ W, Rg m ps → ¬ NoD [] ps → Below w0.heap.size w0 W → CostP L M ps w0 (.returned (.tuple #[.int .i64 0, .int .i64 2])) W) := hide (fun W hr hd h => ⟨by rw [← hm] at hr; rw [(cstC_two hA hr hd).1, (cstC_two hA hr hd).2], h⟩)
  have HP3 : Hid (∀ W, Rg m ps → NoD [] ps → Below w0.heap.size w0 W → CostP L M ps w0 (.returned (.tuple #[.int .i64 (cst L M ps), .int .i64 0])) W) := hide (fun W hr hd h => ⟨by rw [← hm] at hr; rw [(cstC_ok hA hr hd).1, (cstC_ok hA hr hd).2], h⟩)
  have HQ := hide hq
  have HV := hide hv
  have HU := hide hu
  have Hk := hide hk
  have Hn := hide hn
  have Hm := hide hm
  have HL := hide h1
  have HM := hide h2
  have i0 : (n : Int) ≤ 6 := by omega
  have i1 : (m : Int) ≤ 6 := by omega
  have Hsb := hide (sg_bd h1 h2)
  have Hcst : Hid (cst L M ps = tot L + tot M - sv (sg L M) (mof 0 ps)) := hide rfl
  generalize cst L M ps = cc at *
  clear hn hm hk hv hu hq h1 h2 hA
  go_enter Try.func14, Try.ntmps14
  go_upto_region 4 with (first
    | (go_at_call_of 25 (Value.slice a n c); refine (K1.out).mono ?_; rintro e W1 ⟨rfl, hw⟩; have hw' := hw.symm; clear hw; subst hw')
    | (go_at_call_of 25 (Value.slice b m d); refine (K2.out).mono ?_; rintro e W2 ⟨rfl, hw⟩; have hw' := hw.symm; clear hw; subst hw'))
  go_loopw [31] (fun v31 wr => ∃ t : Nat, v31 = .int .i64 t ∧ t ≤ n ∧ wr = w0 ∧ Hid (∀ x ∈ ps.take t, -1 ≤ x ∧ x < (m : Int))) (fun v31 _ => n - (intOf v31).toNat)
  case atStart => exact ⟨0, rfl, Nat.zero_le _, rfl, hide (by simp)⟩
  case round =>
    obtain ⟨t, rfl, ht, hw, HR⟩ := hrel
    have hw' := hw.symm
    clear hw
    subst hw'
    by_cases hlt : t < n
    · obtain ⟨x, hx⟩ : ∃ x, ps[t]? = some x := ⟨_, List.getElem?_eq_getElem (by rw [Hk.out]; exact hlt)⟩
      obtain ⟨b1, off1, rfl, c0⟩ := int_at HQ.out t x hx
      have t0 : (0 : Int) ≤ (t : Int) := by omega
      have t1 : (t : Int) < (n : Int) := by omega
      by_cases hr : -1 ≤ x ∧ x < (m : Int)
      · have HR1 : Hid (∀ x ∈ ps.take (t + 1), -1 ≤ x ∧ x < (m : Int)) := hide (fun y hy => by
          rw [List.take_add_one, hx] at hy
          rcases List.mem_append.1 hy with h | h
          · exact HR.out y h
          · simp at h; subst h; exact hr)
        obtain ⟨r0, r1⟩ := hr
        clear hx
        go_wp2_with fail
        go_roundw
        case rel => exact ⟨t + 1, by go_num, by omega, trivial, HR1⟩
        case measure => simp [intOf] <;> omega
      · have hnr : ¬ Rg m ps := fun h => hr (h x (List.mem_of_getElem? hx))
        have HPn := hide (HP1.out _ hnr (Below.refl w0.heap.size w0))
        have hr' : x < -1 ∨ (-1 ≤ x ∧ x ≥ (m : Int)) := by omega
        clear hx hr hnr
        rcases hr' with hr' | ⟨hr', hr''⟩
        all_goals
          go_wp2_with fail
          exact bodyPost_ret (v := .tuple #[.int .i64 0, .int .i64 1]) (by simp [results, Try.results14, go_sem]) rfl HPn.out
    · obtain rfl : t = n := by omega
      have t1 : ¬ (t : Int) < (t : Int) := by omega
      have HRg : Hid (Rg m ps) := hide (by have := HR.out; rw [← Hk.out, List.take_length] at this; exact this)
      obtain ⟨WM, hmk, hown, hbm, hlt2⟩ := made_bools w0 m (by omega)
      have HO0 : Hid (boolE.Own (WM.alloc (.cells #[.int .i64 0, .int .i64 0] 28)) w0.heap.size (.slice (some ⟨w0.heap.size, 0, none⟩) m m) (List.replicate m false)) := hide (hown.keep ((Below.refl _ _).alloc (Nat.le_refl _) _))
      have HH0 : Hid (Rh w0 WM.heap.size (WM.alloc (.cells #[.int .i64 0, .int .i64 0] 28))) := hide ⟨hbm.alloc hbm.size _, (cells_at (heap_new _ _) 0).1, (cells_at (heap_new _ _) 1).1⟩
      have Hne : Hid (w0.heap.size ≠ WM.heap.size) := hide (by omega)
      obtain ⟨gu, hgu⟩ : ∃ g, w0.heap.size = g := ⟨_, rfl⟩
      have Hgu := hide hgu
      rw [hgu] at HO0 hmk Hne
      obtain ⟨gh, hgh⟩ : ∃ g, WM.heap.size = g := ⟨_, rfl⟩
      rw [hgh] at HH0 Hne
      clear hown hbm hlt2 hgu
      go_upto_region 13 with fail
      try rw [hgh]
      clear hgh
      generalize WM.alloc (.cells #[.int .i64 0, .int .i64 0] 28) = W3 at *
      clear hmk
      go_loopw [11, 55] (fun v11 v55 wr => ∃ (s : Nat) (x : Int) (us : List Bool), v55 = .int .i64 s ∧ s ≤ t ∧ v11 = .int .i64 x ∧ Hid (Rh w0 gh wr) ∧ Hid (boolE.Own wr gu (.slice (some ⟨gu, 0, none⟩) m m) us) ∧ Hid (us.length = m ∧ ∀ g, g < m → us[g]? = some (decide ((g : Int) ∈ ps.take s))) ∧ Hid (NoD [] (ps.take s)) ∧ Hid (x = tot (L.take s) + usd M us - sv (sg L M) (mof 0 (ps.take s)))) (fun _ v55 _ => t - (intOf v55).toNat)
      case atStart => exact ⟨0, 0, List.replicate m false, rfl, Nat.zero_le _, rfl, HH0, HO0, hide ⟨List.length_replicate, fun g hg => by rw [List.getElem?_replicate, if_pos hg]; simp⟩, hide (by simp [NoD]), hide (by rw [usd_rep]; simp [tot, mof, sv])⟩
      case round =>
        clear HO0 HH0
        obtain ⟨s, x, us, rfl, hs, rfl, HH, HO, HUS, HND, HX⟩ := hrel
        have hxb : -12000 ≤ x ∧ x ≤ 40000 := by
          have h1 := tot_bd (L := L.take s) (fun q hq => HL.out.2 q (List.mem_of_mem_take hq))
          have h2 := usd_bd HM.out.2 us
          have h3 := sv_bd Hsb.out (mof 0 (ps.take s))
          have h4 := mof_len 0 (ps.take s)
          rw [List.length_take] at h1 h4
          rw [Hm.out] at h2
          rw [HX.out]
          omega
        by_cases hlt' : s < t
        · obtain ⟨q, hq⟩ : ∃ q, ps[s]? = some q := ⟨_, List.getElem?_eq_getElem (by rw [Hk.out]; exact hlt')⟩
          obtain ⟨⟨x1, y1⟩, hl1⟩ : ∃ q, L[s]? = some q := ⟨_, List.getElem?_eq_getElem (by rw [Hn.out]; exact hlt')⟩
          obtain ⟨bp, offp, rfl, cp⟩ := int_at HQ.out s q hq
          obtain ⟨bl, offl, rfl, cl0, cl1⟩ := rs_at HV.out s _ hl1
          have s0 : (0 : Int) ≤ (s : Int) := by omega
          have s1 : (s : Int) < (t : Int) := by omega
          have hI1 := HL.out.2 _ (List.mem_of_getElem? hl1)
          obtain ⟨sm1, sm2⟩ := hI1.sm
          obtain ⟨d10, d11⟩ := dr_bd In.zero hI1
          have K11 := hide (fun W => rdrive_any 0 0 x1 y1 W Sm.zero Sm.zero sm1 sm2)
          have hcp := fun W (h : Below w0.heap.size w0 W) => (h.cell (p := ⟨bp, offp + s, none⟩) (cell_lt cp)).trans cp
          have htt : tot (L.take (s + 1)) = tot (L.take s) + 2 * dr (0, 0) (x1, y1) := tot_take hl1
          have hms := mof_step hq
          have hns := NoD.step hq
          obtain ⟨q0, q1⟩ := HRg.out q (List.mem_of_getElem? hq)
          obtain ⟨xb0, xb1⟩ := hxb
          have cpw := hcp _ HH.out.1
          by_cases hneg : q < 0
          · obtain rfl : q = -1 := by omega
            rw [if_neg (by omega), List.append_nil] at hms
            have HUS1 : Hid (us.length = m ∧ ∀ g, g < m → us[g]? = some (decide ((g : Int) ∈ ps.take (s + 1)))) := hide ⟨HUS.out.1, fun g hg => by
              rw [HUS.out.2 g hg, List.take_add_one, hq]
              congr 1
              rw [Bool.eq_iff_iff, decide_eq_true_iff, decide_eq_true_iff]
              simp⟩
            have HND1 : Hid (NoD [] (ps.take (s + 1))) := hide (hns.2 ⟨HND.out, .inl rfl⟩)
            have HX1 : Hid (x + 2 * dr (0, 0) (x1, y1) = tot (L.take (s + 1)) + usd M us - sv (sg L M) (mof 0 (ps.take (s + 1)))) := hide (by rw [htt, hms, HX.out]; omega)
            generalize dr (0, 0) (x1, y1) = dd at *
            obtain ⟨d2, hd2⟩ : ∃ z, 2 * dd = z := ⟨_, rfl⟩
            obtain ⟨z, hz⟩ : ∃ z, x + d2 = z := ⟨_, rfl⟩
            have e1 : IntKind.i64.wrap (2 * dd) = d2 := by rw [IntKind.wrap_i64]; omega
            have e2 : IntKind.i64.wrap (x + d2) = z := by rw [IntKind.wrap_i64]; omega
            rw [hd2, hz] at HX1
            have SI : Hid (∀ W, Rh w0 gh W → W.cell? ⟨gh, 0, none⟩ = some (.int .i64 0) ∧ W.cell? ⟨gh, 1, none⟩ = some (.int .i64 0) ∧ W.cell? ⟨bl, offl + s * 2, none⟩ = some (.int .i64 x1) ∧ W.cell? ⟨bl, offl + s * 2 + 1, none⟩ = some (.int .i64 y1)) := hide (fun W h => by
              rw [h.1.cell (p := ⟨bl, offl + s * 2, none⟩) (cell_lt cl0), h.1.cell (p := ⟨bl, offl + s * 2 + 1, none⟩) (cell_lt cl1)]
              exact ⟨h.2.1, h.2.2, cl0, cl1⟩)
            have SD := SI
            have SK : Hid (∀ W W', Rh w0 gh W → Below W.heap.size W W' → Rh w0 gh W') := hide (fun W W' h hb => h.keep hb)
            obtain ⟨S0, hS0⟩ : ∃ S : World → Prop, S = Rh w0 gh := ⟨_, rfl⟩
            rw [← hS0] at SD
            have SI : Hid (∀ W, Rh w0 gh W → S0 W) := hide (fun W h => by rw [hS0]; exact h)
            clear hS0 hms hns htt hcp cp cl0 cl1 hl1 hq hI1 sm1 sm2 HX HUS HND d10 d11 hd2 hz
            have HHd := hide (HH.out.keep (Below.refl wr.heap.size wr).drew)
            have HOd := hide (HO.out.keep (Below.refl wr.heap.size wr).drew)
            have hS := SI.out _ HHd.out
            go_upto_region 16 with fail
            refine wp_region_held_drew (S := S0) (by kernel_rfl) hS (fun _ => ?_)
            refine wpAnyH_take (i := 0) (v := .int .i64 x) rfl (by kernel_rfl) (by kernel_rfl) (by kernel_rfl) (fun _ _ _ h => h) (Or.inl ⟨by rfl, fun W' hW => by go_simp⟩) hS ?_
            refine wpAnyH_take (i := 1) (v := .agg #[.int .i64 0, .int .i64 0]) rfl (by kernel_rfl) (by kernel_rfl) (by kernel_rfl) (fun _ _ _ h => h) (Or.inl ⟨by rfl, fun W' hW => by have z0 := SD.out W' hW; go_simp⟩) hS ?_
            refine wpAnyH_take (i := 2) (v := .slice (some ⟨bl, offl, none⟩) t c) rfl (by kernel_rfl) (by kernel_rfl) (by kernel_rfl) (fun _ _ _ h => h) (Or.inl ⟨by rfl, fun W' hW => by go_simp⟩) hS ?_
            refine wpAnyH_take (i := 3) (v := .int .i64 s) rfl (by kernel_rfl) (by kernel_rfl) (by kernel_rfl) (fun _ _ _ h => h) (Or.inl ⟨by rfl, fun W' hW => by go_simp⟩) hS ?_
            refine wpAnyH_take (i := 4) (v := .pointer (some ⟨bl, offl + s * 2, none⟩)) rfl (by kernel_rfl) (by kernel_rfl) (by kernel_rfl) (fun _ _ _ h => h) (Or.inl ⟨by rfl, fun W' hW => by go_simp⟩) hS ?_
            refine wpAnyH_take (i := 5) (v := .agg #[.int .i64 x1, .int .i64 y1]) rfl (by kernel_rfl) (by kernel_rfl) (by kernel_rfl) (fun _ _ _ h => h) (Or.inl ⟨by rfl, fun W' hW => by have z0 := SD.out W' hW; go_simp⟩) hS ?_
            refine wpAnyH_ready (rs := [6]) (by kernel_rfl) (by simp) ?_
            refine AllReadyH.cons rfl (fun K hK => ?_) AllReadyH.nil
            go_simp
            go_at_call 11
            refine (K11.out _).mono ?_
            rintro e Wa ⟨rfl, hb⟩
            have HHWa := hide (HHd.out.keep hb)
            have HOWa := hide (HOd.out.keep hb)
            have hSWa := SI.out _ HHWa.out
            clear hb
            go_simp
            refine hK.out _ _ hSWa (fun _ => ?_)
            clear hK K
            refine wpAnyH_ready (rs := [7]) (by kernel_rfl) (by simp) ?_
            refine AllReadyH.cons rfl (fun K hK => ?_) AllReadyH.nil
            go_simp
            refine hK.out _ _ hSWa (fun _ => ?_)
            clear hK K
            refine wpAnyH_ready (rs := [8]) (by kernel_rfl) (by simp) ?_
            refine AllReadyH.cons rfl (fun K hK => ?_) AllReadyH.nil
            go_simp
            refine hK.out _ _ hSWa (fun _ => ?_)
            clear hK K
            refine wpAnyH_ready (rs := [9]) (by kernel_rfl) (by simp) ?_
            refine AllReadyH.cons rfl (fun K hK => ?_) AllReadyH.nil
            go_simp
            refine hK.out _ _ hSWa (fun _ => ?_)
            clear hK K
            refine wpAnyH_done (by kernel_rfl) ?_ _
            go_wp2_with fail
            go_roundw
            case rel => exact ⟨s + 1, z, us, by go_num, by omega, rfl, HHWa, HOWa, HUS1, HND1, HX1⟩
            case measure => simp [intOf] <;> omega
          · obtain ⟨j, rfl⟩ : ∃ j : Nat, q = (j : Int) := ⟨q.toNat, by omega⟩
            have hjm : j < m := by omega
            have j0 : (0 : Int) ≤ (j : Int) := by omega
            have j1 : (j : Int) < (m : Int) := by omega
            rw [if_pos (by omega), Int.toNat_natCast] at hms
            have huj := HUS.out.2 j hjm
            obtain ⟨cu, fu⟩ := HO.out.at1 Value.bool (fun _ => rfl) rfl j _ huj
            by_cases hin : (j : Int) ∈ ps.take s
            · rw [decide_eq_true hin] at cu
              have hnd : ¬ NoD [] ps := fun h => by
                rcases (hns.1 (h.take _)).2 with h | h
                · omega
                · exact h hin
              have HPn := hide (HP2.out _ HRg.out hnd HH.out.1)
              clear hms hns htt hcp cp cl0 cl1 hl1 hq hI1 sm1 sm2 HX HUS HND huj hnd hin
              go_wp2_with fail
              exact bodyPost_ret (v := .tuple #[.int .i64 0, .int .i64 2]) (by simp [results, Try.results14, go_sem]) rfl HPn.out
            · rw [decide_eq_false hin] at cu huj
              obtain ⟨⟨x2, y2⟩, hl2⟩ : ∃ q, M[j]? = some q := ⟨_, List.getElem?_eq_getElem (by rw [Hm.out]; exact hjm)⟩
              obtain ⟨bm, offm, rfl, cm0, cm1⟩ := rs_at HU.out j _ hl2
              have hI2 := HM.out.2 _ (List.mem_of_getElem? hl2)
              obtain ⟨sm3, sm4⟩ := hI2.sm
              obtain ⟨d20, d21⟩ := dr_bd In.zero hI2
              obtain ⟨d30, d31⟩ := dr_bd hI1 hI2
              have K12 := hide (fun W => rdrive_any x1 y1 x2 y2 W sm1 sm2 sm3 sm4)
              have K20 := hide (fun W => rdrive_any x2 y2 0 0 W sm3 sm4 Sm.zero Sm.zero)
              rw [dr_comm (x2, y2) (0, 0)] at K20
              have hsg : sg L M s j = dr (0, 0) (x1, y1) + dr (0, 0) (x2, y2) - dr (x1, y1) (x2, y2) := sg_at hl1 hl2
              have hus := usd_set hl2 huj
              have HUS1 : Hid ((us.set j true).length = m ∧ ∀ g, g < m → (us.set j true)[g]? = some (decide ((g : Int) ∈ ps.take (s + 1)))) := hide ⟨by rw [List.length_set]; exact HUS.out.1, fun g hg => by
                rw [List.take_add_one, hq]
                by_cases e : j = g
                · subst e
                  rw [List.getElem?_set, if_pos rfl, if_pos (by rw [HUS.out.1]; exact hg)]
                  simp
                · rw [List.getElem?_set, if_neg e, HUS.out.2 g hg]
                  congr 1
                  rw [Bool.eq_iff_iff, decide_eq_true_iff, decide_eq_true_iff]
                  simp; omega⟩
              have HND1 : Hid (NoD [] (ps.take (s + 1))) := hide (hns.2 ⟨HND.out, .inr hin⟩)
              have HX1 : Hid (x + dr (0, 0) (x1, y1) + dr (x1, y1) (x2, y2) + dr (0, 0) (x2, y2) = tot (L.take (s + 1)) + usd M (us.set j true) - sv (sg L M) (mof 0 (ps.take (s + 1)))) := hide (by
                rw [htt, hms, hus, sv_app, HX.out]
                have : sv (sg L M) [(s, j)] = sg L M s j := by simp [sv]
                rw [this, hsg]
                unfold alo
                omega)
              generalize dr (0, 0) (x1, y1) = d1 at *
              generalize dr (0, 0) (x2, y2) = d2 at *
              generalize dr (x1, y1) (x2, y2) = d3 at *
              obtain ⟨z1, hz1⟩ : ∃ z, x + d1 = z := ⟨_, rfl⟩
              obtain ⟨z2, hz2⟩ : ∃ z, z1 + d3 = z := ⟨_, rfl⟩
              obtain ⟨z, hz⟩ : ∃ z, z2 + d2 = z := ⟨_, rfl⟩
              have e1 : IntKind.i64.wrap (x + d1) = z1 := by rw [IntKind.wrap_i64]; omega
              have e2 : IntKind.i64.wrap (z1 + d3) = z2 := by rw [IntKind.wrap_i64]; omega
              have e3 : IntKind.i64.wrap (z2 + d2) = z := by rw [IntKind.wrap_i64]; omega
              rw [hz1, hz2, hz] at HX1
              have HO1 : Hid (boolE.Own (wr.setCell ⟨gu, j, none⟩ (.bool true)) gu (.slice (some ⟨gu, 0, none⟩) m m) (us.set j true)) := hide (HO.out.set Value.bool (fun _ => rfl) rfl j true)
              have HH1 : Hid (Rh w0 gh (wr.setCell ⟨gu, j, none⟩ (.bool true))) := hide (HH.out.put (by rw [Hgu.out]; exact Nat.le_refl _) Hne.out)
              have SI : Hid (∀ W, Rh w0 gh W → W.cell? ⟨gh, 0, none⟩ = some (.int .i64 0) ∧ W.cell? ⟨gh, 1, none⟩ = some (.int .i64 0) ∧ W.cell? ⟨bl, offl + s * 2, none⟩ = some (.int .i64 x1) ∧ W.cell? ⟨bl, offl + s * 2 + 1, none⟩ = some (.int .i64 y1) ∧ W.cell? ⟨bm, offm + j * 2, none⟩ = some (.int .i64 x2) ∧ W.cell? ⟨bm, offm + j * 2 + 1, none⟩ = some (.int .i64 y2) ∧ W.cell? ⟨bp, offp + s, none⟩ = some (.int .i64 (j : Int))) := hide (fun W h => by
                rw [h.1.cell (p := ⟨bl, offl + s * 2, none⟩) (cell_lt cl0), h.1.cell (p := ⟨bl, offl + s * 2 + 1, none⟩) (cell_lt cl1), h.1.cell (p := ⟨bm, offm + j * 2, none⟩) (cell_lt cm0), h.1.cell (p := ⟨bm, offm + j * 2 + 1, none⟩) (cell_lt cm1)]
                exact ⟨h.2.1, h.2.2, cl0, cl1, cm0, cm1, hcp W h.1⟩)
              have SD := SI
              obtain ⟨S0, hS0⟩ : ∃ S : World → Prop, S = Rh w0 gh := ⟨_, rfl⟩
              rw [← hS0] at SD
              have SI : Hid (∀ W, Rh w0 gh W → S0 W) := hide (fun W h => by rw [hS0]; exact h)
              clear hS0 hms hns htt hcp cp cl0 cl1 cm0 cm1 hl1 hl2 hq hI1 hI2 sm1 sm2 sm3 sm4 HX HUS HND huj hin hsg hus d10 d11 d20 d21 d30 d31 hz1 hz2 hz
              go_upto_region 20 with fail
              generalize wr.setCell ⟨gu, j, none⟩ (.bool true) = w5 at *
              clear cu fu cpw
              have HHd := hide (HH1.out.keep (Below.refl w5.heap.size w5).drew)
              have HOd := hide (HO1.out.keep (Below.refl w5.heap.size w5).drew)
              have hS := SI.out _ HHd.out
              refine wp_region_held_drew (S := S0) (by kernel_rfl) hS (fun _ => ?_)
              refine wpAnyH_take (i := 0) (v := .int .i64 x) rfl (by kernel_rfl) (by kernel_rfl) (by kernel_rfl) (fun _ _ _ h => h) (Or.inl ⟨by rfl, fun W' hW => by go_simp⟩) hS ?_
              refine wpAnyH_take (i := 1) (v := .agg #[.int .i64 0, .int .i64 0]) rfl (by kernel_rfl) (by kernel_rfl) (by kernel_rfl) (fun _ _ _ h => h) (Or.inl ⟨by rfl, fun W' hW => by have z0 := SD.out W' hW; go_simp⟩) hS ?_
              refine wpAnyH_take (i := 2) (v := .slice (some ⟨bl, offl, none⟩) t c) rfl (by kernel_rfl) (by kernel_rfl) (by kernel_rfl) (fun _ _ _ h => h) (Or.inl ⟨by rfl, fun W' hW => by go_simp⟩) hS ?_
              refine wpAnyH_take (i := 3) (v := .int .i64 s) rfl (by kernel_rfl) (by kernel_rfl) (by kernel_rfl) (fun _ _ _ h => h) (Or.inl ⟨by rfl, fun W' hW => by go_simp⟩) hS ?_
              refine wpAnyH_take (i := 4) (v := .pointer (some ⟨bl, offl + s * 2, none⟩)) rfl (by kernel_rfl) (by kernel_rfl) (by kernel_rfl) (fun _ _ _ h => h) (Or.inl ⟨by rfl, fun W' hW => by go_simp⟩) hS ?_
              refine wpAnyH_take (i := 5) (v := .agg #[.int .i64 x1, .int .i64 y1]) rfl (by kernel_rfl) (by kernel_rfl) (by kernel_rfl) (fun _ _ _ h => h) (Or.inl ⟨by rfl, fun W' hW => by have z0 := SD.out W' hW; go_simp⟩) hS ?_
              refine wpAnyH_take (i := 8) (v := .slice (some ⟨bl, offl, none⟩) t c) rfl (by kernel_rfl) (by kernel_rfl) (by kernel_rfl) (fun _ _ _ h => h) (Or.inl ⟨by rfl, fun W' hW => by go_simp⟩) hS ?_
              refine wpAnyH_take (i := 9) (v := .int .i64 s) rfl (by kernel_rfl) (by kernel_rfl) (by kernel_rfl) (fun _ _ _ h => h) (Or.inl ⟨by rfl, fun W' hW => by go_simp⟩) hS ?_
              refine wpAnyH_take (i := 10) (v := .pointer (some ⟨bl, offl + s * 2, none⟩)) rfl (by kernel_rfl) (by kernel_rfl) (by kernel_rfl) (fun _ _ _ h => h) (Or.inl ⟨by rfl, fun W' hW => by go_simp⟩) hS ?_
              refine wpAnyH_take (i := 11) (v := .agg #[.int .i64 x1, .int .i64 y1]) rfl (by kernel_rfl) (by kernel_rfl) (by kernel_rfl) (fun _ _ _ h => h) (Or.inl ⟨by rfl, fun W' hW => by have z0 := SD.out W' hW; go_simp⟩) hS ?_
              refine wpAnyH_take (i := 12) (v := .slice (some ⟨bm, offm, none⟩) m d) rfl (by kernel_rfl) (by kernel_rfl) (by kernel_rfl) (fun _ _ _ h => h) (Or.inl ⟨by rfl, fun W' hW => by go_simp⟩) hS ?_
              refine wpAnyH_take (i := 13) (v := .slice (some ⟨bp, offp, none⟩) t c') rfl (by kernel_rfl) (by kernel_rfl) (by kernel_rfl) (fun _ _ _ h => h) (Or.inl ⟨by rfl, fun W' hW => by go_simp⟩) hS ?_
              refine wpAnyH_take (i := 14) (v := .int .i64 s) rfl (by kernel_rfl) (by kernel_rfl) (by kernel_rfl) (fun _ _ _ h => h) (Or.inl ⟨by rfl, fun W' hW => by go_simp⟩) hS ?_
              refine wpAnyH_take (i := 15) (v := .pointer (some ⟨bp, offp + s, none⟩)) rfl (by kernel_rfl) (by kernel_rfl) (by kernel_rfl) (fun _ _ _ h => h) (Or.inl ⟨by rfl, fun W' hW => by go_simp⟩) hS ?_
              refine wpAnyH_take (i := 16) (v := .int .i64 j) rfl (by kernel_rfl) (by kernel_rfl) (by kernel_rfl) (fun _ _ _ h => h) (Or.inl ⟨by rfl, fun W' hW => by have z0 := SD.out W' hW; go_simp⟩) hS ?_
              refine wpAnyH_take (i := 17) (v := .pointer (some ⟨bm, offm + j * 2, none⟩)) rfl (by kernel_rfl) (by kernel_rfl) (by kernel_rfl) (fun _ _ _ h => h) (Or.inl ⟨by rfl, fun W' hW => by go_simp⟩) hS ?_
              refine wpAnyH_take (i := 18) (v := .agg #[.int .i64 x2, .int .i64 y2]) rfl (by kernel_rfl) (by kernel_rfl) (by kernel_rfl) (fun _ _ _ h => h) (Or.inl ⟨by rfl, fun W' hW => by have z0 := SD.out W' hW; go_simp⟩) hS ?_
              refine wpAnyH_take (i := 21) (v := .slice (some ⟨bm, offm, none⟩) m d) rfl (by kernel_rfl) (by kernel_rfl) (by kernel_rfl) (fun _ _ _ h => h) (Or.inl ⟨by rfl, fun W' hW => by go_simp⟩) hS ?_
              refine wpAnyH_take (i := 22) (v := .slice (some ⟨bp, offp, none⟩) t c') rfl (by kernel_rfl) (by kernel_rfl) (by kernel_rfl) (fun _ _ _ h => h) (Or.inl ⟨by rfl, fun W' hW => by go_simp⟩) hS ?_
              refine wpAnyH_take (i := 23) (v := .int .i64 s) rfl (by kernel_rfl) (by kernel_rfl) (by kernel_rfl) (fun _ _ _ h => h) (Or.inl ⟨by rfl, fun W' hW => by go_simp⟩) hS ?_
              refine wpAnyH_take (i := 24) (v := .pointer (some ⟨bp, offp + s, none⟩)) rfl (by kernel_rfl) (by kernel_rfl) (by kernel_rfl) (fun _ _ _ h => h) (Or.inl ⟨by rfl, fun W' hW => by go_simp⟩) hS ?_
              refine wpAnyH_take (i := 25) (v := .int .i64 j) rfl (by kernel_rfl) (by kernel_rfl) (by kernel_rfl) (fun _ _ _ h => h) (Or.inl ⟨by rfl, fun W' hW => by have z0 := SD.out W' hW; go_simp⟩) hS ?_
              refine wpAnyH_take (i := 26) (v := .pointer (some ⟨bm, offm + j * 2, none⟩)) rfl (by kernel_rfl) (by kernel_rfl) (by kernel_rfl) (fun _ _ _ h => h) (Or.inl ⟨by rfl, fun W' hW => by go_simp⟩) hS ?_
              refine wpAnyH_take (i := 27) (v := .agg #[.int .i64 x2, .int .i64 y2]) rfl (by kernel_rfl) (by kernel_rfl) (by kernel_rfl) (fun _ _ _ h => h) (Or.inl ⟨by rfl, fun W' hW => by have z0 := SD.out W' hW; go_simp⟩) hS ?_
              refine wpAnyH_take (i := 28) (v := .agg #[.int .i64 0, .int .i64 0]) rfl (by kernel_rfl) (by kernel_rfl) (by kernel_rfl) (fun _ _ _ h => h) (Or.inl ⟨by rfl, fun W' hW => by have z0 := SD.out W' hW; go_simp⟩) hS ?_
              refine wpAnyH_ready (rs := [6]) (by kernel_rfl) (by simp) ?_
              refine AllReadyH.cons rfl (fun K hK => ?_) AllReadyH.nil
              go_simp
              go_at_call 11
              refine (K11.out _).mono ?_
              rintro e Wa ⟨rfl, hb⟩
              have HHWa := hide (HHd.out.keep hb)
              have HOWa := hide (HOd.out.keep hb)
              have hSWa := SI.out _ HHWa.out
              clear hb
              go_simp
              refine hK.out _ _ hSWa (fun _ => ?_)
              clear hK K
              refine wpAnyH_take (i := 7) (v := .int .i64 z1) rfl (by kernel_rfl) (by kernel_rfl) (by kernel_rfl) (fun _ _ _ h => h) (Or.inl ⟨by rfl, fun W' hW => by go_simp⟩) hSWa ?_
              refine wpAnyH_ready (rs := [19]) (by kernel_rfl) (by simp) ?_
              refine AllReadyH.cons rfl (fun K hK => ?_) AllReadyH.nil
              go_simp
              go_at_call 11
              refine (K12.out _).mono ?_
              rintro e Wb ⟨rfl, hb⟩
              have HHWb := hide (HHWa.out.keep hb)
              have HOWb := hide (HOWa.out.keep hb)
              have hSWb := SI.out _ HHWb.out
              clear hb
              go_simp
              refine hK.out _ _ hSWb (fun _ => ?_)
              clear hK K
              refine wpAnyH_take (i := 20) (v := .int .i64 z2) rfl (by kernel_rfl) (by kernel_rfl) (by kernel_rfl) (fun _ _ _ h => h) (Or.inl ⟨by rfl, fun W' hW => by go_simp⟩) hSWb ?_
              refine wpAnyH_ready (rs := [29]) (by kernel_rfl) (by simp) ?_
              refine AllReadyH.cons rfl (fun K hK => ?_) AllReadyH.nil
              go_simp
              go_at_call 11
              refine (K20.out _).mono ?_
              rintro e Wc ⟨rfl, hb⟩
              have HHWc := hide (HHWb.out.keep hb)
              have HOWc := hide (HOWb.out.keep hb)
              have hSWc := SI.out _ HHWc.out
              clear hb
              go_simp
              refine hK.out _ _ hSWc (fun _ => ?_)
              clear hK K
              refine wpAnyH_ready (rs := [30]) (by kernel_rfl) (by simp) ?_
              refine AllReadyH.cons rfl (fun K hK => ?_) AllReadyH.nil
              go_simp
              refine hK.out _ _ hSWc (fun _ => ?_)
              clear hK K
              refine wpAnyH_ready (rs := [31]) (by kernel_rfl) (by simp) ?_
              refine AllReadyH.cons rfl (fun K hK => ?_) AllReadyH.nil
              go_simp
              refine hK.out _ _ hSWc (fun _ => ?_)
              clear hK K
              refine wpAnyH_done (by kernel_rfl) ?_ _
              go_wp2_with fail
              go_roundw
              case rel => exact ⟨s + 1, z, us.set j true, by go_num, by omega, rfl, HHWc, HOWc, HUS1, HND1, HX1⟩
              case measure => simp [intOf] <;> omega
        · obtain rfl : s = t := by omega
          have s1 : ¬ (s : Int) < (s : Int) := by omega
          have HND1 : Hid (NoD [] ps) := hide (by have := HND.out; rw [← Hk.out, List.take_length] at this; exact this)
          have hcc : cc = x + nsd M us := by
            have := usd_nsd (us := us) (M := M) (by rw [HUS.out.1, Hm.out])
            rw [Hcst.out, HX.out]
            rw [show L.take s = L by rw [← Hn.out]; exact List.take_length, show ps.take s = ps by rw [← Hk.out]; exact List.take_length]
            omega
          have Hcc := hide hcc
          obtain ⟨xb0, xb1⟩ := hxb
          clear hcc HX HND
          obtain ⟨x0, hx0⟩ : ∃ y, x = y := ⟨_, rfl⟩
          have Hx0 := hide hx0
          clear hx0
          go_upto_region 23 with fail
          obtain ⟨wA, rfl⟩ : ∃ W, W = wr := ⟨_, rfl⟩
          go_loopw [11, 119] (fun v11 v119 wr => ∃ (g : Nat) (y : Int), v119 = .int .i64 g ∧ g ≤ m ∧ v11 = .int .i64 y ∧ Hid (Rh w0 gh wr) ∧ Hid (boolE.Own wr gu (.slice (some ⟨gu, 0, none⟩) m m) us) ∧ Hid (y = x0 + nsd (M.take g) (us.take g))) (fun _ v119 _ => m - (intOf v119).toNat)
          case atStart => exact ⟨0, x, rfl, Nat.zero_le _, rfl, HH, HO, hide (by rw [Hx0.out]; simp [nsd])⟩
          case round =>
            clear HH HO
            obtain ⟨g, y, rfl, hg, rfl, HH, HO, HY⟩ := hrel
            by_cases hgm : g < m
            · have g0 : (0 : Int) ≤ (g : Int) := by omega
              have g1 : (g : Int) < (m : Int) := by omega
              obtain ⟨⟨x2, y2⟩, hl2⟩ : ∃ q, M[g]? = some q := ⟨_, List.getElem?_eq_getElem (by rw [Hm.out]; exact hgm)⟩
              obtain ⟨bm, offm, rfl, cm0, cm1⟩ := rs_at HU.out g _ hl2
              obtain ⟨ub, hub⟩ : ∃ u, us[g]? = some u := ⟨_, HUS.out.2 g hgm⟩
              obtain ⟨cu, fu⟩ := HO.out.at1 Value.bool (fun _ => rfl) rfl g _ hub
              have hst := nsd_step hl2 hub
              have hyb : -12000 ≤ y ∧ y ≤ 60000 := by
                have h2 := nsd_bd (M := M.take g) (fun q hq => HM.out.2 q (List.mem_of_mem_take hq)) (us.take g)
                rw [List.length_take] at h2
                rw [HY.out, ← Hx0.out]
                omega
              obtain ⟨yb0, yb1⟩ := hyb
              cases ub with
              | true =>
                have HY1 : Hid (y = x0 + nsd (M.take (g + 1)) (us.take (g + 1))) := hide (by rw [hst, HY.out]; simp)
                clear hst hub hl2 cm0 cm1 HY
                go_wp2_with fail
                go_roundw
                case rel => exact ⟨g + 1, y, by go_num, by omega, rfl, HH, HO, HY1⟩
                case measure => simp [intOf] <;> omega
              | false =>
                have hI2 := HM.out.2 _ (List.mem_of_getElem? hl2)
                obtain ⟨sm3, sm4⟩ := hI2.sm
                obtain ⟨d20, d21⟩ := dr_bd In.zero hI2
                have K11 := hide (fun W => rdrive_any 0 0 x2 y2 W Sm.zero Sm.zero sm3 sm4)
                have HY1 : Hid (y + 2 * dr (0, 0) (x2, y2) = x0 + nsd (M.take (g + 1)) (us.take (g + 1))) := hide (by rw [hst, HY.out]; simp [alo]; omega)
                generalize dr (0, 0) (x2, y2) = dd at *
                obtain ⟨d2, hd2⟩ : ∃ z, 2 * dd = z := ⟨_, rfl⟩
                obtain ⟨z, hz⟩ : ∃ z, y + d2 = z := ⟨_, rfl⟩
                have e1 : IntKind.i64.wrap (2 * dd) = d2 := by rw [IntKind.wrap_i64]; omega
                have e2 : IntKind.i64.wrap (y + d2) = z := by rw [IntKind.wrap_i64]; omega
                rw [hd2, hz] at HY1
                have SI : Hid (∀ W, Rh w0 gh W → W.cell? ⟨gh, 0, none⟩ = some (.int .i64 0) ∧ W.cell? ⟨gh, 1, none⟩ = some (.int .i64 0) ∧ W.cell? ⟨bm, offm + g * 2, none⟩ = some (.int .i64 x2) ∧ W.cell? ⟨bm, offm + g * 2 + 1, none⟩ = some (.int .i64 y2)) := hide (fun W h => by
                  rw [h.1.cell (p := ⟨bm, offm + g * 2, none⟩) (cell_lt cm0), h.1.cell (p := ⟨bm, offm + g * 2 + 1, none⟩) (cell_lt cm1)]
                  exact ⟨h.2.1, h.2.2, cm0, cm1⟩)
                have SD := SI
                obtain ⟨S0, hS0⟩ : ∃ S : World → Prop, S = Rh w0 gh := ⟨_, rfl⟩
                rw [← hS0] at SD
                have SI : Hid (∀ W, Rh w0 gh W → S0 W) := hide (fun W h => by rw [hS0]; exact h)
                clear hS0 hst hub hl2 cm0 cm1 HY hI2 sm3 sm4 d20 d21 hd2 hz
                have HHd := hide (HH.out.keep (Below.refl wr.heap.size wr).drew)
                have HOd := hide (HO.out.keep (Below.refl wr.heap.size wr).drew)
                have hS := SI.out _ HHd.out
                go_upto_region 26 with fail
                refine wp_region_held_drew (S := S0) (by kernel_rfl) hS (fun _ => ?_)
                refine wpAnyH_take (i := 0) (v := .int .i64 y) rfl (by kernel_rfl) (by kernel_rfl) (by kernel_rfl) (fun _ _ _ h => h) (Or.inl ⟨by rfl, fun W' hW => by go_simp⟩) hS ?_
                refine wpAnyH_take (i := 1) (v := .agg #[.int .i64 0, .int .i64 0]) rfl (by kernel_rfl) (by kernel_rfl) (by kernel_rfl) (fun _ _ _ h => h) (Or.inl ⟨by rfl, fun W' hW => by have z0 := SD.out W' hW; go_simp⟩) hS ?_
                refine wpAnyH_take (i := 2) (v := .slice (some ⟨bm, offm, none⟩) m d) rfl (by kernel_rfl) (by kernel_rfl) (by kernel_rfl) (fun _ _ _ h => h) (Or.inl ⟨by rfl, fun W' hW => by go_simp⟩) hS ?_
                refine wpAnyH_take (i := 3) (v := .int .i64 g) rfl (by kernel_rfl) (by kernel_rfl) (by kernel_rfl) (fun _ _ _ h => h) (Or.inl ⟨by rfl, fun W' hW => by go_simp⟩) hS ?_
                refine wpAnyH_take (i := 4) (v := .pointer (some ⟨bm, offm + g * 2, none⟩)) rfl (by kernel_rfl) (by kernel_rfl) (by kernel_rfl) (fun _ _ _ h => h) (Or.inl ⟨by rfl, fun W' hW => by go_simp⟩) hS ?_
                refine wpAnyH_take (i := 5) (v := .agg #[.int .i64 x2, .int .i64 y2]) rfl (by kernel_rfl) (by kernel_rfl) (by kernel_rfl) (fun _ _ _ h => h) (Or.inl ⟨by rfl, fun W' hW => by have z0 := SD.out W' hW; go_simp⟩) hS ?_
                refine wpAnyH_ready (rs := [6]) (by kernel_rfl) (by simp) ?_
                refine AllReadyH.cons rfl (fun K hK => ?_) AllReadyH.nil
                go_simp
                go_at_call 11
                refine (K11.out _).mono ?_
                rintro e Wa ⟨rfl, hb⟩
                have HHWa := hide (HHd.out.keep hb)
                have HOWa := hide (HOd.out.keep hb)
                have hSWa := SI.out _ HHWa.out
                clear hb
                go_simp
                refine hK.out _ _ hSWa (fun _ => ?_)
                clear hK K
                refine wpAnyH_ready (rs := [7]) (by kernel_rfl) (by simp) ?_
                refine AllReadyH.cons rfl (fun K hK => ?_) AllReadyH.nil
                go_simp
                refine hK.out _ _ hSWa (fun _ => ?_)
                clear hK K
                refine wpAnyH_ready (rs := [8]) (by kernel_rfl) (by simp) ?_
                refine AllReadyH.cons rfl (fun K hK => ?_) AllReadyH.nil
                go_simp
                refine hK.out _ _ hSWa (fun _ => ?_)
                clear hK K
                refine wpAnyH_ready (rs := [9]) (by kernel_rfl) (by simp) ?_
                refine AllReadyH.cons rfl (fun K hK => ?_) AllReadyH.nil
                go_simp
                refine hK.out _ _ hSWa (fun _ => ?_)
                clear hK K
                refine wpAnyH_done (by kernel_rfl) ?_ _
                go_wp2_with fail
                go_roundw
                case rel => exact ⟨g + 1, z, by go_num, by omega, rfl, HHWa, HOWa, HY1⟩
                case measure => simp [intOf] <;> omega
            · obtain rfl : g = m := by omega
              have g1 : ¬ (g : Int) < (g : Int) := by omega
              have e : y = cc := by
                rw [HY.out, Hcc.out, Hx0.out]
                rw [show M.take g = M by rw [← Hm.out]; exact List.take_length, show us.take g = us by rw [← HUS.out.1]; exact List.take_length]
              subst e
              have HPn := hide (HP3.out _ HRg.out HND1.out HH.out.1)
              go_wp2_with fail
              exact bodyPost_ret (v := .tuple #[.int .i64 y, .int .i64 0]) (by simp [results, Try.results14, go_sem]) rfl HPn.out

theorem rcost_any (a b p : Option Addr) (n c m d k c' : Nat) (L M : List (Int × Int)) (ps : List Int) (w : World) (hn : L.length = n) (hm : M.length = m) (hk : ps.length = k) (hn1 : n ≤ 100) (hm1 : m ≤ 100) (hk1 : k ≤ 100) (hv : rsE.Rd w (.slice a n c) L) (hu : rsE.Rd w (.slice b m d) M) (hq : intE.Rd w (.slice p k c') ps) :
    Calls Try.prog 14 #[.slice a n c, .slice b m d, .slice p k c'] w (CostP L M ps w) := by
  by_cases h : Alw L ∧ Alw M ∧ ps.length = L.length
  · obtain ⟨h1, h2, h3⟩ := h
    obtain rfl : k = n := by omega
    exact rcost_good a b p k c m d c' L M ps w hn hm hk hv hu hq h1 h2
  · exact rcost_bad a b p n c m d k c' L M ps w hn hm hk hn1 hm1 hk1 hv hu h
end Go.Proofs.Ytochllbnlnammaa
