/- The document's search for the best pairing. -/
import Derived.Test.YtochllbnlnammaaPrs
import Derived.Test.YtochllbnlnammaaPrt
namespace Go.Proofs.Ytochllbnlnammaa
open Go.RowKit
set_option linter.unusedVariables false

theorem own_form {w : World} {B : Nat} {v : Value} {xs : List Int} (h : intE.Own w B v xs) : ∃ g c, v = .slice g xs.length c ∧ xs.length ≤ c := by
  rcases h.2 with ⟨h, h'⟩ | ⟨g, cap, cur, h, _, _, h4, _⟩
  · exact ⟨none, 0, by rw [h, h'], by omega⟩
  · exact ⟨_, cap, h, h4⟩
theorem tot_pos (L : List (Int × Int)) : 0 ≤ tot L := by
  induction L with
  | nil => simp [tot]
  | cons p L ih =>
    have e : tot (p :: L) = 2 * dr (0, 0) p + tot L := rfl
    have hd : 0 ≤ dr (0, 0) p := by unfold dr ad; (repeat' split) <;> omega
    omega
/-- what is saved is no more than what is driven -/
theorem tp_tot (L M : List (Int × Int)) (r left : Nat) (hr : r ≤ L.length) : tp (sg L M) M.length L.length r left ≤ tot (L.drop (L.length - r)) := by
  induction r generalizing left with
  | zero => rw [tp]; exact tot_pos _
  | succ r ih =>
    rw [tp]
    have hk : L.length - (r + 1) < L.length := by omega
    have ed : L.drop (L.length - (r + 1)) = L[L.length - (r + 1)] :: L.drop (L.length - r) := by
      rw [List.drop_eq_getElem_cons hk, show L.length - (r + 1) + 1 = L.length - r by omega]
    have et : tot (L.drop (L.length - (r + 1))) = 2 * dr (0, 0) L[L.length - (r + 1)] + tot (L.drop (L.length - r)) := by rw [ed]; rfl
    have hd : 0 ≤ dr (0, 0) L[L.length - (r + 1)] := by unfold dr ad; (repeat' split) <;> omega
    rcases lsg_cases (row := sg L M (L.length - (r + 1))) (nx := tp (sg L M) M.length L.length r) (left := left) M.length with ⟨_, h2⟩ | ⟨g, h1, _, _, h4⟩
    · have := ih left (by omega); omega
    · have h5 := ih (clr left g) (by omega)
      have h6 : sg L M (L.length - (r + 1)) g ≤ 2 * dr (0, 0) L[L.length - (r + 1)] := by
        unfold sg
        rw [List.getD_eq_getElem?_getD, List.getElem?_eq_getElem hk]
        exact sgs_le _ _
      omega
theorem sv_tot (L M : List (Int × Int)) (ps : List Int) (hl : ps.length ≤ L.length) (t : Nat) (ht : t ≤ ps.length) : sv (sg L M) (mof 0 (ps.take t)) ≤ tot (L.take t) := by
  induction t with
  | zero => simp [mof, sv, tot]
  | succ t ih =>
    have h1 := List.getElem?_eq_getElem (show t < ps.length by omega)
    have h2 := List.getElem?_eq_getElem (show t < L.length by omega)
    rw [mof_step h1, tot_take h2, sv_app]
    have hd : 0 ≤ dr (0, 0) L[t] := by unfold dr ad; (repeat' split) <;> omega
    have := ih (by omega)
    split
    · have e : sv (sg L M) [(t, (ps[t]).toNat)] = sg L M t (ps[t]).toNat := by simp [sv]
      have h6 : sg L M t (ps[t]).toNat ≤ 2 * dr (0, 0) L[t] := by
        unfold sg
        rw [List.getD_eq_getElem?_getD, h2]
        exact sgs_le _ _
      unfold alo
      omega
    · have e : sv (sg L M) [] = 0 := rfl
      unfold alo
      omega
/-- the drive of what begins so -/
def bgn (L M : List (Int × Int)) (ps : List Int) : Int := tot L + tot M - sv (sg L M) (mof 0 ps)
theorem bgn_bd {L M : List (Int × Int)} (hL : Alw L) (hM : Alw M) {ps : List Int} {r : Nat} (h : ps.length + r = L.length) (left : Nat) : 0 ≤ bgn L M ps - tp (sg L M) M.length L.length r left ∧ bgn L M ps - tp (sg L M) M.length L.length r left ≤ 100000 := by
  have h1 := tp_tot L M r left (by omega)
  have h2 := sv_tot L M ps (by omega) ps.length (Nat.le_refl _)
  rw [List.take_length] at h2
  have h3 : tot L = tot (L.take ps.length) + tot (L.drop ps.length) := by rw [← tot_app, List.take_append_drop]
  rw [show L.length - r = ps.length by omega] at h1
  have h4 := tot_pos M
  have h5 := tot_bd hL.2
  have h6 := tot_bd hM.2
  have h7 := sv_bd (sg_bd hL hM) (mof 0 ps)
  have h8 := mof_len 0 ps
  have h9 := tp_bd (sg L M) M.length L.length 2000 (by omega) (fun s g _ _ => (sg_bd hL hM s g).2) r left (by omega)
  have := hL.1
  have := hM.1
  unfold bgn
  omega
theorem bgn_alone (L M : List (Int × Int)) (ps : List Int) : bgn L M (ps ++ [-1]) = bgn L M ps := by
  unfold bgn
  rw [mof_app]
  simp [mof]
theorem bgn_pair (L M : List (Int × Int)) (ps : List Int) (g : Nat) : bgn L M (ps ++ [(g : Int)]) = bgn L M ps - sg L M ps.length g := by
  unfold bgn
  rw [mof_app, sv_app]
  have : sv (sg L M) (mof (0 + ps.length) [(g : Int)]) = sg L M ps.length g := by simp [mof, sv]
  rw [this]; omega

/-- what is left behind these -/
def Lft (m l : Nat) (ps : List Int) : Prop := l < 2 ^ m ∧ ∀ g, g < m → l.testBit g = !decide ((g : Int) ∈ ps)
theorem Lft.alone {m l : Nat} {ps : List Int} (h : Lft m l ps) : Lft m l (ps ++ [-1]) := ⟨h.1, fun g hg => by
  rw [h.2 g hg]
  congr 1
  rw [Bool.eq_iff_iff, decide_eq_true_iff, decide_eq_true_iff]
  simp⟩
theorem Lft.pair {m l g : Nat} {ps : List Int} (h : Lft m l ps) (hg : g < m) (hb : l.testBit g = true) : Lft m (clr l g) (ps ++ [(g : Int)]) := ⟨clr_lt h.1 hg, fun g' hg' => by
  rw [clr_bit_off hb, h.2 g' hg']
  by_cases e : g = g'
  · subst e; simp
  · simp only [e, decide_false, Bool.not_false, Bool.and_true]
    congr 1
    rw [Bool.eq_iff_iff, decide_eq_true_iff, decide_eq_true_iff]
    simp; omega⟩

/-- the search, behind some candidates -/
def Bi (w : World) (n m l r : Nat) (L M : List (Int × Int)) (ps : List Int) (v10 v11 v12 : Value) (W : World) : Prop := Below w.heap.size w W ∧
  ((v12 = .int .i64 (-1) ∧ v10 = .slice none 0 0 ∧ v11 = .int .i64 (-1)) ∨
   ∃ (t : Nat) (a' : Option Addr) (c' : Nat), v12 = .int .i64 t ∧ t ≤ m ∧ v10 = .slice a' n c' ∧ v11 = .int .i64 (bgn L M ps - mxg (sg L M (n - (r + 1))) (tp (sg L M) m n r) l t) ∧
     intE.Rd W (.slice a' n c') (ps ++ lsg (sg L M (n - (r + 1))) (tp (sg L M) m n r) l t :: lst (sg L M) m n r (lf l (lsg (sg L M (n - (r + 1))) (tp (sg L M) m n r) l t))))

/-- what the search answers -/
def RbP (n m l r : Nat) (L M : List (Int × Int)) (ps : List Int) (w : World) (e : Ending) (w' : World) : Prop := ∃ a' c', e = .returned (.tuple #[.slice a' n c', .int .i64 (bgn L M ps - tp (sg L M) m n r l)]) ∧ intE.Rd w' (.slice a' n c') (ps ++ lst (sg L M) m n r l) ∧ Below w.heap.size w w'

section
variable (a b : Option Addr) (n c m d : Nat) (L M : List (Int × Int))
set_option maxRecDepth 100000 in
set_option maxHeartbeats 2000000 in
theorem rbest_zero (hn : L.length = n) (hm : M.length = m) (h1 : Alw L) (h2 : Alw M) (p : Option Addr) (c' l : Nat) (ps : List Int) (w : World) (hv : rsE.Rd w (.slice a n c) L) (hu : rsE.Rd w (.slice b m d) M) (hq : intE.Rd w (.slice p n c') ps) (hk : ps.length = n) (hr : Rg m ps) (hd : NoD [] ps) :
    Calls Try.prog 27 #[.slice a n c, .slice b m d, .slice p n c'] w (RbP n m l 0 L M ps w) := by
  obtain ⟨w0, rfl⟩ : ∃ w0, w0 = w := ⟨_, rfl⟩
  have n6 : n ≤ 6 := by rw [← hn]; exact h1.1
  have m6 : m ≤ 6 := by rw [← hm]; exact h2.1
  have K14 : Hid (Calls Try.prog 14 #[.slice a n c, .slice b m d, .slice p n c'] w0 fun e w' => e = .returned (.tuple #[.int .i64 (cst L M ps), .int .i64 0]) ∧ Below w0.heap.size w0 w') := hide (by
    have h := rcost_any a b p n c m d n c' L M ps w0 hn hm hk (by omega) (by omega) (by omega) hv hu hq
    unfold CostP at h
    obtain ⟨e1, e2⟩ := cstC_ok ⟨h1, h2, by rw [hk, hn]⟩ (by rw [hm]; exact hr) hd
    rw [e1, e2] at h
    exact h)
  have HP : Hid (∀ W, Below w0.heap.size w0 W → RbP n m l 0 L M ps w0 (.returned (.tuple #[.slice p n c', .int .i64 (cst L M ps)])) W) := hide (fun W h => ⟨p, c', by rw [show bgn L M ps - tp (sg L M) m n 0 l = cst L M ps by unfold bgn cst; rw [tp]; omega], by rw [lst, List.append_nil]; exact hq.keep h, h⟩)
  generalize cst L M ps = cc at *
  clear hn hm h1 h2 hv hu hq hk hr hd
  go_enter Try.func27, Try.ntmps27
  go_wp2_with (go_at_call 14; refine (K14.out).mono ?_; rintro e W1 ⟨rfl, hb⟩; have HB := hide hb; clear hb)
  exact bodyPost_ret (v := .tuple #[.slice p n c', .int .i64 cc]) (by simp [results, Try.results27, go_sem]) rfl (HP.out _ HB.out)

set_option maxRecDepth 100000 in
set_option maxHeartbeats 4000000 in
theorem rbest_succ (hn : L.length = n) (hm : M.length = m) (h1 : Alw L) (h2 : Alw M) (r : Nat) (hr1 : r + 1 ≤ n)
    (ih : ∀ (p : Option Addr) (c' l k : Nat) (ps : List Int) (w : World), k + r = n → rsE.Rd w (.slice a n c) L → rsE.Rd w (.slice b m d) M → intE.Rd w (.slice p k c') ps → ps.length = k → Rg m ps → NoD [] ps → Lft m l ps → Calls Try.prog 27 #[.slice a n c, .slice b m d, .slice p k c'] w (RbP n m l r L M ps w))
    (p : Option Addr) (c' l k : Nat) (ps : List Int) (w : World) (hkr : k + (r + 1) = n) (hv : rsE.Rd w (.slice a n c) L) (hu : rsE.Rd w (.slice b m d) M) (hq : intE.Rd w (.slice p k c') ps) (hk : ps.length = k) (hr : Rg m ps) (hd : NoD [] ps) (hl : Lft m l ps) :
    Calls Try.prog 27 #[.slice a n c, .slice b m d, .slice p k c'] w (RbP n m l (r + 1) L M ps w) := by
  obtain ⟨w0, rfl⟩ : ∃ w0, w0 = w := ⟨_, rfl⟩
  have n6 : n ≤ 6 := by rw [← hn]; exact h1.1
  have m6 : m ≤ 6 := by rw [← hm]; exact h2.1
  have i0 : (n : Int) ≤ 6 := by omega
  have i1 : (m : Int) ≤ 6 := by omega
  have i2 : (k : Int) < (n : Int) := by omega
  have hne : ((k : Int) == (n : Int)) = false := beq_eq_false_iff_ne.2 (by omega)
  have ek : n - (r + 1) = k := by omega
  have KI : Hid (∀ W gp cp x, Below w0.heap.size w0 W → intE.Rd W (.slice gp (k + 1) cp) (ps ++ [x]) → ∀ l', -1 ≤ x ∧ x < (m : Int) → (x = -1 ∨ x ∉ ps) → Lft m l' (ps ++ [x]) → Calls Try.prog 27 #[.slice a n c, .slice b m d, .slice gp (k + 1) cp] W (RbP n m l' r L M (ps ++ [x]) W)) := hide (fun W gp cp x hb hrd l' hx hx2 hl' => ih gp cp l' (k + 1) (ps ++ [x]) W (by omega) (hv.keep hb) (hu.keep hb) hrd (by rw [List.length_append, hk]; rfl) (fun y hy => by
      rcases List.mem_append.1 hy with h | h
      · exact hr y h
      · simp at h; subst h; exact hx) (NoD.app.2 ⟨hd, ⟨by rcases hx2 with h | h; exact .inl h; exact .inr (by simpa using h), trivial⟩⟩) hl')
  have Hbd : Hid (∀ x l', 0 ≤ bgn L M (ps ++ [x]) - tp (sg L M) m n r l' ∧ bgn L M (ps ++ [x]) - tp (sg L M) m n r l' ≤ 100000) := hide (fun x l' => by rw [← hn, ← hm]; exact bgn_bd h1 h2 (by rw [List.length_append, hk, hn]; simp; omega) l')
  have Hal := hide (bgn_alone L M ps)
  have Hpr := hide (bgn_pair L M ps)
  rw [hk] at Hpr
  have HQ := hide hq
  have Hk := hide hk
  have Hl := hide hl
  have HRP : Hid (∀ W v10 v11, Bi w0 n m l r L M ps v10 v11 (.int .i64 m) W → RbP n m l (r + 1) L M ps w0 (.returned (.tuple #[v10, v11])) W) := hide (fun W v10 v11 h => by
    rcases h with ⟨hb, ⟨h, _⟩ | ⟨t, a', c2, h1, h2, rfl, rfl, h3⟩⟩
    · simp at h
    · obtain rfl : t = m := by simp at h1; omega
      exact ⟨a', c2, by rw [tp], by rw [lst]; exact h3, hb⟩)
  clear hn hm h1 h2 hr1 ih hkr hv hu hq hk hr hd hl
  go_enter Try.func27, Try.ntmps27
  go_upto_region 9 with fail
  go_loopw [10, 11, 12] (fun v10 v11 v12 wr => Bi w0 n m l r L M ps v10 v11 v12 wr) (fun _ _ v12 _ => ((m : Int) - intOf v12).toNat)
  case atStart => exact ⟨Below.refl _ _, .inl ⟨rfl, rfl, rfl⟩⟩
  case round =>
    have hrel' := hrel
    obtain ⟨hb, hcase⟩ := hrel
    have HB := hide hb
    clear hb
    obtain ⟨wA, rfl⟩ : ∃ W, W = wr := ⟨_, rfl⟩
    rcases hcase with ⟨rfl, rfl, rfl⟩ | ⟨t, a10, c10, rfl, ht, rfl, rfl, hrd⟩
    · clear hrel'
      have q0 : (-1 : Int) < (m : Int) := by omega
      go_upto_region 13 with fail
      go_loopw [13, 41] (fun v13 v41 wr => ∃ i : Nat, v41 = .int .i64 i ∧ i ≤ k ∧ v13 = .bool false ∧ wr = wA) (fun _ v41 _ => k - (intOf v41).toNat)
      case atStart => exact ⟨0, rfl, Nat.zero_le _, rfl, rfl⟩
      case round =>
        obtain ⟨i, rfl, hi, rfl, hw⟩ := hrel
        have hw' := hw.symm
        clear hw
        subst hw'
        by_cases hlt : i < k
        · have j0 : (0 : Int) ≤ (i : Int) := by omega
          have j1 : (i : Int) < (k : Int) := by omega
          go_wp2_with fail
          go_roundw
          case rel => exact ⟨i + 1, by go_num, by omega, rfl, trivial⟩
          case measure => simp [intOf] <;> omega
        · obtain rfl : i = k := by omega
          have j1 : ¬ (i : Int) < (i : Int) := by omega
          have HLn : Hid (([] : List Int).length + ps.length ≤ 1000000) := hide (by rw [Hk.out]; simp; omega)
          have HLn2 : Hid (ps.length + [(-1 : Int)].length ≤ 1000000) := hide (by rw [Hk.out]; simp; omega)
          have Hk2 : Hid ((ps ++ [(-1 : Int)]).length = i + 1) := hide (by rw [List.length_append, Hk.out]; rfl)
          have KC : Hid (∀ W gp cp, Below w0.heap.size w0 W → intE.Rd W (.slice gp (i + 1) cp) (ps ++ [-1]) → Calls Try.prog 27 #[.slice a n c, .slice b m d, .slice gp (i + 1) cp] W (RbP n m l r L M (ps ++ [-1]) W)) := hide (fun W gp cp hb hrd => KI.out W gp cp (-1) hb hrd l ⟨by omega, by omega⟩ (.inl rfl) Hl.out.alone)
          have hnb := Hbd.out (-1) l
          unfold RbP at KC
          rw [Hal.out] at KC hnb
          have HBi : Hid (∀ W v15 c15, Below w0.heap.size w0 W → intE.Rd W (.slice v15 n c15) ((ps ++ [-1]) ++ lst (sg L M) m n r l) → Bi w0 n m l r L M ps (.slice v15 n c15) (.int .i64 (bgn L M ps - tp (sg L M) m n r l)) (.int .i64 0) W) := hide (fun W v15 c15 hb hrd => ⟨hb, .inr ⟨0, v15, c15, rfl, Nat.zero_le _, rfl, rfl, by
            have e : lsg (sg L M (n - (r + 1))) (tp (sg L M) m n r) l 0 = -1 := rfl
            rw [e]
            have e2 : lf l (-1) = l := rfl
            rw [e2]
            simpa using hrd⟩⟩)
          generalize bgn L M ps - tp (sg L M) m n r l = nn at *
          obtain ⟨nb0, nb1⟩ := hnb
          clear Hal Hpr KI Hbd
          go_wp2_with (first
            | (at_builtin; refine intE.wp (w0 := wA) ((Below.refl _ _).alloc (Nat.le_refl _) _) (by rfl) _ _ rfl _ _ rfl rfl [] ps (El.Own.new intE wA wA.heap.size (Nat.le_refl _) #[] [] rfl (by decide) _ _ _ rfl rfl rfl) ((HQ.out.keep HB.out).keep ((Below.refl _ _).alloc (Nat.le_refl _) _)) HLn.out ?_; intro v64 W5 ho _ _ hb; have HO5 := hide ho; have HB5a := hide hb; clear ho hb)
            | (at_builtin; refine intE.wp (w0 := wA) (HB5a.out.alloc HB5a.out.size _) (by rfl) _ _ rfl _ _ rfl rfl ps [-1] (HO5.out.keep ((Below.refl _ _).alloc (Nat.le_refl _) _)) (int_new _ _ _ rfl) HLn2.out ?_; intro v67 W6 ho _ _ hb; obtain ⟨gp, cp, e67, _⟩ := own_form ho; rw [Hk2.out] at e67; subst e67; have HPs := hide ho.rd; have HB4 := hide (HB.out.trans (hb.mono HB.out.size)); clear ho hb)
            | (go_at_call 27; refine (KC.out _ _ _ HB4.out HPs.out).mono ?_; rintro e W9 ⟨a15, c15, rfl, hrd, hb⟩; have HB5 := hide (HB4.out.trans (hb.mono HB4.out.size)); have HR5 := hide hrd; clear hrd hb))
          go_roundw
          case rel => exact HBi.out _ _ _ HB5.out HR5.out
          case measure => simp [intOf] <;> omega
    · have HR10 := hide hrd
      clear hrd
      by_cases htm : t < m
      · clear hrel'
        have t0 : (0 : Int) ≤ (t : Int) := by omega
        have t1 : (t : Int) < (m : Int) := by omega
        have t2 : (t : Int) ≥ 0 := by omega
        have hzb : 0 ≤ bgn L M ps - mxg (sg L M (n - (r + 1))) (tp (sg L M) m n r) l t ∧ bgn L M ps - mxg (sg L M (n - (r + 1))) (tp (sg L M) m n r) l t ≤ 100000 := by
          rcases lsg_cases (row := sg L M (n - (r + 1))) (nx := tp (sg L M) m n r) (left := l) t with ⟨_, h2⟩ | ⟨g, _, _, _, h4⟩
          · have := Hbd.out (-1) l
            rw [Hal.out] at this
            rw [← h2]; exact this
          · have := Hbd.out (g : Int) (clr l g)
            rw [Hpr.out] at this
            rw [← h4, ek]
            omega
        have hm1 : mxg (sg L M (n - (r + 1))) (tp (sg L M) m n r) l (t + 1) = if l.testBit t = true then (if sg L M k t + tp (sg L M) m n r (clr l t) > mxg (sg L M (n - (r + 1))) (tp (sg L M) m n r) l t then sg L M k t + tp (sg L M) m n r (clr l t) else mxg (sg L M (n - (r + 1))) (tp (sg L M) m n r) l t) else mxg (sg L M (n - (r + 1))) (tp (sg L M) m n r) l t := by rw [mxg, ek]
        have hl1 : lsg (sg L M (n - (r + 1))) (tp (sg L M) m n r) l (t + 1) = if l.testBit t = true ∧ sg L M k t + tp (sg L M) m n r (clr l t) > mxg (sg L M (n - (r + 1))) (tp (sg L M) m n r) l t then (t : Int) else lsg (sg L M (n - (r + 1))) (tp (sg L M) m n r) l t := by rw [lsg, ek]
        have Hno : Hid (∀ W, (l.testBit t = true → ¬ sg L M k t + tp (sg L M) m n r (clr l t) > mxg (sg L M (n - (r + 1))) (tp (sg L M) m n r) l t) → Below w0.heap.size w0 W → Below wA.heap.size wA W → Bi w0 n m l r L M ps (.slice a10 n c10) (.int .i64 (bgn L M ps - mxg (sg L M (n - (r + 1))) (tp (sg L M) m n r) l t)) (.int .i64 ((t : Int) + 1)) W) := hide (fun W hc hb hb' => ⟨hb, .inr ⟨t + 1, a10, c10, by simp, htm, rfl, by
            rw [hm1]
            by_cases h : l.testBit t = true
            · rw [if_pos h, if_neg (hc h)]
            · rw [if_neg h], by
            rw [hl1, if_neg (fun h => hc h.1 h.2)]
            exact HR10.out.keep hb'⟩⟩)
        have Hyes : Hid (∀ W a15 c15, l.testBit t = true → sg L M k t + tp (sg L M) m n r (clr l t) > mxg (sg L M (n - (r + 1))) (tp (sg L M) m n r) l t → Below w0.heap.size w0 W → intE.Rd W (.slice a15 n c15) ((ps ++ [(t : Int)]) ++ lst (sg L M) m n r (clr l t)) → Bi w0 n m l r L M ps (.slice a15 n c15) (.int .i64 (bgn L M ps - sg L M k t - tp (sg L M) m n r (clr l t))) (.int .i64 ((t : Int) + 1)) W) := hide (fun W a15 c15 h hc hb hrd => ⟨hb, .inr ⟨t + 1, a15, c15, by simp, htm, rfl, by
            rw [hm1, if_pos h, if_pos hc, Int.sub_sub], by
            rw [hl1, if_pos ⟨h, hc⟩]
            have e2 : lf l (t : Int) = clr l t := by unfold lf; rw [if_neg (by omega), Int.toNat_natCast]
            rw [e2]
            simpa using hrd⟩⟩)
        have Hbit := hide (Hl.out.2 t htm)
        clear hm1 hl1
        generalize mxg (sg L M (n - (r + 1))) (tp (sg L M) m n r) l t = mx at *
        obtain ⟨z, hz⟩ : ∃ z, bgn L M ps - mx = z := ⟨_, rfl⟩
        have Hz := hide hz
        rw [hz] at hzb Hno ⊢
        obtain ⟨z0, z1⟩ := hzb
        have z2 : ¬ z < 0 := by omega
        clear hz
        go_upto_region 13 with fail
        go_loopw [13, 41] (fun v13 v41 wr => ∃ i : Nat, v41 = .int .i64 i ∧ i ≤ k ∧ v13 = .bool (decide ((t : Int) ∈ ps.take i)) ∧ wr = wA) (fun _ v41 _ => k - (intOf v41).toNat)
        case atStart => exact ⟨0, rfl, Nat.zero_le _, by simp, rfl⟩
        case round =>
          obtain ⟨i, rfl, hi, rfl, hw⟩ := hrel
          have hw' := hw.symm
          clear hw
          subst hw'
          by_cases hlt : i < k
          · have j0 : (0 : Int) ≤ (i : Int) := by omega
            have j1 : (i : Int) < (k : Int) := by omega
            obtain ⟨q, hq⟩ : ∃ q, ps[i]? = some q := ⟨_, List.getElem?_eq_getElem (by rw [Hk.out]; exact hlt)⟩
            have hst : ((t : Int) ∈ ps.take (i + 1)) ↔ ((t : Int) ∈ ps.take i ∨ q = (t : Int)) := by
              rw [List.take_add_one, hq, List.mem_append]
              simp
              exact ⟨fun h => h.imp id Eq.symm, fun h => h.imp id Eq.symm⟩
            obtain ⟨bp, offp, rfl, cp⟩ := int_at (HQ.out.keep HB.out) i q hq
            by_cases hin : (t : Int) ∈ ps.take i
            · have hb1 : decide ((t : Int) ∈ ps.take i) = true := decide_eq_true hin
              have Hb2 : Hid (true = decide ((t : Int) ∈ ps.take (i + 1))) := hide (decide_eq_true (hst.2 (.inl hin))).symm
              rw [hb1]
              clear hst hin hb1 hq
              go_wp2_with fail
              go_roundw
              case rel => exact ⟨i + 1, by go_num, by omega, by rw [← Hb2.out], trivial⟩
              case measure => simp [intOf] <;> omega
            · have hb1 : decide ((t : Int) ∈ ps.take i) = false := decide_eq_false hin
              rw [hb1]
              by_cases hqt : q = (t : Int)
              · have hbq : (q == (t : Int)) = true := beq_iff_eq.2 hqt
                have Hb2 : Hid (true = decide ((t : Int) ∈ ps.take (i + 1))) := hide (decide_eq_true (hst.2 (.inr hqt))).symm
                clear hst hin hb1 hq hqt
                go_wp2_with fail
                go_roundw
                case rel => exact ⟨i + 1, by go_num, by omega, by rw [← Hb2.out], trivial⟩
                case measure => simp [intOf] <;> omega
              · have hbq : (q == (t : Int)) = false := beq_eq_false_iff_ne.2 hqt
                have Hb2 : Hid (false = decide ((t : Int) ∈ ps.take (i + 1))) := hide (decide_eq_false (fun h => by rcases hst.1 h with h | h; exact hin h; exact hqt h)).symm
                clear hst hin hb1 hq hqt
                go_wp2_with fail
                go_roundw
                case rel => exact ⟨i + 1, by go_num, by omega, by rw [← Hb2.out], trivial⟩
                case measure => simp [intOf] <;> omega
          · obtain rfl : i = k := by omega
            have j1 : ¬ (i : Int) < (i : Int) := by omega
            have htk : ps.take i = ps := by rw [← Hk.out]; exact List.take_length
            rw [htk]
            by_cases hin : (t : Int) ∈ ps
            · have hbf : ¬ l.testBit t = true := by rw [Hbit.out, decide_eq_true hin]; simp
              have HBn := hide (Hno.out _ (fun h => absurd h hbf) HB.out (Below.refl wA.heap.size wA))
              rw [decide_eq_true hin]
              clear hin htk hbf
              go_wp2_with fail
              go_roundw
              case rel => exact HBn.out
              case measure => simp [intOf] <;> omega
            · have hbt : l.testBit t = true := by rw [Hbit.out, decide_eq_false hin]; rfl
              rw [decide_eq_false hin]
              have HLn : Hid (([] : List Int).length + ps.length ≤ 1000000) := hide (by rw [Hk.out]; simp; omega)
              have HLn2 : Hid (ps.length + [(t : Int)].length ≤ 1000000) := hide (by rw [Hk.out]; simp; omega)
              have Hk2 : Hid ((ps ++ [(t : Int)]).length = i + 1) := hide (by rw [List.length_append, Hk.out]; rfl)
              have KC : Hid (∀ W gp cp, Below w0.heap.size w0 W → intE.Rd W (.slice gp (i + 1) cp) (ps ++ [(t : Int)]) → Calls Try.prog 27 #[.slice a n c, .slice b m d, .slice gp (i + 1) cp] W (RbP n m (clr l t) r L M (ps ++ [(t : Int)]) W)) := hide (fun W gp cp hb hrd => KI.out W gp cp (t : Int) hb hrd (clr l t) ⟨by omega, by omega⟩ (.inr hin) (Hl.out.pair htm hbt))
              have hnb := Hbd.out (t : Int) (clr l t)
              unfold RbP at KC
              rw [Hpr.out] at KC hnb
              have Hgt : Hid (bgn L M ps - sg L M i t - tp (sg L M) m n r (clr l t) < z ↔ sg L M i t + tp (sg L M) m n r (clr l t) > mx) := hide (by rw [← Hz.out]; omega)
              have Hyes2 := hide (fun W a15 c15 hc hb hrd => Hyes.out W a15 c15 hbt hc hb hrd)
              generalize bgn L M ps - sg L M i t - tp (sg L M) m n r (clr l t) = nn at *
              obtain ⟨nb0, nb1⟩ := hnb
              clear Hal Hpr KI Hbd Hyes htk hin
              by_cases hlz : nn < z
              · have HYe := hide (fun W a15 c15 hb hrd => Hyes2.out W a15 c15 (Hgt.out.1 hlz) hb hrd)
                clear Hyes2 Hno Hgt hbt
                go_wp2_with (first
                  | (at_builtin; refine intE.wp (w0 := wA) ((Below.refl _ _).alloc (Nat.le_refl _) _) (by rfl) _ _ rfl _ _ rfl rfl [] ps (El.Own.new intE wA wA.heap.size (Nat.le_refl _) #[] [] rfl (by decide) _ _ _ rfl rfl rfl) ((HQ.out.keep HB.out).keep ((Below.refl _ _).alloc (Nat.le_refl _) _)) HLn.out ?_; intro v64 W5 ho _ _ hb; have HO5 := hide ho; have HB5a := hide hb; clear ho hb)
                  | (at_builtin; refine intE.wp (w0 := wA) (HB5a.out.alloc HB5a.out.size _) (by rfl) _ _ rfl _ _ rfl rfl ps [(t : Int)] (HO5.out.keep ((Below.refl _ _).alloc (Nat.le_refl _) _)) (int_new _ _ _ rfl) HLn2.out ?_; intro v67 W6 ho _ _ hb; obtain ⟨gp, cp, e67, _⟩ := own_form ho; rw [Hk2.out] at e67; subst e67; have HPs := hide ho.rd; have HB4 := hide (HB.out.trans (hb.mono HB.out.size)); clear ho hb)
                  | (go_at_call 27; refine (KC.out _ _ _ HB4.out HPs.out).mono ?_; rintro e W9 ⟨a15, c15, rfl, hrd, hb⟩; have HB5 := hide (HB4.out.trans (hb.mono HB4.out.size)); have HR5 := hide hrd; clear hrd hb))
                go_roundw
                case rel => exact HYe.out _ _ _ HB5.out HR5.out
                case measure => simp [intOf] <;> omega
              · have HNo := hide (fun W hb hb' => Hno.out W (fun _ => by have h := Hgt.out; omega) hb hb')
                clear Hyes2 Hno Hgt hbt
                go_wp2_with (first
                  | (at_builtin; refine intE.wp (w0 := wA) ((Below.refl _ _).alloc (Nat.le_refl _) _) (by rfl) _ _ rfl _ _ rfl rfl [] ps (El.Own.new intE wA wA.heap.size (Nat.le_refl _) #[] [] rfl (by decide) _ _ _ rfl rfl rfl) ((HQ.out.keep HB.out).keep ((Below.refl _ _).alloc (Nat.le_refl _) _)) HLn.out ?_; intro v64 W5 ho _ _ hb; have HO5 := hide ho; have HB5a := hide hb; clear ho hb)
                  | (at_builtin; refine intE.wp (w0 := wA) (HB5a.out.alloc HB5a.out.size _) (by rfl) _ _ rfl _ _ rfl rfl ps [(t : Int)] (HO5.out.keep ((Below.refl _ _).alloc (Nat.le_refl _) _)) (int_new _ _ _ rfl) HLn2.out ?_; intro v67 W6 ho _ _ hb; obtain ⟨gp, cp, e67, _⟩ := own_form ho; rw [Hk2.out] at e67; subst e67; have HPs := hide ho.rd; have HB4a := hide hb; have HB4 := hide (HB.out.trans (hb.mono HB.out.size)); clear ho hb)
                  | (go_at_call 27; refine (KC.out _ _ _ HB4.out HPs.out).mono ?_; rintro e W9 ⟨a15, c15, rfl, hrd, hb⟩; have HB5 := hide (HB4.out.trans (hb.mono HB4.out.size)); have HB6 := hide (HB4a.out.trans (hb.mono HB4a.out.size)); clear hrd hb))
                go_roundw
                case rel => exact HNo.out _ HB5.out HB6.out
                case measure => simp [intOf] <;> omega
      · obtain rfl : t = m := by omega
        have t1 : ¬ (t : Int) < (t : Int) := by omega
        have HF := hide (HRP.out _ _ _ hrel')
        clear hrel'
        generalize bgn L M ps - mxg (sg L M (n - (r + 1))) (tp (sg L M) t n r) l t = z at *
        go_wp2_with fail
        exact bodyPost_ret (v := .tuple #[.slice a10 n c10, .int .i64 z]) (by simp [results, Try.results27, go_sem]) rfl HF.out

theorem rbest_any (hn : L.length = n) (hm : M.length = m) (h1 : Alw L) (h2 : Alw M) (r : Nat) (hr : r ≤ n) (p : Option Addr) (c' l k : Nat) (ps : List Int) (w : World) (hkr : k + r = n) (hv : rsE.Rd w (.slice a n c) L) (hu : rsE.Rd w (.slice b m d) M) (hq : intE.Rd w (.slice p k c') ps) (hk : ps.length = k) (hrg : Rg m ps) (hd : NoD [] ps) (hl : Lft m l ps) :
    Calls Try.prog 27 #[.slice a n c, .slice b m d, .slice p k c'] w (RbP n m l r L M ps w) := by
  induction r generalizing p c' l k ps w with
  | zero =>
    obtain rfl : k = n := by omega
    exact rbest_zero a b k c m d L M hn hm h1 h2 p c' l ps w hv hu hq hk hrg hd
  | succ r ih => exact rbest_succ a b n c m d L M hn hm h1 h2 r hr (fun p c' l k ps w h3 h4 h5 h6 h7 h8 h9 h10 => ih (by omega) p c' l k ps w h3 h4 h5 h6 h7 h8 h9 h10) p c' l k ps w hkr hv hu hq hk hrg hd hl
end
end Go.Proofs.Ytochllbnlnammaa
