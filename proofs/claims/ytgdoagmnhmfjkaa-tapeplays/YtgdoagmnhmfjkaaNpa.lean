/- A note's Kind and numbers are read: the program's parse. -/
import Derived.Test.YtgdoagmnhmfjkaaNsl
namespace Go.Proofs.Ytgdoagmnhmfjkaa
open Go.ChangeShapes Go.WideShapes Go.ChangeAt Go.RowKit
set_option linter.unusedVariables false

/-- what parse answers: the note whose body these bytes are, if there is one -/
def ParP (l : List Int) (n : Nt) (ok : Bool) : Prop := ∀ m : Nt, m.ok = true → (m.body = l ↔ ok = true ∧ n = m)
theorem parP_no {l : List Int} (h : ∀ m : Nt, m.ok = true → m.body ≠ l) (n : Nt) : ParP l n false := fun m hm => ⟨fun e => absurd e (h m hm), fun e => by simp at e⟩
theorem parP_nil (n : Nt) : ParP [] n false := parP_no (fun m _ e => by simp [Nt.body] at e) n
/-- so far: the numbers xs are read, r is left -/
structure Par (k : Int) (t : List Int) (xs : List Nat) (r : List Int) : Prop where
  eq : t = xs.flatMap num ++ r
  le : xs.length ≤ us k
/-- a number that isn't there -/
theorem Par.no {k : Int} {t : List Int} {xs : List Nat} {r : List Int} (h : Par k t xs r) (hl : xs.length < us k) (hn : ∀ n, n < 34359738368 → ∀ s, r ≠ num n ++ s) (n : Nt) : ParP (k :: t) n false := by
  refine parP_no (fun m hm e => ?_) n
  unfold Nt.body at e
  simp only [List.cons.injEq] at e
  obtain ⟨ek, et⟩ := e
  rw [h.eq] at et
  obtain ⟨zs, e1, e2⟩ := num_pf.flat xs m.vs r [] (fun _ _ => trivial) (fun _ _ => trivial) (by rw [vs_len, ek]; omega) (by simpa using et.symm)
  cases zs with
  | nil =>
    have := congrArg List.length e1
    rw [vs_len, ek, List.append_nil] at this
    omega
  | cons z zs =>
    refine hn z ?_ (zs.flatMap num) (by rw [e2]; simp)
    have := vs_lt hm z (by rw [e1]; simp)
    omega
def pad (xs : List Nat) (i : Nat) : Int := ((xs[i]?.getD 0 : Nat) : Int)
/-- all are read -/
theorem Par.yes {k : Int} {t : List Int} {xs : List Nat} {r : List Int} (h : Par k t xs r) (hl : xs.length = us k) : ParP (k :: t) ⟨k, pad xs 0, pad xs 1, pad xs 2⟩ (decide (r = [])) := by
  intro m hm
  have hk3 := us_le k
  have hvs : ∀ q : Nt, q.kind = k → q.a = pad xs 0 → q.b = pad xs 1 → q.c = pad xs 2 → q.vs = xs := by
    intro q hk h0 h1 h2
    apply List.ext_getElem?
    intro i
    rcases Nat.lt_or_ge i (us k) with hi | hi
    · rw [vs_at i (by rw [hk]; exact hi)]
      obtain ⟨y, hy⟩ : ∃ y, xs[i]? = some y := ⟨_, List.getElem?_eq_getElem (by omega)⟩
      rw [hy]
      match i with
      | 0 => simp [Nt.fs, h0, pad, hy]
      | 1 => simp [Nt.fs, h1, pad, hy]
      | 2 => simp [Nt.fs, h2, pad, hy]
      | i + 3 => omega
    · rw [List.getElem?_eq_none (by rw [vs_len, hk]; exact hi), List.getElem?_eq_none (by omega)]
  constructor
  · intro e
    unfold Nt.body at e
    simp only [List.cons.injEq] at e
    obtain ⟨ek, et⟩ := e
    rw [h.eq] at et
    obtain ⟨zs, e1, e2⟩ := num_pf.flat xs m.vs r [] (fun _ _ => trivial) (fun _ _ => trivial) (by rw [vs_len, ek]; omega) (by simpa using et.symm)
    have : zs = [] := by
      have := congrArg List.length e1
      rw [vs_len, ek, List.length_append] at this
      exact List.eq_nil_of_length_eq_zero (by omega)
    subst this
    simp at e1 e2
    refine ⟨by simp [e2], ?_⟩
    have hf := (ok_iff m).1 hm
    have key : ∀ (i : Nat) (x : Int), m.fs[i]? = some x → pad xs i = x := by
      intro i x hx
      have hb := hf.2.1 i x hx
      rcases Nat.lt_or_ge i (us k) with hi | hi
      · have := vs_at (n := m) i (by rw [ek]; exact hi)
        rw [e1, hx] at this
        simp [pad, this]
        omega
      · rw [hb.2.2 (by rw [ek]; exact hi)]
        simp [pad, List.getElem?_eq_none (show xs.length ≤ i by omega)]
    obtain ⟨mk, ma, mb, mc⟩ := m
    simp only at ek
    rw [ek, key 0 ma rfl, key 1 mb rfl, key 2 mc rfl]
  · rintro ⟨e, rfl⟩
    simp at e
    unfold Nt.body
    rw [hvs _ rfl rfl rfl rfl, h.eq, e]
    simp

def ParR (l : List Int) (w : World) (e : Ending) (w' : World) : Prop := ∃ (k x y z : Int) (ok : Bool), e = .returned (.tuple #[.agg #[.int .i64 k, .int .i64 x, .int .i64 y, .int .i64 z], .bool ok]) ∧ ParP l ⟨k, x, y, z⟩ ok ∧ Below w.heap.size w w'
theorem pad_snoc (xs : List Nat) (v : Nat) (h : xs.length < 3) : (#[Value.int .i64 (pad xs 0), .int .i64 (pad xs 1), .int .i64 (pad xs 2)]).setIfInBounds xs.length (.int .i64 (v : Int)) = #[.int .i64 (pad (xs ++ [v]) 0), .int .i64 (pad (xs ++ [v]) 1), .int .i64 (pad (xs ++ [v]) 2)] := by
  match xs, h with
  | [], _ => rfl
  | [x], _ => rfl
  | [x, y], _ => rfl
  | x :: y :: z :: t, h => simp at h; omega

set_option maxHeartbeats 4000000 in
theorem parse_nil (a : Option Addr) (c : Nat) (w : World) : Calls Try.prog 53 #[.slice a 0 c] w fun e w' => ParR [] w e w' := by
  go_enter Try.func53, Try.ntmps53
  go_wp2_with fail
  exact bodyPost_ret (v := .tuple #[.agg #[.int .i64 0, .int .i64 0, .int .i64 0, .int .i64 0], .bool false]) (by simp [results, Try.results53, go_sem]) rfl ⟨0, 0, 0, 0, false, rfl, parP_nil _, below_new _ _⟩

set_option maxHeartbeats 4000000 in
theorem parse_any {w : World} {a : Option Addr} {n c : Nat} {l : List Int} (h : Sl w a n c l) (hr : InB l) (hm : n ≤ 1000000) (hpos : 0 < n) :
    Calls Try.prog 53 #[.slice a n c] w fun e w' => ParR l w e w' := by
  have hl := h.len
  cases l with
  | nil => simp at hl; omega
  | cons k t =>
  obtain ⟨b, off, rfl, hc⟩ := h.some hpos
  have c0 := hc 0 k rfl
  rw [Nat.add_zero] at c0
  have cA : ∀ o, (w.alloc o).cell? ⟨b, off, none⟩ = some (.int .u8 k) := fun o => by rw [(below_new w o).cell (cell_lt c0)]; exact c0
  obtain ⟨k0, k1⟩ := hr k (by simp)
  have Hr : Hid (InB t) := hide (fun z hz => hr z (by simp [hz]))
  have HT := hide (h.drop 1 (by omega))
  have hcap := h.cap
  obtain ⟨N, rfl⟩ : ∃ N, n = N + 1 := ⟨n - 1, by omega⟩
  obtain ⟨C, rfl⟩ : ∃ C, c = C + 1 := ⟨c - 1, by omega⟩
  have hNC : N ≤ C := by omega
  have k22 : ∀ W, Calls Try.prog 48 #[.int .i64 k] W fun e w' => e = .returned (.int .i64 (us k)) ∧ w' = W := uses_any k
  have hu3 := us_le k
  have hPn := fun (xs : List Nat) (r : List Int) (p : Par k t xs r) (q : xs.length < us k) => p.no q
  have hPy := fun (xs : List Nat) (r : List Int) (p : Par k t xs r) (q : xs.length = us k) => p.yes q
  have HP0 : Hid (Par k t [] t) := hide ⟨by simp, by simp⟩
  have HPs : Hid (∀ xs r v s, Par k t xs r → xs.length < us k → r = num v ++ s → Par k t (xs ++ [v]) s) := hide (fun xs r v s p q e => ⟨by rw [p.eq, e]; simp, by simp; omega⟩)
  obtain ⟨u, hu⟩ : ∃ u, us k = u := ⟨_, rfl⟩
  rw [hu] at k22 hu3 hPn hPy HPs
  have HPn := hide hPn
  have HPy := hide hPy
  clear hPn hPy
  have K22 := hide k22
  have hN : ¬ ((N : Int) + 1 = 0) := by omega
  have hNb : (((N : Int) + 1) == 0) = false := by simpa using hN
  have Hm := hide hm
  simp only [List.drop_one, List.tail_cons, Nat.add_sub_cancel] at HT
  clear k22 hc c0 hl h hr hpos hm hu hcap
  have cl1 : (1 : Int) ≤ (C : Int) + 1 := by omega
  have cl2 : (N : Int) + 1 ≤ (C : Int) + 1 := by omega
  have cl3 : (1 : Int) ≤ (N : Int) + 1 := by omega
  go_enter Try.func53, Try.ntmps53
  go_upto_region 6 with fail
  have e1 : (C + 1 = 1) = (C = 0) := by apply propext; omega
  simp only [e1] at HT
  clear e1
  generalize (if C = 0 then some (Addr.mk b off none) else some (Addr.mk b (off + 1) none)) = aT at *
  have HI := hide (((Its.nil w).box1 #[.int .i64 0, .int .i64 0, .int .i64 0, .int .i64 0] 43).box1 #[.int .i64 0, .int .i64 0, .int .i64 0] 80)
  rw [show (w.alloc (.cells #[.int .i64 0, .int .i64 0, .int .i64 0, .int .i64 0] 43)).heap.size = w.heap.size + 1 by simp] at HI
  generalize (w.alloc (.cells #[.int .i64 0, .int .i64 0, .int .i64 0, .int .i64 0] 43)).alloc (.cells #[.int .i64 0, .int .i64 0, .int .i64 0] 80) = W1 at *
  go_wp2_with (go_at_call 48; refine (K22.out _).mono ?_; rintro e w3 ⟨rfl, rfl⟩)
  clear cA hN hNb cl1 cl2 cl3
  obtain ⟨gA, hgA⟩ : ∃ gA, w.heap.size + 1 = gA := ⟨_, rfl⟩
  rw [hgA] at HI ⊢
  clear hgA
  obtain ⟨gR, hgR⟩ : ∃ gR, w.heap.size = gR := ⟨_, rfl⟩
  rw [hgR] at HI ⊢
  have HgR := hide hgR
  clear hgR
  go_loopw [0, 21] (fun v i wr => Hid (∃ (j : Nat) (xs : List Nat) (r : List Int) (a' : Option Addr) (n' c' : Nat), j ≤ u ∧ i = .int .i64 j ∧ xs.length = j ∧ v = .slice a' n' c' ∧ Par k t xs r ∧ InB r ∧ n' ≤ 1000000 ∧ Sl w a' n' c' r ∧ Its w [.box gA #[.int .i64 (pad xs 0), .int .i64 (pad xs 1), .int .i64 (pad xs 2)] 80, .box gR #[.int .i64 0, .int .i64 0, .int .i64 0, .int .i64 0] 43] wr)) (fun _ i _ => 3 - (intOf i).toNat)
  case atStart => exact hide ⟨0, [], t, aT, N, C, by omega, rfl, rfl, rfl, HP0.out, Hr.out, by have := Hm.out; omega, HT.out, HI.out⟩
  case round =>
    obtain ⟨j, xs, r, a', n', c', hj, rfl, hxs, rfl, hpar, hin, hn1, hsl, hI⟩ := hrel.out
    clear hrel HI HT HP0 Hr Hm
    have Hxs := hide hxs
    have Hpar := hide hpar
    have Hin := hide hin
    have Hsl := hide hsl
    have HI := hide hI
    have hcap := hsl.cap
    have hlen := hide hsl.len
    have hsw := hsl.keep hI.bel
    clear hxs hpar hin hsl hI
    obtain ⟨r0, r1, r2, r3, rf⟩ : wr.cell? ⟨gR, 0, none⟩ = some (.int .i64 0) ∧ wr.cell? ⟨gR, 1, none⟩ = some (.int .i64 0) ∧ wr.cell? ⟨gR, 2, none⟩ = some (.int .i64 0) ∧ wr.cell? ⟨gR, 3, none⟩ = some (.int .i64 0) ∧ ∀ i, wr.frozen? ⟨gR, i, none⟩ = false := ⟨(cells_at HI.out.two 0).1, (cells_at HI.out.two 1).1, (cells_at HI.out.two 2).1, (cells_at HI.out.two 3).1, fun i => (cells_at HI.out.two i).2⟩
    obtain ⟨c0, c1, c2, cf⟩ : wr.cell? ⟨gA, 0, none⟩ = some (.int .i64 (pad xs 0)) ∧ wr.cell? ⟨gA, 1, none⟩ = some (.int .i64 (pad xs 1)) ∧ wr.cell? ⟨gA, 2, none⟩ = some (.int .i64 (pad xs 2)) ∧ ∀ i, wr.frozen? ⟨gA, i, none⟩ = false := ⟨(cells_at HI.out.one 0).1, (cells_at HI.out.one 1).1, (cells_at HI.out.one 2).1, fun i => (cells_at HI.out.one i).2⟩
    have rf0 := rf 0
    have rf1 := rf 1
    have rf2 := rf 2
    have rf3 := rf 3
    have cf0 := cf 0
    have cf1 := cf 1
    have cf2 := cf 2
    clear rf cf
    by_cases hlt : j < u
    · have hlt' : (j : Int) < u := by omega
      have K29 := hide (number_any hsw.rd Hin.out (by rw [hsw.len]; exact hn1))
      have Hnone := hide (HPn.out xs r Hpar.out (by rw [Hxs.out]; exact hlt))
      have Hsome := hide (fun v s => HPs.out xs r v s Hpar.out (by rw [Hxs.out]; exact hlt))
      clear hsw
      go_upto_region 10 with (go_at_call 56; refine K29.out.mono ?_; rintro e w5 ⟨x, s, rfl, hnum, rfl⟩)
      rcases hnum with ⟨v, hv, rfl, rfl, r', hr'⟩ | ⟨rfl, rfl, hno⟩
      · obtain ⟨q, hq⟩ : ∃ q, (num v).length = q := ⟨_, rfl⟩
        have hq1 : 1 ≤ q := by rw [← hq]; exact num_one v
        have hqn : q ≤ n' := by rw [← hlen.out, hr', List.length_append]; omega
        have HinR : Hid (InB r') := hide (by have := Hin.out; rw [hr'] at this; exact this.right)
        obtain ⟨b', off', rfl, _⟩ := Hsl.out.some (by omega)
        have HD := hide (Hsl.out.drop q hqn)
        have hdrop : r.drop q = r' := by rw [hr', ← hq, List.drop_left]
        rw [hdrop] at HD
        have Hpar2 := hide (Hsome.out v r' hr')
        rw [hq]
        clear hdrop hq hr' K29 Hsome Hnone Hin
        have qz : ¬ ((q : Int) = 0) := by omega
        have qb : ((q : Int) == 0) = false := by simpa using qz
        have q1 : (q : Int) ≤ n' := by omega
        have q2 : (n' : Int) ≤ c' := by omega
        have q3 : (q : Int) ≤ c' := by omega
        have h3 : j = 0 ∨ j = 1 ∨ j = 2 := by omega
        rcases h3 with rfl | rfl | rfl
        · go_upto_region 14 with fail
          generalize (if c' = q then some (Addr.mk b' off' none) else some (Addr.mk b' (off' + q) none)) = aD at *
          have HI2 := hide (HI.out.put 0 (.int .i64 (v : Int)))
          have hps := pad_snoc xs v (by rw [Hxs.out]; omega)
          rw [Hxs.out] at hps
          rw [hps] at HI2
          clear hps HI
          go_wp2_with fail
          go_roundw
          case rel => exact hide ⟨1, xs ++ [v], r', aD, n' - q, c' - q, by omega, by go_num, by simp [Hxs.out], rfl, Hpar2.out, HinR.out, by omega, HD.out, HI2.out⟩
          case measure => simp [intOf]
        · go_upto_region 14 with fail
          generalize (if c' = q then some (Addr.mk b' off' none) else some (Addr.mk b' (off' + q) none)) = aD at *
          have HI2 := hide (HI.out.put 1 (.int .i64 (v : Int)))
          have hps := pad_snoc xs v (by rw [Hxs.out]; omega)
          rw [Hxs.out] at hps
          rw [hps] at HI2
          clear hps HI
          go_wp2_with fail
          go_roundw
          case rel => exact hide ⟨2, xs ++ [v], r', aD, n' - q, c' - q, by omega, by go_num, by simp [Hxs.out], rfl, Hpar2.out, HinR.out, by omega, HD.out, HI2.out⟩
          case measure => simp [intOf]
        · go_upto_region 14 with fail
          generalize (if c' = q then some (Addr.mk b' off' none) else some (Addr.mk b' (off' + q) none)) = aD at *
          have HI2 := hide (HI.out.put 2 (.int .i64 (v : Int)))
          have hps := pad_snoc xs v (by rw [Hxs.out]; omega)
          rw [Hxs.out] at hps
          rw [hps] at HI2
          clear hps HI
          go_wp2_with fail
          go_roundw
          case rel => exact hide ⟨3, xs ++ [v], r', aD, n' - q, c' - q, by omega, by go_num, by simp [Hxs.out], rfl, Hpar2.out, HinR.out, by omega, HD.out, HI2.out⟩
          case measure => simp [intOf]
      · have HP := hide (Hnone.out hno nz)
        clear hno K29
        go_wp2_with fail
        refine bodyPost_ret (v := .tuple #[.agg #[.int .i64 0, .int .i64 0, .int .i64 0, .int .i64 0], .bool false]) (by simp [results, Try.results53, go_sem, r0, r1, r2, r3]) rfl ⟨0, 0, 0, 0, false, rfl, HP.out, ?_⟩
        exact below_put4 HI.out.bel _ (Nat.le_of_eq HgR.out) _ _ _ _
    · obtain rfl : j = u := by omega
      have hlt' : ¬ ((j : Int) < (j : Int)) := by omega
      have HP := hide (HPy.out xs r Hpar.out Hxs.out)
      by_cases hr0 : n' = 0
      · have q0 : ((n' : Int) == 0) = true := by rw [hr0]; rfl
        have Hr0 : Hid (r = []) := hide (List.eq_nil_of_length_eq_zero (by rw [hlen.out]; exact hr0))
        clear hr0
        go_wp2_with fail
        have HP2 := HP.out
        rw [Hr0.out] at HP2
        refine bodyPost_ret (v := .tuple #[.agg #[.int .i64 k, .int .i64 (pad xs 0), .int .i64 (pad xs 1), .int .i64 (pad xs 2)], .bool true]) (by simp [results, Try.results53, go_sem, r0, r1, r2, r3]) rfl ⟨k, _, _, _, true, rfl, HP2, ?_⟩
        exact below_put4 HI.out.bel _ (Nat.le_of_eq HgR.out) _ _ _ _
      · have q0 : ((n' : Int) == 0) = false := by rw [beq_eq_false_iff_ne]; omega
        have Hr0 : Hid (r ≠ []) := hide (fun e => hr0 (by rw [← hlen.out, e]; rfl))
        go_wp2_with fail
        have HP2 := HP.out
        rw [show decide (r = []) = false from decide_eq_false Hr0.out] at HP2
        refine bodyPost_ret (v := .tuple #[.agg #[.int .i64 k, .int .i64 (pad xs 0), .int .i64 (pad xs 1), .int .i64 (pad xs 2)], .bool false]) (by simp [results, Try.results53, go_sem, r0, r1, r2, r3]) rfl ⟨k, _, _, _, false, rfl, HP2, ?_⟩
        exact below_put4 HI.out.bel _ (Nat.le_of_eq HgR.out) _ _ _ _
end Go.Proofs.Ytgdoagmnhmfjkaa
