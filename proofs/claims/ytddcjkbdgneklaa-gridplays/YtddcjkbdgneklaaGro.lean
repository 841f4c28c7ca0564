/- The document's Plan. -/
import Derived.Test.YtddcjkbdgneklaaGrn
namespace Go.Proofs.Ytddcjkbdgneklaa
open Go.RowKit
set_option linter.unusedVariables false

/-- the totes that are still ahead, and the rack as it is by then -/
def Pq (t : Int) (i : Nat) (R : Rack) (L : List (Nat × Nat)) (xs : List Int) : Prop := ∃ (d : Nat) (base : List Int), R[i]? = some (d, base ++ [t] ++ xs.reverse) ∧ Agr L R i
theorem Pq.step {t : Int} {i j : Nat} {R : Rack} {L : List (Nat × Nat)} {x : Int} {xs : List Int} (h : Pq t i R L (x :: xs)) (hk : bst L (i : Int) = (j : Int)) : doC R ⟨x, i, j⟩ = 0 ∧ Pq t i (doR R ⟨x, i, j⟩) (inc L j) xs := by
  obtain ⟨d, base, hR, hA⟩ := h
  have hil := idx_lt hR
  obtain ⟨k, l, hk', hl, hki, hl2⟩ := bst_in (L := L) (i := i) (by rw [hk]; omega)
  obtain rfl : j = k := by omega
  have hl' := hl
  rw [hA.2 j hki] at hl'
  have hkR : j < R.length := by rw [← hA.1]; exact idx_lt hl
  obtain ⟨n, hn⟩ : ∃ n, R[j]? = some n := ⟨_, List.getElem?_eq_getElem hkR⟩
  rw [lds_at hn] at hl'
  cases hl'
  simp only at hl2
  have hlast : (base ++ [t] ++ (x :: xs).reverse).getLast? = some x := by rw [List.reverse_cons, ← List.append_assoc]; exact List.getLast?_concat
  have hdrop : (base ++ [t] ++ (x :: xs).reverse).dropLast = base ++ [t] ++ xs.reverse := by
    rw [List.reverse_cons, ← List.append_assoc, List.dropLast_concat]
  have hc : doC R ⟨x, i, j⟩ = 0 := by
    unfold doC
    rw [if_neg (by simp only; omega), if_neg, if_neg]
    · simp only [Int.toNat_natCast, ln_at hn]; omega
    · simp only [Int.toNat_natCast, ln_at hR, hlast]; simp
  refine ⟨hc, ?_⟩
  rcases do_form R ⟨x, i, j⟩ with ⟨e, _⟩ | ⟨_, i', q, hi', hq, _, ⟨ho, _⟩ | ⟨j', n', hj', hij', hn', _, e⟩⟩
  · exact absurd hc e
  · simp only at ho; omega
  · simp only at hi' hj' e
    obtain rfl : i = i' := by omega
    obtain rfl : j = j' := by omega
    rw [hR] at hq
    cases hq
    rw [hn] at hn'
    cases hn'
    simp only [hdrop] at e
    have hset : (R.set i (d, base ++ [t] ++ xs.reverse))[j]? = some n := by rw [set_off hij']; exact hn
    refine ⟨d, base, ?_, ⟨?_, fun q hq => ?_⟩⟩
    · rw [e, set_off (fun e => hij' e.symm), set_at hR]
    · rw [e, inc_len, List.length_set, List.length_set]; exact hA.1
    · rw [e, inc_at hl]
      by_cases e' : j = q
      · subst e'
        rw [set_at hl, lds_at (set_at hset)]
        simp
        omega
      · rw [set_off e', hA.2 q hq]
        unfold lds
        rw [List.getElem?_map, List.getElem?_map, set_off e', set_off (fun e => hq e.symm)]

def mrE : El Try.prog Mv where
  t := 44
  e := 52
  k := 3
  by' := 24
  z := .agg #[.int .i64 0, .int .i64 0, .int .i64 0]
  enc m := [.int .i64 m.t, .int .i64 m.f, .int .i64 m.o]
  ht := Try.underlying44
  info := by kernel_rfl
  zc := rfl
  kpos := by omega
  bsm := by omega
  len _ := rfl
  one x v hv := by simp at hv; rcases hv with rfl | rfl | rfl <;> rfl
theorem mr_new (w : World) (t f o : Int) (g : Nat) (hg : g = w.heap.size) : mrE.Rd (w.alloc (.cells #[.int .i64 t, .int .i64 f, .int .i64 o] 52)) (.slice (some ⟨g, 0, none⟩) 1 1) [⟨t, f, o⟩] :=
  (El.Own.new mrE w w.heap.size (Nat.le_refl _) _ [⟨t, f, o⟩] rfl (by simp) _ _ _ hg rfl rfl).rd
theorem mr_at {w : World} {a : Option Addr} {n c : Nat} {ms : List Mv} (h : mrE.Rd w (.slice a n c) ms) (i : Nat) (m : Mv) (hp : ms[i]? = some m) : ∃ b off, a = some ⟨b, off, none⟩ ∧ w.cell? ⟨b, off + i * 3, none⟩ = some (.int .i64 m.t) ∧ w.cell? ⟨b, off + i * 3 + 1, none⟩ = some (.int .i64 m.f) ∧ w.cell? ⟨b, off + i * 3 + 2, none⟩ = some (.int .i64 m.o) := by
  obtain ⟨b, off, e, hc⟩ := El.Rd.at h i m hp
  exact ⟨b, off, e, hc 0 (by decide), hc 1 (by decide), hc 2 (by decide)⟩

/-- Plan's world: the rack's box, what it holds, those ahead, the moves so far -/
structure PQ (w0 : World) (h B : Nat) (n : Nat) (a2 : Option Addr) (c2 : Nat) (es : List LnV) (R : Rack) (va : Value) (A : List Int) (vm : Value) (ms : List Mv) (W : World) : Prop where
  x : X1 w0 h (.slice a2 n c2) W
  dr : DR W B a2 n c2 es R
  wf : Wf R
  ah : intE.Own W h va A
  mv : mrE.Own W h vm ms
section
variable {w0 W W' : World} {h B n : Nat} {a2 : Option Addr} {c2 : Nat} {es : List LnV} {R : Rack} {va vm : Value} {A : List Int} {ms : List Mv}
theorem PQ.keep (p : PQ w0 h B n a2 c2 es R va A vm ms W) (hb : Below W.heap.size W W') : PQ w0 h B n a2 c2 es R va A vm ms W' := ⟨p.x.keep hb, p.dr.keep hb, p.wf, p.ah.keep hb, p.mv.keep hb⟩
/-- the rack is another one -/
theorem PQ.set (p : PQ w0 h B n a2 c2 es R va A vm ms W) {a3 : Option Addr} {c3 : Nat} {es3 : List LnV} {R3 : Rack} (hd : DR W B a3 n c3 es3 R3) (hw : Wf R3) : PQ w0 h B n a3 c3 es3 R3 va A vm ms (W.setCell ⟨h, 0, none⟩ (.slice a3 n c3)) :=
  ⟨⟨p.x.bel.setCell (p := ⟨h, 0, none⟩) (Nat.le_refl _) _, by rw [heap_put p.x.b1]; rfl⟩, hd.box p.x.b1 (by decide) (by decide), hw, own_set_other p.ah (zown_ne p.ah p.x.b1 (by decide)), own_set_other p.mv (zown_ne p.mv p.x.b1 (by decide))⟩
/-- a move more -/
theorem PQ.more (p : PQ w0 h B n a2 c2 es R va A vm ms W) {v' : Value} {ms' : List Mv} (ho : mrE.Own W' h v' ms') (hg : W.grownBy W' vm.ownBlock) : PQ w0 h B n a2 c2 es R va A v' ms' W' := by
  have st : ∀ (k : Nat) (C : Array Value) (tt : TypeId), W.heap[k]? = some (.cells C tt) → tt ≠ 52 → W'.heap[k]? = W.heap[k]? := fun k C tt hk ht => hg.block k (heap_lt hk) fun e => zown_ne p.mv hk ht e.symm
  have io : ∀ {B : Nat} {v : Value} {xs : List Int}, intE.Own W B v xs → intE.Own W' B v xs := fun hh => own_chg hh fun g cur _ hc => st g cur _ hc (by decide)
  refine ⟨⟨p.x.bel.grown hg (Nat.le_of_lt (heap_lt p.x.b1)) (fun k hk => p.mv.ge k hk), by rw [st _ _ _ p.x.b1 (by decide)]; exact p.x.b1⟩, ⟨own_chg p.dr.row fun g cur _ hc => st g cur _ hc (by decide), p.dr.en, p.dr.rn, p.dr.n32, fun i e l h1 h2 => ⟨(p.dr.at' i e l h1 h2).1, (p.dr.at' i e l h1 h2).2.1, io (p.dr.at' i e l h1 h2).2.2⟩, p.dr.bd⟩, p.wf, io p.ah, ho⟩
end

section
variable {B : Nat} {a : Option Addr} {n c : Nat} {es : List LnV} {R : Rack}
/-- Plan answers so -/
def PlP (h : Nat) (w0 : World) (ms : List Mv) (cd : Int) (e : Ending) (w' : World) : Prop := ∃ a' c', e = .returned (.tuple #[.slice a' ms.length c', .int .i64 cd]) ∧ mrE.Own w' h (.slice a' ms.length c') ms ∧ Below h w0 w'
set_option maxRecDepth 100000 in
set_option maxHeartbeats 8000000 in
theorem rplan_any (t : Int) (w : World) (hr : DR w B a n c es R) (hB : B ≤ w.heap.size) (hwf : Wf R) :
    Calls Try.prog 16 #[.agg #[.slice a n c], .int .i64 t] w (PlP w.heap.size w (planM R t) (planC R t)) := by
  obtain ⟨w0, rfl⟩ : ∃ w0, w0 = w := ⟨_, rfl⟩
  obtain ⟨h, hh⟩ : ∃ h, w0.heap.size = h := ⟨_, rfl⟩
  have HX0 := hide (X1.new w0 (.slice a n c) h hh)
  have HD : Hid (∀ W, Below h w0 W → DR W B a n c es R) := hide (fun W hb => hr.keep (by rw [hh]; exact hb))
  have HBh : Hid (B ≤ h) := hide (by rw [← hh]; exact hB)
  have n32 := hr.n32
  have i0 : (n : Int) ≤ 32 := by omega
  have HK29 : Hid (∀ W, X1 w0 h (.slice a n c) W → _) := hide (fun W x => rwhere_any t W (HD.out W x.bel))
  obtain ⟨rc, hrc⟩ : ∃ rc, rc = planC R t := ⟨_, rfl⟩
  obtain ⟨rl, hrl⟩ : ∃ rl, rl = planM R t := ⟨_, rfl⟩
  rw [← hrc, ← hrl, hh]
  have Hrc := hide hrc
  have Hrl := hide hrl
  have Hh := hide hh
  have Hrn := hide hr.rn
  have Hbd := hide hr.bd
  have Hwf := hide hwf
  clear hr hh hB hrc hrl hwf
  go_enter Try.func16, Try.ntmps16
  go_upto_region 1 with fail
  rw [Hh.out]
  generalize w0.alloc (.cells #[.slice a n c] 31) = W1 at *
  have x0 := HX0.out.cell
  have K29 := hide (HK29.out W1 HX0.out)
  rcases whr_form R t with ⟨hw, hno⟩ | ⟨i, l, hw, hil, hl, hm, hno⟩
  · have e1 : planC R t = 160 := if_pos hw
    have e2 : planM R t = [] := if_pos hw
    have g1 := Hrc.out.trans e1
    have g2 := Hrl.out.trans e2
    subst g1 g2
    rw [hw] at K29
    clear e1 e2 hw hno Hrc Hrl
    go_wp2_with (go_at_call 29; refine K29.out.mono ?_; rintro e W2 ⟨rfl, hb⟩; have HX2 := hide (HX0.out.keep hb); clear hb)
    go_ret2
    exact ⟨none, 0, rfl, El.Own.nil _ _ _, HX2.out.bel⟩
  obtain ⟨p, hp, hpl, hpx⟩ := loc_in hm
  rw [hw] at K29
  have eA : ahx R t = ahd l.2 p := by unfold ahx; rw [hw, Int.toNat_natCast, ln_at hl, hp, Int.toNat_natCast]
  obtain ⟨A, hA⟩ : ∃ A, ahd l.2 p = A := ⟨_, rfl⟩
  rw [hA] at eA
  have e1 : planC R t = if pln (i : Int) (lds R) A = none then 5 else 0 := by unfold planC; rw [hw, eA, if_neg (by omega)]
  have e2 : planM R t = match pln (i : Int) (lds R) A with | none => [] | some ms => ms ++ [⟨t, (i : Int), -1⟩] := by unfold planM; rw [hw, eA, if_neg (by omega)]; rfl
  obtain ⟨res, hres⟩ : ∃ res, pln (i : Int) (lds R) A = res := ⟨_, rfl⟩
  rw [hres] at e1 e2
  have g1 := Hrc.out.trans e1
  have g2 := Hrl.out.trans e2
  have Hg1 := hide g1
  have Hg2 := hide g2
  clear e1 e2 g1 g2 Hrc Hrl
  have hbl := Hbd.out i l hl
  have hAl : A.length ≤ 8 := by rw [← hA]; simp [ahd]; omega
  have hPq : Pq t i R (lds R) (A.drop 0) := by
    refine ⟨l.1, l.2.take p, ?_, lds_len R, fun _ _ => rfl⟩
    rw [List.drop_zero, ← hA]
    have e : l.2.take p ++ [t] ++ (ahd l.2 p).reverse = l.2 := by
      unfold ahd
      rw [List.reverse_reverse]
      rw [List.getElem?_eq_getElem hpl] at hpx
      have h1 : l.2.take p ++ [t] = l.2.take (p + 1) := by rw [List.take_add_one, List.getElem?_eq_getElem hpl, Option.some.inj hpx]; rfl
      rw [h1, List.take_append_drop]
    rw [e, hl]
  have HPq := hide hPq
  have HAh : Hid (∀ W, X1 w0 h (.slice a n c) W → ∃ b off a' c', a = some ⟨b, off, none⟩ ∧ W.cell? ⟨b, off + i * 2, none⟩ = some (.int .i64 l.1) ∧ W.cell? ⟨b, off + i * 2 + 1, none⟩ = some (.slice a' l.2.length c') ∧ Calls Try.prog 34 #[.agg #[.int .i64 l.1, .slice a' l.2.length c'], .int .i64 t] W fun e w' => ∃ a3 c3, e = .returned (.tuple #[.slice a3 A.length c3, .int .i64 0]) ∧ intE.Own w' h (.slice a3 A.length c3) A ∧ Below W.heap.size W w') := hide (fun W x => by
    obtain ⟨b, off, a', c', h1, he, h2, h3, h4, _⟩ := (HD.out W x.bel).lane hl
    refine ⟨b, off, a', c', h1, h2, h3, (rahead_yes h4.rd rfl (by omega) hm hp).mono ?_⟩
    rintro e w' ⟨v, rfl, ho, hb⟩
    rw [hA] at ho
    obtain ⟨a3, c3, rfl⟩ := ho.rd.form
    exact ⟨a3, c3, rfl, ho.mono (Nat.le_of_lt (heap_lt x.b1)), hb⟩)
  obtain ⟨m, hmA⟩ : ∃ m, A.length = m := ⟨_, rfl⟩
  obtain ⟨lm, hlm⟩ : ∃ lm, l.2.length = lm := ⟨_, rfl⟩
  obtain ⟨ld, hld⟩ : ∃ ld, l.1 = ld := ⟨_, rfl⟩
  simp only [hmA, hlm, hld] at HAh
  have HmA := hide hmA
  have Hres : Hid (res = (pln (i : Int) (lds R) (A.drop 0)).map ([] ++ ·)) := hide (by rw [← hres]; simp)
  have p0 : ¬ (i : Int) < 0 := by omega
  have p1 : (0 : Int) ≤ (i : Int) := by omega
  have p2 : (i : Int) < (n : Int) := by have := Hrn.out; omega
  have p3 : (m : Int) ≤ 8 := by omega
  have hm8 : m ≤ 8 := by omega
  have K30 : Hid (∀ (W : World) (a2 : Option Addr) (c2 : Nat) (es2 : List LnV) (R2 : Rack), DR W B a2 n c2 es2 R2 → Calls Try.prog 30 #[.agg #[.slice a2 n c2], .int .i64 i] W fun e w' => e = .returned (.int .i64 (bst (lds R2) i)) ∧ Below W.heap.size W w') := hide (fun W a2 c2 es2 R2 hd => rbest_any i W hd)
  have K19 : Hid (∀ (W : World) (a2 : Option Addr) (c2 : Nat) (es2 : List LnV) (R2 : Rack) (x o : Int), DR W B a2 n c2 es2 R2 → h ≤ W.heap.size → Wf R2 → Calls Try.prog 19 #[.agg #[.slice a2 n c2], .agg #[.int .i64 x, .int .i64 i, .int .i64 o]] W fun e w' => ∃ a' c' es', e = .returned (.tuple #[.agg #[.slice a' n c'], .int .i64 (doC R2 ⟨x, i, o⟩)]) ∧ DR w' B a' n c' es' (doR R2 ⟨x, i, o⟩) ∧ Below W.heap.size W w') := hide (fun W a2 c2 es2 R2 x o hd hs hw => (rdo_any x i o W hd (by have := HBh.out; omega) hw).mono (by
    rintro e w' ⟨a', c', es', h1, h2, h3⟩
    exact ⟨a', c', es', h1, h2, h3⟩))
  generalize hL0 : lds R = L0 at *
  clear hL0
  clear hw hno hl hm hp hpl hpx eA hA hres hil hPq hmA hlm hld hbl hAl Hbd
  go_upto_region 5 with (go_at_call 29; refine K29.out.mono ?_; rintro e W2 ⟨rfl, hb⟩; have HX2 := hide (HX0.out.keep hb); clear hb)
  clear x0
  have x0 := HX2.out.cell
  obtain ⟨b, off, a', c', rfl, y0, y1, hK⟩ := HAh.out W2 HX2.out
  have K34 := hide hK
  clear hK
  go_upto_region 6 with (go_at_call 34; refine K34.out.mono ?_; rintro e W3 ⟨a3, c3, rfl, ho, hb⟩; have HX3 := hide (HX2.out.keep hb); have HO3 := hide ho; clear ho hb)
  have HP3 : Hid (PQ w0 h B n (some ⟨b, off, none⟩) c es R (.slice a3 m c3) A (.slice none 0 0) [] W3) := hide ⟨HX3.out, HD.out W3 HX3.out.bel, Hwf.out, HO3.out, El.Own.nil _ _ _⟩
  clear x0 y0 y1 HX3 HO3 HX2 HX0
  go_wp2_with fail
  go_loopw [7, 30] (fun v7 v30 wr => ∃ (k : Nat) (a2 : Option Addr) (c2 : Nat) (es2 : List LnV) (R2 : Rack) (L : List (Nat × Nat)) (ms : List Mv), v30 = .int .i64 k ∧ k ≤ m ∧ Hid (PQ w0 h B n a2 c2 es2 R2 (.slice a3 m c3) A v7 ms wr) ∧ Hid (Pq t i R2 L (A.drop k)) ∧ Hid (res = (pln (i : Int) L (A.drop k)).map (ms ++ ·)) ∧ Hid (ms.length = k)) (fun v7 v30 _ => m - (intOf v30).toNat)
  case atStart => exact ⟨0, _, c, es, R, L0, [], rfl, Nat.zero_le _, HP3, HPq, Hres, hide rfl⟩
  case round =>
    obtain ⟨k, a2, c2, es2, R2, L, ms, rfl, hk, HP, HQ, HR, Hml⟩ := hrel
    have x0 := HP.out.x.cell
    by_cases hlt : k < m
    · obtain ⟨x, hx⟩ : ∃ x, A[k]? = some x := ⟨_, List.getElem?_eq_getElem (by rw [HmA.out]; exact hlt)⟩
      have hdr : A.drop k = x :: A.drop (k + 1) := by
        rw [List.drop_eq_getElem_cons (idx_lt hx)]
        rw [List.getElem?_eq_getElem (idx_lt hx)] at hx
        rw [Option.some.inj hx]
      have hQ := HQ.out
      rw [hdr] at hQ
      have j0 : (0 : Int) ≤ (k : Int) := by omega
      have j1 : (k : Int) < (m : Int) := by omega
      have K := hide (K30.out wr a2 c2 es2 R2 HP.out.dr)
      obtain ⟨_, _, _, hAg⟩ := HQ.out
      rw [← bst_agr hAg] at K
      clear hAg
      by_cases hbb : bst L (i : Int) = -1
      · rw [hbb] at K
        have e1 : res = none := by rw [HR.out, hdr, pln, hbb, if_pos rfl]; rfl
        have g1 := Hg1.out
        have g2 := Hg2.out
        rw [e1] at g1 g2
        simp only [if_true] at g1
        subst g1 g2
        clear hbb hdr hx hQ e1
        go_wp2_with (go_at_call 30; refine K.out.mono ?_; rintro e W5 ⟨rfl, hb⟩; have HP5 := hide (HP.out.keep hb); clear hb)
        go_ret2
        exact ⟨none, 0, rfl, El.Own.nil _ _ _, HP5.out.x.bel⟩
      · obtain ⟨j, p, hbj, hpj, hji, hp2⟩ := bst_in hbb
        rw [hbj] at K
        obtain ⟨hdc, hQ2⟩ := hQ.step hbj
        have HQ2 := hide hQ2
        have HR5 : Hid (res = (pln (i : Int) (inc L j) (A.drop (k + 1))).map ((ms ++ [⟨x, i, j⟩]) ++ ·)) := hide (by
          rw [HR.out, hdr, pln_step hbj, Option.map_map]
          congr 1
          funext q
          simp)
        have q0 : ¬ (j : Int) < 0 := by omega
        have HW2 := hide (HP.out.wf.doR ⟨x, i, j⟩)
        have K19' : Hid (∀ W, PQ w0 h B n a2 c2 es2 R2 (.slice a3 m c3) A u7 ms W → Calls Try.prog 19 #[.agg #[.slice a2 n c2], .agg #[.int .i64 x, .int .i64 i, .int .i64 j]] W fun e w' => ∃ a' c' es', e = .returned (.tuple #[.agg #[.slice a' n c'], .int .i64 0]) ∧ DR w' B a' n c' es' (doR R2 ⟨x, i, j⟩) ∧ Below W.heap.size W w') := hide (fun W hp => (K19.out W a2 c2 es2 R2 x j hp.dr (Nat.le_of_lt (heap_lt hp.x.b1)) hp.wf).mono (by
          rintro e w' ⟨a', c', es', h1, h2, h3⟩
          exact ⟨a', c', es', by rw [h1, hdc], h2, h3⟩))
        have Hml1 : Hid ((ms ++ [(⟨x, i, j⟩ : Mv)]).length = k + 1) := hide (by rw [List.length_append, Hml.out]; rfl)
        have HLm : Hid (ms.length + [(⟨x, i, j⟩ : Mv)].length ≤ 1000000) := hide (by rw [Hml.out]; simp; omega)
        have Hba : Hid (∀ (V : World) (o : Obj), Below V.heap.size V (V.alloc o)) := hide (fun V o => (Below.refl _ _).alloc (Nat.le_refl _) o)
        generalize inc L j = L' at *
        have Hx := hide hx
        generalize doR R2 ⟨x, i, j⟩ = R3 at *
        clear hbb hdr hx hQ hbj hpj hp2 hdc hQ2
        go_upto_region 12 with (go_at_call 30; refine K.out.mono ?_; rintro e W5 ⟨rfl, hb⟩; have HP5 := hide (HP.out.keep hb); clear hb)
        clear x0
        have x0 := HP5.out.x.cell
        obtain ⟨b9, off9, ea9, z9⟩ := int_at HP5.out.ah.rd k x Hx.out
        subst ea9
        have HP6 := hide (HP5.out.keep (Hba.out W5 (.cells #[.int .i64 x, .int .i64 (i : Int), .int .i64 (j : Int)] 52)))
        have HB6 := hide (heap_new W5 (.cells #[.int .i64 x, .int .i64 (i : Int), .int .i64 (j : Int)] 52))
        go_upto_region 13 with fail
        obtain ⟨g6, hg6⟩ : ∃ g, W5.heap.size = g := ⟨_, rfl⟩
        simp only [hg6] at HB6 ⊢
        clear hg6
        generalize W5.alloc (.cells #[.int .i64 x, .int .i64 (i : Int), .int .i64 (j : Int)] 52) = W6 at *
        clear x0 z9 HP5 HP
        have x0 := HP6.out.x.cell
        have y0 : W6.cell? ⟨g6, 0, none⟩ = some (.int .i64 x) := (cells_at HB6.out 0).1
        have y1 : W6.cell? ⟨g6, 1, none⟩ = some (.int .i64 (i : Int)) := (cells_at HB6.out 1).1
        have y2 : W6.cell? ⟨g6, 2, none⟩ = some (.int .i64 (j : Int)) := (cells_at HB6.out 2).1
        have K := hide (K19'.out W6 HP6.out)
        go_upto_region 14 with (go_at_call 19; refine K.out.mono ?_; rintro e W7 ⟨a7, c7, es7, rfl, hd, hb⟩; have HP7 := hide (HP6.out.keep hb); have HD7 := hide hd; have HB7 := hide ((hb.block _ (heap_lt HB6.out)).trans HB6.out); clear hd hb; have xx := HP7.out.x.cell; have xf : W7.frozen? ⟨h, 0, none⟩ = false := (cells_at HP7.out.x.b1 0).2)
        have HP8 := hide (HP7.out.set HD7.out HW2.out)
        have HB8 : Hid ((W7.setCell ⟨h, 0, none⟩ (.slice a7 n c7)).heap[g6]? = some (.cells #[.int .i64 x, .int .i64 (i : Int), .int .i64 (j : Int)] 52)) := hide (by
          rw [Below.heap_setCell _ _ _ _ (fun e => by
            have h1 := HP7.out.x.b1
            have h2 := HB7.out
            rw [show g6 = h from e, h1] at h2
            simp at h2)]
          exact HB7.out)
        clear x0 y0 y1 y2 xx xf HP7 HD7 HB7 HP6 HB6
        generalize W7.setCell ⟨h, 0, none⟩ (.slice a7 n c7) = W8 at *
        have y0 : W8.cell? ⟨g6, 0, none⟩ = some (.int .i64 x) := (cells_at HB8.out 0).1
        have y1 : W8.cell? ⟨g6, 1, none⟩ = some (.int .i64 (i : Int)) := (cells_at HB8.out 1).1
        have y2 : W8.cell? ⟨g6, 2, none⟩ = some (.int .i64 (j : Int)) := (cells_at HB8.out 2).1
        have HP9 := hide (HP8.out.keep (Hba.out W8 (.cells #[.int .i64 x, .int .i64 (i : Int), .int .i64 (j : Int)] 52)))
        have HNw : Hid (mrE.Rd (W8.alloc (.cells #[.int .i64 x, .int .i64 (i : Int), .int .i64 (j : Int)] 52)) (.slice (some ⟨W8.heap.size, 0, none⟩) 1 1) [⟨x, i, j⟩]) := hide (mr_new _ _ _ _ _ rfl)
        have Hhs : Hid (h ≤ (W8.alloc (.cells #[.int .i64 x, .int .i64 (i : Int), .int .i64 (j : Int)] 52)).heap.size) := hide (Nat.le_of_lt (heap_lt HP9.out.x.b1))
        go_wp2_with (at_builtin; refine mrE.wpB (B := h) Hhs.out (by rfl) _ _ rfl _ _ rfl rfl _ [⟨x, i, j⟩] HP9.out.mv HNw.out HLm.out ?_; intro vv ww ho hg hs; have HPa := hide (HP9.out.more ho hg); clear ho hg hs)
        go_roundw
        case rel => exact ⟨k + 1, a7, c7, es7, R3, L', ms ++ [⟨x, i, j⟩], by go_num, by omega, HPa, HQ2, HR5, Hml1⟩
        case measure => simp [intOf]; omega
    · obtain rfl : k = m := by omega
      have j1 : ¬ (k : Int) < (k : Int) := by omega
      have e1 : res = some ms := by rw [HR.out, ← HmA.out, List.drop_length, pln]; simp
      have g1 := Hg1.out
      have g2 := Hg2.out
      rw [e1] at g1 g2
      simp at g1 g2
      have HNw : Hid (mrE.Rd (wr.alloc (.cells #[.int .i64 t, .int .i64 (i : Int), .int .i64 (-1)] 52)) (.slice (some ⟨wr.heap.size, 0, none⟩) 1 1) [⟨t, i, -1⟩]) := hide (mr_new _ _ _ _ _ rfl)
      have HP9 := hide (HP.out.keep ((Below.refl _ _).alloc (Nat.le_refl _) (.cells #[.int .i64 t, .int .i64 (i : Int), .int .i64 (-1)] 52)))
      have Hhs : Hid (h ≤ (wr.alloc (.cells #[.int .i64 t, .int .i64 (i : Int), .int .i64 (-1)] 52)).heap.size) := hide (Nat.le_of_lt (heap_lt HP9.out.x.b1))
      have HLm : Hid (ms.length + [(⟨t, i, -1⟩ : Mv)].length ≤ 1000000) := hide (by rw [Hml.out]; simp; omega)
      have HG1 := hide g1
      have HG2 := hide g2
      clear e1 g1 g2
      go_wp2_with (at_builtin; refine mrE.wpB (B := h) Hhs.out (by rfl) _ _ rfl _ _ rfl rfl _ [⟨t, i, -1⟩] HP9.out.mv HNw.out HLm.out ?_; intro vv ww ho hg hs; have HPa := hide (HP9.out.more ho hg); clear ho hg hs)
      obtain ⟨a8, c8, hv⟩ := HPa.out.mv.rd.form
      have hmv := HPa.out.mv
      rw [hv] at hmv
      refine bodyPost_ret (v := .tuple #[vv, .int .i64 0]) (by simp [results, Try.results16, go_sem]) rfl ⟨a8, c8, ?_, ?_, HPa.out.x.bel⟩
      · rw [hv, HG1.out, HG2.out]
      · rw [HG2.out]; exact hmv
end
end Go.Proofs.Ytddcjkbdgneklaa
