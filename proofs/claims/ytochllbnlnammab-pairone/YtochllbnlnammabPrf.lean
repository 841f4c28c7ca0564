/- The best pairing: each store in turn takes the least place that still comes to the greatest saving. -/
import Derived.Test.YtochllbnlnammabPre
import Derived.WalkMore
namespace Go.Proofs.Ytochllbnlnammab
open Go.RowKit
set_option linter.unusedVariables false

/-- the world of least: both tables -/
structure Lw (w W : World) (g5 g6 : Nat) (C D : Array Value) (f T : Nat → Nat → Int) : Prop where
  bel : Below w.heap.size w W
  c : W.heap[g5]? = some (.cells C 39)
  t : W.heap[g6]? = some (.cells D 43)
  tb : Tb 6 6 C f
  tt : Tb 7 64 D T
  b5 : w.heap.size ≤ g5
  b6 : w.heap.size ≤ g6
theorem Lw.keep {w W W' : World} {g5 g6 : Nat} {C D : Array Value} {f T : Nat → Nat → Int} (h : Lw w W g5 g6 C D f T) (hb : Below W.heap.size W W') : Lw w W' g5 g6 C D f T :=
  ⟨h.bel.trans (hb.mono h.bel.size), by rw [hb.block _ (heap_lt h.c)]; exact h.c, by rw [hb.block _ (heap_lt h.t)]; exact h.t, h.tb, h.tt, h.b5, h.b6⟩
/-- behind an append onto a row of numbers -/
theorem Lw.grow {w W W' : World} {g5 g6 B : Nat} {C D : Array Value} {f T : Nat → Nat → Int} (h : Lw w W g5 g6 C D f T) {v : Value} {xs : List Int} (ho : intE.Own W B v xs) (hg : W.grownBy W' v.ownBlock) (hB : w.heap.size ≤ B) : Lw w W' g5 g6 C D f T := by
  have n5 : v.ownBlock ≠ some g5 := zown_ne ho h.c (by decide)
  have n6 : v.ownBlock ≠ some g6 := zown_ne ho h.t (by decide)
  refine ⟨h.bel.grown hg h.bel.size (fun k hk => Nat.le_trans hB (ho.ge k hk)), ?_, ?_, h.tb, h.tt, h.b5, h.b6⟩
  · rw [hg.block g5 (heap_lt h.c) (Ne.symm n5)]; exact h.c
  · rw [hg.block g6 (heap_lt h.t) (Ne.symm n6)]; exact h.t
theorem info67 : (Try.prog.info? 43).map (·.size) = some 448 := (zero_of_info zero67).2
/-- cells of the two tables that are read -/
def R3 (g5 g6 x y z : Nat) (a b c : Int) (W : World) : Prop := W.cell? ⟨g5, x, none⟩ = some (.int .i64 a) ∧ W.cell? ⟨g6, y, none⟩ = some (.int .i64 b) ∧ W.cell? ⟨g6, z, none⟩ = some (.int .i64 c)

/-- what least answers -/
def LeastP (n m : Nat) (L M : List (Int × Int)) (w : World) (e : Ending) (w' : World) : Prop := ∃ a c, e = .returned (.slice a n c) ∧ intE.Own w' w.heap.size (.slice a n c) (lst (sg L M) m n n (2 ^ m - 1)) ∧ Below w.heap.size w w'
set_option maxRecDepth 100000 in
set_option maxHeartbeats 2500000 in
theorem least_any (a b : Option Addr) (n c m d : Nat) (L M : List (Int × Int)) (w : World) (hn : L.length = n) (hm : M.length = m) (hv : spE.Rd w (.slice a n c) L) (hu : spE.Rd w (.slice b m d) M) (hL : Alw L) (hM : Alw M) :
    Calls Try.prog 9 #[.slice a n c, .slice b m d] w (LeastP n m L M w) := by
  obtain ⟨w0, rfl⟩ : ∃ w0, w0 = w := ⟨_, rfl⟩
  have n6 : n ≤ 6 := by rw [← hn]; exact hL.1
  have m6 : m ≤ 6 := by rw [← hm]; exact hM.1
  have i0 : (n : Int) ≤ 6 := by omega
  have i1 : (m : Int) ≤ 6 := by omega
  have K30 := hide (savings_any a b n c m d L M w0 hn hm hv hu hL hM)
  have K31 : Hid (∀ (C : Array Value) (f : Nat → Nat → Int) (W : World), Tb 6 6 C f → (∀ s g, s < n → g < m → f s g = sg L M s g) → Calls Try.prog 13 #[.agg C, .int .i64 n, .int .i64 m] W (MostP f n m W)) := hide (fun C f W hC hf => most_any C f n m W hC n6 m6 (fun s g hs hg => by rw [hf s g hs hg]; exact sg_bd hL hM s g))
  have Hsb := hide (sg_bd hL hM)
  have hz := (zero_of_info zero67).1
  have Hz : Hid ((Array.replicate (7 * 64) (Value.int .i64 0)).size = 448) := hide (by simp)
  generalize Array.replicate (7 * 64) (Value.int .i64 0) = Z at *
  obtain ⟨F, hF⟩ : ∃ F, sg L M = F := ⟨_, rfl⟩
  have Htb : Hid (∀ r l, r ≤ n → 0 ≤ tp F m n r l ∧ tp F m n r l ≤ 12000) := hide (fun r l hr => by
    have := tp_bd F m n 2000 (by omega) (fun s g _ _ => by rw [← hF]; exact (sg_bd hL hM s g).2) r l hr
    omega)
  rw [hF] at Hsb K31
  obtain ⟨N, hN⟩ : ∃ N, 2 ^ m = N := ⟨_, rfl⟩
  obtain ⟨hN1, hN2⟩ := two_pow_sm m6
  rw [hN] at hN1 hN2
  have h2 : wrap64 (2 ^ m) = (N : Int) := by
    have e : ((2 : Int) ^ m) = (N : Int) := by rw [← hN]; simp
    rw [e]; unfold wrap64; omega
  have i2 : (N : Int) ≤ 64 := by omega
  have i3 : (1 : Int) ≤ (N : Int) := by omega
  obtain ⟨N1, hN3⟩ : ∃ N1, N - 1 = N1 := ⟨_, rfl⟩
  have h3 : wrap64 ((N : Int) - 1) = (N1 : Int) := by unfold wrap64; omega
  have HP : Hid (∀ e w', (∃ a c, e = .returned (.slice a n c) ∧ intE.Own w' w0.heap.size (.slice a n c) (lst F m n n N1) ∧ Below w0.heap.size w0 w') → LeastP n m L M w0 e w') := hide (fun e w' h => by unfold LeastP; rw [hF, hN, hN3]; exact h)
  have HFL : Hid (∀ s g, F s g = sg L M s g) := hide (fun s g => by rw [hF])
  have HNm : Hid (N = 2 ^ m ∧ N1 < N) := hide ⟨hN.symm, by omega⟩
  have HS : Hid (∀ w e w', SavP n m L M w e w' → ∃ C f, e = .returned (.agg C) ∧ Tb 6 6 C f ∧ (∀ s g, s < n → g < m → f s g = F s g) ∧ Below w.heap.size w w') := hide (fun w e w' h => by rw [← hF]; exact h)
  clear hn hm hv hu hL hM hN hN3 hF
  go_enter Try.func9, Try.ntmps9
  go_wp2_with fail
  go_step3
  go_wp2_with (first
    | (go_at_call 12; refine (K30.out).mono ?_; intro e W1 hP; obtain ⟨C, f, rfl, hC, hf, hb⟩ := HS.out _ _ _ hP; have HC := hide hC; have Hf := hide hf; have HB1 := hide hb; have Hi : Hid ((Try.prog.info? 39).map (·.size) = some C.size) := hide (by rw [hC.sz]; exact info63); have H1 := hide hC.one; clear hP hC hf hb)
    | (refine wpList_store_rowTo rfl 39 _ _ rfl rfl W1.heap.size C rfl rfl 39 _ (heap_new W1 _) Hi.out (by rw [HC.out.sz]; rfl) H1.out ?_; rw [World.setRow_alloc_new])
    | (refine wpList_load_row rfl 39 _ rfl W1.heap.size rfl 39 C _ _ (heap_new W1 _) Try.underlying39 rfl Hi.out ?_)
    | (go_at_call 13; refine (K31.out C f _ HC.out Hf.out).mono ?_; rintro e W2 ⟨D, T, rfl, hD, hT, hb⟩; have HD := hide hD; have HT := hide hT; have HB2 := hide hb; have Hi2 : Hid ((Try.prog.info? 43).map (·.size) = some D.size) := hide (by rw [hD.sz]; exact info67); have H2 := hide hD.one; clear hD hT hb)
    | (refine wpList_store_rowTo rfl 43 _ _ rfl rfl W2.heap.size D rfl rfl 43 _ (heap_new W2 _) Hi2.out (by rw [HD.out.sz]; exact Hz.out) H2.out ?_; rw [World.setRow_alloc_new]))
  have HT' : Hid (∀ q l, q ≤ n → l < N → T (n - q) l = tp F m n q l) := hide (fun q l hq hl => by
    rw [HT.out q l hq (by rw [← HNm.out.1]; exact hl)]
    exact tp_congr Hf.out q hq l)
  have HB3 : Hid (Below w0.heap.size w0 W2) := hide (by
    have h1 : Below w0.heap.size w0 (W1.alloc (.cells C 39)) := HB1.out.alloc HB1.out.size _
    exact h1.trans (HB2.out.mono h1.size))
  have HLw : Hid (Lw w0 (W2.alloc (.cells D 43)) W1.heap.size W2.heap.size C D f T) := hide (by
    have h5 : W2.heap[W1.heap.size]? = some (.cells C 39) := by rw [HB2.out.block _ (heap_lt (heap_new W1 _))]; exact heap_new W1 _
    exact ⟨HB3.out.alloc HB3.out.size _, by rw [((Below.refl W2.heap.size W2).alloc (Nat.le_refl _) _).block _ (heap_lt h5)]; exact h5, heap_new _ _, HC.out, HD.out, HB1.out.size, HB3.out.size⟩)
  generalize W2.alloc (.cells D 43) = W3 at *
  generalize W1.heap.size = g5 at *
  generalize W2.heap.size = g6 at *
  have hN1e : (N : Int) - 1 = (N1 : Int) := by have := HNm.out.2; rw [← h3]; unfold wrap64; omega
  rw [hN1e]
  try rw [h2]
  clear h2 h3 hN1e
  clear HT HB1 HB2 HB3 Hi Hi2 H1 H2 HC HD K30 K31 hz Hz HS
  go_step3
  go_wp2_with fail
  go_loopw [7, 8, 27] (fun v7 v8 v27 wr => ∃ (k l : Nat) (done : List Int), v27 = .int .i64 k ∧ k ≤ n ∧ v7 = .int .i64 l ∧ Hid (l < N) ∧ Hid (intE.Own wr w0.heap.size v8 done) ∧ Hid (Lw w0 wr g5 g6 C D f T) ∧ Hid (done ++ lst F m n (n - k) l = lst F m n n N1) ∧ Hid (done.length = k)) (fun _ _ v27 _ => n - (intOf v27).toNat)
  case atStart => exact ⟨0, N1, [], rfl, Nat.zero_le _, rfl, hide HNm.out.2, hide (El.Own.nil _ _ _), HLw, hide rfl, hide rfl⟩
  case round =>
    clear HLw
    obtain ⟨k, l, done, rfl, hk, rfl, Hl, HO, HW, HD, HK⟩ := hrel
    obtain ⟨pv, rfl⟩ : ∃ v, v = u8 := ⟨_, rfl⟩
    by_cases hlt : k < n
    · obtain ⟨r, hr⟩ : ∃ r, n - (k + 1) = r := ⟨_, rfl⟩
      obtain ⟨k1, hk1⟩ : ∃ k1, k + 1 = k1 := ⟨_, rfl⟩
      have e1 : IntKind.i64.wrap ((k : Int) + 1) = (k1 : Int) := by rw [IntKind.wrap_i64]; omega
      have lN : l < N := Hl.out
      have l64 : l < 64 := by omega
      have k7 : k < 7 := by omega
      have k6 : k < 6 := by omega
      have k17 : k1 < 7 := by omega
      have j0 : (0 : Int) ≤ (k : Int) := by omega
      have j1 : (k : Int) < (n : Int) := by omega
      have j2 : (k : Int) < 6 := by omega
      have j3 : (k : Int) < 7 := by omega
      have j4 : (0 : Int) ≤ (k1 : Int) := by omega
      have j5 : (k1 : Int) < 7 := by omega
      have l0 : (0 : Int) ≤ (l : Int) := by omega
      have l1 : (l : Int) < 64 := by omega
      have rn : r + 1 ≤ n := by omega
      have ek : n - (r + 1) = k := by omega
      have ek1 : n - r = k1 := by omega
      have T1 := HT'.out (r + 1) l rn lN
      have T0 := HT'.out r l (by omega) lN
      rw [ek] at T1
      rw [ek1] at T0
      have hlsg : lst F m n (n - k) l = lsg (F k) (tp F m n r) l m :: lst F m n r (lf l (lsg (F k) (tp F m n r) l m)) := by
        rw [show n - k = r + 1 by omega, lst, ek]
      have Hlsg : Hid (∀ x, lsg (F k) (tp F m n r) l m = x → (done ++ [x]) ++ lst F m n (n - (k + 1)) (lf l x) = lst F m n n N1) := hide (fun x hx => by
        have := HD.out
        rw [hlsg, hx] at this
        rw [hr, List.append_assoc]; exact this)
      have T1' : T k l = mxg (F k) (tp F m n r) l m := by rw [T1, tp, ek]
      have Hfirst : Hid ((T k1 l = T k l → lsg (F k) (tp F m n r) l m = -1) ∧ (T k1 l ≠ T k l → ∃ g, g < m ∧ lsg (F k) (tp F m n r) l m = (g : Int) ∧ l.testBit g = true ∧ F k g + tp F m n r (clr l g) = T k l ∧ ∀ h, h < g → l.testBit h = true → F k h + tp F m n r (clr l h) ≠ T k l)) := hide (by
        rw [T0, T1']; exact lsg_first m)
      have HTt : Hid (∀ cl, cl < N → T k1 cl = tp F m n r cl) := hide (fun cl h => by rw [← ek1]; exact HT'.out r cl (by omega) h)
      have HLn : Hid (∀ x : Int, done.length + [x].length ≤ 1000000) := hide (fun x => by rw [HK.out]; simp; omega)
      have HK1 : Hid (∀ x : Int, (done ++ [x]).length = k + 1) := hide (fun x => by rw [List.length_append, HK.out]; rfl)
      have Hr := hide hr
      have Hk1 := hide hk1
      obtain ⟨t0, ht0⟩ : ∃ t0, T k1 l = t0 := ⟨_, rfl⟩
      obtain ⟨t1, ht1⟩ : ∃ t1, T k l = t1 := ⟨_, rfl⟩
      rw [ht0, ht1] at Hfirst
      have SI : Hid (∀ W, Lw w0 W g5 g6 C D f T → W.cell? ⟨g6, k1 * 64 + l, none⟩ = some (.int .i64 t0) ∧ W.cell? ⟨g6, k * 64 + l, none⟩ = some (.int .i64 t1)) := hide (fun W h => by
        have x1 := (h.tt.cell h.t k17 l64).1
        have x2 := (h.tt.cell h.t k7 l64).1
        rw [ht0] at x1
        rw [ht1] at x2
        exact ⟨x1, x2⟩)
      have SD : Hid (∀ W : World, W.cell? ⟨g6, k1 * 64 + l, none⟩ = some (.int .i64 t0) ∧ W.cell? ⟨g6, k * 64 + l, none⟩ = some (.int .i64 t1) → W.cell? ⟨g6, k1 * 64 + l, none⟩ = some (.int .i64 t0) ∧ W.cell? ⟨g6, k * 64 + l, none⟩ = some (.int .i64 t1)) := hide (fun W h => h)
      obtain ⟨S0, hS0⟩ : ∃ S : World → Prop, S = fun W => W.cell? ⟨g6, k1 * 64 + l, none⟩ = some (.int .i64 t0) ∧ W.cell? ⟨g6, k * 64 + l, none⟩ = some (.int .i64 t1) := ⟨_, rfl⟩
      have SI : Hid (∀ W, Lw w0 W g5 g6 C D f T → S0 W) := hide (fun W h => by rw [hS0]; exact SI.out W h)
      have SD : Hid (∀ W, S0 W → W.cell? ⟨g6, k1 * 64 + l, none⟩ = some (.int .i64 t0) ∧ W.cell? ⟨g6, k * 64 + l, none⟩ = some (.int .i64 t1)) := hide (fun W h => by rw [hS0] at h; exact h)
      have HWd := hide (HW.out.keep (Below.refl wr.heap.size wr).drew)
      have HOd := hide (HO.out.keep (Below.refl wr.heap.size wr).drew)
      have HAl : Hid (∀ (x : Int) (W : World), Lw w0 W g5 g6 C D f T → intE.Own W w0.heap.size pv done → Lw w0 (W.alloc (.cells #[.int .i64 x] 3)) g5 g6 C D f T ∧ intE.Own (W.alloc (.cells #[.int .i64 x] 3)) w0.heap.size pv done ∧ intE.Rd (W.alloc (.cells #[.int .i64 x] 3)) (.slice (some ⟨W.heap.size, 0, none⟩) 1 1) [x]) := hide (fun x W h1 h2 =>
        ⟨h1.keep ((Below.refl _ _).alloc (Nat.le_refl _) _), h2.keep ((Below.refl _ _).alloc (Nat.le_refl _) _), int_new W x _ rfl⟩)
      have hS := SI.out _ HWd.out
      clear hS0 T1 T0 hlsg T1' hr hk1 HD HK HW HO HT'
      obtain ⟨ht0, ht1⟩ : Hid (T k1 l = t0) ∧ Hid (T k l = t1) := ⟨hide ht0, hide ht1⟩
      by_cases heq : t0 = t1
      · have hbe : (t0 == t1) = true := beq_iff_eq.2 heq
        have Hm1 := hide (Hfirst.out.1 heq)
        have HDn : Hid ((done ++ [-1]) ++ lst F m n (n - (k + 1)) l = lst F m n n N1) := hide (Hlsg.out (-1) Hm1.out)
        clear heq
        go_upto_region 8 with fail
        refine wp_region_held_drew (S := S0) (by kernel_rfl) hS (fun _ => ?_)
        refine wpAnyH_take (i := 0) (v := .int .i64 k) rfl (by kernel_rfl) (by kernel_rfl) (by kernel_rfl) (fun _ _ _ h => h) (Or.inl ⟨by rfl, fun W' hW => by go_simp⟩) hS ?_
        refine wpAnyH_take (i := 1) (v := .int .i64 k1) rfl (by kernel_rfl) (by kernel_rfl) (by kernel_rfl) (fun _ _ _ h => h) (Or.inl ⟨by rfl, fun W' hW => by go_simp⟩) hS ?_
        refine wpAnyH_take (i := 2) (v := .int .i64 l) rfl (by kernel_rfl) (by kernel_rfl) (by kernel_rfl) (fun _ _ _ h => h) (Or.inl ⟨by rfl, fun W' hW => by go_simp⟩) hS ?_
        refine wpAnyH_take (i := 3) (v := .pointer (some ⟨g6, k1 * 64, none⟩)) rfl (by kernel_rfl) (by kernel_rfl) (by kernel_rfl) (fun _ _ _ h => h) (Or.inl ⟨by rfl, fun W' hW => by go_simp⟩) hS ?_
        refine wpAnyH_take (i := 4) (v := .pointer (some ⟨g6, k1 * 64 + l, none⟩)) rfl (by kernel_rfl) (by kernel_rfl) (by kernel_rfl) (fun _ _ _ h => h) (Or.inl ⟨by rfl, fun W' hW => by go_simp⟩) hS ?_
        refine wpAnyH_take (i := 5) (v := .int .i64 t0) rfl (by kernel_rfl) (by kernel_rfl) (by kernel_rfl) (fun _ _ _ h => h) (Or.inl ⟨by rfl, fun W' hW => by have z0 := SD.out W' hW; go_simp⟩) hS ?_
        refine wpAnyH_take (i := 6) (v := .int .i64 k) rfl (by kernel_rfl) (by kernel_rfl) (by kernel_rfl) (fun _ _ _ h => h) (Or.inl ⟨by rfl, fun W' hW => by go_simp⟩) hS ?_
        refine wpAnyH_take (i := 7) (v := .int .i64 l) rfl (by kernel_rfl) (by kernel_rfl) (by kernel_rfl) (fun _ _ _ h => h) (Or.inl ⟨by rfl, fun W' hW => by go_simp⟩) hS ?_
        refine wpAnyH_take (i := 8) (v := .pointer (some ⟨g6, k * 64, none⟩)) rfl (by kernel_rfl) (by kernel_rfl) (by kernel_rfl) (fun _ _ _ h => h) (Or.inl ⟨by rfl, fun W' hW => by go_simp⟩) hS ?_
        refine wpAnyH_take (i := 9) (v := .pointer (some ⟨g6, k * 64 + l, none⟩)) rfl (by kernel_rfl) (by kernel_rfl) (by kernel_rfl) (fun _ _ _ h => h) (Or.inl ⟨by rfl, fun W' hW => by go_simp⟩) hS ?_
        refine wpAnyH_take (i := 10) (v := .int .i64 t1) rfl (by kernel_rfl) (by kernel_rfl) (by kernel_rfl) (fun _ _ _ h => h) (Or.inl ⟨by rfl, fun W' hW => by have z0 := SD.out W' hW; go_simp⟩) hS ?_
        refine wpAnyH_ready (rs := [11]) (by kernel_rfl) (by simp) ?_
        refine AllReadyH.cons rfl (fun K hK => ?_) AllReadyH.nil
        go_simp
        refine hK.out _ _ hS (fun _ => ?_)
        clear hK K
        refine wpAnyH_done (by kernel_rfl) ?_ _
        go_wp2_with (at_builtin; refine intE.wp (w0 := w0) (HAl.out (-1) _ HWd.out HOd.out).1.bel (by rfl) _ _ rfl _ _ rfl rfl done [-1] (HAl.out (-1) _ HWd.out HOd.out).2.1 (HAl.out (-1) _ HWd.out HOd.out).2.2 (HLn.out (-1)) ?_; intro v' w' ho hg _ _; have HO2 := hide ho; have HW2 := hide ((HAl.out (-1) _ HWd.out HOd.out).1.grow (HAl.out (-1) _ HWd.out HOd.out).2.1 hg (Nat.le_refl _)); clear ho hg)
        go_roundw
        case rel => exact ⟨k + 1, l, done ++ [-1], by go_num, by omega, rfl, Hl, HO2, HW2, HDn, hide (HK1.out _)⟩
        case measure => simp [intOf] <;> omega
      · have hbe : (t0 == t1) = false := beq_eq_false_iff_ne.2 heq
        have Hex := hide (Hfirst.out.2 heq)
        clear heq
        go_upto_region 8 with fail
        refine wp_region_held_drew (S := S0) (by kernel_rfl) hS (fun _ => ?_)
        refine wpAnyH_take (i := 0) (v := .int .i64 k) rfl (by kernel_rfl) (by kernel_rfl) (by kernel_rfl) (fun _ _ _ h => h) (Or.inl ⟨by rfl, fun W' hW => by go_simp⟩) hS ?_
        refine wpAnyH_take (i := 1) (v := .int .i64 k1) rfl (by kernel_rfl) (by kernel_rfl) (by kernel_rfl) (fun _ _ _ h => h) (Or.inl ⟨by rfl, fun W' hW => by go_simp⟩) hS ?_
        refine wpAnyH_take (i := 2) (v := .int .i64 l) rfl (by kernel_rfl) (by kernel_rfl) (by kernel_rfl) (fun _ _ _ h => h) (Or.inl ⟨by rfl, fun W' hW => by go_simp⟩) hS ?_
        refine wpAnyH_take (i := 3) (v := .pointer (some ⟨g6, k1 * 64, none⟩)) rfl (by kernel_rfl) (by kernel_rfl) (by kernel_rfl) (fun _ _ _ h => h) (Or.inl ⟨by rfl, fun W' hW => by go_simp⟩) hS ?_
        refine wpAnyH_take (i := 4) (v := .pointer (some ⟨g6, k1 * 64 + l, none⟩)) rfl (by kernel_rfl) (by kernel_rfl) (by kernel_rfl) (fun _ _ _ h => h) (Or.inl ⟨by rfl, fun W' hW => by go_simp⟩) hS ?_
        refine wpAnyH_take (i := 5) (v := .int .i64 t0) rfl (by kernel_rfl) (by kernel_rfl) (by kernel_rfl) (fun _ _ _ h => h) (Or.inl ⟨by rfl, fun W' hW => by have z0 := SD.out W' hW; go_simp⟩) hS ?_
        refine wpAnyH_take (i := 6) (v := .int .i64 k) rfl (by kernel_rfl) (by kernel_rfl) (by kernel_rfl) (fun _ _ _ h => h) (Or.inl ⟨by rfl, fun W' hW => by go_simp⟩) hS ?_
        refine wpAnyH_take (i := 7) (v := .int .i64 l) rfl (by kernel_rfl) (by kernel_rfl) (by kernel_rfl) (fun _ _ _ h => h) (Or.inl ⟨by rfl, fun W' hW => by go_simp⟩) hS ?_
        refine wpAnyH_take (i := 8) (v := .pointer (some ⟨g6, k * 64, none⟩)) rfl (by kernel_rfl) (by kernel_rfl) (by kernel_rfl) (fun _ _ _ h => h) (Or.inl ⟨by rfl, fun W' hW => by go_simp⟩) hS ?_
        refine wpAnyH_take (i := 9) (v := .pointer (some ⟨g6, k * 64 + l, none⟩)) rfl (by kernel_rfl) (by kernel_rfl) (by kernel_rfl) (fun _ _ _ h => h) (Or.inl ⟨by rfl, fun W' hW => by go_simp⟩) hS ?_
        refine wpAnyH_take (i := 10) (v := .int .i64 t1) rfl (by kernel_rfl) (by kernel_rfl) (by kernel_rfl) (fun _ _ _ h => h) (Or.inl ⟨by rfl, fun W' hW => by have z0 := SD.out W' hW; go_simp⟩) hS ?_
        refine wpAnyH_ready (rs := [11]) (by kernel_rfl) (by simp) ?_
        refine AllReadyH.cons rfl (fun K hK => ?_) AllReadyH.nil
        go_simp
        refine hK.out _ _ hS (fun _ => ?_)
        clear hK K
        refine wpAnyH_done (by kernel_rfl) ?_ _
        clear SI SD hS
        generalize wr.drew = w8 at *
        obtain ⟨wC, rfl⟩ : ∃ W, W = wr := ⟨_, rfl⟩
        go_upto_region 11 with fail
        go_loopw [7, 8, 47] (fun v7 v8 v47 wr => ∃ g : Nat, v47 = .int .i64 g ∧ v7 = .int .i64 l ∧ v8 = pv ∧ g ≤ m ∧ Hid (Lw w0 wr g5 g6 C D f T) ∧ Hid (intE.Own wr w0.heap.size pv done) ∧ Hid (∀ h, h < g → l.testBit h = true → F k h + tp F m n r (clr l h) ≠ t1)) (fun _ _ v47 _ => m - (intOf v47).toNat)
        case atStart => exact ⟨0, rfl, rfl, rfl, Nat.zero_le _, HWd, HOd, hide (fun h hh => by omega)⟩
        case round =>
          clear HWd HOd
          obtain ⟨g, rfl, rfl, hpv, hg, HW, HO, HG⟩ := hrel
          subst hpv
          by_cases hgm : g < m
          · have g0 : (0 : Int) ≤ (g : Int) := by omega
            have g1 : (g : Int) < (m : Int) := by omega
            have g2 : (g : Int) < 6 := by omega
            have g6' : g < 6 := by omega
            have hbo := bit_off l l64 g g6'
            obtain ⟨p, hp⟩ : ∃ p : Int, (2 : Int) ^ g = p := ⟨_, rfl⟩
            have e2 : wrap64 ((2 : Int) ^ g) = p := by
              have hp2 : p = ((2 ^ g : Nat) : Int) := by rw [← hp]; simp
              have hp3 := (two_pow_sm (Nat.le_of_lt g6')).1
              rw [hp, hp2]
              unfold wrap64
              generalize (2 : Nat) ^ g = pn at hp3
              omega
            rw [hp] at hbo
            have HWd := hide (HW.out.keep (Below.refl wr.heap.size wr).drew)
            have HOd := hide (HO.out.keep (Below.refl wr.heap.size wr).drew)
            by_cases hb : l.testBit g = true
            · rw [if_pos hb] at hbo
              have hnec : clr l g ≠ l := fun e => by
                have := clr_bit_off (h := g) hb
                rw [e, hb] at this
                simp at this
              obtain ⟨cl, hcl⟩ : ∃ cl, clr l g = cl := ⟨_, rfl⟩
              rw [hcl] at hbo hnec
              have hcN : cl < N := by rw [← hcl, HNm.out.1]; exact clr_lt (by rw [← HNm.out.1]; exact lN) hgm
              have c0 : (0 : Int) ≤ (cl : Int) := by omega
              have c1 : (cl : Int) < 64 := by omega
              have c64 : cl < 64 := by omega
              have hne : ((cl : Int) != (l : Int)) = true := bne_iff_ne.2 (by omega)
              obtain ⟨fv, hfv⟩ : ∃ x, f k g = x := ⟨_, rfl⟩
              obtain ⟨t2, ht2⟩ : ∃ x, T k1 cl = x := ⟨_, rfl⟩
              have hfF : F k g = fv := by rw [← hfv, Hf.out k g hlt hgm]
              have htF : tp F m n r cl = t2 := by rw [← ht2, HTt.out cl hcN]
              obtain ⟨f0, f1⟩ := Hsb.out k g
              rw [hfF] at f0 f1
              have t20 := Htb.out r cl (by omega)
              rw [htF] at t20
              obtain ⟨su, hsu⟩ : ∃ su, fv + t2 = su := ⟨_, rfl⟩
              have e3 : IntKind.i64.wrap (fv + t2) = su := by rw [IntKind.wrap_i64]; omega
              have SI : Hid (∀ W, Lw w0 W g5 g6 C D f T → R3 g5 g6 (k * 6 + g) (k1 * 64 + cl) (k * 64 + l) fv t2 t1 W) := hide (fun W h => by
                have x1 := (h.tb.cell h.c k6 g6').1
                have x2 := (h.tt.cell h.t k17 c64).1
                have x3 := (h.tt.cell h.t k7 l64).1
                rw [hfv] at x1
                rw [ht2] at x2
                rw [ht1.out] at x3
                exact ⟨x1, x2, x3⟩)
              have SD : Hid (∀ W, R3 g5 g6 (k * 6 + g) (k1 * 64 + cl) (k * 64 + l) fv t2 t1 W → W.cell? ⟨g5, k * 6 + g, none⟩ = some (.int .i64 fv) ∧ W.cell? ⟨g6, k1 * 64 + cl, none⟩ = some (.int .i64 t2) ∧ W.cell? ⟨g6, k * 64 + l, none⟩ = some (.int .i64 t1)) := hide (fun W h => h)
              obtain ⟨S1, hS1⟩ : ∃ S : World → Prop, S = R3 g5 g6 (k * 6 + g) (k1 * 64 + cl) (k * 64 + l) fv t2 t1 := ⟨_, rfl⟩
              rw [← hS1] at SI SD
              have hS := SI.out _ HWd.out
              have Hsu : Hid (F k g + tp F m n r (clr l g) = su) := hide (by rw [hfF, hcl, htF]; exact hsu)
              have Hcl := hide hcl
              have Hb := hide hb
              have HcN := hide hcN
              clear hS1 hfv ht2 hfF htF f0 f1 t20 hsu hcl hnec hb hp
              by_cases heq : su = t1
              · have hbe2 : (su == t1) = true := beq_iff_eq.2 heq
                have Hgg : Hid (lsg (F k) (tp F m n r) l m = (g : Int)) := hide (by
                  obtain ⟨g', h1, h2, h3, h4, h5⟩ := Hex.out
                  have : g' = g := by
                    rcases Nat.lt_trichotomy g' g with h | h | h
                    · exact absurd h4 (HG.out g' h h3)
                    · exact h
                    · exact absurd (Hsu.out.trans heq) (h5 g h Hb.out)
                  rw [h2, this])
                have HDn : Hid ((done ++ [(g : Int)]) ++ lst F m n (n - (k + 1)) cl = lst F m n n N1) := hide (by
                  have h := Hlsg.out (g : Int) Hgg.out
                  have e : lf l (g : Int) = cl := by unfold lf; rw [if_neg (by omega), Int.toNat_natCast]; exact Hcl.out
                  rw [e] at h; exact h)
                clear heq
                go_upto_region 14 with fail
                refine wp_region_held_drew (S := S1) (by kernel_rfl) hS (fun _ => ?_)
                refine wpAnyH_take (i := 0) (v := .int .i64 cl) rfl (by kernel_rfl) (by kernel_rfl) (by kernel_rfl) (fun _ _ _ h => h) (Or.inl ⟨by kernel_rfl, fun W' hW => by go_simp⟩) hS ?_
                refine wpAnyH_take (i := 1) (v := .int .i64 l) rfl (by kernel_rfl) (by kernel_rfl) (by kernel_rfl) (fun _ _ _ h => h) (Or.inl ⟨by kernel_rfl, fun W' hW => by go_simp⟩) hS ?_
                refine wpAnyH_ready (rs := [2]) (by kernel_rfl) (by simp) ?_
                refine AllReadyH.cons rfl (fun K hK => ?_) AllReadyH.nil
                go_simp
                refine hK.out _ _ hS (fun _ => ?_)
                clear hK K
                refine wpAnyH_ready (rs := [3]) (by kernel_rfl) (by simp) ?_
                refine AllReadyH.cons rfl (fun K hK => ?_) AllReadyH.nil
                go_simp
                refine hK.out _ _ hS (fun _ => ?_)
                clear hK K
                refine wpAnyH_take (i := 4) (v := .int .i64 k) rfl (by kernel_rfl) (by kernel_rfl) (by kernel_rfl) (fun _ _ _ h => h) (Or.inl ⟨by kernel_rfl, fun W' hW => by go_simp⟩) hS ?_
                refine wpAnyH_take (i := 5) (v := .int .i64 g) rfl (by kernel_rfl) (by kernel_rfl) (by kernel_rfl) (fun _ _ _ h => h) (Or.inl ⟨by kernel_rfl, fun W' hW => by go_simp⟩) hS ?_
                refine wpAnyH_take (i := 6) (v := .pointer (some ⟨g5, k * 6, none⟩)) rfl (by kernel_rfl) (by kernel_rfl) (by kernel_rfl) (fun _ _ _ h => h) (Or.inl ⟨by kernel_rfl, fun W' hW => by go_simp⟩) hS ?_
                refine wpAnyH_take (i := 7) (v := .pointer (some ⟨g5, k * 6 + g, none⟩)) rfl (by kernel_rfl) (by kernel_rfl) (by kernel_rfl) (fun _ _ _ h => h) (Or.inl ⟨by kernel_rfl, fun W' hW => by go_simp⟩) hS ?_
                refine wpAnyH_take (i := 8) (v := .int .i64 fv) rfl (by kernel_rfl) (by kernel_rfl) (by kernel_rfl) (fun _ _ _ h => h) (Or.inl ⟨by kernel_rfl, fun W' hW => by have z0 := SD.out W' hW; go_simp⟩) hS ?_
                refine wpAnyH_take (i := 9) (v := .int .i64 k) rfl (by kernel_rfl) (by kernel_rfl) (by kernel_rfl) (fun _ _ _ h => h) (Or.inl ⟨by kernel_rfl, fun W' hW => by go_simp⟩) hS ?_
                refine wpAnyH_take (i := 10) (v := .int .i64 k1) rfl (by kernel_rfl) (by kernel_rfl) (by kernel_rfl) (fun _ _ _ h => h) (Or.inl ⟨by kernel_rfl, fun W' hW => by go_simp⟩) hS ?_
                refine wpAnyH_take (i := 11) (v := .int .i64 cl) rfl (by kernel_rfl) (by kernel_rfl) (by kernel_rfl) (fun _ _ _ h => h) (Or.inl ⟨by kernel_rfl, fun W' hW => by go_simp⟩) hS ?_
                refine wpAnyH_take (i := 12) (v := .pointer (some ⟨g6, k1 * 64, none⟩)) rfl (by kernel_rfl) (by kernel_rfl) (by kernel_rfl) (fun _ _ _ h => h) (Or.inl ⟨by kernel_rfl, fun W' hW => by go_simp⟩) hS ?_
                refine wpAnyH_take (i := 13) (v := .pointer (some ⟨g6, k1 * 64 + cl, none⟩)) rfl (by kernel_rfl) (by kernel_rfl) (by kernel_rfl) (fun _ _ _ h => h) (Or.inl ⟨by kernel_rfl, fun W' hW => by go_simp⟩) hS ?_
                refine wpAnyH_take (i := 14) (v := .int .i64 t2) rfl (by kernel_rfl) (by kernel_rfl) (by kernel_rfl) (fun _ _ _ h => h) (Or.inl ⟨by kernel_rfl, fun W' hW => by have z0 := SD.out W' hW; go_simp⟩) hS ?_
                refine wpAnyH_take (i := 15) (v := .int .i64 su) rfl (by kernel_rfl) (by kernel_rfl) (by kernel_rfl) (fun _ _ _ h => h) (Or.inl ⟨by kernel_rfl, fun W' hW => by go_simp⟩) hS ?_
                refine wpAnyH_take (i := 16) (v := .int .i64 k) rfl (by kernel_rfl) (by kernel_rfl) (by kernel_rfl) (fun _ _ _ h => h) (Or.inl ⟨by kernel_rfl, fun W' hW => by go_simp⟩) hS ?_
                refine wpAnyH_take (i := 17) (v := .int .i64 l) rfl (by kernel_rfl) (by kernel_rfl) (by kernel_rfl) (fun _ _ _ h => h) (Or.inl ⟨by kernel_rfl, fun W' hW => by go_simp⟩) hS ?_
                refine wpAnyH_take (i := 18) (v := .pointer (some ⟨g6, k * 64, none⟩)) rfl (by kernel_rfl) (by kernel_rfl) (by kernel_rfl) (fun _ _ _ h => h) (Or.inl ⟨by kernel_rfl, fun W' hW => by go_simp⟩) hS ?_
                refine wpAnyH_take (i := 19) (v := .pointer (some ⟨g6, k * 64 + l, none⟩)) rfl (by kernel_rfl) (by kernel_rfl) (by kernel_rfl) (fun _ _ _ h => h) (Or.inl ⟨by kernel_rfl, fun W' hW => by go_simp⟩) hS ?_
                refine wpAnyH_take (i := 20) (v := .int .i64 t1) rfl (by kernel_rfl) (by kernel_rfl) (by kernel_rfl) (fun _ _ _ h => h) (Or.inl ⟨by kernel_rfl, fun W' hW => by have z0 := SD.out W' hW; go_simp⟩) hS ?_
                refine wpAnyH_ready (rs := [21]) (by kernel_rfl) (by simp) ?_
                refine AllReadyH.cons rfl (fun K hK => ?_) AllReadyH.nil
                go_simp
                refine hK.out _ _ hS (fun _ => ?_)
                clear hK K
                refine wpAnyH_ready (rs := [22]) (by kernel_rfl) (by simp) ?_
                refine AllReadyH.cons rfl (fun K hK => ?_) AllReadyH.nil
                go_simp
                refine hK.out _ _ hS (fun _ => ?_)
                clear hK K
                refine wpAnyH_done (by kernel_rfl) ?_ _
                go_wp2_with (at_builtin; refine intE.wp (w0 := w0) (HAl.out (g : Int) _ HWd.out HOd.out).1.bel (by rfl) _ _ rfl _ _ rfl rfl done [(g : Int)] (HAl.out (g : Int) _ HWd.out HOd.out).2.1 (HAl.out (g : Int) _ HWd.out HOd.out).2.2 (HLn.out (g : Int)) ?_; intro v' w' ho hg _ _; have HO2 := hide ho; have HW2 := hide ((HAl.out (g : Int) _ HWd.out HOd.out).1.grow (HAl.out (g : Int) _ HWd.out HOd.out).2.1 hg (Nat.le_refl _)); clear ho hg)
                go_roundw
                case rel => exact ⟨k + 1, cl, done ++ [(g : Int)], by go_num, by omega, rfl, HcN, HO2, HW2, HDn, hide (HK1.out _)⟩
                case measure => simp [intOf] <;> omega
              · have hbe2 : (su == t1) = false := beq_eq_false_iff_ne.2 heq
                have HGn : Hid (∀ h, h < g + 1 → l.testBit h = true → F k h + tp F m n r (clr l h) ≠ t1) := hide (fun h hh ht => by
                  rcases Nat.lt_or_ge h g with h' | h'
                  · exact HG.out h h' ht
                  · obtain rfl : h = g := by omega
                    rw [Hsu.out]; exact heq)
                clear heq
                go_upto_region 14 with fail
                refine wp_region_held_drew (S := S1) (by kernel_rfl) hS (fun _ => ?_)
                refine wpAnyH_take (i := 0) (v := .int .i64 cl) rfl (by kernel_rfl) (by kernel_rfl) (by kernel_rfl) (fun _ _ _ h => h) (Or.inl ⟨by kernel_rfl, fun W' hW => by go_simp⟩) hS ?_
                refine wpAnyH_take (i := 1) (v := .int .i64 l) rfl (by kernel_rfl) (by kernel_rfl) (by kernel_rfl) (fun _ _ _ h => h) (Or.inl ⟨by kernel_rfl, fun W' hW => by go_simp⟩) hS ?_
                refine wpAnyH_ready (rs := [2]) (by kernel_rfl) (by simp) ?_
                refine AllReadyH.cons rfl (fun K hK => ?_) AllReadyH.nil
                go_simp
                refine hK.out _ _ hS (fun _ => ?_)
                clear hK K
                refine wpAnyH_ready (rs := [3]) (by kernel_rfl) (by simp) ?_
                refine AllReadyH.cons rfl (fun K hK => ?_) AllReadyH.nil
                go_simp
                refine hK.out _ _ hS (fun _ => ?_)
                clear hK K
                refine wpAnyH_take (i := 4) (v := .int .i64 k) rfl (by kernel_rfl) (by kernel_rfl) (by kernel_rfl) (fun _ _ _ h => h) (Or.inl ⟨by kernel_rfl, fun W' hW => by go_simp⟩) hS ?_
                refine wpAnyH_take (i := 5) (v := .int .i64 g) rfl (by kernel_rfl) (by kernel_rfl) (by kernel_rfl) (fun _ _ _ h => h) (Or.inl ⟨by kernel_rfl, fun W' hW => by go_simp⟩) hS ?_
                refine wpAnyH_take (i := 6) (v := .pointer (some ⟨g5, k * 6, none⟩)) rfl (by kernel_rfl) (by kernel_rfl) (by kernel_rfl) (fun _ _ _ h => h) (Or.inl ⟨by kernel_rfl, fun W' hW => by go_simp⟩) hS ?_
                refine wpAnyH_take (i := 7) (v := .pointer (some ⟨g5, k * 6 + g, none⟩)) rfl (by kernel_rfl) (by kernel_rfl) (by kernel_rfl) (fun _ _ _ h => h) (Or.inl ⟨by kernel_rfl, fun W' hW => by go_simp⟩) hS ?_
                refine wpAnyH_take (i := 8) (v := .int .i64 fv) rfl (by kernel_rfl) (by kernel_rfl) (by kernel_rfl) (fun _ _ _ h => h) (Or.inl ⟨by kernel_rfl, fun W' hW => by have z0 := SD.out W' hW; go_simp⟩) hS ?_
                refine wpAnyH_take (i := 9) (v := .int .i64 k) rfl (by kernel_rfl) (by kernel_rfl) (by kernel_rfl) (fun _ _ _ h => h) (Or.inl ⟨by kernel_rfl, fun W' hW => by go_simp⟩) hS ?_
                refine wpAnyH_take (i := 10) (v := .int .i64 k1) rfl (by kernel_rfl) (by kernel_rfl) (by kernel_rfl) (fun _ _ _ h => h) (Or.inl ⟨by kernel_rfl, fun W' hW => by go_simp⟩) hS ?_
                refine wpAnyH_take (i := 11) (v := .int .i64 cl) rfl (by kernel_rfl) (by kernel_rfl) (by kernel_rfl) (fun _ _ _ h => h) (Or.inl ⟨by kernel_rfl, fun W' hW => by go_simp⟩) hS ?_
                refine wpAnyH_take (i := 12) (v := .pointer (some ⟨g6, k1 * 64, none⟩)) rfl (by kernel_rfl) (by kernel_rfl) (by kernel_rfl) (fun _ _ _ h => h) (Or.inl ⟨by kernel_rfl, fun W' hW => by go_simp⟩) hS ?_
                refine wpAnyH_take (i := 13) (v := .pointer (some ⟨g6, k1 * 64 + cl, none⟩)) rfl (by kernel_rfl) (by kernel_rfl) (by kernel_rfl) (fun _ _ _ h => h) (Or.inl ⟨by kernel_rfl, fun W' hW => by go_simp⟩) hS ?_
                refine wpAnyH_take (i := 14) (v := .int .i64 t2) rfl (by kernel_rfl) (by kernel_rfl) (by kernel_rfl) (fun _ _ _ h => h) (Or.inl ⟨by kernel_rfl, fun W' hW => by have z0 := SD.out W' hW; go_simp⟩) hS ?_
                refine wpAnyH_take (i := 15) (v := .int .i64 su) rfl (by kernel_rfl) (by kernel_rfl) (by kernel_rfl) (fun _ _ _ h => h) (Or.inl ⟨by kernel_rfl, fun W' hW => by go_simp⟩) hS ?_
                refine wpAnyH_take (i := 16) (v := .int .i64 k) rfl (by kernel_rfl) (by kernel_rfl) (by kernel_rfl) (fun _ _ _ h => h) (Or.inl ⟨by kernel_rfl, fun W' hW => by go_simp⟩) hS ?_
                refine wpAnyH_take (i := 17) (v := .int .i64 l) rfl (by kernel_rfl) (by kernel_rfl) (by kernel_rfl) (fun _ _ _ h => h) (Or.inl ⟨by kernel_rfl, fun W' hW => by go_simp⟩) hS ?_
                refine wpAnyH_take (i := 18) (v := .pointer (some ⟨g6, k * 64, none⟩)) rfl (by kernel_rfl) (by kernel_rfl) (by kernel_rfl) (fun _ _ _ h => h) (Or.inl ⟨by kernel_rfl, fun W' hW => by go_simp⟩) hS ?_
                refine wpAnyH_take (i := 19) (v := .pointer (some ⟨g6, k * 64 + l, none⟩)) rfl (by kernel_rfl) (by kernel_rfl) (by kernel_rfl) (fun _ _ _ h => h) (Or.inl ⟨by kernel_rfl, fun W' hW => by go_simp⟩) hS ?_
                refine wpAnyH_take (i := 20) (v := .int .i64 t1) rfl (by kernel_rfl) (by kernel_rfl) (by kernel_rfl) (fun _ _ _ h => h) (Or.inl ⟨by kernel_rfl, fun W' hW => by have z0 := SD.out W' hW; go_simp⟩) hS ?_
                refine wpAnyH_ready (rs := [21]) (by kernel_rfl) (by simp) ?_
                refine AllReadyH.cons rfl (fun K hK => ?_) AllReadyH.nil
                go_simp
                refine hK.out _ _ hS (fun _ => ?_)
                clear hK K
                refine wpAnyH_ready (rs := [22]) (by kernel_rfl) (by simp) ?_
                refine AllReadyH.cons rfl (fun K hK => ?_) AllReadyH.nil
                go_simp
                refine hK.out _ _ hS (fun _ => ?_)
                clear hK K
                refine wpAnyH_done (by kernel_rfl) ?_ _
                go_wp2_with fail
                go_roundw
                case rel => exact ⟨g + 1, by go_num, rfl, rfl, by omega, HWd, HOd, HGn⟩
                case measure => simp [intOf] <;> omega
            · rw [if_neg hb] at hbo
              have hne : ((l : Int) != (l : Int)) = false := bne_self_eq_false _
              have HGn : Hid (∀ h, h < g + 1 → l.testBit h = true → F k h + tp F m n r (clr l h) ≠ t1) := hide (fun h hh ht => by
                rcases Nat.lt_or_ge h g with h' | h'
                · exact HG.out h h' ht
                · obtain rfl : h = g := by omega
                  exact absurd ht hb)
              clear hb hp
              go_upto_region 14 with fail
              refine wp_region_held_drew (S := fun _ => True) (by kernel_rfl) trivial (fun _ => ?_)
              refine wpAnyH_take (i := 0) (v := .int .i64 l) rfl (by kernel_rfl) (by kernel_rfl) (by kernel_rfl) (fun _ _ _ h => h) (Or.inl ⟨by kernel_rfl, fun W' hW => by go_simp⟩) trivial ?_
              refine wpAnyH_take (i := 1) (v := .int .i64 l) rfl (by kernel_rfl) (by kernel_rfl) (by kernel_rfl) (fun _ _ _ h => h) (Or.inl ⟨by kernel_rfl, fun W' hW => by go_simp⟩) trivial ?_
              refine wpAnyH_ready (rs := [2]) (by kernel_rfl) (by simp) ?_
              refine AllReadyH.cons rfl (fun K hK => ?_) AllReadyH.nil
              go_simp
              refine hK.out _ _ trivial (fun _ => ?_)
              clear hK K
              refine wpAnyH_ready (rs := [3]) (by kernel_rfl) (by simp) ?_
              refine AllReadyH.cons rfl (fun K hK => ?_) AllReadyH.nil
              go_simp
              refine hK.out _ _ trivial (fun _ => ?_)
              clear hK K
              refine wpAnyH_take (i := 4) (v := undef) rfl (by kernel_rfl) (by kernel_rfl) (by kernel_rfl) (fun _ _ _ h => h) (Or.inr ⟨by kernel_rfl, rfl⟩) trivial ?_
              refine wpAnyH_take (i := 5) (v := undef) rfl (by kernel_rfl) (by kernel_rfl) (by kernel_rfl) (fun _ _ _ h => h) (Or.inr ⟨by kernel_rfl, rfl⟩) trivial ?_
              refine wpAnyH_take (i := 6) (v := undef) rfl (by kernel_rfl) (by kernel_rfl) (by kernel_rfl) (fun _ _ _ h => h) (Or.inr ⟨by kernel_rfl, rfl⟩) trivial ?_
              refine wpAnyH_take (i := 7) (v := undef) rfl (by kernel_rfl) (by kernel_rfl) (by kernel_rfl) (fun _ _ _ h => h) (Or.inr ⟨by kernel_rfl, rfl⟩) trivial ?_
              refine wpAnyH_take (i := 8) (v := undef) rfl (by kernel_rfl) (by kernel_rfl) (by kernel_rfl) (fun _ _ _ h => h) (Or.inr ⟨by kernel_rfl, rfl⟩) trivial ?_
              refine wpAnyH_take (i := 9) (v := undef) rfl (by kernel_rfl) (by kernel_rfl) (by kernel_rfl) (fun _ _ _ h => h) (Or.inr ⟨by kernel_rfl, rfl⟩) trivial ?_
              refine wpAnyH_take (i := 10) (v := undef) rfl (by kernel_rfl) (by kernel_rfl) (by kernel_rfl) (fun _ _ _ h => h) (Or.inr ⟨by kernel_rfl, rfl⟩) trivial ?_
              refine wpAnyH_take (i := 11) (v := undef) rfl (by kernel_rfl) (by kernel_rfl) (by kernel_rfl) (fun _ _ _ h => h) (Or.inr ⟨by kernel_rfl, rfl⟩) trivial ?_
              refine wpAnyH_take (i := 12) (v := undef) rfl (by kernel_rfl) (by kernel_rfl) (by kernel_rfl) (fun _ _ _ h => h) (Or.inr ⟨by kernel_rfl, rfl⟩) trivial ?_
              refine wpAnyH_take (i := 13) (v := undef) rfl (by kernel_rfl) (by kernel_rfl) (by kernel_rfl) (fun _ _ _ h => h) (Or.inr ⟨by kernel_rfl, rfl⟩) trivial ?_
              refine wpAnyH_take (i := 14) (v := undef) rfl (by kernel_rfl) (by kernel_rfl) (by kernel_rfl) (fun _ _ _ h => h) (Or.inr ⟨by kernel_rfl, rfl⟩) trivial ?_
              refine wpAnyH_take (i := 15) (v := undef) rfl (by kernel_rfl) (by kernel_rfl) (by kernel_rfl) (fun _ _ _ h => h) (Or.inr ⟨by kernel_rfl, rfl⟩) trivial ?_
              refine wpAnyH_take (i := 16) (v := undef) rfl (by kernel_rfl) (by kernel_rfl) (by kernel_rfl) (fun _ _ _ h => h) (Or.inr ⟨by kernel_rfl, rfl⟩) trivial ?_
              refine wpAnyH_take (i := 17) (v := undef) rfl (by kernel_rfl) (by kernel_rfl) (by kernel_rfl) (fun _ _ _ h => h) (Or.inr ⟨by kernel_rfl, rfl⟩) trivial ?_
              refine wpAnyH_take (i := 18) (v := undef) rfl (by kernel_rfl) (by kernel_rfl) (by kernel_rfl) (fun _ _ _ h => h) (Or.inr ⟨by kernel_rfl, rfl⟩) trivial ?_
              refine wpAnyH_take (i := 19) (v := undef) rfl (by kernel_rfl) (by kernel_rfl) (by kernel_rfl) (fun _ _ _ h => h) (Or.inr ⟨by kernel_rfl, rfl⟩) trivial ?_
              refine wpAnyH_take (i := 20) (v := undef) rfl (by kernel_rfl) (by kernel_rfl) (by kernel_rfl) (fun _ _ _ h => h) (Or.inr ⟨by kernel_rfl, rfl⟩) trivial ?_
              refine wpAnyH_take (i := 21) (v := undef) rfl (by kernel_rfl) (by kernel_rfl) (by kernel_rfl) (fun _ _ _ h => h) (Or.inr ⟨by kernel_rfl, rfl⟩) trivial ?_
              refine wpAnyH_ready (rs := [22]) (by kernel_rfl) (by simp) ?_
              refine AllReadyH.cons rfl (fun K hK => ?_) AllReadyH.nil
              go_simp
              refine hK.out _ _ trivial (fun _ => ?_)
              clear hK K
              refine wpAnyH_done (by kernel_rfl) ?_ _
              go_wp2_with fail
              go_roundw
              case rel => exact ⟨g + 1, by go_num, rfl, rfl, by omega, HWd, HOd, HGn⟩
              case measure => simp [intOf] <;> omega
          · exfalso
            obtain ⟨g', h1, h2, h3, h4, h5⟩ := Hex.out
            exact HG.out g' (by omega) h3 h4
    · obtain rfl : k = n := by omega
      have j1 : ¬ (k : Int) < (k : Int) := by omega
      have e : done = lst F m k k N1 := by have := HD.out; rw [Nat.sub_self, lst, List.append_nil] at this; exact this
      obtain ⟨a8, c8, e8⟩ := HO.out.rd.form
      rw [HK.out] at e8
      subst e8
      have HOn : Hid (intE.Own wr w0.heap.size (.slice a8 k c8) (lst F m k k N1)) := hide (by rw [← e]; exact HO.out)
      clear e
      go_wp2_with fail
      try rw [Exit.noGoto_ret]
      refine bodyPost_ret (v := .slice a8 k c8) (by simp [results, Try.f9, go_sem]) rfl (HP.out _ _ ⟨a8, c8, rfl, HOn.out, HW.out.bel⟩)
end Go.Proofs.Ytochllbnlnammab
