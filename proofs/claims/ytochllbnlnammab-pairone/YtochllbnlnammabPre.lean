/- A pairing's drive. -/
import Derived.Test.YtochllbnlnammabPrd
namespace Go.Proofs.Ytochllbnlnammab
open Go.RowKit
set_option linter.unusedVariables false

theorem mxg_congr {row row' nx nx' : Nat → Int} {left n : Nat} (h1 : ∀ g, g < n → row g = row' g) (h2 : ∀ l, nx l = nx' l) : mxg row nx left n = mxg row' nx' left n := by
  induction n with
  | zero => exact h2 left
  | succ n ih => rw [mxg, mxg, ih (fun g hg => h1 g (by omega)), h1 n (by omega), h2]
theorem tp_congr {F G : Nat → Nat → Int} {ng ns : Nat} (h : ∀ s g, s < ns → g < ng → F s g = G s g) (r : Nat) (hr : r ≤ ns) (l : Nat) : tp F ng ns r l = tp G ng ns r l := by
  induction r generalizing l with
  | zero => rfl
  | succ r ih => rw [tp, tp]; exact mxg_congr (fun g hg => h _ g (by omega) hg) (fun l => ih (by omega) l)
theorem sv_congr {F G : Nat → Nat → Int} {m : List (Nat × Nat)} (h : ∀ p ∈ m, F p.1 p.2 = G p.1 p.2) : sv F m = sv G m := by
  unfold sv; rw [List.map_congr_left h]

/-- all alone -/
def alo (p : Int × Int) : Int := 2 * dr (0, 0) p
def tot (L : List (Int × Int)) : Int := (L.map alo).sum
theorem tot_app (L M : List (Int × Int)) : tot (L ++ M) = tot L + tot M := by unfold tot; rw [List.map_append, List.sum_append]
theorem tot_one (p : Int × Int) : tot [p] = alo p := by simp [tot]
theorem tot_bd {L : List (Int × Int)} (h : ∀ p ∈ L, In p) : 0 ≤ tot L ∧ tot L ≤ 2000 * L.length := by
  induction L with
  | nil => simp [tot]
  | cons p L ih =>
    have h1 := dr_bd In.zero (h p (List.mem_cons_self ..))
    have h2 := ih (fun q hq => h q (List.mem_cons_of_mem _ hq))
    have e : tot (p :: L) = 2 * dr (0, 0) p + tot L := rfl
    rw [e, List.length_cons]
    omega
theorem sg_bd {L M : List (Int × Int)} (hL : Alw L) (hM : Alw M) (s g : Nat) : -1000 ≤ sg L M s g ∧ sg L M s g ≤ 2000 := by
  have h : ∀ (L : List (Int × Int)) (i : Nat), Alw L → In (L.getD i (0, 0)) := fun L i h => by
    rw [List.getD_eq_getElem?_getD]
    cases e : L[i]? with
    | none => exact In.zero
    | some p => exact h.2 p (List.mem_of_getElem? e)
  have h1 := dr_bd In.zero (h L s hL)
  have h2 := dr_bd In.zero (h M g hM)
  have h3 := dr_bd (h L s hL) (h M g hM)
  unfold sg sgs
  omega
theorem sv_bd {F : Nat → Nat → Int} (h : ∀ s g, -1000 ≤ F s g ∧ F s g ≤ 2000) (m : List (Nat × Nat)) : -1000 * (m.length : Int) ≤ sv F m ∧ sv F m ≤ 2000 * m.length := by
  induction m with
  | nil => simp [sv]
  | cons p m ih => have := h p.1 p.2; rw [sv_cons, List.length_cons]; omega
theorem mof_len (k : Nat) (l : List Int) : (mof k l).length ≤ l.length := by
  induction l generalizing k with
  | nil => simp [mof]
  | cons x l ih => have := ih (k + 1); rw [mof]; split <;> simp <;> omega
/-- places of n stores and m retrievals -/
def Pl (n m : Nat) (ps : List Int) : Prop := ps.length = n ∧ ∀ x ∈ ps, -1 ≤ x ∧ x < (m : Int)
/-- a pairing's drive -/
def cst (L M : List (Int × Int)) (ps : List Int) : Int := tot L + tot M - sv (sg L M) (mof 0 ps)
theorem mof_step {ps : List Int} {k : Nat} {x : Int} (h : ps[k]? = some x) : mof 0 (ps.take (k + 1)) = mof 0 (ps.take k) ++ if 0 ≤ x then [(k, x.toNat)] else [] := by
  rw [List.take_add_one, h]
  show mof 0 (ps.take k ++ [x]) = _
  rw [mof_app, List.length_take, Nat.min_eq_left (Nat.le_of_lt (idx_lt h)), Nat.zero_add]
  congr 1

/-- the world of drive: the table in block g -/
structure Dw (w W : World) (g : Nat) (C : Array Value) (f : Nat → Nat → Int) : Prop where
  bel : Below w.heap.size w W
  t : W.heap[g]? = some (.cells C 39)
  tb : Tb 6 6 C f
theorem info63 : (Try.prog.info? 39).map (·.size) = some 36 := by kernel_rfl

set_option maxRecDepth 100000 in
set_option maxHeartbeats 4000000 in
theorem drives_any (a b p : Option Addr) (n c m d c' : Nat) (L M : List (Int × Int)) (ps : List Int) (w : World) (hn : L.length = n) (hm : M.length = m) (hv : spE.Rd w (.slice a n c) L) (hu : spE.Rd w (.slice b m d) M) (hq : intE.Rd w (.slice p n c') ps) (hL : Alw L) (hM : Alw M) (hp : Pl n m ps) :
    Calls Try.prog 10 #[.slice a n c, .slice b m d, .slice p n c'] w fun e w' => e = .returned (.int .i64 (cst L M ps)) ∧ Below w.heap.size w w' := by
  obtain ⟨w0, rfl⟩ : ∃ w0, w0 = w := ⟨_, rfl⟩
  have Hn := hide hn
  have Hm := hide hm
  have HQ := hide hq
  have HL := hide hL
  have HM := hide hM
  have HP := hide hp
  have n6 : n ≤ 6 := by rw [← hn]; exact hL.1
  have m6 : m ≤ 6 := by rw [← hm]; exact hM.1
  have i0 : (n : Int) ≤ 6 := by omega
  have i1 : (m : Int) ≤ 6 := by omega
  have HBn : Hid (Below w0.heap.size w0 (w0.alloc (.cells #[.slice a n c, .slice b m d] 29))) := hide ((Below.refl _ _).alloc (Nat.le_refl _) _)
  obtain ⟨nm, hnm⟩ : ∃ nm, n + m = nm := ⟨_, rfl⟩
  have i2 : (nm : Int) ≤ 12 := by omega
  have K29 : Hid (Calls Try.prog 14 #[.slice (some ⟨w0.heap.size, 0, none⟩) 2 2] (w0.alloc (.cells #[.slice a n c, .slice b m d] 29)) fun e w' => ∃ a16 c16, e = .returned (.slice a16 nm c16) ∧ spE.Rd w' (.slice a16 nm c16) (L ++ M) ∧ Below w0.heap.size w0 w') := hide ((concat_any w0.heap.size a b n c m d L M (w0.alloc (.cells #[.slice a n c, .slice b m d] 29)) hn hm ((cells_at (heap_new _ _) 0).1) ((cells_at (heap_new _ _) 1).1) (hv.keep HBn.out) (hu.keep HBn.out) (by omega) (by omega)).mono (by
    rintro e w' ⟨⟨v, rfl, ho⟩, hb⟩
    obtain ⟨a16, c16, e16⟩ := ho.rd.form
    rw [List.length_append, hn, hm, hnm] at e16
    subst e16
    exact ⟨a16, c16, rfl, ho.rd, HBn.out.trans (hb.mono HBn.out.size)⟩))
  have K30 : Hid (∀ W, Below w0.heap.size w0 W → Calls Try.prog 12 #[.slice a n c, .slice b m d] W (SavP n m L M W)) := hide (fun W h => savings_any a b n c m d L M W hn hm (hv.keep h) (hu.keep h) hL hM)
  have HLM : Hid ((L ++ M).length = nm) := hide (by rw [List.length_append, hn, hm]; exact hnm)
  have HIn : Hid (∀ q ∈ L ++ M, In q) := hide (fun q hq => by rcases List.mem_append.1 hq with h | h; exact hL.2 q h; exact hM.2 q h)
  have Hsb := hide (sg_bd hL hM)
  obtain ⟨LM, hLM⟩ : ∃ LM, L ++ M = LM := ⟨_, rfl⟩
  have Hc : Hid (cst L M ps = tot LM - sv (sg L M) (mof 0 ps)) := hide (by unfold cst; rw [← hLM, tot_app])
  rw [hLM] at K29 HLM HIn
  obtain ⟨res, hres⟩ : ∃ res, cst L M ps = res := ⟨_, rfl⟩
  rw [hres] at Hc ⊢
  have i3 : (0 : Int) ≤ (nm : Int) := by omega
  clear hn hm hv hu hq hL hM hp hnm hLM hres
  go_enter Try.func10, Try.ntmps10
  go_upto_region 3 with (go_at_call 14; refine (K29.out).mono ?_; rintro e W1 ⟨a16, c16, rfl, ho, hb⟩; have HO := hide ho; have HB := hide hb; clear ho hb)
  obtain ⟨wA, rfl⟩ : ∃ W, W = W1 := ⟨_, rfl⟩
  go_loopw [7, 18] (fun v7 v18 wr => ∃ (k : Nat) (x : Int), v18 = .int .i64 k ∧ k ≤ nm ∧ v7 = .int .i64 x ∧ Hid (x = tot (LM.take k)) ∧ Hid (Below wA.heap.size wA wr)) (fun _ v18 _ => nm - (intOf v18).toNat)
  case atStart => exact ⟨0, 0, rfl, Nat.zero_le _, rfl, hide (by simp [tot]), hide (Below.refl _ _)⟩
  case round =>
    obtain ⟨k, x, rfl, hk, rfl, HX, HBr⟩ := hrel
    by_cases hlt : k < nm
    · obtain ⟨⟨x1, y1⟩, hp⟩ : ∃ q, LM[k]? = some q := ⟨_, List.getElem?_eq_getElem (by rw [HLM.out]; exact hlt)⟩
      obtain ⟨b1, off1, rfl, c0, c1⟩ := sp_at (HO.out.keep HBr.out) k _ hp
      have j0 : (0 : Int) ≤ (k : Int) := by omega
      have j1 : (k : Int) < (nm : Int) := by omega
      have hI := HIn.out _ (List.mem_of_getElem? hp)
      obtain ⟨s1, s2⟩ := hI.sm
      have K10 := hide (fun W => drive_any 0 0 x1 y1 W Sm.zero Sm.zero s1 s2)
      obtain ⟨d0, d1⟩ := dr_bd In.zero hI
      have hX1 : tot (LM.take (k + 1)) = x + 2 * dr (0, 0) (x1, y1) := by rw [List.take_add_one, hp, HX.out]; exact tot_app _ _ |>.trans (by rw [show tot ((some (x1, y1)).toList) = alo (x1, y1) from tot_one _]; rfl)
      have hxb : 0 ≤ x ∧ x ≤ 24000 := by
        have := tot_bd (L := LM.take k) (fun q hq => HIn.out q (List.mem_of_mem_take hq))
        rw [← HX.out, List.length_take] at this
        omega
      generalize dr (0, 0) (x1, y1) = dd at *
      obtain ⟨z, hz⟩ : ∃ z, x + 2 * dd = z := ⟨_, rfl⟩
      have HX1 : Hid (z = tot (LM.take (k + 1))) := hide (by rw [hX1, hz])
      have HBs : Hid (∀ W', Below (wr.alloc (.cells #[.int .i64 x1, .int .i64 y1] 23)).heap.size (wr.alloc (.cells #[.int .i64 x1, .int .i64 y1] 23)) W' → Below wA.heap.size wA W') := hide (fun W' h => by
        have h1 : Below wA.heap.size wA (wr.alloc (.cells #[.int .i64 x1, .int .i64 y1] 23)) := HBr.out.alloc HBr.out.size _
        exact h1.trans (h.mono h1.size))
      have hw1 : wrap64 (2 * dd) = 2 * dd := by unfold wrap64; omega
      have hw2 : wrap64 (x + 2 * dd) = z := by unfold wrap64; omega
      obtain ⟨x0, x5⟩ := hxb
      clear hp hI s1 s2 hX1 HX
      go_wp2_with (go_at_call 6; refine (K10.out _).mono ?_; rintro e W2 ⟨rfl, hb⟩; have HB2 := hide (HBs.out _ hb); clear hb)
      go_roundw
      case rel => exact ⟨k + 1, z, by go_num, by omega, by rw [← hz], HX1, HB2⟩
      case measure => simp [intOf] <;> omega
    · obtain rfl : k = nm := by omega
      have j1 : ¬ (k : Int) < (k : Int) := by omega
      have HX1 : Hid (x = tot LM) := hide (by rw [HX.out, ← HLM.out, List.take_length])
      have hxb : 0 ≤ x ∧ x ≤ 24000 := by
        have := tot_bd HIn.out
        rw [← HX1.out, HLM.out] at this
        omega
      have HBw := hide (HB.out.trans (HBr.out.mono HB.out.size))
      have HZs : Hid ((36 : Nat) = 36) := hide rfl
      go_upto_region 9 with (first
        | (go_at_call 12; refine (K30.out _ HBw.out).mono ?_; rintro e W2 ⟨C, f, rfl, hC, hf, hb⟩; have HC := hide hC; have Hf := hide hf; have HB2 := hide (HBw.out.trans (hb.mono HBw.out.size)); have Hi : Hid ((Try.prog.info? 39).map (·.size) = some C.size) := hide (by rw [hC.sz]; exact info63); have H1 := hide hC.one; clear hC hf hb)
        | (refine wpList_store_rowTo rfl 39 _ _ rfl rfl W2.heap.size C rfl rfl 39 _ (heap_new W2 _) Hi.out (by rw [HC.out.sz]; rfl) H1.out ?_; rw [World.setRow_alloc_new]))
      have HD : Hid (Dw w0 (W2.alloc (.cells C 39)) W2.heap.size C f) := hide ⟨HB2.out.alloc HB2.out.size _, heap_new _ _, HC.out⟩
      generalize W2.alloc (.cells C 39) = W3 at *
      generalize W2.heap.size = g at *
      obtain ⟨xT, hxT⟩ : ∃ y, x = y := ⟨_, rfl⟩
      have HxT := hide hxT
      have Hsv : Hid (∀ k, k ≤ 6 → -6000 ≤ sv (sg L M) (mof 0 (ps.take k)) ∧ sv (sg L M) (mof 0 (ps.take k)) ≤ 12000) := hide (fun k hk => by
        have h1 := sv_bd Hsb.out (mof 0 (ps.take k))
        have h2 := mof_len 0 (ps.take k)
        rw [List.length_take] at h2
        omega)
      clear hxT HX HBr HBw HB2 Hi H1
      go_loopw [7, 34] (fun v7 v34 wr => ∃ (k : Nat) (y : Int), v34 = .int .i64 k ∧ k ≤ n ∧ v7 = .int .i64 y ∧ Hid (y = xT - sv (sg L M) (mof 0 (ps.take k))) ∧ wr = W3) (fun _ v34 _ => n - (intOf v34).toNat)
      case atStart => exact ⟨0, x, rfl, Nat.zero_le _, rfl, hide (by rw [HxT.out]; simp [mof, sv]), rfl⟩
      case round =>
        obtain ⟨t, y, rfl, ht, rfl, HY, hwr⟩ := hrel
        subst hwr
        have hyb : -12000 ≤ y ∧ y ≤ 30000 := by
          have := Hsv.out t (by omega)
          rw [HY.out, ← HxT.out]
          omega
        by_cases hlt' : t < n
        · obtain ⟨q, hq⟩ : ∃ q, ps[t]? = some q := ⟨_, List.getElem?_eq_getElem (by rw [HP.out.1]; exact hlt')⟩
          obtain ⟨b1, off1, rfl, c0⟩ := int_at (HQ.out.keep HD.out.bel) t q hq
          obtain ⟨q0, q1⟩ := HP.out.2 q (List.mem_of_getElem? hq)
          have t0 : (0 : Int) ≤ (t : Int) := by omega
          have t1 : (t : Int) < (n : Int) := by omega
          have t2 : (t : Int) < 6 := by omega
          have hst := mof_step hq
          by_cases hq1 : q = -1
          · subst hq1
            have HY1 : Hid (y = xT - sv (sg L M) (mof 0 (ps.take (t + 1)))) := hide (by rw [hst, if_neg (by omega), List.append_nil]; exact HY.out)
            clear hst hq
            go_wp2_with fail
            go_roundw
            case rel => exact ⟨t + 1, y, by go_num, by omega, rfl, HY1, trivial⟩
            case measure => simp [intOf] <;> omega
          · obtain ⟨j, rfl⟩ : ∃ j : Nat, q = (j : Int) := ⟨q.toNat, by omega⟩
            have hjm : j < m := by omega
            have j6 : (j : Int) < 6 := by omega
            have j00 : (0 : Int) ≤ (j : Int) := by omega
            obtain ⟨cj, fj⟩ := HD.out.tb.cell HD.out.t (i := t) (j := j) (by omega) (by omega)
            have hfe := Hf.out t j hlt' hjm
            obtain ⟨fb0, fb1⟩ := Hsb.out t j
            rw [hfe] at cj
            have HY1 : Hid (y - sg L M t j = xT - sv (sg L M) (mof 0 (ps.take (t + 1)))) := hide (by
              rw [hst, if_pos (by omega), sv_app, HY.out]
              show _ = xT - (_ + (sg L M t (j : Int).toNat + 0))
              rw [Int.toNat_natCast]; omega)
            generalize sg L M t j = fv at cj fb0 fb1 HY1
            have hne : ((j : Int) != -1) = true := by simp
            obtain ⟨y0, y1⟩ := hyb
            have hw : wrap64 (y - fv) = y - fv := by unfold wrap64; omega
            clear hst hq hfe
            go_wp2_with fail
            go_roundw
            case rel => exact ⟨t + 1, y - fv, by go_num, by omega, rfl, HY1, trivial⟩
            case measure => simp [intOf] <;> omega
        · obtain rfl : t = n := by omega
          have t1 : ¬ (t : Int) < (t : Int) := by omega
          have e : y = res := by rw [HY.out, Hc.out, ← HxT.out, HX1.out, ← HP.out.1, List.take_length]
          subst e
          go_wp2_with fail
          go_ret
          exact ⟨rfl, HD.out.bel⟩
end Go.Proofs.Ytochllbnlnammab
