/- The document's rack as it lies; its Where, Best, Room. -/
import Derived.Test.YtddcjkbdgneklaaLrt
namespace Go.Proofs.Ytddcjkbdgneklaa
open Go.RowKit
set_option linter.unusedVariables false

theorem wrap_sm (x : Int) (h : -1000 ≤ x ∧ x ≤ 1000) : IntKind.i64.wrap x = x := by
  simp [IntKind.wrap, IntKind.bits, IntKind.signed]; omega
/-- a lane of the document's as it lies: its depth, where its totes lie, how many -/
structure LnV where
  d : Nat
  a : Option Addr
  n : Nat
  c : Nat
def lnE : El Try.prog LnV where
  t := 29
  e := 75
  k := 2
  by' := 32
  z := .agg #[.int .i64 0, .slice none 0 0]
  enc e := [.int .i64 e.d, .slice e.a e.n e.c]
  ht := Try.underlying29
  info := by kernel_rfl
  zc := rfl
  kpos := by omega
  bsm := by omega
  len _ := rfl
  one x v hv := by simp at hv; rcases hv with rfl | rfl <;> rfl
/-- the document's rack -/
structure DR (W : World) (B : Nat) (a : Option Addr) (n c : Nat) (es : List LnV) (R : Rack) : Prop where
  row : lnE.Own W B (.slice a n c) es
  en : es.length = n
  rn : R.length = n
  n32 : n ≤ 32
  at' : ∀ (i : Nat) (e : LnV) (l : Nat × List Int), es[i]? = some e → R[i]? = some l → e.d = l.1 ∧ e.n = l.2.length ∧ intE.Own W B (.slice e.a e.n e.c) l.2
  bd : ∀ (i : Nat) (l : Nat × List Int), R[i]? = some l → l.2.length ≤ l.1 ∧ l.1 ≤ 8
section
variable {W W' : World} {B : Nat} {a : Option Addr} {n c : Nat} {es : List LnV} {R : Rack}
theorem DR.keep (h : DR W B a n c es R) (hb : Below W.heap.size W W') : DR W' B a n c es R :=
  ⟨h.row.keep hb, h.en, h.rn, h.n32, fun i e l h1 h2 => ⟨(h.at' i e l h1 h2).1, (h.at' i e l h1 h2).2.1, (h.at' i e l h1 h2).2.2.keep hb⟩, h.bd⟩
theorem DR.fr {B' : Nat} (h : DR W B a n c es R) (hf : Fr B' W W') : DR W' B a n c es R :=
  ⟨own_fr h.row hf (by decide), h.en, h.rn, h.n32, fun i e l h1 h2 => ⟨(h.at' i e l h1 h2).1, (h.at' i e l h1 h2).2.1, own_fr (h.at' i e l h1 h2).2.2 hf (by decide)⟩, h.bd⟩
theorem DR.mono {B' : Nat} (h : DR W B a n c es R) (hB : B' ≤ B) : DR W B' a n c es R :=
  ⟨h.row.mono hB, h.en, h.rn, h.n32, fun i e l h1 h2 => ⟨(h.at' i e l h1 h2).1, (h.at' i e l h1 h2).2.1, (h.at' i e l h1 h2).2.2.mono hB⟩, h.bd⟩
theorem DR.lane (h : DR W B a n c es R) {i : Nat} {l : Nat × List Int} (hl : R[i]? = some l) : ∃ b off a' c', a = some ⟨b, off, none⟩ ∧ es[i]? = some ⟨l.1, a', l.2.length, c'⟩ ∧ W.cell? ⟨b, off + i * 2, none⟩ = some (.int .i64 l.1) ∧ W.cell? ⟨b, off + i * 2 + 1, none⟩ = some (.slice a' l.2.length c') ∧ intE.Own W B (.slice a' l.2.length c') l.2 ∧ b < W.heap.size := by
  obtain ⟨e, he⟩ : ∃ e, es[i]? = some e := ⟨_, List.getElem?_eq_getElem (by rw [h.en, ← h.rn]; exact idx_lt hl)⟩
  obtain ⟨b, off, e1, hc⟩ := El.Rd.at h.row.rd i e he
  obtain ⟨h1, h2, h3⟩ := h.at' i e l he hl
  obtain ⟨ed, ea, en, ec⟩ := e
  simp only at h1 h2 h3
  subst h1 h2
  have k0 : W.cell? ⟨b, off + i * 2, none⟩ = some (.int .i64 l.1) := hc 0 (by decide)
  exact ⟨b, off, ea, ec, e1, he, k0, hc 1 (by decide), h3, cell_lt k0⟩
end
/-- one box of a rack -/
structure X1 (w0 : World) (h : Nat) (v : Value) (W : World) : Prop where
  bel : Below h w0 W
  b1 : W.heap[h]? = some (.cells #[v] 31)
theorem X1.keep {w0 W W' : World} {h : Nat} {v : Value} (x : X1 w0 h v W) (hb : Below W.heap.size W W') : X1 w0 h v W' :=
  ⟨x.bel.trans (hb.mono (Nat.le_of_lt (heap_lt x.b1))), (hb.block _ (heap_lt x.b1)).trans x.b1⟩
theorem X1.new (w : World) (v : Value) (h : Nat) (hh : w.heap.size = h) : X1 w h v (w.alloc (.cells #[v] 31)) := by
  subst hh
  exact ⟨(Below.refl _ _).alloc (Nat.le_refl _) _, heap_new _ _⟩
theorem X1.cell {w0 W : World} {h : Nat} {v : Value} (x : X1 w0 h v W) : W.cell? ⟨h, 0, none⟩ = some v := (cells_at x.b1 0).1

section
variable {B : Nat} {a : Option Addr} {n c : Nat} {es : List LnV} {R : Rack}
set_option maxRecDepth 100000 in
set_option maxHeartbeats 4000000 in
theorem rwhere_any (t : Int) (w : World) (hr : DR w B a n c es R) :
    Calls Try.prog 29 #[.agg #[.slice a n c], .int .i64 t] w fun e w' => e = .returned (.int .i64 (whr R t)) ∧ Below w.heap.size w w' := by
  obtain ⟨w0, rfl⟩ : ∃ w0, w0 = w := ⟨_, rfl⟩
  obtain ⟨h, hh⟩ : ∃ h, w0.heap.size = h := ⟨_, rfl⟩
  have HX0 := hide (X1.new w0 (.slice a n c) h hh)
  have HD : Hid (∀ W, X1 w0 h (.slice a n c) W → DR W B a n c es R) := hide (fun W x => hr.keep (by rw [hh]; exact x.bel))
  have Hn := hide hr.rn
  have i0 : (n : Int) ≤ 32 := by have := hr.n32; omega
  have yes : Hid (∀ (k : Nat) (l : Nat × List Int), R[k]? = some l → t ∈ l.2 → (∀ (i : Nat) (l' : Nat × List Int), i < k → R[i]? = some l' → t ∉ l'.2) → whr R t = k) := hide (fun k l h1 h2 h3 => whr_yes h1 h2 h3)
  have no : Hid ((∀ (i : Nat) (l' : Nat × List Int), i < n → R[i]? = some l' → t ∉ l'.2) → whr R t = -1) := hide (fun h => whr_no fun i l hl => h i l (by rw [← hr.rn]; exact idx_lt hl) hl)
  have KA : Hid (∀ (W : World) (i : Nat) (l : Nat × List Int) (a' : Option Addr) (c' : Nat), DR W B a n c es R → R[i]? = some l → es[i]? = some ⟨l.1, a', l.2.length, c'⟩ → Calls Try.prog 42 #[.agg #[.int .i64 l.1, .slice a' l.2.length c'], .int .i64 t] W fun e w' => e = .returned (.int .i64 (loc l.2 t)) ∧ Below W.heap.size W w') := hide (fun W i l a' c' hd hl he => at_any _ t (hd.at' i _ l he hl).2.2.rd rfl (by have := hd.bd i l hl; omega))
  generalize whr R t = res at *
  rw [hh]
  have Hh := hide hh
  clear hr hh
  go_enter Try.func29, Try.ntmps29
  go_upto_region 1 with fail
  rw [Hh.out]
  generalize w0.alloc (.cells #[.slice a n c] 31) = W at *
  have x1 := HX0.out.cell
  go_wp2_with fail
  go_loopw [9] (fun v9 wr => ∃ k : Nat, v9 = .int .i64 k ∧ k ≤ n ∧ Hid (X1 w0 h (.slice a n c) wr) ∧ Hid (∀ (i : Nat) (l' : Nat × List Int), i < k → R[i]? = some l' → t ∉ l'.2)) (fun v9 _ => n - (intOf v9).toNat)
  case atStart => exact ⟨0, rfl, Nat.zero_le _, HX0, hide (fun i l' hi => by omega)⟩
  case round =>
    clear x1
    obtain ⟨k, rfl, hk, HX, HN⟩ := hrel
    have x1 := HX.out.cell
    by_cases hlt : k < n
    · obtain ⟨l, hl⟩ : ∃ l, R[k]? = some l := ⟨_, List.getElem?_eq_getElem (by rw [Hn.out]; exact hlt)⟩
      obtain ⟨b, off, a', c', rfl, he, z0, z1, ho, _⟩ := (HD.out wr HX.out).lane hl
      have K := hide (KA.out wr k l a' c' (HD.out wr HX.out) hl he)
      have j0 : (0 : Int) ≤ (k : Int) := by omega
      have j1 : (k : Int) < (n : Int) := by omega
      obtain ⟨m, hm⟩ : ∃ m, l.2.length = m := ⟨_, rfl⟩
      rw [hm] at z1 K
      by_cases ht : t ∈ l.2
      · obtain ⟨p, hp, _⟩ := loc_in ht
        rw [hp] at K
        have j2 : (p : Int) ≥ 0 := by omega
        have e1 := yes.out k l hl ht HN.out
        subst e1
        clear hl he ho hm ht hp
        go_wp2_with (go_at_call 42; refine K.out.mono ?_; rintro e W1 ⟨rfl, hb⟩; have HB := hide (HX.out.keep hb); clear hb)
        go_ret
        exact ⟨rfl, HB.out.bel⟩
      · rw [loc_no ht] at K
        have HN1 : Hid (∀ (i : Nat) (l' : Nat × List Int), i < k + 1 → R[i]? = some l' → t ∉ l'.2) := hide (fun i l' hi hl' => by
          rcases Nat.lt_or_ge i k with g | g
          · exact HN.out i l' g hl'
          · obtain rfl : i = k := by omega
            rw [hl] at hl'
            cases hl'
            exact ht)
        clear hl he ho hm ht
        go_wp2_with (go_at_call 42; refine K.out.mono ?_; rintro e W1 ⟨rfl, hb⟩; have HB := hide (HX.out.keep hb); clear hb)
        go_roundw
        case rel => exact ⟨k + 1, by go_num, by omega, HB, HN1⟩
        case measure => simp [intOf]; omega
    · obtain rfl : k = n := by omega
      have j1 : ¬ (k : Int) < (k : Int) := by omega
      have e1 := no.out HN.out
      subst e1
      go_wp2_with fail
      go_ret
      exact ⟨rfl, HX.out.bel⟩

set_option maxRecDepth 100000 in
set_option maxHeartbeats 8000000 in
theorem rbest_any (but : Int) (w : World) (hr : DR w B a n c es R) :
    Calls Try.prog 30 #[.agg #[.slice a n c], .int .i64 but] w fun e w' => e = .returned (.int .i64 (bst (lds R) but)) ∧ Below w.heap.size w w' := by
  obtain ⟨w0, rfl⟩ : ∃ w0, w0 = w := ⟨_, rfl⟩
  obtain ⟨h, hh⟩ : ∃ h, w0.heap.size = h := ⟨_, rfl⟩
  have HX0 := hide (X1.new w0 (.slice a n c) h hh)
  have HD : Hid (∀ W, X1 w0 h (.slice a n c) W → DR W B a n c es R) := hide (fun W x => hr.keep (by rw [hh]; exact x.bel))
  have Hn := hide hr.rn
  have i0 : (n : Int) ≤ 32 := by have := hr.n32; omega
  obtain ⟨res, hres⟩ : ∃ res, bst (lds R) but = res := ⟨_, rfl⟩
  have HI : Hid (∀ f, IsB (lds R) but (lds R).length f → f = res) := hide (fun f hf => by rw [← hres]; exact hf.uniq (bst_is _ _))
  have Hbd := hide hr.bd
  rw [hres]
  rw [hh]
  have Hh := hide hh
  clear hr hh hres
  go_enter Try.func30, Try.ntmps30
  go_upto_region 1 with fail
  rw [Hh.out]
  generalize w0.alloc (.cells #[.slice a n c] 31) = W at *
  have x1 := HX0.out.cell
  have HDW := hide (HD.out W HX0.out)
  go_wp2_with fail
  go_loopw [5] (fun v5 wr => ∃ q : Nat, v5 = .int .i64 q ∧ q ≤ 9 ∧ wr = W ∧ Hid (∀ (i : Nat) (l : Nat × List Int), R[i]? = some l → (i : Int) ≠ but → l.2.length < l.1 → q ≤ l.2.length)) (fun v5 _ => 9 - (intOf v5).toNat)
  case atStart => exact ⟨0, rfl, by omega, rfl, hide (fun i l _ _ _ => Nat.zero_le _)⟩
  case round =>
    obtain ⟨q, rfl, hq, hwr, HQ⟩ := hrel
    subst hwr
    by_cases hq8 : q ≤ 8
    · have t0 : (q : Int) ≤ 8 := by omega
      obtain ⟨Wa, hWa⟩ : ∃ Wa, Wa = wr := ⟨_, rfl⟩
      rw [← hWa] at HDW HX0 x1 ⊢
      clear hWa
      go_wp2_with fail
      go_loopw [14] (fun v14 wx => ∃ k : Nat, v14 = .int .i64 k ∧ k ≤ n ∧ wx = Wa ∧ Hid (∀ (i : Nat) (l : Nat × List Int), i < k → R[i]? = some l → (i : Int) ≠ but → l.2.length < l.1 → q < l.2.length)) (fun v14 _ => n - (intOf v14).toNat)
      case atStart => exact ⟨0, rfl, Nat.zero_le _, rfl, hide (fun i l hi => by omega)⟩
      case round =>
        obtain ⟨k, rfl, hk, hwr, HK⟩ := hrel
        subst hwr
        by_cases hlt : k < n
        · obtain ⟨l, hl⟩ : ∃ l, R[k]? = some l := ⟨_, List.getElem?_eq_getElem (by rw [Hn.out]; exact hlt)⟩
          obtain ⟨b, off, a', c', rfl, he, z0, z1, ho, _⟩ := HDW.out.lane hl
          have j0 : (0 : Int) ≤ (k : Int) := by omega
          have j1 : (k : Int) < (n : Int) := by omega
          obtain ⟨m, hm⟩ : ∃ m, l.2.length = m := ⟨_, rfl⟩
          obtain ⟨dd, hdd⟩ : ∃ dd, l.1 = dd := ⟨_, rfl⟩
          rw [hm] at z1
          rw [hdd] at z0
          have hQ := HQ.out k l hl
          have hb8 := Hbd.out k l hl
          rw [hm, hdd] at hQ hb8
          have nxt : ((k : Int) ≠ but → m < dd → q < m) → Hid (∀ (i : Nat) (l : Nat × List Int), i < k + 1 → R[i]? = some l → (i : Int) ≠ but → l.2.length < l.1 → q < l.2.length) := fun hx => hide (fun i l' hi hl' h1 h2 => by
            rcases Nat.lt_or_ge i k with g | g
            · exact HK.out i l' g hl' h1 h2
            · obtain rfl : i = k := by omega
              rw [hl] at hl'
              cases hl'
              rw [hm, hdd] at h2
              rw [hm]
              exact hx h1 h2)
          by_cases hbut : (k : Int) = but
          · have t1 : ((k : Int) != but) = false := by rw [hbut]; exact bne_self_eq_false _
            have HK1 := nxt (fun h => absurd hbut h)
            clear hl he ho hm hdd hQ nxt hbut hb8
            go_wp2_with fail
            go_roundw
            case rel => exact ⟨k + 1, by go_num, by omega, by trivial, HK1⟩
            case measure => simp [intOf]; omega
          have t1 : ((k : Int) != but) = true := bne_iff_ne.2 hbut
          by_cases hmq : m = q
          · subst hmq
            have t2 : ((m : Int) == (m : Int)) = true := beq_self_eq_true _
            by_cases hroom : m < dd
            · have t3 : (m : Int) < (dd : Int) := by omega
              have e1 := HI.out (k : Int) (.inr ⟨k, _, rfl, by rw [lds_len, Hn.out]; exact hlt, lds_at hl, hbut, by rw [hm, hdd]; omega, fun i l' hi hl' h1 h2 => by
                rw [lds_len] at hi
                obtain ⟨l2, hl2⟩ : ∃ l2, R[i]? = some l2 := ⟨_, List.getElem?_eq_getElem hi⟩
                rw [lds_at hl2] at hl'
                cases hl'
                simp only at h2 ⊢
                rw [hm]
                have g1 := HQ.out i l2 hl2 h1 (by omega)
                exact ⟨g1, fun hik => HK.out i l2 hik hl2 h1 (by omega)⟩⟩)
              subst e1
              clear hl he ho hm hdd hQ nxt hbut hb8
              go_wp2_with fail
              go_ret
              exact ⟨rfl, HX0.out.bel⟩
            · have t3 : ¬ (m : Int) < (dd : Int) := by omega
              have HK1 := nxt (fun _ h => absurd h hroom)
              clear hl he ho hm hdd hQ nxt hbut hb8
              go_wp2_with fail
              go_roundw
              case rel => exact ⟨k + 1, by go_num, by omega, by trivial, HK1⟩
              case measure => simp [intOf]; omega
          · have t2 : ((m : Int) == (q : Int)) = false := beq_eq_false_iff_ne.2 (by omega)
            have HK1 := nxt (fun h1 h2 => by have := hQ h1 h2; omega)
            clear hl he ho hm hdd hQ nxt hbut hb8
            go_wp2_with fail
            go_roundw
            case rel => exact ⟨k + 1, by go_num, by omega, by trivial, HK1⟩
            case measure => simp [intOf]; omega
        · obtain rfl : k = n := by omega
          have j1 : ¬ (k : Int) < (k : Int) := by omega
          have HQ1 : Hid (∀ (i : Nat) (l : Nat × List Int), R[i]? = some l → (i : Int) ≠ but → l.2.length < l.1 → q + 1 ≤ l.2.length) := hide (fun i l hl h1 h2 => HK.out i l (by rw [← Hn.out]; exact idx_lt hl) hl h1 h2)
          go_wp2_with fail
          go_roundw
          case rel => exact ⟨q + 1, by go_num, by omega, by trivial, HQ1⟩
          case measure => simp [intOf]; omega
    · obtain rfl : q = 9 := by omega
      have t0 : ¬ (((9 : Nat) : Int)) ≤ 8 := by omega
      have e1 := HI.out (-1) (.inl ⟨rfl, fun i l hi hl h1 => by
        rw [lds_len] at hi
        obtain ⟨l2, hl2⟩ : ∃ l2, R[i]? = some l2 := ⟨_, List.getElem?_eq_getElem hi⟩
        rw [lds_at hl2] at hl
        cases hl
        have g1 := HQ.out i l2 hl2 h1
        have g2 := Hbd.out i l2 hl2
        simp only
        omega⟩)
      subst e1
      go_wp2_with fail
      go_ret
      exact ⟨rfl, HX0.out.bel⟩

set_option maxRecDepth 100000 in
set_option maxHeartbeats 8000000 in
theorem rroom_any (w : World) (hr : DR w B a n c es R) :
    Calls Try.prog 39 #[.agg #[.slice a n c]] w fun e w' => e = .returned (.int .i64 (rm R : Int)) ∧ Below w.heap.size w w' := by
  obtain ⟨w0, rfl⟩ : ∃ w0, w0 = w := ⟨_, rfl⟩
  obtain ⟨h, hh⟩ : ∃ h, w0.heap.size = h := ⟨_, rfl⟩
  have HX0 := hide (X1.new w0 (.slice a n c) h hh)
  have HD : Hid (∀ W, X1 w0 h (.slice a n c) W → DR W B a n c es R) := hide (fun W x => hr.keep (by rw [hh]; exact x.bel))
  have Hn := hide hr.rn
  have i0 : (n : Int) ≤ 32 := by have := hr.n32; omega
  have hn32 := hr.n32
  have HR : Hid (∀ n, rm (R.take n) ≤ 8 * n) := hide (rm_le fun i l hl => (hr.bd i l hl).2)
  have Hbd := hide hr.bd
  obtain ⟨res, hres⟩ : ∃ res, rm R = res := ⟨_, rfl⟩
  have Hres : Hid (rm (R.take n) = res) := hide (by rw [← hr.rn, List.take_length]; exact hres)
  rw [hres, hh]
  have Hh := hide hh
  clear hr hh hres
  go_enter Try.func39, Try.ntmps39
  go_upto_region 1 with fail
  rw [Hh.out]
  generalize w0.alloc (.cells #[.slice a n c] 31) = W at *
  have x1 := HX0.out.cell
  go_wp2_with fail
  go_loopw [3, 8] (fun v3 v8 wr => ∃ k s : Nat, v8 = .int .i64 k ∧ v3 = .int .i64 s ∧ k ≤ n ∧ Hid (X1 w0 h (.slice a n c) wr) ∧ Hid (rm (R.take k) = s)) (fun v3 v8 _ => n - (intOf v8).toNat)
  case atStart => exact ⟨0, 0, rfl, rfl, Nat.zero_le _, HX0, hide rfl⟩
  case round =>
    clear x1
    obtain ⟨k, s, rfl, rfl, hk, HX, HS⟩ := hrel
    have x1 := HX.out.cell
    by_cases hlt : k < n
    · obtain ⟨l, hl⟩ : ∃ l, R[k]? = some l := ⟨_, List.getElem?_eq_getElem (by rw [Hn.out]; exact hlt)⟩
      obtain ⟨b, off, a', c', rfl, he, z0, z1, ho, _⟩ := (HD.out wr HX.out).lane hl
      have j0 : (0 : Int) ≤ (k : Int) := by omega
      have j1 : (k : Int) < (n : Int) := by omega
      have hS1 := rm_take hl
      rw [HS.out] at hS1
      have hb1 := HR.out (k + 1)
      have hb8 := Hbd.out k l hl
      obtain ⟨m, hm⟩ : ∃ m, l.2.length = m := ⟨_, rfl⟩
      obtain ⟨dd, hdd⟩ : ∃ dd, l.1 = dd := ⟨_, rfl⟩
      rw [hm] at z1
      rw [hdd] at z0
      rw [hm, hdd] at hS1 hb8
      have Hs1 := hide hS1
      have e1 : IntKind.i64.wrap ((s : Int) + (dd : Int)) = (s : Int) + (dd : Int) := wrap_sm _ (by omega)
      have e2 : IntKind.i64.wrap ((s : Int) + (dd : Int) - (m : Int)) = ((s + (dd - m) : Nat) : Int) := by rw [wrap_sm _ (by omega)]; omega
      clear hl he ho hS1 hb1 hm hdd
      go_upto_region 5 with fail
      go_quiet (fail)
      have HX2 := hide (HX.out.keep (below_drewN wr nq))
      go_wp2_with fail
      go_roundw
      case rel => exact ⟨k + 1, s + (dd - m), by go_num, by first | rfl | (rw [e1, e2]) | go_num, by omega, HX2, Hs1⟩
      case measure => simp [intOf]; omega
    · obtain rfl : k = n := by omega
      have j1 : ¬ (k : Int) < (k : Int) := by omega
      have e1 : s = res := by rw [← HS.out]; exact Hres.out
      subst e1
      go_wp2_with fail
      go_ret
      exact ⟨rfl, HX.out.bel⟩
end
end Go.Proofs.Ytddcjkbdgneklaa
