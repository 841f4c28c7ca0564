/- The walk of the law CrcTells over lists of 1 to 4,000 bytes. -/
import Derived.Test.YtionibfijnabnaaPar
import Derived.OneCell
namespace Go.Proofs.Ytionibfijnabnaa.crcTells
set_option linter.unusedVariables false
open Go.ChangeShapes Go.WideShapes Go.ChangeAt Go.RowKit

/-- the state of the first loop: the list c in block gc, the array x in block gx -/
structure St (W1 : World) (gc capc gx n : Nat) (L : List Int) (y0 y1 y2 : Int) (W : World) : Prop where
  ow : Ow W W1.heap.size (.slice (some ⟨gc, 0, none⟩) n capc) L
  c0 : W.cell? ⟨gx, 0, none⟩ = some (.int .i64 y0)
  c1 : W.cell? ⟨gx, 1, none⟩ = some (.int .i64 y1)
  c2 : W.cell? ⟨gx, 2, none⟩ = some (.int .i64 y2)
  f0 : W.frozen? ⟨gx, 0, none⟩ = false
  f1 : W.frozen? ⟨gx, 1, none⟩ = false
  f2 : W.frozen? ⟨gx, 2, none⟩ = false
  be : Below W1.heap.size W1 W

theorem St.set0 {W1 W : World} {gc capc gx n : Nat} {L : List Int} {y0 y1 y2 : Int} (h : St W1 gc capc gx n L y0 y1 y2 W) (hne : gc ≠ gx) (hgx : W1.heap.size ≤ gx) (X : Int) : St W1 gc capc gx n L X y1 y2 (W.setCell ⟨gx, 0, none⟩ (.int .i64 X)) :=
  ⟨ownsRow_setCell_other h.ow (by simpa [Value.ownBlock] using hne) _, World.cell?_setCell_same _ _ _ h.c0, by rw [World.cell?_setCell_other _ _ _ _ (by simp)]; exact h.c1, by rw [World.cell?_setCell_other _ _ _ _ (by simp)]; exact h.c2,
   by rw [World.frozen?_setCell]; exact h.f0, by rw [World.frozen?_setCell]; exact h.f1, by rw [World.frozen?_setCell]; exact h.f2, h.be.setCell hgx _⟩
theorem St.set1 {W1 W : World} {gc capc gx n : Nat} {L : List Int} {y0 y1 y2 : Int} (h : St W1 gc capc gx n L y0 y1 y2 W) (hne : gc ≠ gx) (hgx : W1.heap.size ≤ gx) (X : Int) : St W1 gc capc gx n L y0 X y2 (W.setCell ⟨gx, 1, none⟩ (.int .i64 X)) :=
  ⟨ownsRow_setCell_other h.ow (by simpa [Value.ownBlock] using hne) _, by rw [World.cell?_setCell_other _ _ _ _ (by simp)]; exact h.c0, World.cell?_setCell_same _ _ _ h.c1, by rw [World.cell?_setCell_other _ _ _ _ (by simp)]; exact h.c2,
   by rw [World.frozen?_setCell]; exact h.f0, by rw [World.frozen?_setCell]; exact h.f1, by rw [World.frozen?_setCell]; exact h.f2, h.be.setCell hgx _⟩
theorem St.set2 {W1 W : World} {gc capc gx n : Nat} {L : List Int} {y0 y1 y2 : Int} (h : St W1 gc capc gx n L y0 y1 y2 W) (hne : gc ≠ gx) (hgx : W1.heap.size ≤ gx) (X : Int) : St W1 gc capc gx n L y0 y1 X (W.setCell ⟨gx, 2, none⟩ (.int .i64 X)) :=
  ⟨ownsRow_setCell_other h.ow (by simpa [Value.ownBlock] using hne) _, by rw [World.cell?_setCell_other _ _ _ _ (by simp)]; exact h.c0, by rw [World.cell?_setCell_other _ _ _ _ (by simp)]; exact h.c1, World.cell?_setCell_same _ _ _ h.c2,
   by rw [World.frozen?_setCell]; exact h.f0, by rw [World.frozen?_setCell]; exact h.f1, by rw [World.frozen?_setCell]; exact h.f2, h.be.setCell hgx _⟩
theorem St.flip {W1 W : World} {gc capc gx n : Nat} {L : List Int} {y0 y1 y2 : Int} (h : St W1 gc capc gx n L y0 y1 y2 W) (hne : gc ≠ gx) (hgc : W1.heap.size ≤ gc) (i : Nat) :
    St W1 gc capc gx n (turn L i) y0 y1 y2 ((W.setCell ⟨gc, i / 8, none⟩ (.int .u8 (bits .xor .u8 (L[i / 8]?.getD 0) (128 / 2 ^ (i % 8))))).drew) := by
  have e : ∀ j, (W.setCell ⟨gc, i / 8, none⟩ (.int .u8 (bits .xor .u8 (L[i / 8]?.getD 0) (128 / 2 ^ (i % 8))))).cell? ⟨gx, j, none⟩ = W.cell? ⟨gx, j, none⟩ := fun j => World.cell?_setCell_other _ _ _ _ (by intro h; exact hne (congrArg Addr.block h))
  exact ⟨h.ow.set (i / 8) _, (e 0).trans h.c0, (e 1).trans h.c1, (e 2).trans h.c2, by show World.frozen? (W.setCell _ _) _ = _; rw [World.frozen?_setCell]; exact h.f0, by show World.frozen? (W.setCell _ _) _ = _; rw [World.frozen?_setCell]; exact h.f1,
    by show World.frozen? (W.setCell _ _) _ = _; rw [World.frozen?_setCell]; exact h.f2, (h.be.setCell hgc _).drew⟩

theorem bs_at {w : World} {a : Option Addr} {len cap : Nat} {l : List Int} (h : Bs w (.slice a len cap) l) (k : Nat) (hk : k < l.length) : ∃ b off, a = some ⟨b, off, none⟩ ∧ w.cell? ⟨b, off + k, none⟩ = some (.int .u8 (l[k]?.getD 0)) := by
  rcases h with ⟨h, rfl⟩ | ⟨x, c, h, hc⟩
  · simp at hk
  · simp only [Value.slice.injEq] at h
    obtain ⟨b, off, spot⟩ := x
    have hspot : spot = none := by simpa [Addr.add] using World.cell?_spot (hc 0 (by omega))
    subst hspot
    have h1 := hc k hk
    rw [add_plain] at h1
    exact ⟨b, off, h.1, h1⟩

theorem at_is (a : Int) (n : Nat) (h0 : 0 < n) (h1 : n ≤ 4000) : ∃ k : Nat, wrap64 ((IntKind.u64.wrap a).tmod (8 * (n : Int))) = (k : Int) ∧ k < 8 * n := by
  have hw : 0 ≤ IntKind.u64.wrap a := by simp [IntKind.wrap, IntKind.bits, IntKind.signed]; omega
  rw [Int.tmod_eq_emod_of_nonneg hw]
  have h2 := Int.emod_nonneg (IntKind.u64.wrap a) (b := 8 * (n : Int)) (by omega)
  have h3 := Int.emod_lt_of_pos (IntKind.u64.wrap a) (b := 8 * (n : Int)) (by omega)
  refine ⟨(IntKind.u64.wrap a % (8 * (n : Int))).toNat, ?_, by omega⟩
  unfold wrap64
  omega

set_option maxRecDepth 100000 in
set_option maxHeartbeats 2000000 in
theorem walk0 (a0 : Option Addr) (len0 cap0 : Nat) (x0 x1 x2 : Int) (a2 : Option Addr) (len2 cap2 : Nat) (l : List Int) (w : World) (hbs : Bs w (.slice a0 len0 cap0) l) (hl : l.length = len0) (hin : InB l) 
   (hmo : ∀ k, k < len2 → ∃ b off m, a2 = some ⟨b, off, none⟩ ∧ w.cell? ⟨b, off + k, none⟩ = some (.int .i64 m)) (hm2 : (len2 : Int) ≤ 140737488351232) (hp : 0 < len0) (hm : (len0 : Int) ≤ 4000) :
    Calls Try.prog 8 #[.slice a0 len0 cap0, .agg #[.int .i64 x0, .int .i64 x1, .int .i64 x2], .slice a2 len2 cap2] w fun e w' => e = .returned (.bool true) ∧ Below w.heap.size w w' := by
  have hz : ((len0 : Int) == 0) = false := by simp; omega
  have hm2 : ¬ (4000 : Int) < (len0 : Int) := by omega
  subst hl
  go_enter Try.func8, Try.ntmps8
  go_wp2_with fail
  refine (awake_any _).mono ?_; rintro e w1 ⟨rfl, rfl⟩
  have hb1 : Below w.heap.size w ((w.alloc (.cells #[.int .i64 x0, .int .i64 x1, .int .i64 x2] 42)).alloc digitsObj) := ((Below.refl _ _).alloc (Nat.le_refl _) _).alloc (by simp) _
  have hat0 : ((w.alloc (.cells #[.int .i64 x0, .int .i64 x1, .int .i64 x2] 42)).alloc digitsObj).cell? ⟨w.heap.size, 0, none⟩ = some (.int .i64 x0) := by
    rw [World.cell?_of_block (Below.heap_alloc _ _ _ (by simp)), cell_new]; rfl
  have hat1 : ((w.alloc (.cells #[.int .i64 x0, .int .i64 x1, .int .i64 x2] 42)).alloc digitsObj).cell? ⟨w.heap.size, 1, none⟩ = some (.int .i64 x1) := by
    rw [World.cell?_of_block (Below.heap_alloc _ _ _ (by simp)), cell_new]; rfl
  have hat2 : ((w.alloc (.cells #[.int .i64 x0, .int .i64 x1, .int .i64 x2] 42)).alloc digitsObj).cell? ⟨w.heap.size, 2, none⟩ = some (.int .i64 x2) := by
    rw [World.cell?_of_block (Below.heap_alloc _ _ _ (by simp)), cell_new]; rfl
  have hgat : w.heap.size < ((w.alloc (.cells #[.int .i64 x0, .int .i64 x1, .int .i64 x2] 42)).alloc digitsObj).heap.size := by simp; omega
  go_wp2_with fail
  generalize (w.alloc (.cells #[.int .i64 x0, .int .i64 x1, .int .i64 x2] 42)).alloc digitsObj = W0 at *
  have hbs0 := hbs.keep hb1
  refine (sum_bs hbs0 hin (by omega)).mono ?_; rintro e w1 ⟨rfl, rfl⟩
  have hb2 : Below w1.heap.size w1 (w1.alloc (.cells #[] 5)) := (Below.refl _ _).alloc (Nat.le_refl _) _
  go_wp2_with (at_builtin; refine wpList_app hb2 (by rfl) _ _ rfl _ _ rfl rfl [] l (own_empty _ _ (by simp) _ (by simp)) (hbs0.keep hb2) (by simp; omega) ?_; intro v1 w2 hown hb3; refine Hid.out ?_)
  refine hide ?_
  rw [List.nil_append] at hown
  obtain ⟨gc, capc, rfl, hgc1, hgc2⟩ := World.ownsRow.form hown (by omega)
  obtain ⟨X0, hX0, hX0l⟩ := at_is x0 l.length hp (by omega)
  obtain ⟨X1, hX1, hX1l⟩ := at_is x1 l.length hp (by omega)
  obtain ⟨X2, hX2, hX2l⟩ := at_is x2 l.length hp (by omega)
  have hst : St w1 gc capc w2.heap.size l.length l 0 0 0 (w2.alloc (.cells #[.int .i64 0, .int .i64 0, .int .i64 0] 42)) := by
    refine ⟨World.ownsRow.alloc hown _, by rw [cell_new]; rfl, by rw [cell_new]; rfl, by rw [cell_new]; rfl, ?_, ?_, ?_, hb3.alloc hb3.size _⟩ <;> simp [go_sem]
  have hgx : w1.heap.size ≤ w2.heap.size := hb3.size
  have hne : gc ≠ w2.heap.size := by omega
  clear hown hb3 hb2
  have Hst := hide hst
  clear hst
  go_wp2_with fail
  generalize w2.alloc (.cells #[.int .i64 0, .int .i64 0, .int .i64 0] 42) = W2 at *
  generalize w2.heap.size = gx at *
  go_loopw [43] (fun i W => (i = .int .i64 0 ∧ Hid (St w1 gc capc gx l.length l 0 0 0 W)) ∨ (i = .int .i64 1 ∧ Hid (St w1 gc capc gx l.length (turn l X0) X0 0 0 W)) ∨ (i = .int .i64 2 ∧ Hid (St w1 gc capc gx l.length (turn (turn l X0) X1) X0 X1 0 W)) ∨ (i = .int .i64 3 ∧ Hid (St w1 gc capc gx l.length (turn (turn (turn l X0) X1) X2) X0 X1 X2 W))) (fun i _ => 3 - (intOf i).toNat)
  case atStart => exact .inl ⟨rfl, Hst⟩
  case round =>
    clear Hst
    rcases hrel with ⟨rfl, Hk⟩ | ⟨rfl, Hk⟩ | ⟨rfl, Hk⟩ | ⟨rfl, Hk⟩
    · have S := unhide Hk
      clear Hk
      have hA := hat0
      rw [← S.be.cell (p := ⟨w.heap.size, 0, none⟩) hgat] at hA
      have c0 := S.c0
      have f0 := S.f0
      have HS := hide (S.set0 hne hgx X0)
      clear S
      go_wp2_with fail
      generalize wr.setCell ⟨gx, 0, none⟩ (.int .i64 X0) = W3 at *
      have S := unhide HS
      clear HS hA c0 f0
      have d0 := S.c0
      have d1 := S.c1
      have d2 := S.c2
      obtain ⟨hc, hfr⟩ := S.ow.cell (i := X0 / 8) (by omega)
      have hx0 : (0:Int) ≤ (X0 : Int) := by omega
      have hx1 : (X0 : Int) ≤ 32000 := by omega
      have hx2 : (X0 : Int) / 8 < (l.length : Int) := by omega
      have HS := hide (S.flip hne hgc1 X0)
      clear S
      go_region
      generalize (W3.setCell ⟨gc, X0 / 8, none⟩ (.int .u8 (bits BinOp.xor IntKind.u8 (l[X0 / 8]?.getD 0) (128 / 2 ^ (X0 % 8))))).drew = W4 at *
      generalize bits BinOp.xor IntKind.u8 (l[X0 / 8]?.getD 0) (128 / 2 ^ (X0 % 8)) = t1 at *
      generalize l[X0 / 8]?.getD 0 = t2 at *
      have S := unhide HS
      clear HS d0 d1 d2 hc hfr
      have d0 := S.c0
      have d1 := S.c1
      have d2 := S.c2
      have hs : (uv (sm 0xFFFF#16 (turn l X0)) != uv (sm 0xFFFF#16 l)) = true := by
        rw [bne_iff_ne]; intro h; exact turn1_ne l X0 hX0l (uv_inj h)
      have HS := hide S
      clear S
      go_wp2_with fail
      refine (sum_bs (Bs.own (unhide HS).ow) (turn_in hin X0) (by rw [turn_length]; omega)).mono ?_; rintro e w5 ⟨rfl, rfl⟩
      go_wp2_with fail
      refine (find_any _ l.length capc (turn l X0) (sm 0xFFFF#16 l) _ (Bs.own (unhide HS).ow) (turn_length l X0) (turn_in hin X0) hm).mono ?_; rintro e w5 ⟨⟨i, er, rfl, hf⟩, rfl⟩
      obtain ⟨rfl, rfl⟩ := hf.unique (by rw [turn_length]; omega) (found hX0l)
      clear hf
      go_wp2_with fail
      go_roundw
      case rel => exact .inr (.inl ⟨rfl, HS⟩)
      case measure => simp [intOf]
    · have S := unhide Hk
      clear Hk
      have hA := hat1
      rw [← S.be.cell (p := ⟨w.heap.size, 1, none⟩) hgat] at hA
      have c0 := S.c1
      have f0 := S.f1
      have HS := hide (S.set1 hne hgx X1)
      clear S
      go_wp2_with fail
      generalize wr.setCell ⟨gx, 1, none⟩ (.int .i64 X1) = W3 at *
      have S := unhide HS
      clear HS hA c0 f0
      have d0 := S.c0
      have d1 := S.c1
      have d2 := S.c2
      have hLl : (turn l X0).length = l.length := by simp only [turn_length]
      obtain ⟨hc, hfr⟩ := S.ow.cell (i := X1 / 8) (by rw [hLl]; omega)
      have HL := hide hLl
      clear hLl
      have hx0 : (0:Int) ≤ (X1 : Int) := by omega
      have hx1 : (X1 : Int) ≤ 32000 := by omega
      have hx2 : (X1 : Int) / 8 < (l.length : Int) := by omega
      have HS := hide (S.flip hne hgc1 X1)
      clear S
      go_region
      generalize (W3.setCell ⟨gc, X1 / 8, none⟩ (.int .u8 (bits BinOp.xor IntKind.u8 ((turn l X0)[X1 / 8]?.getD 0) (128 / 2 ^ (X1 % 8))))).drew = W4 at *
      generalize bits BinOp.xor IntKind.u8 ((turn l X0)[X1 / 8]?.getD 0) (128 / 2 ^ (X1 % 8)) = t1 at *
      generalize (turn l X0)[X1 / 8]?.getD 0 = t2 at *
      have S := unhide HS
      clear HS d0 d1 d2 hc hfr
      have d0 := S.c0
      have d1 := S.c1
      have d2 := S.c2
      have HS := hide S
      clear S
      have hin3 : InB (turn (turn l X0) X1) := turn_in (turn_in hin X0) X1
      have hl3 : (turn (turn l X0) X1).length ≤ 140737488355328 := by rw [turn_length, unhide HL]; omega
      by_cases hq : X0 = X1
      · have hs : (uv (sm 0xFFFF#16 (turn (turn l X0) X1)) != uv (sm 0xFFFF#16 l)) = false := by
          rw [bne_eq_false_iff_eq, (turn2_iff l (by omega) X0 X1 hX0l hX1l).2 hq]
        have hqb : ((X0 : Int) != (X1 : Int)) = false := by rw [bne_eq_false_iff_eq, hq]
        clear hq
        go_wp2_with fail
        refine (sum_bs (Bs.own (unhide HS).ow) hin3 hl3).mono ?_; rintro e w5 ⟨rfl, rfl⟩
        go_wp2_with fail
        go_roundw
        case rel => exact .inr (.inr (.inl ⟨rfl, HS⟩))
        case measure => simp [intOf]
      · have hs : (uv (sm 0xFFFF#16 (turn (turn l X0) X1)) != uv (sm 0xFFFF#16 l)) = true := by
          rw [bne_iff_ne]; intro h; exact hq ((turn2_iff l (by omega) X0 X1 hX0l hX1l).1 (uv_inj h))
        have hqb : ((X0 : Int) != (X1 : Int)) = true := by rw [bne_iff_ne]; omega
        clear hq
        go_wp2_with fail
        refine (sum_bs (Bs.own (unhide HS).ow) hin3 hl3).mono ?_; rintro e w5 ⟨rfl, rfl⟩
        go_wp2_with fail
        go_roundw
        case rel => exact .inr (.inr (.inl ⟨rfl, HS⟩))
        case measure => simp [intOf]
    · have S := unhide Hk
      clear Hk
      have hA := hat2
      rw [← S.be.cell (p := ⟨w.heap.size, 2, none⟩) hgat] at hA
      have c0 := S.c2
      have f0 := S.f2
      have HS := hide (S.set2 hne hgx X2)
      clear S
      go_wp2_with fail
      generalize wr.setCell ⟨gx, 2, none⟩ (.int .i64 X2) = W3 at *
      have S := unhide HS
      clear HS hA c0 f0
      have d0 := S.c0
      have d1 := S.c1
      have d2 := S.c2
      have hLl : (turn (turn l X0) X1).length = l.length := by simp only [turn_length]
      obtain ⟨hc, hfr⟩ := S.ow.cell (i := X2 / 8) (by rw [hLl]; omega)
      have HL := hide hLl
      clear hLl
      have hx0 : (0:Int) ≤ (X2 : Int) := by omega
      have hx1 : (X2 : Int) ≤ 32000 := by omega
      have hx2 : (X2 : Int) / 8 < (l.length : Int) := by omega
      have HS := hide (S.flip hne hgc1 X2)
      clear S
      go_region
      generalize (W3.setCell ⟨gc, X2 / 8, none⟩ (.int .u8 (bits BinOp.xor IntKind.u8 ((turn (turn l X0) X1)[X2 / 8]?.getD 0) (128 / 2 ^ (X2 % 8))))).drew = W4 at *
      generalize bits BinOp.xor IntKind.u8 ((turn (turn l X0) X1)[X2 / 8]?.getD 0) (128 / 2 ^ (X2 % 8)) = t1 at *
      generalize (turn (turn l X0) X1)[X2 / 8]?.getD 0 = t2 at *
      have S := unhide HS
      clear HS d0 d1 d2 hc hfr
      have d0 := S.c0
      have d1 := S.c1
      have d2 := S.c2
      have HS := hide S
      clear S
      have hin3 : InB (turn (turn (turn l X0) X1) X2) := turn_in (turn_in (turn_in hin X0) X1) X2
      have hl3 : (turn (turn (turn l X0) X1) X2).length ≤ 140737488355328 := by rw [turn_length, unhide HL]; omega
      have hs : (uv (sm 0xFFFF#16 (turn (turn (turn l X0) X1) X2)) != uv (sm 0xFFFF#16 l)) = true := by
        rw [bne_iff_ne]; intro h; exact turn3_ne l X0 X1 X2 hX0l hX1l hX2l (uv_inj h)
      by_cases hq : X0 = X1
      · have hqb : ((X0 : Int) != (X1 : Int)) = false := by rw [bne_eq_false_iff_eq, hq]
        clear hq
        go_wp2_with fail
        refine (sum_bs (Bs.own (unhide HS).ow) hin3 hl3).mono ?_; rintro e w5 ⟨rfl, rfl⟩
        go_wp2_with fail
        go_roundw
        case rel => exact .inr (.inr (.inr ⟨rfl, HS⟩))
        case measure => simp [intOf]
      · have hqb : ((X0 : Int) != (X1 : Int)) = true := by rw [bne_iff_ne]; omega
        clear hq
        by_cases hr : X2 = X0
        · have hrb : ((X2 : Int) == (X0 : Int)) = true := by rw [beq_iff_eq, hr]
          clear hr
          go_wp2_with fail
          refine (sum_bs (Bs.own (unhide HS).ow) hin3 hl3).mono ?_; rintro e w5 ⟨rfl, rfl⟩
          go_wp2_with fail
          go_roundw
          case rel => exact .inr (.inr (.inr ⟨rfl, HS⟩))
          case measure => simp [intOf]
        · have hrb : ((X2 : Int) == (X0 : Int)) = false := by rw [beq_eq_false_iff_ne]; omega
          clear hr
          by_cases ht : X2 = X1
          · have htb : ((X2 : Int) == (X1 : Int)) = true := by rw [beq_iff_eq, ht]
            clear ht
            go_wp2_with fail
            refine (sum_bs (Bs.own (unhide HS).ow) hin3 hl3).mono ?_; rintro e w5 ⟨rfl, rfl⟩
            go_wp2_with fail
            go_roundw
            case rel => exact .inr (.inr (.inr ⟨rfl, HS⟩))
            case measure => simp [intOf]
          · have htb : ((X2 : Int) == (X1 : Int)) = false := by rw [beq_eq_false_iff_ne]; omega
            clear ht
            go_wp2_with fail
            refine (sum_bs (Bs.own (unhide HS).ow) hin3 hl3).mono ?_; rintro e w5 ⟨rfl, rfl⟩
            go_wp2_with fail
            go_roundw
            case rel => exact .inr (.inr (.inr ⟨rfl, HS⟩))
            case measure => simp [intOf]
    · clear hat0 hat1 hat2 hX0 hX1 hX2
      have hb5 := (unhide Hk).be
      clear Hk
      have hb6 : Below w1.heap.size w1 (wr.alloc (.cells #[] 5)) := hb5.alloc hb5.size _
      go_wp2_with (at_builtin; refine wpList_app hb6 (by rfl) _ _ rfl _ _ rfl rfl [] l (own_empty _ _ hb5.size _ (by simp)) (hbs0.keep hb6) (by simp; omega) ?_; intro v7 w7 hown hb7; refine Hid.out ?_)
      refine hide ?_
      rw [List.nil_append] at hown
      obtain ⟨gd, capd, rfl, hgd1, hgd2⟩ := World.ownsRow.form hown (by omega)
      have hmo2 : ∀ W, Below w1.heap.size w1 W → ∀ k, k < len2 → ∃ b off m, a2 = some ⟨b, off, none⟩ ∧ W.cell? ⟨b, off + k, none⟩ = some (.int .i64 m) := by
        intro W hW k hk
        obtain ⟨b, off, m, e1, e2⟩ := hmo k hk
        have hlt := Bs.lt e2
        refine ⟨b, off, m, e1, ?_⟩
        rw [hW.cell (p := ⟨b, off + k, none⟩) (Nat.lt_of_lt_of_le hlt hb1.size), hb1.cell (p := ⟨b, off + k, none⟩) hlt]
        exact e2
      have Hmo2 := hide hmo2
      clear hmo2 hmo
      have Hown := hide hown
      clear hown
      go_wp2_with fail
      go_loopw [17] (fun i W => ∃ (k : Nat) (D : List Int), k ≤ 101 ∧ k ≤ len2 ∧ i = .int .i64 k ∧ Hid (D.length = l.length ∧ InB D ∧ Ow W w1.heap.size (.slice (some ⟨gd, 0, none⟩) l.length capd) D ∧ Below w1.heap.size w1 W)) (fun i _ => 101 - (intOf i).toNat)
      case atStart => exact ⟨0, l, by omega, by omega, rfl, hide ⟨rfl, hin, unhide Hown, hb7⟩⟩
      case round =>
        clear Hown hb7 hb6 hb5
        obtain ⟨k, D, hk, hk2, rfl, HD⟩ := hrel
        by_cases hlt : k < len2 ∧ k < 101
        · obtain ⟨hlt1, hlt2⟩ := hlt
          have hlt1' : (k : Int) < (len2 : Int) := by omega
          have hlt2' : (k : Int) < 101 := by omega
          obtain ⟨b, off, m, rfl, hcm⟩ := unhide Hmo2 _ (unhide HD).2.2.2 k hlt1
          obtain ⟨X, hX, hXl⟩ := at_is m l.length hp (by omega)
          have hx0 : (0:Int) ≤ (X : Int) := by omega
          have hx1 : (X : Int) ≤ 32000 := by omega
          have hx2 : (X : Int) / 8 < (l.length : Int) := by omega
          obtain ⟨hc, hfr⟩ := (unhide HD).2.2.1.cell (i := X / 8) (by rw [(unhide HD).1]; omega)
          have HD2 : Hid ((turn D X).length = l.length ∧ InB (turn D X) ∧ Ow ((wr.setCell ⟨gd, X / 8, none⟩ (.int .u8 (bits .xor .u8 (D[X / 8]?.getD 0) (128 / 2 ^ (X % 8))))).drew) w1.heap.size (.slice (some ⟨gd, 0, none⟩) l.length capd) (turn D X) ∧ Below w1.heap.size w1 ((wr.setCell ⟨gd, X / 8, none⟩ (.int .u8 (bits .xor .u8 (D[X / 8]?.getD 0) (128 / 2 ^ (X % 8))))).drew)) :=
            hide ⟨by rw [turn_length]; exact (unhide HD).1, turn_in (unhide HD).2.1 X, (unhide HD).2.2.1.set (X / 8) _, ((unhide HD).2.2.2.setCell hgd1 _).drew⟩
          go_wp2_with fail
          go_region
          go_wp2_with fail
          go_roundw
          case rel => exact ⟨k + 1, turn D X, by omega, by omega, by go_num, HD2⟩
          case measure => simp [intOf]; omega
        · have hex : (¬ (k : Int) < (len2 : Int)) ∨ ((k : Int) < (len2 : Int) ∧ ¬ (k : Int) < 101) := by omega
          clear hlt hk hk2
          have hDl := (unhide HD).1
          have hDin := (unhide HD).2.1
          have HO := hide (unhide HD).2.2
          have HDl := hide hDl
          clear hDl HD
          rcases hex with hge | ⟨hlt1, hge⟩
          all_goals
            go_wp2_with fail
            go_loopw [16, 157] (fun o i W => ∃ on k : Nat, k ≤ l.length ∧ i = .int .i64 k ∧ o = .int .i64 on ∧ on ≤ 255 * k ∧ Hid (decide (on % 2 = 1) = (sumPar (D.take k) ^^ sumPar (l.take k))) ∧ Hid (Ow W w1.heap.size (.slice (some ⟨gd, 0, none⟩) l.length capd) D ∧ Below w1.heap.size w1 W)) (fun _ i _ => l.length - (intOf i).toNat)
            case atStart => exact ⟨0, 0, by omega, rfl, rfl, by omega, hide rfl, HO⟩
            case round =>
              clear HO
              obtain ⟨on, j, hj, rfl, rfl, hon, Hpar, HO⟩ := hrel
              by_cases hlt : j < l.length
              · obtain ⟨hcd, _⟩ := (unhide HO).1.cell (i := j) (by rw [unhide HDl]; exact hlt)
                obtain ⟨b, off, rfl, hcb⟩ := bs_at (hbs0.keep (unhide HO).2) j hlt
                obtain ⟨t, ht, hte⟩ : ∃ t : Nat, t < 256 ∧ bits .xor .u8 (D[j]?.getD 0) (l[j]?.getD 0) = (t : Int) :=
                  ⟨_, (BitVec.ofInt 8 (D[j]?.getD 0) ^^^ BitVec.ofInt 8 (l[j]?.getD 0)).isLt, xor8 _ _⟩
                have hp1 : (decide (on % 2 = 1) ^^ par8 t) = (sumPar (D.take (j + 1)) ^^ sumPar (l.take (j + 1))) := by
                  rw [← hte, par8_xor, sumPar_snoc D j (by rw [unhide HDl]; exact hlt), sumPar_snoc l j hlt, unhide Hpar]
                  cases sumPar (D.take j) <;> cases sumPar (l.take j) <;> cases par8 (D[j]?.getD 0) <;> cases par8 (l[j]?.getD 0) <;> rfl
                have Hp1 := hide hp1
                clear hp1
                generalize D[j]?.getD 0 = x at *
                generalize l[j]?.getD 0 = y at *
                have hltj : (j : Int) < (l.length : Int) := by omega
                go_wp2_with fail
                go_region
                go_wp2_with fail
                go_loopw [16, 20] (fun o t W => ∃ on' t' : Nat, o = .int .i64 on' ∧ t = .int .u8 t' ∧ t' < 256 ∧ on' + t' ≤ 255 * (j + 1) ∧ Hid ((decide (on' % 2 = 1) ^^ par8 t') = (sumPar (D.take (j + 1)) ^^ sumPar (l.take (j + 1)))) ∧ Hid (Ow W w1.heap.size (.slice (some ⟨gd, 0, none⟩) l.length capd) D ∧ Below w1.heap.size w1 W)) (fun _ t _ => (intOf t).toNat)
                case atStart => exact ⟨on, t, rfl, rfl, ht, by omega, Hp1, hide ⟨(unhide HO).1, (unhide HO).2.drew⟩⟩
                case round =>
                  clear HO Hp1 Hpar ht hte hcd hcb
                  obtain ⟨on', t', rfl, rfl, ht', hsum, Hp', HO'⟩ := hrel
                  by_cases hz : t' = 0
                  · subst hz
                    have Hp3 : Hid (decide (on' % 2 = 1) = (sumPar (D.take (j + 1)) ^^ sumPar (l.take (j + 1)))) := hide (by
                      rw [← unhide Hp', show ((0 : Nat) : Int) = 0 from rfl, par8_zero, Bool.xor_false])
                    have hzb : (((0 : Nat) : Int) != 0) = false := by decide
                    go_wp2_with fail
                    go_roundw
                    case rel => exact ⟨on', j + 1, by omega, by go_num, rfl, by omega, Hp3, HO'⟩
                    case measure => simp [intOf]; omega
                  · obtain ⟨o1, o2, o3⟩ := ones_step t' ht' hz
                    have hzb : ((t' : Int) != 0) = true := by rw [bne_iff_ne]; omega
                    have hge1 : (1 : Int) ≤ (t' : Int) := by omega
                    have hle1 : (t' : Int) ≤ 255 := by omega
                    obtain ⟨t2, ht2⟩ := Int.eq_ofNat_of_zero_le o2
                    rw [ht2] at o1 o3
                    have Hp3 : Hid ((decide ((on' + 1) % 2 = 1) ^^ par8 t2) = (sumPar (D.take (j + 1)) ^^ sumPar (l.take (j + 1)))) := hide (by
                      rw [← unhide Hp', o1]
                      have e : decide ((on' + 1) % 2 = 1) = !decide (on' % 2 = 1) := by
                        rcases Nat.mod_two_eq_zero_or_one on' with h | h
                        · rw [h, show (on' + 1) % 2 = 1 by omega]; rfl
                        · rw [h, show (on' + 1) % 2 = 0 by omega]; rfl
                      rw [e]
                      cases decide (on' % 2 = 1) <;> cases par8 t' <;> rfl)
                    have honb : (on' : Int) ≤ 1100000 := by omega
                    clear o1 o2 hz
                    go_wp2_with fail
                    go_roundw
                    case rel => exact ⟨on' + 1, t2, by go_num, rfl, by omega, by omega, Hp3, HO'⟩
                    case measure => simp [intOf]; omega
              · have : j = l.length := by omega
                subst this
                have hpar : decide (on % 2 = 1) = (sumPar D ^^ sumPar l) := by
                  have := unhide Hpar
                  rw [← unhide HDl, List.take_length, unhide HDl, List.take_length] at this
                  exact this
                have hbend : Below w.heap.size w wr := hb1.trans ((unhide HO).2.mono hb1.size)
                have hon0 : (0 : Int) ≤ (on : Int) := by omega
                by_cases hod : on % 2 = 0
                · have hmod : ((on : Int) % 2 == 0) = true := by rw [beq_iff_eq]; omega
                  clear hpar
                  go_wp2_with fail
                  go_ret
                  exact ⟨rfl, hbend⟩
                · have hmod : ((on : Int) % 2 == 0) = false := by rw [beq_eq_false_iff_ne]; omega
                  have hne2 : (uv (sm 0xFFFF#16 D) != uv (sm 0xFFFF#16 l)) = true := by
                    rw [bne_iff_ne]
                    intro h
                    have e := congrArg par (uv_inj h)
                    rw [par_sm, par_sm] at e
                    have e1 : decide (on % 2 = 1) = true := by rw [show on % 2 = 1 by omega]; rfl
                    rw [e1] at hpar
                    revert hpar e
                    cases par 0xFFFF#16 <;> cases sumPar D <;> cases sumPar l <;> decide
                  clear hpar hod
                  go_wp2_with fail
                  refine (sum_bs (Bs.own (unhide HO).1) hDin (by rw [unhide HDl]; omega)).mono ?_; rintro e w9 ⟨rfl, rfl⟩
                  go_wp2_with fail
                  go_ret
                  exact ⟨rfl, hbend⟩
end Go.Proofs.Ytionibfijnabnaa.crcTells
