/- The walk of NoteReads. -/
import Derived.Test.YtfldllmehelngaaNag
import Derived.Test.YtfldllmehelngaaNrr
namespace Go.Proofs.Ytfldllmehelngaa.noteReads
open Go.ChangeShapes Go.WideShapes Go.ChangeAt Go.RowKit
set_option linter.unusedVariables false

set_option maxHeartbeats 2000000 in
theorem long (a : Option Addr) (n c : Nat) (w : World) (hn : 5000 < n) : Calls Try.prog 4 #[.slice a n c] w fun e w' => e = .returned (.bool true) ∧ Below w.heap.size w w' := by
  have K9 := hide awake_any
  have n1 : (5000 : Int) < (n : Int) := by omega
  go_enter Try.func4, Try.ntmps4
  go_wp2_with (go_at_call 9; refine (K9.out _).mono ?_; rintro e w1 ⟨rfl, hb1⟩; first | have HB := hide (HB.out.trans (hb1.mono HB.out.size)) | have HB := hide hb1; clear hb1)
  go_ret
  exact ⟨rfl, HB.out⟩

theorem flat_count {ns : List Nt} (hk : ∀ n ∈ ns, n.ok = true) : ns.length ≤ (ns.flatMap Nt.bts).length := by
  induction ns with
  | nil => simp
  | cons m t ih =>
    have h3 := ih (fun q hq => hk q (by simp [hq]))
    have h4 := bts_len5 (hk m (by simp))
    rw [List.flatMap_cons, List.length_append, List.length_cons]
    omega
theorem cells4 {w0 w : World} {l : List It} {g : Nat} {x0 x1 x2 x3 : Value} (h : Its w0 (.box g #[x0, x1, x2, x3] 23 :: l) w) : w.cell? ⟨g, 0, none⟩ = some x0 ∧ w.cell? ⟨g, 1, none⟩ = some x1 ∧ w.cell? ⟨g, 2, none⟩ = some x2 ∧ w.cell? ⟨g, 3, none⟩ = some x3 := ⟨(cells_at h.one 0).1, (cells_at h.one 1).1, (cells_at h.one 2).1, (cells_at h.one 3).1⟩
/-- both answers, the program's and the document's, are the same -/
theorem both {l : List Int} {k x y z s e k' x' y' z' s' : Int} (h : DecP l ⟨k, x, y, z⟩ s e) (g : FirP l ⟨k', x', y', z'⟩ s') : k' = k ∧ x' = x ∧ y' = y ∧ z' = z ∧ s' = s ∧ ((0 < s ∧ e = 0) ∨ (s = 0 ∧ e = 180)) := by
  rcases h with ⟨h1, h2, h3⟩ | ⟨h1, h2, h3, h4⟩
  · rcases g with ⟨g1, g2⟩ | ⟨g1, _⟩
    · have e1 := g1.uniq h1
      have h5 := bts_len5 h1.1
      rw [e1] at g2
      simp only [Nt.mk.injEq] at e1
      obtain ⟨e1, e2, e3, e4⟩ := e1
      exact ⟨e1, e2, e3, e4, by rw [g2, h2], .inl ⟨by omega, h3⟩⟩
    · exact absurd h1 (g1 _)
  · rcases g with ⟨g1, g2⟩ | ⟨g1, g2, g3⟩
    · exact absurd g1 (h1 _)
    · rw [← h2] at g2
      simp only [Nt.mk.injEq] at g2
      obtain ⟨e1, e2, e3, e4⟩ := g2
      exact ⟨e1, e2, e3, e4, by rw [g3, h3], .inr ⟨h3, h4⟩⟩

set_option maxHeartbeats 4000000 in
set_option maxRecDepth 100000 in
theorem short (a : Option Addr) (n c : Nat) (l : List Int) (w : World) (hs : Sl w a n c l) (hr : InB l) (hn : n ≤ 5000) : Calls Try.prog 4 #[.slice a n c] w fun e w' => e = .returned (.bool true) ∧ Below w.heap.size w w' := by
  have K9 := hide awake_any
  have n1 : ¬ ((5000 : Int) < (n : Int)) := by omega
  have Hs := hide hs
  have Hr := hide hr
  have Hl := hide hs.len
  clear hs hr
  go_enter Try.func4, Try.ntmps4
  go_upto_region 3 with (go_at_call 9; refine (K9.out _).mono ?_; rintro e W1 ⟨rfl, hb1⟩)
  have I1 := hide ((Its.nil w).keep hb1)
  have I2 := hide (I1.out.row1 (E := byE) (El.Own.new byE W1 W1.heap.size (Nat.le_refl _) #[] [] rfl (by simp) W1.heap.size 0 0 rfl rfl rfl) (below_new _ _))
  clear hb1 I1 K9
  go_upto_region 4 with (at_builtin; refine byE.wp I2.out.bel (by rfl) _ _ rfl _ _ rfl rfl [] l I2.out.one (Hs.out.keep I2.out.bel).rd (by rw [Hl.out]; simp; omega) ?_; intro v1 W2 ho1 hg1 hs1 hb2; have I3 := hide (I2.out.grow ho1 hg1 hs1); clear ho1 hg1 hs1 hb2; refine Hid.out ?_)
  refine hide ?_
  go_upto_region 4 with fail
  rw [List.nil_append] at I3
  clear I2
  obtain ⟨aI, cI, rfl, hsl⟩ := Sl.own I3.out.one
  rw [Hl.out] at hsl I3 ⊢
  have Hsl := hide hsl
  clear hsl
  have K15 := hide (read_any Hsl.out Hr.out (by omega))
  go_upto_region 5 with (go_at_call 15; refine K15.out.mono ?_; rintro e W3 ⟨vL, ns, r1, rfl, hR1, hoL, hb3⟩)
  have I4 := hide (I3.out.row1 hoL hb3)
  clear K15 I3
  have K16 := hide (rread_any (Hs.out.keep I4.out.bel) Hr.out (by omega))
  go_upto_region 6 with (go_at_call 16; refine K16.out.mono ?_; rintro e W4 ⟨vW, ms, r2, rfl, hR2, hoW, hb4⟩)
  obtain ⟨hu1, _⟩ := hR2.uniq hR1
  rw [hu1] at hoW ⊢
  have I5 := hide (I4.out.row1 hoW hb4)
  have Hns : Hid (ns.length ≤ 10000) := hide (by
    have h1 := congrArg List.length hR1.eq
    rw [List.length_append, Hl.out] at h1
    have h2 := flat_count hR1.ok
    omega)
  clear K16 I4 hoL hoW hb3 hb4 hR1 hR2 hu1
  have K13 := hide (decode_any (⟨I5.out.three.rd, Hl.out, Hsl.out.cap⟩ : Sl W4 aI n cI l) Hr.out (by omega))
  go_upto_region 7 with (go_at_call 13; refine K13.out.mono ?_; rintro e W5 ⟨k, x, y, z, s, ec, rfl, hdec, hb5⟩)
  have I6 := hide ((I5.out.keep hb5).box1 #[.int .i64 k, .int .i64 x, .int .i64 y, .int .i64 z] 23)
  generalize W5.alloc (.cells #[.int .i64 k, .int .i64 x, .int .i64 y, .int .i64 z] 23) = W6 at *
  generalize W5.heap.size = gX at *
  clear K13 hb5 I5
  have K17 := hide (rdecode_any (Hs.out.keep I6.out.bel) Hr.out (by omega))
  go_upto_region 8 with (go_at_call 17; refine K17.out.mono ?_; rintro e W7 ⟨k', x', y', z', s', rfl, hfir, hb7⟩)
  obtain ⟨rfl, rfl, rfl, rfl, rfl, hcase⟩ := both hdec hfir
  have I7 := hide ((I6.out.keep hb7).box1 #[.int .i64 k', .int .i64 x', .int .i64 y', .int .i64 z'] 23)
  generalize W7.alloc (.cells #[.int .i64 k', .int .i64 x', .int .i64 y', .int .i64 z'] 23) = W8 at *
  generalize W7.heap.size = gY at *
  clear K17 hb7 I6 hdec hfir
  have K18 := hide (same_eq I7.out.tail.tail.two.rd I7.out.three.rd Hns.out)
  generalize tot ns = tn at *
  rcases hcase with ⟨hs0, rfl⟩ | ⟨rfl, rfl⟩
  · go_wp2_with (go_at_call 18; refine K18.out.mono ?_; rintro e w9 ⟨rfl, q, rfl⟩; have I9 := hide (I7.out.drew q); obtain ⟨y0, y1, y2, y3⟩ := cells4 I9.out; obtain ⟨x0, x1, x2, x3⟩ := cells4 I9.out.tail; have v1 := conv_str I9.out.tail.tail.three.rd; have v2 := conv_str (Hs.out.keep I9.out.bel).rd)
    go_ret
    exact ⟨rfl, I9.out.bel⟩
  · go_wp2_with (go_at_call 18; refine K18.out.mono ?_; rintro e w9 ⟨rfl, q, rfl⟩; have I9 := hide (I7.out.drew q); obtain ⟨y0, y1, y2, y3⟩ := cells4 I9.out; obtain ⟨x0, x1, x2, x3⟩ := cells4 I9.out.tail; have v1 := conv_str I9.out.tail.tail.three.rd; have v2 := conv_str (Hs.out.keep I9.out.bel).rd)
    go_ret
    exact ⟨rfl, I9.out.bel⟩

theorem walk (a0 : Option Addr) (len0 cap0 : Nat) (z0 : List Int) (w : World) (h0 : IsRow .u8 w a0 len0 cap0 z0) (h1 : cap0 * Try.prog.bytesOf 5 ≤ 140737488351232) : Calls Try.prog 4 #[.slice a0 len0 cap0] w fun e w' => e = .returned (.bool true) ∧ Below w.heap.size w w' := by
  obtain ⟨l, hs, hr⟩ := sl_of_row h0
  rcases Nat.lt_or_ge 5000 len0 with q | q
  · exact long a0 len0 cap0 w q
  · exact short a0 len0 cap0 l w hs hr q
end Go.Proofs.Ytfldllmehelngaa.noteReads
