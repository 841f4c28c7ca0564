/- The document's Do, into another lane; Do told as one. -/
import Derived.Test.YtddcjkbdgneklaaGrm
namespace Go.Proofs.Ytddcjkbdgneklaa
open Go.RowKit
set_option linter.unusedVariables false

/-- a lane's box beside it is written -/
theorem DR.off {W : World} {B : Nat} {a : Option Addr} {n c : Nat} {es : List LnV} {R : Rack} {g i : Nat} {C : Array Value} {u : Value} (x : DR W B a n c es R) (hg : W.heap[g]? = some (.cells C 75)) (hne : (Value.slice a n c).ownBlock ≠ some g) : DR (W.setCell ⟨g, i, none⟩ u) B a n c es R :=
  ⟨own_set_other x.row hne, x.en, x.rn, x.n32, fun j e l he hl => ⟨(x.at' j e l he hl).1, (x.at' j e l he hl).2.1, own_set_other (x.at' j e l he hl).2.2 (zown_ne (x.at' j e l he hl).2.2 hg (by decide))⟩, x.bd⟩

section
variable {B : Nat} {a : Option Addr} {n c : Nat} {es : List LnV} {R : Rack}

set_option maxRecDepth 100000 in
set_option maxHeartbeats 16000000 in
theorem rdo_to (t : Int) (i : Nat) (j : Nat) (k : Nat × List Int) (l : Nat × List Int) (w : World) (hr : DR w B a n c es R) (hB : B ≤ w.heap.size) (hl : R[i]? = some l) (hj : R[j]? = some k) (hij : i ≠ j) (ht : l.2.getLast? = some t) (hrm : k.2.length < k.1) (htk : t ∉ k.2) (htr : 1 ≤ t ∧ t ≤ 30) :
    Calls Try.prog 19 #[.agg #[.slice a n c], .agg #[.int .i64 t, .int .i64 i, .int .i64 j]] w (RP w.heap.size w B n (fun v => .tuple #[v, .int .i64 0]) ((R.set i (l.1, l.2.dropLast)).set j (k.1, k.2 ++ [t]))) := by
  obtain ⟨w0, rfl⟩ : ∃ w0, w0 = w := ⟨_, rfl⟩
  obtain ⟨h, hh⟩ : ∃ h, w0.heap.size = h := ⟨_, rfl⟩
  have HX0 := hide (X4.new w0 (.slice a n c) t i (j : Int) h hh)
  have HD : Hid (∀ W, Below h w0 W → DR W B a n c es R) := hide (fun W hb => hr.keep (by rw [hh]; exact hb))
  have HBh : Hid (B ≤ h) := hide (by rw [← hh]; exact hB)
  have hin : i < n := by rw [← hr.rn]; exact idx_lt hl
  obtain ⟨b, off, a', c', ha, he, _, _, ho0, _⟩ := hr.lane hl
  have hbl := hr.bd i l hl
  obtain ⟨m, hm⟩ : ∃ m, l.2.length = m := ⟨_, rfl⟩
  obtain ⟨ld, hld⟩ : ∃ ld, l.1 = ld := ⟨_, rfl⟩
  rw [hm, hld] at hbl
  subst ha
  have HL : Hid (∀ W, Below h w0 W → W.cell? ⟨b, off + i * 2, none⟩ = some (.int .i64 ld) ∧ W.cell? ⟨b, off + i * 2 + 1, none⟩ = some (.slice a' m c') ∧ intE.Own W B (.slice a' m c') l.2) := hide (fun W hb => by
    obtain ⟨b2, off2, a2, c2, e1, e2, h1, h2, h3, _⟩ := (HD.out W hb).lane hl
    cases e1
    rw [he] at e2
    cases e2
    rw [hm] at h2 h3
    rw [hld] at h1
    exact ⟨h1, h2, h3⟩)
  have Hm := hide hm
  have n32 := hr.n32
  have i0 : (n : Int) ≤ 32 := by omega
  have p0 : (0 : Int) ≤ (i : Int) := by omega
  have p1 : ¬ (i : Int) < 0 := by omega
  have p2 : ¬ (i : Int) ≥ (n : Int) := by omega
  have p3 : (i : Int) < (n : Int) := by omega
  obtain ⟨q, hmq⟩ : ∃ q, m = q + 1 := ⟨m - 1, by have := List.length_pos_of_mem (List.mem_of_getLast? ht); rw [hm] at this; omega⟩
  have Hy : Hid (l.2[q]? = some t) := hide (by rw [List.getLast?_eq_getElem?, hm, hmq, Nat.add_sub_cancel] at ht; exact ht)
  have Hmq := hide hmq
  clear hmq
  obtain ⟨_, _, aj, cj, ej, hej, _, _, _, _⟩ := hr.lane hj
  clear ej
  have hbj := hr.bd j k hj
  obtain ⟨mj, hmj⟩ : ∃ mj, k.2.length = mj := ⟨_, rfl⟩
  obtain ⟨dj, hdj⟩ : ∃ dj, k.1 = dj := ⟨_, rfl⟩
  rw [hmj, hdj] at hbj hrm
  have HJ : Hid (∀ W, Below h w0 W → W.cell? ⟨b, off + j * 2, none⟩ = some (.int .i64 dj) ∧ W.cell? ⟨b, off + j * 2 + 1, none⟩ = some (.slice aj mj cj)) := hide (fun W hb => by
    obtain ⟨b2, off2, a2, c2, e1, e2, h1, h2, h3, _⟩ := (HD.out W hb).lane hj
    cases e1
    rw [hej] at e2
    cases e2
    rw [hmj] at h2
    rw [hdj] at h1
    exact ⟨h1, h2⟩)
  have hjn : j < n := by rw [← hr.rn]; exact idx_lt hj
  have p6 : ¬ ((j : Int) < -1) := by omega
  have p7 : ¬ ((j : Int) ≥ (n : Int)) := by omega
  have p8 : ((i : Int) == (j : Int)) = false := beq_eq_false_iff_ne.2 (by omega)
  have p9 : (j : Int) ≥ 0 := by omega
  have p10 : (0 : Int) ≤ (j : Int) := by omega
  have p11 : (j : Int) < (n : Int) := by omega
  have HPop : Hid (∀ W, Below h w0 W → Calls Try.prog 38 #[.agg #[.int .i64 ld, .slice a' m c']] W fun e w' => ∃ a3 c3, e = .returned (.tuple #[.agg #[.int .i64 ld, .slice a3 q c3], .int .i64 (popV l.2), .int .i64 (popC l.2)]) ∧ intE.Own w' B (.slice a3 q c3) l.2.dropLast ∧ Below W.heap.size W w') := hide (fun W hb => (rpop_any (B := B) (HL.out W hb).2.2 (by have := hb.size; have := HBh.out; omega) Hm.out (by omega)).mono (by
    rintro e w' ⟨v, rfl, ho, hb'⟩
    obtain ⟨a3, c3, hv⟩ := ho.rd.form
    have hlq : l.2.dropLast.length = q := by rw [List.length_dropLast, Hm.out, Hmq.out]; omega
    rw [hlq] at hv
    subst hv
    exact ⟨a3, c3, rfl, ho, hb'⟩))
  have HSet : Hid (∀ (W : World) (a3 : Option Addr) (c3 : Nat), Below h w0 W → intE.Own W B (.slice a3 q c3) l.2.dropLast → Calls Try.prog 32 #[.agg #[.slice (some ⟨b, off, none⟩) n c], .int .i64 i, .agg #[.int .i64 ld, .slice a3 q c3]] W fun e w' => ∃ a' c' es', e = .returned (.agg #[.slice a' n c']) ∧ DR w' B a' n c' es' (R.set i (ld, l.2.dropLast)) ∧ Below W.heap.size W w') := hide (fun W a3 c3 hb ho => rset_any i W (HD.out W hb) hin (by have := hb.size; have := HBh.out; omega) ho (by rw [List.length_dropLast, Hm.out, Hmq.out]; omega) (by have := Hmq.out; omega) (by omega))
  have p12 : decide ((mj : Int) ≥ (dj : Int)) = false := decide_eq_false (by omega)
  have p13 : ¬ (mj : Int) ≥ (dj : Int) := by omega
  have p14 : ¬ dj ≤ mj := by omega
  have Hset : Hid ((R.set i (ld, l.2.dropLast))[j]? = some k) := hide (by rw [set_off hij]; exact hj)
  obtain ⟨mk, hmk⟩ : ∃ mk, mj + 1 = mk := ⟨_, rfl⟩
  have hpc : pushC dj k.2 t = 0 := (if_neg (by omega)).trans ((if_neg htk).trans (if_neg (by rw [hmj]; omega)))
  have hpl : pushL dj k.2 t = k.2 ++ [t] := if_pos hpc
  have HPush : Hid (∀ (W : World) (a8 : Option Addr) (c8 : Nat), h ≤ W.heap.size → intE.Own W B (.slice a8 mj c8) k.2 → Calls Try.prog 31 #[.agg #[.int .i64 dj, .slice a8 mj c8], .int .i64 t] W fun e w' => ∃ a9 c9, e = .returned (.tuple #[.agg #[.int .i64 dj, .slice a9 mk c9], .int .i64 0]) ∧ intE.Own w' B (.slice a9 mk c9) (k.2 ++ [t]) ∧ Below W.heap.size W w') := hide (fun W a8 c8 hs ho => (rpush_any (B := B) t ho (by have := HBh.out; omega) hmj (by omega) (by omega)).mono (by
    rintro e w' ⟨v, rfl, ho', hb⟩
    rw [hpl] at ho'
    obtain ⟨a9, c9, hv⟩ := ho'.rd.form
    rw [List.length_append, List.length_singleton, hmj, hmk] at hv
    subst hv
    exact ⟨a9, c9, by rw [hpc], ho', hb⟩))
  have hmk8 : mk ≤ dj := by omega
  have hdj8 : dj ≤ 8 := hbj.2
  have Hmk : Hid ((k.2 ++ [t]).length = mk) := hide (by rw [List.length_append, hmj, ← hmk]; rfl)
  have Hmj := hide hmj
  have Hdj := hide hdj
  rw [hld, hdj]
  rw [hh]
  have Hh := hide hh
  clear hr hh hB he ho0 hl hm hld hj hij ht hrm hej hmj hdj hmk htk htr hpc hpl
  go_enter Try.func19, Try.ntmps19
  go_upto_region 1 with fail
  rw [Hh.out]
  generalize ((w0.alloc (.cells #[.slice (some ⟨b, off, none⟩) n c] 31)).alloc (.cells #[.int .i64 t, .int .i64 (i : Int), .int .i64 (j : Int)] 52)).alloc (.cells #[.slice none 0 0] 31) = W1 at *
  obtain ⟨x0, x1, x2, x3, x4, x5, x6⟩ := HX0.out.cells
  obtain ⟨y0, y1, _⟩ := HL.out W1 HX0.out.bel
  have Hba : Hid (∀ (V : World) (o : Obj), Below V.heap.size V (V.alloc o)) := hide (fun V o => (Below.refl _ _).alloc (Nat.le_refl _) o)
  go_upto_region 5 with fail
  have HX2 := hide (HX0.out.keep (Hba.out W1 (.cells #[.int .i64 ld, .slice a' m c'] 75)))
  have HB7 := hide (heap_new W1 (.cells #[.int .i64 ld, .slice a' m c'] 75))
  have Hg7 : Hid (h + 3 ≤ W1.heap.size) := hide HX0.out.size
  generalize W1.heap.size = g7 at *
  generalize W1.alloc (.cells #[.int .i64 ld, .slice a' m c'] 75) = W2 at *
  clear x0 x1 x2 x3 x4 x5 x6 y0 y1
  obtain ⟨x0, x1, x2, x3, x4, x5, x6⟩ := HX2.out.cells
  have u0 : W2.cell? ⟨g7, 0, none⟩ = some (.int .i64 ld) := (cells_at HB7.out 0).1
  have u1 : W2.cell? ⟨g7, 1, none⟩ = some (.slice a' m c') := (cells_at HB7.out 1).1
  have hmq := Hmq.out
  obtain ⟨b9, off9, ea9, z0⟩ := int_at (HL.out W2 HX2.out.bel).2.2.rd q t Hy.out
  subst ea9
  have v0 : ((m : Int) == 0) = false := beq_eq_false_iff_ne.2 (by omega)
  have v1 : (m : Int) - 1 = (q : Int) := by omega
  have v2 : IntKind.i64.wrap (q : Int) = (q : Int) := by simp [IntKind.wrap, IntKind.bits, IntKind.signed]; omega
  have v3 : (t != t) = false := bne_self_eq_false _
  have v4 : (0 : Int) ≤ (q : Int) := by omega
  have v5 : (q : Int) < (m : Int) := by omega
  clear hmq
  go_upto_region 6 with fail
  go_quiet (fail)
  have HX3 := hide (HX2.out.keep (below_drewN W2 nq))
  have HB3 := hide (((below_drewN W2 nq).block _ (heap_lt HB7.out)).trans HB7.out)
  generalize W2.drewN nq = W3 at *
  clear x0 x1 x2 x3 x4 x5 x6 u0 u1 z0 HX2
  obtain ⟨x0, x1, x2, x3, x4, x5, x6⟩ := HX3.out.cells
  have u0 : W3.cell? ⟨g7, 0, none⟩ = some (.int .i64 ld) := (cells_at HB3.out 0).1
  have u1 : W3.cell? ⟨g7, 1, none⟩ = some (.slice (some ⟨b9, off9, none⟩) m c') := (cells_at HB3.out 1).1
  obtain ⟨w0', w1'⟩ := HJ.out W3 HX3.out.bel
  go_upto_region 8 with fail
  go_quiet (fail)
  have HX4 := hide (HX3.out.keep (below_drewN W3 nq))
  have HB4 := hide (((below_drewN W3 nq).block _ (heap_lt HB3.out)).trans HB3.out)
  generalize W3.drewN nq = W4 at *
  clear x0 x1 x2 x3 x4 x5 x6 u0 u1 HX3 w0' w1'
  obtain ⟨x0, x1, x2, x3, x4, x5, x6⟩ := HX4.out.cells
  have u0 : W4.cell? ⟨g7, 0, none⟩ = some (.int .i64 ld) := (cells_at HB4.out 0).1
  have u1 : W4.cell? ⟨g7, 1, none⟩ = some (.slice (some ⟨b9, off9, none⟩) m c') := (cells_at HB4.out 1).1
  have K38 := hide (HPop.out W4 HX4.out.bel)
  generalize popV l.2 = pv at *
  generalize popC l.2 = pc at *
  go_upto_region 11 with (go_at_call 38; refine K38.out.mono ?_; rintro e W5 ⟨a3, c3, rfl, ho, hb⟩; have HX5 := hide (HX4.out.keep hb); have HB5 := hide ((hb.block _ (heap_lt HB4.out)).trans HB4.out); have HO5 := hide ho; clear ho hb; obtain ⟨s0, s1, s2, s3, s4, s5, s6⟩ := HX5.out.cells; have r0 : W5.cell? ⟨g7, 0, none⟩ = some (.int .i64 ld) := (cells_at HB5.out 0).1; have r1 : W5.cell? ⟨g7, 1, none⟩ = some (.slice (some ⟨b9, off9, none⟩) m c') := (cells_at HB5.out 1).1; have r2 : W5.frozen? ⟨g7, 0, none⟩ = false := (cells_at HB5.out 0).2; have r3 : W5.frozen? ⟨g7, 1, none⟩ = false := (cells_at HB5.out 1).2)
  have HX6 : Hid (X4 w0 h (.slice (some ⟨b, off, none⟩) n c) t i (j : Int) (.slice none 0 0) ((W5.setCell ⟨g7, 0, none⟩ (.int .i64 ld)).setCell ⟨g7, 1, none⟩ (.slice a3 q c3))) := hide ((HX5.out.off Hg7.out).off Hg7.out)
  have HB6 : Hid (((W5.setCell ⟨g7, 0, none⟩ (.int .i64 ld)).setCell ⟨g7, 1, none⟩ (.slice a3 q c3)).heap[g7]? = some (.cells #[.int .i64 ld, .slice a3 q c3] 75)) := hide (by rw [heap_put (heap_put HB5.out _) _]; rfl)
  have HO6 : Hid (intE.Own ((W5.setCell ⟨g7, 0, none⟩ (.int .i64 ld)).setCell ⟨g7, 1, none⟩ (.slice a3 q c3)) B (.slice a3 q c3) l.2.dropLast) := hide (own_set_other (own_set_other HO5.out (zown_ne HO5.out HB5.out (by decide))) (zown_ne HO5.out HB5.out (by decide)))
  clear s0 s1 s2 s3 s4 s5 s6 r0 r1 r2 r3 x0 x1 x2 x3 x4 x5 x6 u0 u1 HX4 HB4 HX5 HB5 HO5
  generalize (W5.setCell ⟨g7, 0, none⟩ (.int .i64 ld)).setCell ⟨g7, 1, none⟩ (.slice a3 q c3) = W6 at *
  obtain ⟨x0, x1, x2, x3, x4, x5, x6⟩ := HX6.out.cells
  have u0 : W6.cell? ⟨g7, 0, none⟩ = some (.int .i64 ld) := (cells_at HB6.out 0).1
  have u1 : W6.cell? ⟨g7, 1, none⟩ = some (.slice a3 q c3) := (cells_at HB6.out 1).1
  have K32 := hide (HSet.out W6 a3 c3 HX6.out.bel HO6.out)
  go_upto_region 12 with (go_at_call 32; refine K32.out.mono ?_; rintro e W7 ⟨a7, c7, es7, rfl, hd, hb⟩; have HX7 := hide (HX6.out.keep hb); have HD7 := hide hd; clear hd hb; obtain ⟨s0, s1, s2, s3, s4, s5, s6⟩ := HX7.out.cells)
  have HX8 := hide (HX7.out.put (.slice a7 n c7))
  have HD8 := hide (HD7.out.box (i := 0) (u := .slice a7 n c7) HX7.out.b1 (by decide) (by decide))
  clear x0 x1 x2 x3 x4 x5 x6 u0 u1 s0 s1 s2 s3 s4 s5 s6 HX7 HD7 HX6 HB6 HO6 K32 K38
  generalize W7.setCell ⟨h, 0, none⟩ (.slice a7 n c7) = W8 at *
  obtain ⟨x0, x1, x2, x3, x4, x5, x6⟩ := HX8.out.cells
  generalize hR1 : R.set i (ld, l.2.dropLast) = R1 at *
  have HR1 := hide hR1
  clear hR1
  have Hset' := Hset.out
  obtain ⟨b8, off8, a8, c8, ea, he8, y0, y1, ho8, _⟩ := HD8.out.lane Hset'
  subst ea
  rw [Hmj.out] at y1 ho8 he8
  rw [Hdj.out] at y0 he8
  have HZ : Hid (X4 w0 h (.slice (some ⟨b8, off8, none⟩) n c7) t i j (.slice none 0 0) W8 ∧ DR W8 B (some ⟨b8, off8, none⟩) n c7 es7 R1) := hide ⟨HX8.out, HD8.out⟩
  have HZk : Hid (∀ V V' : World, (X4 w0 h (.slice (some ⟨b8, off8, none⟩) n c7) t i j (.slice none 0 0) V ∧ DR V B (some ⟨b8, off8, none⟩) n c7 es7 R1) → Below V.heap.size V V' → (X4 w0 h (.slice (some ⟨b8, off8, none⟩) n c7) t i j (.slice none 0 0) V' ∧ DR V' B (some ⟨b8, off8, none⟩) n c7 es7 R1)) := hide (fun V V' z hb => ⟨z.1.keep hb, z.2.keep hb⟩)
  have HZl : Hid (∀ V : World, (X4 w0 h (.slice (some ⟨b8, off8, none⟩) n c7) t i j (.slice none 0 0) V ∧ DR V B (some ⟨b8, off8, none⟩) n c7 es7 R1) → V.cell? ⟨b8, off8 + j * 2, none⟩ = some (.int .i64 dj) ∧ V.cell? ⟨b8, off8 + j * 2 + 1, none⟩ = some (.slice a8 mj c8) ∧ intE.Own V B (.slice a8 mj c8) k.2) := hide (fun V z => by
    obtain ⟨b2, off2, a2, c2, e1, e2, h1, h2, h3, _⟩ := z.2.lane Hset'
    cases e1
    rw [Hmj.out, Hdj.out, he8] at e2
    cases e2
    rw [Hmj.out] at h2 h3
    rw [Hdj.out] at h1
    exact ⟨h1, h2, h3⟩)
  have K31 : Hid (∀ V : World, (X4 w0 h (.slice (some ⟨b8, off8, none⟩) n c7) t i j (.slice none 0 0) V ∧ DR V B (some ⟨b8, off8, none⟩) n c7 es7 R1) → Calls Try.prog 31 #[.agg #[.int .i64 dj, .slice a8 mj c8], .int .i64 t] V fun e w' => ∃ a9 c9, e = .returned (.tuple #[.agg #[.int .i64 dj, .slice a9 mk c9], .int .i64 0]) ∧ intE.Own w' B (.slice a9 mk c9) (k.2 ++ [t]) ∧ (X4 w0 h (.slice (some ⟨b8, off8, none⟩) n c7) t i j (.slice none 0 0) w' ∧ DR w' B (some ⟨b8, off8, none⟩) n c7 es7 R1) ∧ Below V.heap.size V w') := hide (fun V z => (HPush.out V a8 c8 (by have := z.1.size; omega) (HZl.out V z).2.2).mono (by
    rintro e w' ⟨a9, c9, rfl, h1, h2⟩
    exact ⟨a9, c9, rfl, h1, HZk.out V w' z h2, h2⟩))
  have HSet2 : Hid (∀ (V : World) (a9 : Option Addr) (c9 : Nat), (X4 w0 h (.slice (some ⟨b8, off8, none⟩) n c7) t i j (.slice none 0 0) V ∧ DR V B (some ⟨b8, off8, none⟩) n c7 es7 R1) → intE.Own V B (.slice a9 mk c9) (k.2 ++ [t]) → Calls Try.prog 32 #[.agg #[.slice (some ⟨b8, off8, none⟩) n c7], .int .i64 j, .agg #[.int .i64 dj, .slice a9 mk c9]] V fun e w' => ∃ a' c' es', e = .returned (.agg #[.slice a' n c']) ∧ DR w' B a' n c' es' (R1.set j (dj, k.2 ++ [t])) ∧ Below V.heap.size V w') := hide (fun V a9 c9 z ho => rset_any j V z.2 hjn (by have := z.1.size; have := HBh.out; omega) ho Hmk.out hmk8 hdj8)
  obtain ⟨S0, hS0⟩ : ∃ S : World → Prop, ∀ V, S V ↔ (V.cell? ⟨h, 0, none⟩ = some (.slice (some ⟨b8, off8, none⟩) n c7) ∧ V.cell? ⟨h + 1, 0, none⟩ = some (.int .i64 t) ∧ V.cell? ⟨h + 1, 2, none⟩ = some (.int .i64 j) ∧ V.cell? ⟨b8, off8 + j * 2, none⟩ = some (.int .i64 dj) ∧ V.cell? ⟨b8, off8 + j * 2 + 1, none⟩ = some (.slice a8 mj c8)) := ⟨_, fun _ => Iff.rfl⟩
  have SD : Hid (∀ V, S0 V → V.cell? ⟨h, 0, none⟩ = some (.slice (some ⟨b8, off8, none⟩) n c7) ∧ V.cell? ⟨h + 1, 0, none⟩ = some (.int .i64 t) ∧ V.cell? ⟨h + 1, 2, none⟩ = some (.int .i64 j) ∧ V.cell? ⟨b8, off8 + j * 2, none⟩ = some (.int .i64 dj) ∧ V.cell? ⟨b8, off8 + j * 2 + 1, none⟩ = some (.slice a8 mj c8)) := hide (fun V h => (hS0 V).1 h)
  have SI : Hid (∀ V, (X4 w0 h (.slice (some ⟨b8, off8, none⟩) n c7) t i j (.slice none 0 0) V ∧ DR V B (some ⟨b8, off8, none⟩) n c7 es7 R1) → S0 V) := hide (fun V z => (hS0 V).2 ⟨z.1.cells.1, z.1.cells.2.1, z.1.cells.2.2.2.1, (HZl.out V z).1, (HZl.out V z).2.1⟩)
  have HBd : Hid (Below W8.heap.size W8 (W8.alloc (.cells #[.int .i64 0, .slice none 0 0] 75)).drew) := hide ((Below.refl _ _).alloc (Nat.le_refl _) _).drew
  have HZd := hide (HZk.out _ _ HZ.out (below_drewN W8 1))
  clear hS0 he8 ho8 Hset' HX8 HD8 y0 y1
  go_upto_region 13 with fail
  refine wp_region_held_drew (S := S0) (by kernel_rfl) (SI.out _ HZd.out) (fun hS0 => ?_)
  clear x0 x1 x2 x3 x4 x5 x6
  refine wpAnyH_take (i := 0) (v := .pointer (some ⟨h, 0, none⟩)) rfl (by kernel_rfl) (by kernel_rfl) (by kernel_rfl) (fun _ _ _ h => h) (Or.inl ⟨by kernel_rfl, fun W' hW => by go_simp⟩) hS0 ?_
  refine wpAnyH_take (i := 1) (v := .slice (some ⟨b8, off8, none⟩) n c7) rfl (by kernel_rfl) (by kernel_rfl) (by kernel_rfl) (fun _ _ _ h => h) (Or.inl ⟨by kernel_rfl, fun W' hW => by have z0 := SD.out W' hW; go_simp⟩) hS0 ?_
  refine wpAnyH_take (i := 2) (v := .pointer (some ⟨h + 1, 2, none⟩)) rfl (by kernel_rfl) (by kernel_rfl) (by kernel_rfl) (fun _ _ _ h => h) (Or.inl ⟨by kernel_rfl, fun W' hW => by go_simp⟩) hS0 ?_
  refine wpAnyH_take (i := 3) (v := .int .i64 j) rfl (by kernel_rfl) (by kernel_rfl) (by kernel_rfl) (fun _ _ _ h => h) (Or.inl ⟨by kernel_rfl, fun W' hW => by have z0 := SD.out W' hW; go_simp⟩) hS0 ?_
  refine wpAnyH_take (i := 4) (v := .pointer (some ⟨b8, off8 + j * 2, none⟩)) rfl (by kernel_rfl) (by kernel_rfl) (by kernel_rfl) (fun _ _ _ h => h) (Or.inl ⟨by kernel_rfl, fun W' hW => by go_simp⟩) hS0 ?_
  refine wpAnyH_take (i := 5) (v := .agg #[.int .i64 dj, .slice a8 mj c8]) rfl (by kernel_rfl) (by kernel_rfl) (by kernel_rfl) (fun _ _ _ h => h) (Or.inl ⟨by kernel_rfl, fun W' hW => by have z0 := SD.out W' hW; go_simp⟩) hS0 ?_
  refine wpAnyH_take (i := 6) (v := .pointer (some ⟨h + 1, 0, none⟩)) rfl (by kernel_rfl) (by kernel_rfl) (by kernel_rfl) (fun _ _ _ h => h) (Or.inl ⟨by kernel_rfl, fun W' hW => by go_simp⟩) hS0 ?_
  refine wpAnyH_take (i := 7) (v := .int .i64 t) rfl (by kernel_rfl) (by kernel_rfl) (by kernel_rfl) (fun _ _ _ h => h) (Or.inl ⟨by kernel_rfl, fun W' hW => by have z0 := SD.out W' hW; go_simp⟩) hS0 ?_
  refine wpAnyH_ready (rs := [8, 12]) (by kernel_rfl) (by simp) ?_
  refine AllReadyH.cons rfl (fun K hK => ?_) (AllReadyH.cons rfl (fun K hK => ?_) AllReadyH.nil)
  · go_simp
    go_at_call 31
    refine (K31.out _ (HZd.out)).mono ?_
    rintro e W9 ⟨a9, c9, rfl, ho, hz, hsz⟩
    have HO9 := hide ho
    have HZ9 := hide hz
    have Hsz9 := hide hsz
    clear ho hz hsz
    go_simp
    refine hK.out _ _ (SI.out _ HZ9.out) (fun _ => ?_)
    clear hK K
    refine wpAnyH_take (i := 9) (v := .tuple #[.agg #[.int .i64 dj, .slice a9 mk c9], .int .i64 0]) rfl (by kernel_rfl) (by kernel_rfl) (by kernel_rfl) (fun _ _ _ h => h) (Or.inl ⟨by kernel_rfl, fun W' hW => by go_simp⟩) (SI.out _ HZ9.out) ?_
    refine wpAnyH_take (i := 10) (v := .agg #[.int .i64 dj, .slice a9 mk c9]) rfl (by kernel_rfl) (by kernel_rfl) (by kernel_rfl) (fun _ _ _ h => h) (Or.inl ⟨by kernel_rfl, fun W' hW => by go_simp⟩) (SI.out _ HZ9.out) ?_
    refine wpAnyH_take (i := 11) (v := .int .i64 0) rfl (by kernel_rfl) (by kernel_rfl) (by kernel_rfl) (fun _ _ _ h => h) (Or.inl ⟨by kernel_rfl, fun W' hW => by go_simp⟩) (SI.out _ HZ9.out) ?_
    refine wpAnyH_ready (rs := [12]) (by kernel_rfl) (by simp) ?_
    refine AllReadyH.cons rfl (fun K hK => ?_) AllReadyH.nil
    go_simp
    have HZa := hide (HZk.out _ _ HZ9.out (Hba.out W9 (.cells #[.int .i64 0, .slice none 0 0] 75)))
    refine hK.out _ _ (SI.out _ HZa.out) (fun _ => ?_)
    clear hK K
    refine wpAnyH_ready (rs := [13]) (by kernel_rfl) (by simp) ?_
    refine AllReadyH.cons rfl (fun K hK => ?_) AllReadyH.nil
    go_simp
    have HZb := hide (HZk.out _ _ HZ9.out (Hba.out W9 (.cells #[.int .i64 dj, .slice a9 mk c9] 75)))
    have HOb := hide (HO9.out.keep (Hba.out W9 (.cells #[.int .i64 dj, .slice a9 mk c9] 75)))
    have HBb := hide (heap_new W9 (.cells #[.int .i64 dj, .slice a9 mk c9] 75))
    refine hK.out _ _ (SI.out _ HZb.out) (fun _ => ?_)
    clear hK K
    refine wpAnyH_ready (rs := [14]) (by kernel_rfl) (by simp) ?_
    refine AllReadyH.cons rfl (fun K hK => ?_) AllReadyH.nil
    go_simp
    refine hK.out _ _ (SI.out _ HZb.out) (fun _ => ?_)
    clear hK K
    refine wpAnyH_done (by kernel_rfl) ?_ _
    obtain ⟨g9, hg9⟩ : ∃ g, W9.heap.size = g := ⟨_, rfl⟩
    simp only [hg9] at HBb ⊢
    generalize W9.alloc (.cells #[.int .i64 dj, .slice a9 mk c9] 75) = Wz at *
    clear hg9 HZ9 HO9 HZa Hsz9
    obtain ⟨x0, x1, x2, x3, x4, x5, x6⟩ := HZb.out.1.cells
    have u0 : Wz.cell? ⟨g9, 0, none⟩ = some (.int .i64 dj) := (cells_at HBb.out 0).1
    have u1 : Wz.cell? ⟨g9, 1, none⟩ = some (.slice a9 mk c9) := (cells_at HBb.out 1).1
    have K32 := hide (HSet2.out Wz a9 c9 HZb.out HOb.out)
    go_upto_region 15 with (go_at_call 32; refine K32.out.mono ?_; rintro e Wy ⟨ay, cy, esy, rfl, hd, hb⟩; have HXy := hide (HZb.out.1.keep hb); have HDy := hide hd; clear hd hb; obtain ⟨s0, s1, s2, s3, s4, s5, s6⟩ := HXy.out.cells)
    have HXw := hide (HXy.out.put (.slice ay n cy))
    have HDw := hide (HDy.out.box (i := 0) (u := .slice ay n cy) HXy.out.b1 (by decide) (by decide))
    clear s0 s1 s2 s3 s4 s5 s6 x0 x1 x2 x3 x4 x5 x6 u0 u1
    generalize Wy.setCell ⟨h, 0, none⟩ (.slice ay n cy) = Ww at *
    obtain ⟨x0, x1, x2, x3, x4, x5, x6⟩ := HXw.out.cells
    have HX := hide (HXw.out.out (.slice ay n cy))
    have HDv := hide (HDw.out.box (i := 0) (u := .slice ay n cy) HXw.out.b3 (by decide) (by decide))
    go_wp2_with fail
    refine bodyPost_ret (v := .tuple #[.agg #[.slice ay n cy], .int .i64 0]) (by have x := HX.out.cells; simp [results, Try.results19, go_sem, x.2.2.2.2.1]) rfl ⟨_, _, _, rfl, by rw [HR1.out]; exact HDv.out, HX.out.bel⟩
  · go_simp
    have HZa := hide (HZk.out _ _ HZ.out HBd.out)
    refine hK.out _ _ (SI.out _ HZa.out) (fun _ => ?_)
    clear hK K
    obtain ⟨g9, hg9⟩ : ∃ g, W8.heap.size = g := ⟨_, rfl⟩
    have HBa : Hid ((W8.alloc (.cells #[.int .i64 0, .slice none 0 0] 75)).drew.heap[g9]? = some (.cells #[.int .i64 0, .slice none 0 0] 75)) := hide (by rw [← hg9]; exact heap_new W8 _)
    have Hg9 : Hid (h + 3 ≤ g9) := hide (by rw [← hg9]; exact HZ.out.1.size)
    have Hne : Hid ((Value.slice (some ⟨b8, off8, none⟩) n c7).ownBlock ≠ some g9) := hide (fun e => by have := HZ.out.2.row.lt g9 e; omega)
    simp only [hg9]
    generalize (W8.alloc (.cells #[.int .i64 0, .slice none 0 0] 75)).drew = Wa at *
    refine wpAnyH_ready (rs := [8]) (by kernel_rfl) (by simp) ?_
    refine AllReadyH.cons rfl (fun K hK => ?_) AllReadyH.nil
    go_simp
    go_at_call 31
    refine (K31.out _ (HZa.out)).mono ?_
    rintro e W9 ⟨a9, c9, rfl, ho, hz, hsz⟩
    have HO9 := hide ho
    have HZ9 := hide hz
    have HB9 : Hid (W9.heap[g9]? = some (.cells #[.int .i64 0, .slice none 0 0] 75)) := hide ((hsz.block _ (heap_lt HBa.out)).trans HBa.out)
    have t0 : W9.cell? ⟨g9, 0, none⟩ = some (.int .i64 0) := (cells_at HB9.out 0).1
    have t1 : W9.cell? ⟨g9, 1, none⟩ = some (.slice none 0 0) := (cells_at HB9.out 1).1
    have t2 : W9.frozen? ⟨g9, 0, none⟩ = false := (cells_at HB9.out 0).2
    have t3 : W9.frozen? ⟨g9, 1, none⟩ = false := (cells_at HB9.out 1).2
    clear ho hz hsz
    go_simp
    refine hK.out _ _ (SI.out _ HZ9.out) (fun _ => ?_)
    clear hK K
    refine wpAnyH_take (i := 9) (v := .tuple #[.agg #[.int .i64 dj, .slice a9 mk c9], .int .i64 0]) rfl (by kernel_rfl) (by kernel_rfl) (by kernel_rfl) (fun _ _ _ h => h) (Or.inl ⟨by kernel_rfl, fun W' hW => by go_simp⟩) (SI.out _ HZ9.out) ?_
    refine wpAnyH_take (i := 10) (v := .agg #[.int .i64 dj, .slice a9 mk c9]) rfl (by kernel_rfl) (by kernel_rfl) (by kernel_rfl) (fun _ _ _ h => h) (Or.inl ⟨by kernel_rfl, fun W' hW => by go_simp⟩) (SI.out _ HZ9.out) ?_
    refine wpAnyH_take (i := 11) (v := .int .i64 0) rfl (by kernel_rfl) (by kernel_rfl) (by kernel_rfl) (fun _ _ _ h => h) (Or.inl ⟨by kernel_rfl, fun W' hW => by go_simp⟩) (SI.out _ HZ9.out) ?_
    refine wpAnyH_ready (rs := [13]) (by kernel_rfl) (by simp) ?_
    refine AllReadyH.cons rfl (fun K hK => ?_) AllReadyH.nil
    go_simp
    have HZb : Hid (X4 w0 h (.slice (some ⟨b8, off8, none⟩) n c7) t i j (.slice none 0 0) ((W9.setCell ⟨g9, 0, none⟩ (.int .i64 dj)).setCell ⟨g9, 1, none⟩ (.slice a9 mk c9)) ∧ DR ((W9.setCell ⟨g9, 0, none⟩ (.int .i64 dj)).setCell ⟨g9, 1, none⟩ (.slice a9 mk c9)) B (some ⟨b8, off8, none⟩) n c7 es7 R1) := hide ⟨(HZ9.out.1.off Hg9.out).off Hg9.out, (HZ9.out.2.off HB9.out Hne.out).off (heap_put HB9.out _) Hne.out⟩
    have HOb : Hid (intE.Own ((W9.setCell ⟨g9, 0, none⟩ (.int .i64 dj)).setCell ⟨g9, 1, none⟩ (.slice a9 mk c9)) B (.slice a9 mk c9) (k.2 ++ [t])) := hide (own_set_other (own_set_other HO9.out (zown_ne HO9.out HB9.out (by decide))) (zown_ne HO9.out HB9.out (by decide)))
    have HBb : Hid (((W9.setCell ⟨g9, 0, none⟩ (.int .i64 dj)).setCell ⟨g9, 1, none⟩ (.slice a9 mk c9)).heap[g9]? = some (.cells #[.int .i64 dj, .slice a9 mk c9] 75)) := hide (by rw [heap_put (heap_put HB9.out _) _]; rfl)
    refine hK.out _ _ (SI.out _ HZb.out) (fun _ => ?_)
    clear hK K t0 t1 t2 t3
    refine wpAnyH_ready (rs := [14]) (by kernel_rfl) (by simp) ?_
    refine AllReadyH.cons rfl (fun K hK => ?_) AllReadyH.nil
    go_simp
    refine hK.out _ _ (SI.out _ HZb.out) (fun _ => ?_)
    clear hK K
    refine wpAnyH_done (by kernel_rfl) ?_ _
    generalize (W9.setCell ⟨g9, 0, none⟩ (.int .i64 dj)).setCell ⟨g9, 1, none⟩ (.slice a9 mk c9) = Wz at *
    clear HZ9 HO9 HB9 HZa HBa Hg9 Hne
    obtain ⟨x0, x1, x2, x3, x4, x5, x6⟩ := HZb.out.1.cells
    have u0 : Wz.cell? ⟨g9, 0, none⟩ = some (.int .i64 dj) := (cells_at HBb.out 0).1
    have u1 : Wz.cell? ⟨g9, 1, none⟩ = some (.slice a9 mk c9) := (cells_at HBb.out 1).1
    have K32 := hide (HSet2.out Wz a9 c9 HZb.out HOb.out)
    go_upto_region 15 with (go_at_call 32; refine K32.out.mono ?_; rintro e Wy ⟨ay, cy, esy, rfl, hd, hb⟩; have HXy := hide (HZb.out.1.keep hb); have HDy := hide hd; clear hd hb; obtain ⟨s0, s1, s2, s3, s4, s5, s6⟩ := HXy.out.cells)
    have HXw := hide (HXy.out.put (.slice ay n cy))
    have HDw := hide (HDy.out.box (i := 0) (u := .slice ay n cy) HXy.out.b1 (by decide) (by decide))
    clear s0 s1 s2 s3 s4 s5 s6 x0 x1 x2 x3 x4 x5 x6 u0 u1
    generalize Wy.setCell ⟨h, 0, none⟩ (.slice ay n cy) = Ww at *
    obtain ⟨x0, x1, x2, x3, x4, x5, x6⟩ := HXw.out.cells
    have HX := hide (HXw.out.out (.slice ay n cy))
    have HDv := hide (HDw.out.box (i := 0) (u := .slice ay n cy) HXw.out.b3 (by decide) (by decide))
    go_wp2_with fail
    refine bodyPost_ret (v := .tuple #[.agg #[.slice ay n cy], .int .i64 0]) (by have x := HX.out.cells; simp [results, Try.results19, go_sem, x.2.2.2.2.1]) rfl ⟨_, _, _, rfl, by rw [HR1.out]; exact HDv.out, HX.out.bel⟩

theorem rdo_any (t f o : Int) (w : World) (hr : DR w B a n c es R) (hB : B ≤ w.heap.size) (hw : Wf R) :
    Calls Try.prog 19 #[.agg #[.slice a n c], .agg #[.int .i64 t, .int .i64 f, .int .i64 o]] w (RP w.heap.size w B n (fun v => .tuple #[v, .int .i64 (doC R ⟨t, f, o⟩)]) (doR R ⟨t, f, o⟩)) := by
  by_cases h1 : ¬ (0 ≤ f ∧ f < (R.length : Int)) ∨ (o ≠ -1 ∧ ¬ (0 ≤ o ∧ o < (R.length : Int))) ∨ f = o
  · have e1 : doC R ⟨t, f, o⟩ = 1 := if_pos h1
    have e2 : doR R ⟨t, f, o⟩ = R := if_neg (by rw [e1]; decide)
    rw [e1, e2]
    exact rdo_range t f o w hr h1
  obtain ⟨i, rfl⟩ : ∃ i : Nat, f = i := ⟨f.toNat, by omega⟩
  obtain ⟨l, hl⟩ : ∃ l, R[i]? = some l := ⟨_, List.getElem?_eq_getElem (by omega)⟩
  by_cases h2 : l.2.getLast? ≠ some t
  · have e1 : doC R ⟨t, i, o⟩ = 160 := (if_neg h1).trans (if_pos (by rw [Int.toNat_natCast, ln_at hl]; exact h2))
    have e2 : doR R ⟨t, i, o⟩ = R := if_neg (by rw [e1]; decide)
    rw [e1, e2]
    exact rdo_tote t i o l w hr hB hl (by omega) h2
  have h2' : l.2.getLast? = some t := Decidable.not_not.1 h2
  have h2n : ¬ (ln R ((i : Nat) : Int).toNat).2.getLast? ≠ some t := by rw [Int.toNat_natCast, ln_at hl]; exact h2
  by_cases ho : o = -1
  · subst ho
    have e1 : doC R ⟨t, i, -1⟩ = 0 := (if_neg h1).trans ((if_neg h2n).trans (if_neg (fun h => h.1 rfl)))
    have e2 : doR R ⟨t, i, -1⟩ = R.set i (l.1, l.2.dropLast) := (if_pos e1).trans ((if_pos rfl).trans (by unfold dropAt; rw [Int.toNat_natCast, ln_at hl]))
    rw [e1, e2]
    exact rdo_out t i l w hr hB hl h2'
  obtain ⟨j, rfl⟩ : ∃ j : Nat, o = j := ⟨o.toNat, by omega⟩
  obtain ⟨m, hm⟩ : ∃ m, R[j]? = some m := ⟨_, List.getElem?_eq_getElem (by omega)⟩
  have hij : i ≠ j := by omega
  by_cases h3 : m.1 ≤ m.2.length
  · have e1 : doC R ⟨t, i, j⟩ = 5 := (if_neg h1).trans ((if_neg h2n).trans (if_pos ⟨ho, by rw [Int.toNat_natCast, ln_at hm]; exact h3⟩))
    have e2 : doR R ⟨t, i, j⟩ = R := if_neg (by rw [e1]; decide)
    rw [e1, e2]
    exact rdo_full t i j m l w hr hB hl hm hij h2' h3
  · have e1 : doC R ⟨t, i, j⟩ = 0 := (if_neg h1).trans ((if_neg h2n).trans (if_neg (fun h => h3 (by have := h.2; rwa [Int.toNat_natCast, ln_at hm] at this))))
    have e2 : doR R ⟨t, i, j⟩ = (R.set i (l.1, l.2.dropLast)).set j (m.1, m.2 ++ [t]) := by
      refine (if_pos e1).trans ((if_neg ho).trans ?_)
      unfold addAt dropAt
      rw [Int.toNat_natCast, Int.toNat_natCast, ln_at hl, ln_at (show (R.set i (l.1, l.2.dropLast))[j]? = some m by rw [set_off hij]; exact hm)]
    rw [e1, e2]
    have hmm := List.mem_of_getLast? h2'
    exact rdo_to t i j m l w hr hB hl hm hij h2' (by omega) (fun h' => hij (hw.dj i j l m t hl hm hmm h')) (hw.rg i l t hl hmm)
end
end Go.Proofs.Ytddcjkbdgneklaa
