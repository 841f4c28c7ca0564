/- The walk of LayoutReads. -/
import Derived.Test.YtpjolnaomdmnnaaDoorRps
import Derived.Test.YtpjolnaomdmnnaaDoorFlm
import Derived.Test.YtpjolnaomdmnnaaDoorSam
import Derived.Test.YtpjolnaomdmnnaaDoorWake
namespace Go.Proofs.YtpjolnaomdmnnaaDoor.layoutReads
open Go.ChangeShapes Go.WideShapes Go.ChangeAt Go.RowKit
set_option linter.unusedVariables false

theorem parse_small (lk : List Nd → ByteArray → Option Int) (text : ByteArray) : (parseS lk text).1.1.length ≤ 40 ∧ (parseS lk text).1.2.length ≤ 120 := by
  unfold parseS
  split
  · simp
  · split
    · simp
    · split
      · next hg =>
        unfold good goodN goodE at hg
        simp only [Bool.and_eq_true, decide_eq_true_eq] at hg
        exact ⟨hg.1.2.1, hg.2.1⟩
      · simp
/-- what both parsers leave, in one form -/
def Lft (o : St × Nat × Int) (e : Ending) (w' : World) : Prop := ∃ a c a' c', e = .returned (.tuple #[.agg #[.slice a o.1.1.length c, .slice a' o.1.2.length c'], .int .i64 (o.2.1 : Int), .int .i64 o.2.2]) ∧ ndE.Rd w' (.slice a o.1.1.length c) o.1.1 ∧ edE.Rd w' (.slice a' o.1.2.length c') o.1.2
theorem left_p (text : ByteArray) (w : World) (L : Laid w) : Calls Tryd.prog 14 #[.string text] w fun e w' => Lft (parseS firstAt text) e w' ∧ Below w.heap.size w w' := by
  by_cases h : 4096 < text.size
  · refine (parse_long text w h).mono ?_
    rintro e w' ⟨rfl, hb⟩
    refine ⟨?_, hb⟩
    unfold parseS
    rw [if_pos h]
    exact ⟨none, 0, none, 0, rfl, .inl ⟨rfl, rfl⟩, .inl ⟨rfl, rfl⟩⟩
  · refine (parse_any text w L (by omega)).mono ?_
    rintro e w' ⟨vN, vE, rfl, hN, hE, hb⟩
    rw [parse_both] at hN hE ⊢
    obtain ⟨a, c, rfl⟩ := hN.rd.form
    obtain ⟨a', c', rfl⟩ := hE.rd.form
    exact ⟨⟨a, c, a', c', rfl, hN.rd, hE.rd⟩, hb⟩
theorem left_d (text : ByteArray) (w : World) : Calls Tryd.prog 17 #[.string text] w fun e w' => Lft (parseS firstAt text) e w' ∧ Below w.heap.size w w' := by
  by_cases h : 4096 < text.size
  · refine (rparse_long text w h).mono ?_
    rintro e w' ⟨rfl, hb⟩
    refine ⟨?_, hb⟩
    unfold parseS
    rw [if_pos h]
    exact ⟨none, 0, none, 0, rfl, .inl ⟨rfl, rfl⟩, .inl ⟨rfl, rfl⟩⟩
  · exact rparse_any text w (by omega)

set_option maxRecDepth 100000 in
set_option maxHeartbeats 4000000 in
theorem walk (text : ByteArray) (w : World) (L : Laid w) : Calls Tryd.prog 4 #[.string text] w fun e w' => e = .returned (.bool true) ∧ Below w.heap.size w w' := by
  have K9 := hide (awake_any w L)
  have K14 : Hid (∀ W, Below w.heap.size w W → _) := hide (fun W (h : Below w.heap.size w W) => left_p text W (L.keep L.size h))
  have K17 := hide (fun W => left_d text W)
  have Hsm := hide (parse_small firstAt text)
  clear L
  generalize parseS firstAt text = o at *
  obtain ⟨⟨ns, es⟩, ln, cd⟩ := o
  simp only at Hsm
  have K16 : Hid (∀ (W : World) (a a' b b' : Option Addr) (c c' d d' : Nat), ndE.Rd W (.slice a ns.length c) ns → edE.Rd W (.slice a' es.length c') es → ndE.Rd W (.slice b ns.length d) ns → edE.Rd W (.slice b' es.length d') es → Calls Tryd.prog 16 #[.agg #[.slice a ns.length c, .slice a' es.length c'], .agg #[.slice b ns.length d, .slice b' es.length d']] W fun e w' => e = .returned (.bool true) ∧ Below W.heap.size W w') := hide (fun W a a' b b' c c' d d' r1 r2 r3 r4 => by
    have h := rsame_any a a' b b' c c' d d' ns ns es es W r1 r2 r3 r4 (by have := Hsm.out; omega) (by have := Hsm.out; omega)
    rwa [decide_eq_true (show ns = ns ∧ es = es from ⟨rfl, rfl⟩)] at h)
  have q1 : ((ln : Int) == (ln : Int)) = true := beq_self_eq_true _
  have q2 : (cd == cd) = true := beq_self_eq_true _
  obtain ⟨n, hn⟩ : ∃ n, ns.length = n := ⟨_, rfl⟩
  obtain ⟨m, hm⟩ : ∃ m, es.length = m := ⟨_, rfl⟩
  simp only [hn, hm] at K16
  have Hn := hide hn
  have Hm := hide hm
  clear hn hm
  go_enter Tryd.func4, Tryd.ntmps4
  go_upto_region 3 with (go_at_call 9; refine (K9.out).mono ?_; rintro e W1 ⟨rfl, hb1⟩; have Hb1 := hide hb1; clear hb1)
  go_upto_region 4 with (go_at_call 14; refine (K14.out _ Hb1.out).mono ?_; rintro e W2 ⟨⟨a, c, a', c', rfl, hr, hr'⟩, hb2⟩
                         simp only [Hn.out, Hm.out] at hr hr' ⊢
                         have HR := hide (And.intro hr hr')
                         have Hb2 : Hid (Below w.heap.size w W2) := hide (Hb1.out.trans (hb2.mono Hb1.out.size))
                         clear hr hr' hb2)
  obtain ⟨W3, hW3⟩ : ∃ W3, W2.alloc (.cells #[.slice a n c, .slice a' m c'] 25) = W3 := ⟨_, rfl⟩
  have b3 : Below W2.heap.size W2 W3 := by rw [← hW3]; exact (Below.refl _ _).alloc (Nat.le_refl _) _
  have hbx3 : W3.heap[W2.heap.size]? = some (.cells #[.slice a n c, .slice a' m c'] 25) := by rw [← hW3]; exact heap_new _ _
  have HBX3 := hide hbx3
  have HR3 := hide (And.intro (HR.out.1.keep b3) (HR.out.2.keep b3))
  have Hb3 : Hid (Below w.heap.size w W3) := hide (Hb2.out.trans (b3.mono Hb2.out.size))
  rw [hW3]
  obtain ⟨g2, hg2⟩ : ∃ g, W2.heap.size = g := ⟨_, rfl⟩
  rw [hg2] at HBX3 ⊢
  clear hW3 b3 hbx3 hg2 HR Hb2 Hb1
  go_upto_region 5 with (go_at_call 17; refine (K17.out _).mono ?_; rintro e W4 ⟨⟨b, d, b', d', rfl, hr, hr'⟩, hb4⟩
                         simp only [Hn.out, Hm.out] at hr hr' ⊢
                         have HR4 := hide (And.intro hr hr')
                         have HR5 := hide (And.intro (HR3.out.1.keep hb4) (HR3.out.2.keep hb4))
                         have HBX4 : Hid (W4.heap[g2]? = some (.cells #[.slice a n c, .slice a' m c'] 25)) := hide (by rw [hb4.block _ (heap_lt HBX3.out)]; exact HBX3.out)
                         have Hb4 : Hid (Below w.heap.size w W4) := hide (Hb3.out.trans (hb4.mono Hb3.out.size))
                         clear hr hr' hb4)
  obtain ⟨W5, hW5⟩ : ∃ W5, W4.alloc (.cells #[.slice b n d, .slice b' m d'] 25) = W5 := ⟨_, rfl⟩
  have b5 : Below W4.heap.size W4 W5 := by rw [← hW5]; exact (Below.refl _ _).alloc (Nat.le_refl _) _
  have hbx5 : W5.heap[W4.heap.size]? = some (.cells #[.slice b n d, .slice b' m d'] 25) := by rw [← hW5]; exact heap_new _ _
  have hbx6 : W5.heap[g2]? = some (.cells #[.slice a n c, .slice a' m c'] 25) := by rw [b5.block _ (heap_lt HBX4.out)]; exact HBX4.out
  have HR6 := hide (And.intro (HR4.out.1.keep b5) (HR4.out.2.keep b5))
  have HR7 := hide (And.intro (HR5.out.1.keep b5) (HR5.out.2.keep b5))
  have Hb5 : Hid (Below w.heap.size w W5) := hide (Hb4.out.trans (b5.mono Hb4.out.size))
  have y0 := (cells_at hbx5 0).1
  have y1 := (cells_at hbx5 1).1
  have y2 := (cells_at hbx6 0).1
  have y3 := (cells_at hbx6 1).1
  simp at y0 y1 y2 y3
  rw [hW5]
  obtain ⟨g4, hg4⟩ : ∃ g, W4.heap.size = g := ⟨_, rfl⟩
  rw [hg4] at y0 y1 ⊢
  clear hW5 b5 hbx5 hbx6 hg4
  go_wp2_with (go_at_call 16; refine (K16.out _ _ _ _ _ _ _ _ _ HR7.out.1 HR7.out.2 HR6.out.1 HR6.out.2).mono ?_; rintro e W6 ⟨rfl, hb6⟩; have Hb6 : Hid (Below w.heap.size w W6) := hide (Hb5.out.trans (hb6.mono Hb5.out.size)); clear hb6)
  go_ret
  exact ⟨by first | rfl | simp, Hb6.out⟩
end Go.Proofs.YtpjolnaomdmnnaaDoor.layoutReads
