/- The walk of NoteBack. -/
import Derived.Test.YtfldllmehelngabNag
namespace Go.Proofs.Ytfldllmehelngab.noteBack
open Go.ChangeShapes Go.WideShapes Go.ChangeAt Go.RowKit
set_option linter.unusedVariables false

theorem flat_count {ns : List Nt} (hk : ∀ n ∈ ns, n.ok = true) : ns.length ≤ (ns.flatMap Nt.bts).length := by
  induction ns with
  | nil => simp
  | cons m t ih =>
    have h3 := ih (fun q hq => hk q (by simp [hq]))
    have h4 := bts_len5 (hk m (by simp))
    rw [List.flatMap_cons, List.length_append, List.length_cons]
    omega

set_option maxHeartbeats 2000000 in
theorem long (a : Option Addr) (n c : Nat) (w : World) (hn : 5000 < n) : Calls Try.prog 3 #[.slice a n c] w fun e w' => e = .returned (.bool true) ∧ Below w.heap.size w w' := by
  have K4 := hide awake_any
  have n1 : (5000 : Int) < (n : Int) := by omega
  go_enter Try.func3, Try.ntmps3
  go_wp2_with (go_at_call 4; refine (K4.out _).mono ?_; rintro e w1 ⟨rfl, hb1⟩; first | have HB := hide (HB.out.trans (hb1.mono HB.out.size)) | have HB := hide hb1; clear hb1)
  go_ret
  exact ⟨rfl, HB.out⟩

set_option maxHeartbeats 4000000 in
set_option maxRecDepth 100000 in
theorem short (a : Option Addr) (n c : Nat) (l : List Int) (w : World) (hs : Sl w a n c l) (hr : InB l) (hn : n ≤ 5000) : Calls Try.prog 3 #[.slice a n c] w fun e w' => e = .returned (.bool true) ∧ Below w.heap.size w w' := by
  have K4 := hide awake_any
  have n1 : ¬ ((5000 : Int) < (n : Int)) := by omega
  have hcap := hs.cap
  have Hs := hide hs
  have Hr := hide hr
  have Hl := hide hs.len
  clear hs hr
  have K5 : Hid (∀ W, Below w.heap.size w W → Calls Try.prog 5 #[.slice a n c] W fun e w' => ReaR l W e w') := hide (fun W hW => read_any (Hs.out.keep hW) Hr.out (by omega))
  go_enter Try.func3, Try.ntmps3
  go_upto_region 4 with (first | (go_at_call 4; refine (K4.out _).mono ?_; rintro e W1 ⟨rfl, hb1⟩) | (go_at_call 5; refine (K5.out _ hb1).mono ?_; rintro e W2 ⟨vL, ns, r, rfl, hR, hoL, hb2⟩))
  have I2 := hide (((Its.nil w).keep hb1).row1 hoL hb2)
  have HR := hide hR
  clear hb1 hb2 hoL hR K4 K5
  obtain ⟨T, hT⟩ : ∃ T, tot ns = T := ⟨_, rfl⟩
  have hT2 : (ns.flatMap Nt.bts).length = T := hT
  have hTn : T ≤ n := by
    have h1 := congrArg List.length HR.out.eq
    rw [List.length_append, Hl.out] at h1
    omega
  have HTk : Hid (l.take T = ns.flatMap Nt.bts) := hide (by
    rw [← hT2]
    have h1 := HR.out.eq
    rw [h1, List.take_left])
  have hcn := flat_count HR.out.ok
  rw [hT2] at hcn
  obtain ⟨G, hG⟩ : ∃ G, ns.length = G := ⟨_, rfl⟩
  rw [hG] at hcn
  rw [hT]
  have HT := hide hT
  have HT2 := hide hT2
  have HG := hide hG
  obtain ⟨aL, cL, eL⟩ := I2.out.one.rd.form
  rw [hG] at eL
  subst eL
  clear hT hT2 hG
  have K6 := hide (write_any I2.out.one.rd HG.out (by omega))
  go_upto_region 5 with (go_at_call 6; refine K6.out.mono ?_; rintro e W3 ⟨vW, cc, rfl, hwri, hb3⟩)
  have hwri2 : cc = 0 ∧ byE.Own W3 W2.heap.size vW (ns.flatMap Nt.bts) := by
    rcases hwri with ⟨_, h1, h2⟩ | ⟨⟨m, hm, hf⟩, _⟩
    · exact ⟨h1, h2⟩
    · have := HR.out.ok m hm
      rw [hf] at this
      simp at this
  obtain ⟨rfl, hoW⟩ := hwri2
  have I3 := hide (I2.out.row1 hoW hb3)
  clear hwri hoW hb3 K6 I2
  obtain ⟨aW, cW, rfl, hslW⟩ := Sl.own I3.out.one
  rw [HT2.out] at hslW I3 ⊢
  have HslW := hide hslW
  clear hslW
  have g1 : ¬ ((n : Int) < (T : Int)) := by omega
  have g2 : (T : Int) ≤ (c : Int) := by omega
  have g3 : ¬ ((T : Int) < 0) := by omega
  have g4 : (0 : Int) ≤ (T : Int) := by omega
  have v1 : ∀ q : Nat, (convert 22 9 (.slice aW T cW)).run Try.prog (W3.drewN q) = .ok (.string (str (ns.flatMap Nt.bts))) (W3.drewN q) := fun q => conv_str (I3.out.drew q).one.rd
  have v2 : ∀ q : Nat, (convert 22 9 (.slice a T c)).run Try.prog (W3.drewN q) = .ok (.string (str (ns.flatMap Nt.bts))) (W3.drewN q) := fun q => by
    have := conv_str ((Hs.out.keep (I3.out.drew q).bel).take T hTn).rd
    rw [HTk.out] at this
    exact this
  go_quiet (fail)
  have I4 := hide (I3.out.drew nq)
  clear v1 v2 g1 g3 I3
  generalize W3.drewN nq = W4 at *
  have K5 := hide (read_any (⟨I4.out.one.rd, HT2.out, HslW.out.cap⟩ : Sl W4 aW T cW (ns.flatMap Nt.bts)) (flat_bts_in HR.out.ok) (by omega))
  go_upto_region 8 with (go_at_call 5; refine K5.out.mono ?_; rintro e W5 ⟨vM, ms, r2, rfl, hR2, hoM, hb5⟩)
  obtain ⟨hu1, _⟩ := (rds_all HR.out.ok).uniq hR2
  rw [← hu1] at hoM ⊢
  rw [HT.out]
  have I5 := hide (I4.out.row1 hoM hb5)
  clear hu1 hR2 hoM hb5 K5 I4
  have K7 := hide (same_eq I5.out.three.rd I5.out.one.rd (by rw [HG.out]; omega))
  go_upto_region 10 with (go_at_call 7; refine K7.out.mono ?_; rintro e W6 ⟨rfl, q, rfl⟩)
  have I6 := hide (I5.out.drew q)
  clear K7 I5
  generalize W5.drewN q = W6 at *
  by_cases hG0 : G = 0
  · have g5 : ((G : Int) == 0) = true := by rw [hG0]; rfl
    have hns : ns = [] := List.eq_nil_of_length_eq_zero (by rw [HG.out]; exact hG0)
    have hT0 : T = 0 := by rw [← HT2.out, hns]; rfl
    have g6 : ((T : Int) == 0) = true := by rw [hT0]; rfl
    clear hG0 hns hT0
    go_wp2_with fail
    go_ret
    exact ⟨rfl, I6.out.bel⟩
  · have g5 : ((G : Int) == 0) = false := by rw [beq_eq_false_iff_ne]; omega
    have g7 : (0 : Int) < (G : Int) := by omega
    have g7n : 0 < G := by omega
    have g7e : ¬ (G = 0) := by omega
    obtain ⟨m, hm⟩ : ∃ m, ns[0]? = some m := ⟨_, List.getElem?_eq_getElem (by rw [HG.out]; omega)⟩
    have Hm := hide hm
    obtain ⟨t, ht⟩ : ∃ t, ns = m :: t := by
      cases hns : ns with
      | nil => rw [hns] at hm; simp at hm
      | cons y t =>
        rw [hns] at hm
        simp at hm
        exact ⟨t, by rw [hm]⟩
    have hmk : m.ok = true := HR.out.ok m (by rw [ht]; simp)
    have Hfst : Hid (Fst l m) := hide ⟨hmk, t.flatMap Nt.bts ++ r, by have h1 := HR.out.eq; rw [ht, List.flatMap_cons, List.append_assoc] at h1; exact h1⟩
    have hM := bts_len5 hmk
    obtain ⟨M, hMe⟩ : ∃ M, m.bts.length = M := ⟨_, rfl⟩
    have hMT : M ≤ T := by rw [← HT2.out, ht, List.flatMap_cons, List.length_append, hMe]; omega
    rw [hMe] at hM
    obtain ⟨M5, M19⟩ := hM
    have HMe := hide hMe
    have K8 := hide (decode_any (Hs.out.keep I6.out.bel) Hr.out (by omega))
    clear hm ht hmk hMe hG0
    go_upto_region 13 with (go_at_call 8; refine K8.out.mono ?_; rintro e W7 ⟨k, x, y, z, s, ec, rfl, hdec, hb7⟩)
    rcases hdec with ⟨hf, rfl, rfl⟩ | ⟨hno, _⟩
    · have he := hf.uniq Hfst.out
      subst he
      rw [HMe.out]
      have I7 := hide ((I6.out.keep hb7).box1 #[.int .i64 k, .int .i64 x, .int .i64 y, .int .i64 z] 32)
      generalize W7.alloc (.cells #[.int .i64 k, .int .i64 x, .int .i64 y, .int .i64 z] 32) = W8 at *
      generalize W7.heap.size = gX at *
      obtain ⟨p0, p1, p2, p3⟩ : W8.cell? ⟨gX, 0, none⟩ = some (.int .i64 k) ∧ W8.cell? ⟨gX, 1, none⟩ = some (.int .i64 x) ∧ W8.cell? ⟨gX, 2, none⟩ = some (.int .i64 y) ∧ W8.cell? ⟨gX, 3, none⟩ = some (.int .i64 z) := ⟨(cells_at I7.out.one 0).1, (cells_at I7.out.one 1).1, (cells_at I7.out.one 2).1, (cells_at I7.out.one 3).1⟩
      obtain ⟨b1, o1, rfl, q0, q1, q2, q3⟩ := nt_at I7.out.four.rd 0 _ Hm.out
      simp only [Nat.zero_mul, Nat.add_zero] at q0 q1 q2 q3
      have g8 : (0 : Int) < (M : Int) := by omega
      have g9 : (M : Int) ≤ (T : Int) := by omega
      have g8n : 0 < M := by omega
      have g8d : decide (0 < M) = true := decide_eq_true g8n
      have g8e : decide ((0 : Int) < (M : Int)) = true := decide_eq_true g8
      have g9d : decide ((M : Int) ≤ (T : Int)) = true := decide_eq_true g9
      have g9e : decide (M ≤ T) = true := decide_eq_true hMT
      clear hf hb7 K8 I6
      go_quiet (fail)
      go_wp2_with fail
      go_ret
      exact ⟨rfl, (I7.out.drew _).bel⟩
    · exact absurd Hfst.out (hno _)

theorem walk (a0 : Option Addr) (len0 cap0 : Nat) (z0 : List Int) (w : World) (h0 : IsRow .u8 w a0 len0 cap0 z0) (h1 : cap0 * Try.prog.bytesOf 5 ≤ 140737488351232) : Calls Try.prog 3 #[.slice a0 len0 cap0] w fun e w' => e = .returned (.bool true) ∧ Below w.heap.size w w' := by
  obtain ⟨l, hs, hr⟩ := sl_of_row h0
  rcases Nat.lt_or_ge 5000 len0 with q | q
  · exact long a0 len0 cap0 w q
  · exact short a0 len0 cap0 l w hs hr q
end Go.Proofs.Ytfldllmehelngab.noteBack
