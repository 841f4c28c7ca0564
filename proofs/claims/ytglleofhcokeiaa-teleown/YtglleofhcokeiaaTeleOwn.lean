/- For every telegram and every list of bytes the law TeleOwn answers true: the bytes that Split leaves and those that Encode writes are new memory: writing over them changes neither what was handed in nor what is written later (lists of at most 100 bytes are looked at, as the law says); no conditions. -/
import Derived.Test.YtglleofhcokeiaaRByt
import Derived.Test.YtglleofhcokeiaaRcheck
import Derived.Test.YtglleofhcokeiaaSplM
import Derived.Test.YtglleofhcokeiaaTAwake
import Derived.Test.YtglleofhcokeiaaArgs
namespace Go.Proofs.Ytglleofhcokeiaa.teleOwn
open Go.ChangeShapes Go.WideShapes Go.ChangeAt Go.RowKit
set_option linter.unusedVariables false

theorem own : ownKnob Try.prog.godebug = none := by kernel_rfl
theorem laidOut : laidOutB Try.prog = true := by kernel_rfl

theorem ow_at {w : World} {B n cap : Nat} {a : Option Addr} {l : List Int} (h : Ow w B (.slice a n cap) l) (k : Nat) (hk : k < l.length) :
    ∃ g, a = some ⟨g, 0, none⟩ ∧ B ≤ g ∧ w.cell? ⟨g, k, none⟩ = some (.int .u8 (l[k]?.getD 0)) ∧ w.frozen? ⟨g, k, none⟩ = false := by
  obtain ⟨g, c, hv, hg1, hg2⟩ := World.ownsRow.form h (by omega)
  simp only [Value.slice.injEq] at hv
  obtain ⟨rfl, rfl, rfl⟩ := hv
  obtain ⟨h1, h2⟩ := h.cell hk
  exact ⟨g, rfl, hg1, h1, h2⟩

set_option maxHeartbeats 1000000 in
theorem walk_far (v0 : Value) (a : Option Addr) (n cap : Nat) (w : World) (h : (100 : Int) < (n : Int)) (hv : ∃ k d s a b : Int, v0 = .agg #[.int .u8 k, .int .u16 d, .int .u16 s, .int .u16 a, .int .u16 b]) :
    Calls Try.prog 8 #[v0, .slice a n cap] w fun e w' => e = .returned (.bool true) ∧ Below w.heap.size w w' := by
  obtain ⟨k, d, s, a', b, rfl⟩ := hv
  go_enter Try.func8, Try.ntmps8
  go_wp2_with fail
  refine (tawake_any _).mono ?_; rintro e w1 ⟨rfl, hb1⟩
  go_wp2_with fail
  refine (tawake_any _).mono ?_; rintro e w2 ⟨rfl, hb2⟩
  go_wp2_with fail
  go_ret
  exact ⟨rfl, ((Below.refl _ _).alloc (Nat.le_refl _) _).trans ((hb1.trans (hb2.mono hb1.size)).mono (by simp))⟩

set_option maxHeartbeats 4000000 in
set_option maxRecDepth 100000 in
theorem walk_no23 (k d s a b : Int) (ab : Option Addr) (n cap : Nat) (l : List Int) (w : World) (hin : Tl.In ⟨k, d, s, a, b⟩) (hc : chk ⟨k, d, s, a, b⟩ = 23) (hbs : Bs w (.slice ab n cap) l) (hn : l.length = n) (hinl : InB l) (hm : n ≤ 100) :
    Calls Try.prog 8 #[.agg #[.int .u8 k, .int .u16 d, .int .u16 s, .int .u16 a, .int .u16 b], .slice ab n cap] w fun e w' => e = .returned (.bool true) ∧ Below w.heap.size w w' := by
  have i0 : ¬ (100 : Int) < (n : Int) := by omega
  have k10 := fun W => rcheck_any k d s a b W hin.1 hin.2.2.2.1 hin.2.2.2.2
  have k11 := fun W => encode_no k d s a b W (by rw [hc]; decide)
  rw [hc] at k10 k11
  have K10 := hide k10
  have K11 := hide k11
  have K16 := hide (fun W B v (h : Ow W B v l) => split_any (Bs.own h) (Cp.own h) hinl (by omega))
  have Hbs := hide hbs
  have Hn := hide hn
  have Ha := hide ((Below.refl w.heap.size w).alloc (Nat.le_refl _) (.cells #[.int .u8 k, .int .u16 d, .int .u16 s, .int .u16 a, .int .u16 b] 24))
  have HB : Hid (∀ W, Below (w.alloc (.cells #[.int .u8 k, .int .u16 d, .int .u16 s, .int .u16 a, .int .u16 b] 24)).heap.size (w.alloc (.cells #[.int .u8 k, .int .u16 d, .int .u16 s, .int .u16 a, .int .u16 b] 24)) W → W.cell? ⟨w.heap.size, 0, none⟩ = some (.int .u8 k) ∧ W.cell? ⟨w.heap.size, 1, none⟩ = some (.int .u16 d) ∧ W.cell? ⟨w.heap.size, 2, none⟩ = some (.int .u16 s) ∧ W.cell? ⟨w.heap.size, 3, none⟩ = some (.int .u16 a) ∧ W.cell? ⟨w.heap.size, 4, none⟩ = some (.int .u16 b)) := hide (fun W hW => box5 hW)
  clear hbs hn hinl hin k10 k11 hc
  go_enter Try.func8, Try.ntmps8
  go_upto_region 5 with (first
    | (go_at_call 9; refine (tawake_any _).mono ?_; rintro e w1 ⟨rfl, hb1⟩; have hbs1 := Hbs.out.keep (Ha.out.trans (hb1.mono Ha.out.size)))
    | (at_builtin; refine wpList_app (hb1.alloc hb1.size _) (by rfl) _ _ rfl _ _ rfl rfl [] l (own_empty _ _ hb1.size _ (by simp)) (hbs1.keep ((Below.refl _ _).alloc (Nat.le_refl _) _)) (by simp; rw [Hn.out]; omega) ?_; intro v1 w2 hown2 hb2; rw [List.nil_append] at hown2)
    | (go_at_call 16; refine (K16.out _ _ _ hown2).mono ?_; rintro e w3 ⟨vf, vl, rfl, hot3, hown3, hb3⟩))
  generalize hW0 : w.alloc (.cells #[.int .u8 k, .int .u16 d, .int .u16 s, .int .u16 a, .int .u16 b] 24) = W0 at *
  clear hW0
  have Hll := hide (spl_left_len l)
  generalize (spl l).2.1 = ll at *
  generalize (spl l).2.2 = kk at *
  obtain ⟨al, capl, rfl⟩ := (Bs.own hown3).form
  obtain ⟨nl, hnl⟩ : ∃ nl, ll.length = nl := ⟨_, rfl⟩
  have hml : nl ≤ 1000000 := by have := Hll.out; omega
  rw [hnl] at hown3 ⊢
  have Hnl := hide hnl
  clear hnl hot3 hbs1
  have m0 : (nl : Int) ≤ 1000000 := by omega
  go_wp2_with fail
  go_loopw [34] (fun i wr => ∃ (q : Nat) (L : List Int), q ≤ nl ∧ i = .int .i64 q ∧ L.length = nl ∧ Ow wr w2.heap.size (.slice al nl capl) L ∧ Below w2.heap.size w2 wr) (fun i _ => nl - (intOf i).toNat)
  case atStart => exact ⟨0, ll, by omega, rfl, Hnl.out, hown3, hb3⟩
  case round =>
    obtain ⟨q, L, hq, rfl, hL, hown, hb⟩ := hrel
    have HL := hide hL
    clear hL hown3 hb3
    have q0 : (0 : Int) ≤ (q : Int) := by omega
    by_cases hlt : q < nl
    · have q1 : (q : Int) < (nl : Int) := by omega
      obtain ⟨g, rfl, hg, hcell, hfr⟩ := ow_at hown q (by rw [HL.out]; exact hlt)
      generalize L[q]?.getD 0 = z0 at hcell
      have Hown := hide hown
      have Hb := hide hb
      clear hown hb
      go_wp2_with fail
      go_roundw
      case rel => exact ⟨q + 1, L.set q _, by omega, by go_num, by rw [List.length_set]; exact HL.out, Ow.set Hown.out q _, Hb.out.setCell hg _⟩
      case measure => simp [intOf]; omega
    · have hb02 := hb2.trans (hb.mono hb2.size)
      have hown2' : Ow wr W0.heap.size v1 l := hown2.keep hb
      obtain ⟨p0, p1, p2, p3, p4⟩ := HB.out _ hb02
      clear hown hb hown2 hb2 HL q0 hq hml m0 Hnl Hll
      go_upto_region 11 with (go_at_call 11; refine (K11.out _).mono ?_; rintro e w5 ⟨rfl, hb5⟩)
      have hb05 := hb02.trans (hb5.mono hb02.size)
      have hown5 := hown2'.keep hb5
      obtain ⟨r0, r1, r2, r3, r4⟩ := HB.out _ hb05
      clear p0 p1 p2 p3 p4 hb5 hb02 hown2'
      go_wp2_with fail
      go_loopw [51] (fun i wr2 => i = .int .i64 0 ∧ wr2 = w5) (fun _ _ => 0)
      case atStart => exact ⟨rfl, rfl⟩
      case round =>
        obtain ⟨rfl, rfl⟩ := hrel
        go_upto_region 17 with (go_at_call 11; refine (K11.out _).mono ?_; rintro e w6 ⟨rfl, hb6⟩)
        have hb06 := hb05.trans (hb6.mono hb05.size)
        have hown6 := hown5.keep hb6
        have HF : Hid (∀ W, Below w6.heap.size w6 W → (W.cell? ⟨w.heap.size, 0, none⟩ = some (.int .u8 k) ∧ W.cell? ⟨w.heap.size, 1, none⟩ = some (.int .u16 d) ∧ W.cell? ⟨w.heap.size, 2, none⟩ = some (.int .u16 s) ∧ W.cell? ⟨w.heap.size, 3, none⟩ = some (.int .u16 a) ∧ W.cell? ⟨w.heap.size, 4, none⟩ = some (.int .u16 b)) ∧ (convert 27 9 v1).run Try.prog W = .ok (.string (str l)) W ∧ (convert 27 9 (.slice ab n cap)).run Try.prog W = .ok (.string (str l)) W ∧ Below w.heap.size w W) := hide (fun W hW => by
          have hX := hb06.trans (hW.mono hb06.size)
          have hY := Ha.out.trans (hX.mono Ha.out.size)
          exact ⟨HB.out _ hX, conv_str (Bs.own (hown6.keep hW)), conv_str (Hbs.out.keep hY), hY⟩)
        clear hb06 hown6 hb05 hown5 hb6 r0 r1 r2 r3 r4 HB Ha Hbs K16 K11
        obtain ⟨⟨x0, x1, x2, x3, x4⟩, _⟩ := HF.out _ (Below.refl _ _)
        refine wp_region_any (by kernel_rfl) ?_
        change wpAny _ _ _ _ _ _ _ (World.drew _)
        refine wpAny_ready (rs := [0]) (by kernel_rfl) (by simp) ?_
        refine AllReady.cons rfl (fun K hK => ?_) AllReady.nil
        go_simp
        refine hK _ _ ?_
        clear hK K
        refine wpAny_ready (rs := [1]) (by kernel_rfl) (by simp) ?_
        refine AllReady.cons rfl (fun K hK => ?_) AllReady.nil
        go_simp
        go_wp2_with (go_at_call 10; refine (K10.out _).mono ?_; rintro e w7 ⟨rfl, hb7⟩; have hd7 : Below w6.heap.size w6 w7 := ⟨hb7.os, hb7.tape, hb7.output, hb7.size, hb7.block⟩; obtain ⟨_, c17, cb7, _⟩ := HF.out _ hd7; have c17d := (HF.out _ hd7.drew).2.1; have cb7d := (HF.out _ hd7.drew).2.2.1)
        refine wpAny_ready (rs := [2]) (by kernel_rfl) (by simp) ?_
        refine AllReady.cons rfl (fun K hK => ?_) AllReady.nil
        go_simp
        refine hK _ _ ?_
        clear hK K
        refine wpAny_ready (rs := [3]) (by kernel_rfl) (by simp) ?_
        refine AllReady.cons rfl (fun K hK => ?_) AllReady.nil
        go_simp
        refine hK _ _ ?_
        clear hK K
        refine wpAny_take (i := 4) (v := undef) rfl (by kernel_rfl) (by kernel_rfl) (by kernel_rfl) (fun _ _ _ h => h) (Or.inr ⟨by kernel_rfl, rfl⟩) ?_
        refine wpAny_take (i := 5) (v := undef) rfl (by kernel_rfl) (by kernel_rfl) (by kernel_rfl) (fun _ _ _ h => h) (Or.inr ⟨by kernel_rfl, rfl⟩) ?_
        refine wpAny_take (i := 6) (v := undef) rfl (by kernel_rfl) (by kernel_rfl) (by kernel_rfl) (fun _ _ _ h => h) (Or.inr ⟨by kernel_rfl, rfl⟩) ?_
        refine wpAny_take (i := 7) (v := undef) rfl (by kernel_rfl) (by kernel_rfl) (by kernel_rfl) (fun _ _ _ h => h) (Or.inr ⟨by kernel_rfl, rfl⟩) ?_
        refine wpAny_take (i := 8) (v := undef) rfl (by kernel_rfl) (by kernel_rfl) (by kernel_rfl) (fun _ _ _ h => h) (Or.inr ⟨by kernel_rfl, rfl⟩) ?_
        refine wpAny_take (i := 9) (v := undef) rfl (by kernel_rfl) (by kernel_rfl) (by kernel_rfl) (fun _ _ _ h => h) (Or.inr ⟨by kernel_rfl, rfl⟩) ?_
        refine wpAny_take (i := 10) (v := undef) rfl (by kernel_rfl) (by kernel_rfl) (by kernel_rfl) (fun _ _ _ h => h) (Or.inr ⟨by kernel_rfl, rfl⟩) ?_
        refine wpAny_take (i := 11) (v := undef) rfl (by kernel_rfl) (by kernel_rfl) (by kernel_rfl) (fun _ _ _ h => h) (Or.inr ⟨by kernel_rfl, rfl⟩) ?_
        refine wpAny_take (i := 12) (v := undef) rfl (by kernel_rfl) (by kernel_rfl) (by kernel_rfl) (fun _ _ _ h => h) (Or.inr ⟨by kernel_rfl, rfl⟩) ?_
        refine wpAny_take (i := 13) (v := undef) rfl (by kernel_rfl) (by kernel_rfl) (by kernel_rfl) (fun _ _ _ h => h) (Or.inr ⟨by kernel_rfl, rfl⟩) ?_
        refine wpAny_ready (rs := [14]) (by kernel_rfl) (by simp) ?_
        refine AllReady.cons rfl (fun K hK => ?_) AllReady.nil
        go_simp
        refine hK _ _ ?_
        clear hK K
        refine wpAny_done (by kernel_rfl) ?_ _
        all_goals
          have hf := (HF.out _ hd7).2.2.2
          go_wp2_with fail
          go_ret
          exact ⟨rfl, ⟨hf.os, hf.tape, hf.output, hf.size, hf.block⟩⟩

set_option maxHeartbeats 4000000 in
set_option maxRecDepth 100000 in
theorem walk_no24 (k d s a b : Int) (ab : Option Addr) (n cap : Nat) (l : List Int) (w : World) (hin : Tl.In ⟨k, d, s, a, b⟩) (hc : chk ⟨k, d, s, a, b⟩ = 24) (hbs : Bs w (.slice ab n cap) l) (hn : l.length = n) (hinl : InB l) (hm : n ≤ 100) :
    Calls Try.prog 8 #[.agg #[.int .u8 k, .int .u16 d, .int .u16 s, .int .u16 a, .int .u16 b], .slice ab n cap] w fun e w' => e = .returned (.bool true) ∧ Below w.heap.size w w' := by
  have i0 : ¬ (100 : Int) < (n : Int) := by omega
  have k10 := fun W => rcheck_any k d s a b W hin.1 hin.2.2.2.1 hin.2.2.2.2
  have k11 := fun W => encode_no k d s a b W (by rw [hc]; decide)
  rw [hc] at k10 k11
  have K10 := hide k10
  have K11 := hide k11
  have K16 := hide (fun W B v (h : Ow W B v l) => split_any (Bs.own h) (Cp.own h) hinl (by omega))
  have Hbs := hide hbs
  have Hn := hide hn
  have Ha := hide ((Below.refl w.heap.size w).alloc (Nat.le_refl _) (.cells #[.int .u8 k, .int .u16 d, .int .u16 s, .int .u16 a, .int .u16 b] 24))
  have HB : Hid (∀ W, Below (w.alloc (.cells #[.int .u8 k, .int .u16 d, .int .u16 s, .int .u16 a, .int .u16 b] 24)).heap.size (w.alloc (.cells #[.int .u8 k, .int .u16 d, .int .u16 s, .int .u16 a, .int .u16 b] 24)) W → W.cell? ⟨w.heap.size, 0, none⟩ = some (.int .u8 k) ∧ W.cell? ⟨w.heap.size, 1, none⟩ = some (.int .u16 d) ∧ W.cell? ⟨w.heap.size, 2, none⟩ = some (.int .u16 s) ∧ W.cell? ⟨w.heap.size, 3, none⟩ = some (.int .u16 a) ∧ W.cell? ⟨w.heap.size, 4, none⟩ = some (.int .u16 b)) := hide (fun W hW => box5 hW)
  clear hbs hn hinl hin k10 k11 hc
  go_enter Try.func8, Try.ntmps8
  go_upto_region 5 with (first
    | (go_at_call 9; refine (tawake_any _).mono ?_; rintro e w1 ⟨rfl, hb1⟩; have hbs1 := Hbs.out.keep (Ha.out.trans (hb1.mono Ha.out.size)))
    | (at_builtin; refine wpList_app (hb1.alloc hb1.size _) (by rfl) _ _ rfl _ _ rfl rfl [] l (own_empty _ _ hb1.size _ (by simp)) (hbs1.keep ((Below.refl _ _).alloc (Nat.le_refl _) _)) (by simp; rw [Hn.out]; omega) ?_; intro v1 w2 hown2 hb2; rw [List.nil_append] at hown2)
    | (go_at_call 16; refine (K16.out _ _ _ hown2).mono ?_; rintro e w3 ⟨vf, vl, rfl, hot3, hown3, hb3⟩))
  generalize hW0 : w.alloc (.cells #[.int .u8 k, .int .u16 d, .int .u16 s, .int .u16 a, .int .u16 b] 24) = W0 at *
  clear hW0
  have Hll := hide (spl_left_len l)
  generalize (spl l).2.1 = ll at *
  generalize (spl l).2.2 = kk at *
  obtain ⟨al, capl, rfl⟩ := (Bs.own hown3).form
  obtain ⟨nl, hnl⟩ : ∃ nl, ll.length = nl := ⟨_, rfl⟩
  have hml : nl ≤ 1000000 := by have := Hll.out; omega
  rw [hnl] at hown3 ⊢
  have Hnl := hide hnl
  clear hnl hot3 hbs1
  have m0 : (nl : Int) ≤ 1000000 := by omega
  go_wp2_with fail
  go_loopw [34] (fun i wr => ∃ (q : Nat) (L : List Int), q ≤ nl ∧ i = .int .i64 q ∧ L.length = nl ∧ Ow wr w2.heap.size (.slice al nl capl) L ∧ Below w2.heap.size w2 wr) (fun i _ => nl - (intOf i).toNat)
  case atStart => exact ⟨0, ll, by omega, rfl, Hnl.out, hown3, hb3⟩
  case round =>
    obtain ⟨q, L, hq, rfl, hL, hown, hb⟩ := hrel
    have HL := hide hL
    clear hL hown3 hb3
    have q0 : (0 : Int) ≤ (q : Int) := by omega
    by_cases hlt : q < nl
    · have q1 : (q : Int) < (nl : Int) := by omega
      obtain ⟨g, rfl, hg, hcell, hfr⟩ := ow_at hown q (by rw [HL.out]; exact hlt)
      generalize L[q]?.getD 0 = z0 at hcell
      have Hown := hide hown
      have Hb := hide hb
      clear hown hb
      go_wp2_with fail
      go_roundw
      case rel => exact ⟨q + 1, L.set q _, by omega, by go_num, by rw [List.length_set]; exact HL.out, Ow.set Hown.out q _, Hb.out.setCell hg _⟩
      case measure => simp [intOf]; omega
    · have hb02 := hb2.trans (hb.mono hb2.size)
      have hown2' : Ow wr W0.heap.size v1 l := hown2.keep hb
      obtain ⟨p0, p1, p2, p3, p4⟩ := HB.out _ hb02
      clear hown hb hown2 hb2 HL q0 hq hml m0 Hnl Hll
      go_upto_region 11 with (go_at_call 11; refine (K11.out _).mono ?_; rintro e w5 ⟨rfl, hb5⟩)
      have hb05 := hb02.trans (hb5.mono hb02.size)
      have hown5 := hown2'.keep hb5
      obtain ⟨r0, r1, r2, r3, r4⟩ := HB.out _ hb05
      clear p0 p1 p2 p3 p4 hb5 hb02 hown2'
      go_wp2_with fail
      go_loopw [51] (fun i wr2 => i = .int .i64 0 ∧ wr2 = w5) (fun _ _ => 0)
      case atStart => exact ⟨rfl, rfl⟩
      case round =>
        obtain ⟨rfl, rfl⟩ := hrel
        go_upto_region 17 with (go_at_call 11; refine (K11.out _).mono ?_; rintro e w6 ⟨rfl, hb6⟩)
        have hb06 := hb05.trans (hb6.mono hb05.size)
        have hown6 := hown5.keep hb6
        have HF : Hid (∀ W, Below w6.heap.size w6 W → (W.cell? ⟨w.heap.size, 0, none⟩ = some (.int .u8 k) ∧ W.cell? ⟨w.heap.size, 1, none⟩ = some (.int .u16 d) ∧ W.cell? ⟨w.heap.size, 2, none⟩ = some (.int .u16 s) ∧ W.cell? ⟨w.heap.size, 3, none⟩ = some (.int .u16 a) ∧ W.cell? ⟨w.heap.size, 4, none⟩ = some (.int .u16 b)) ∧ (convert 27 9 v1).run Try.prog W = .ok (.string (str l)) W ∧ (convert 27 9 (.slice ab n cap)).run Try.prog W = .ok (.string (str l)) W ∧ Below w.heap.size w W) := hide (fun W hW => by
          have hX := hb06.trans (hW.mono hb06.size)
          have hY := Ha.out.trans (hX.mono Ha.out.size)
          exact ⟨HB.out _ hX, conv_str (Bs.own (hown6.keep hW)), conv_str (Hbs.out.keep hY), hY⟩)
        clear hb06 hown6 hb05 hown5 hb6 r0 r1 r2 r3 r4 HB Ha Hbs K16 K11
        obtain ⟨⟨x0, x1, x2, x3, x4⟩, _⟩ := HF.out _ (Below.refl _ _)
        refine wp_region_any (by kernel_rfl) ?_
        change wpAny _ _ _ _ _ _ _ (World.drew _)
        refine wpAny_ready (rs := [0]) (by kernel_rfl) (by simp) ?_
        refine AllReady.cons rfl (fun K hK => ?_) AllReady.nil
        go_simp
        refine hK _ _ ?_
        clear hK K
        refine wpAny_ready (rs := [1]) (by kernel_rfl) (by simp) ?_
        refine AllReady.cons rfl (fun K hK => ?_) AllReady.nil
        go_simp
        go_wp2_with (go_at_call 10; refine (K10.out _).mono ?_; rintro e w7 ⟨rfl, hb7⟩; have hd7 : Below w6.heap.size w6 w7 := ⟨hb7.os, hb7.tape, hb7.output, hb7.size, hb7.block⟩; obtain ⟨_, c17, cb7, _⟩ := HF.out _ hd7; have c17d := (HF.out _ hd7.drew).2.1; have cb7d := (HF.out _ hd7.drew).2.2.1)
        refine wpAny_ready (rs := [2]) (by kernel_rfl) (by simp) ?_
        refine AllReady.cons rfl (fun K hK => ?_) AllReady.nil
        go_simp
        refine hK _ _ ?_
        clear hK K
        refine wpAny_ready (rs := [3]) (by kernel_rfl) (by simp) ?_
        refine AllReady.cons rfl (fun K hK => ?_) AllReady.nil
        go_simp
        refine hK _ _ ?_
        clear hK K
        refine wpAny_take (i := 4) (v := undef) rfl (by kernel_rfl) (by kernel_rfl) (by kernel_rfl) (fun _ _ _ h => h) (Or.inr ⟨by kernel_rfl, rfl⟩) ?_
        refine wpAny_take (i := 5) (v := undef) rfl (by kernel_rfl) (by kernel_rfl) (by kernel_rfl) (fun _ _ _ h => h) (Or.inr ⟨by kernel_rfl, rfl⟩) ?_
        refine wpAny_take (i := 6) (v := undef) rfl (by kernel_rfl) (by kernel_rfl) (by kernel_rfl) (fun _ _ _ h => h) (Or.inr ⟨by kernel_rfl, rfl⟩) ?_
        refine wpAny_take (i := 7) (v := undef) rfl (by kernel_rfl) (by kernel_rfl) (by kernel_rfl) (fun _ _ _ h => h) (Or.inr ⟨by kernel_rfl, rfl⟩) ?_
        refine wpAny_take (i := 8) (v := undef) rfl (by kernel_rfl) (by kernel_rfl) (by kernel_rfl) (fun _ _ _ h => h) (Or.inr ⟨by kernel_rfl, rfl⟩) ?_
        refine wpAny_take (i := 9) (v := undef) rfl (by kernel_rfl) (by kernel_rfl) (by kernel_rfl) (fun _ _ _ h => h) (Or.inr ⟨by kernel_rfl, rfl⟩) ?_
        refine wpAny_take (i := 10) (v := undef) rfl (by kernel_rfl) (by kernel_rfl) (by kernel_rfl) (fun _ _ _ h => h) (Or.inr ⟨by kernel_rfl, rfl⟩) ?_
        refine wpAny_take (i := 11) (v := undef) rfl (by kernel_rfl) (by kernel_rfl) (by kernel_rfl) (fun _ _ _ h => h) (Or.inr ⟨by kernel_rfl, rfl⟩) ?_
        refine wpAny_take (i := 12) (v := undef) rfl (by kernel_rfl) (by kernel_rfl) (by kernel_rfl) (fun _ _ _ h => h) (Or.inr ⟨by kernel_rfl, rfl⟩) ?_
        refine wpAny_take (i := 13) (v := undef) rfl (by kernel_rfl) (by kernel_rfl) (by kernel_rfl) (fun _ _ _ h => h) (Or.inr ⟨by kernel_rfl, rfl⟩) ?_
        refine wpAny_ready (rs := [14]) (by kernel_rfl) (by simp) ?_
        refine AllReady.cons rfl (fun K hK => ?_) AllReady.nil
        go_simp
        refine hK _ _ ?_
        clear hK K
        refine wpAny_done (by kernel_rfl) ?_ _
        all_goals
          have hf := (HF.out _ hd7).2.2.2
          go_wp2_with fail
          go_ret
          exact ⟨rfl, ⟨hf.os, hf.tape, hf.output, hf.size, hf.block⟩⟩

set_option maxHeartbeats 4000000 in
set_option maxRecDepth 100000 in
theorem walk_yes (k d s a b : Int) (ab : Option Addr) (n cap : Nat) (l : List Int) (w : World) (hin : Tl.In ⟨k, d, s, a, b⟩) (hc : chk ⟨k, d, s, a, b⟩ = 0) (hbs : Bs w (.slice ab n cap) l) (hn : l.length = n) (hinl : InB l) (hm : n ≤ 100) :
    Calls Try.prog 8 #[.agg #[.int .u8 k, .int .u16 d, .int .u16 s, .int .u16 a, .int .u16 b], .slice ab n cap] w fun e w' => e = .returned (.bool true) ∧ Below w.heap.size w w' := by
  have i0 : ¬ (100 : Int) < (n : Int) := by omega
  have k10 := fun W => rcheck_any k d s a b W hin.1 hin.2.2.2.1 hin.2.2.2.2
  have k11 := fun W => encode_yes k d s a b W hc hin
  have k14 := fun W => bytes_any k d s a b W hin
  rw [hc] at k10
  have K14 := hide k14
  have Hel := hide (enc_len ⟨k, d, s, a, b⟩)
  generalize enc ⟨k, d, s, a, b⟩ = le at *
  have K10 := hide k10
  have K11 := hide k11
  have K16 := hide (fun W B v (h : Ow W B v l) => split_any (Bs.own h) (Cp.own h) hinl (by omega))
  have Hbs := hide hbs
  have Hn := hide hn
  have Ha := hide ((Below.refl w.heap.size w).alloc (Nat.le_refl _) (.cells #[.int .u8 k, .int .u16 d, .int .u16 s, .int .u16 a, .int .u16 b] 24))
  have HB : Hid (∀ W, Below (w.alloc (.cells #[.int .u8 k, .int .u16 d, .int .u16 s, .int .u16 a, .int .u16 b] 24)).heap.size (w.alloc (.cells #[.int .u8 k, .int .u16 d, .int .u16 s, .int .u16 a, .int .u16 b] 24)) W → W.cell? ⟨w.heap.size, 0, none⟩ = some (.int .u8 k) ∧ W.cell? ⟨w.heap.size, 1, none⟩ = some (.int .u16 d) ∧ W.cell? ⟨w.heap.size, 2, none⟩ = some (.int .u16 s) ∧ W.cell? ⟨w.heap.size, 3, none⟩ = some (.int .u16 a) ∧ W.cell? ⟨w.heap.size, 4, none⟩ = some (.int .u16 b)) := hide (fun W hW => box5 hW)
  clear hbs hn hinl hin k10 k11 k14 hc
  go_enter Try.func8, Try.ntmps8
  go_upto_region 5 with (first
    | (go_at_call 9; refine (tawake_any _).mono ?_; rintro e w1 ⟨rfl, hb1⟩; have hbs1 := Hbs.out.keep (Ha.out.trans (hb1.mono Ha.out.size)))
    | (at_builtin; refine wpList_app (hb1.alloc hb1.size _) (by rfl) _ _ rfl _ _ rfl rfl [] l (own_empty _ _ hb1.size _ (by simp)) (hbs1.keep ((Below.refl _ _).alloc (Nat.le_refl _) _)) (by simp; rw [Hn.out]; omega) ?_; intro v1 w2 hown2 hb2; rw [List.nil_append] at hown2)
    | (go_at_call 16; refine (K16.out _ _ _ hown2).mono ?_; rintro e w3 ⟨vf, vl, rfl, hot3, hown3, hb3⟩))
  generalize hW0 : w.alloc (.cells #[.int .u8 k, .int .u16 d, .int .u16 s, .int .u16 a, .int .u16 b] 24) = W0 at *
  clear hW0
  have Hll := hide (spl_left_len l)
  generalize (spl l).2.1 = ll at *
  generalize (spl l).2.2 = kk at *
  obtain ⟨al, capl, rfl⟩ := (Bs.own hown3).form
  obtain ⟨nl, hnl⟩ : ∃ nl, ll.length = nl := ⟨_, rfl⟩
  have hml : nl ≤ 1000000 := by have := Hll.out; omega
  rw [hnl] at hown3 ⊢
  have Hnl := hide hnl
  clear hnl hot3 hbs1
  have m0 : (nl : Int) ≤ 1000000 := by omega
  go_wp2_with fail
  go_loopw [34] (fun i wr => ∃ (q : Nat) (L : List Int), q ≤ nl ∧ i = .int .i64 q ∧ L.length = nl ∧ Ow wr w2.heap.size (.slice al nl capl) L ∧ Below w2.heap.size w2 wr) (fun i _ => nl - (intOf i).toNat)
  case atStart => exact ⟨0, ll, by omega, rfl, Hnl.out, hown3, hb3⟩
  case round =>
    obtain ⟨q, L, hq, rfl, hL, hown, hb⟩ := hrel
    have HL := hide hL
    clear hL hown3 hb3
    have q0 : (0 : Int) ≤ (q : Int) := by omega
    by_cases hlt : q < nl
    · have q1 : (q : Int) < (nl : Int) := by omega
      obtain ⟨g, rfl, hg, hcell, hfr⟩ := ow_at hown q (by rw [HL.out]; exact hlt)
      generalize L[q]?.getD 0 = z0 at hcell
      have Hown := hide hown
      have Hb := hide hb
      clear hown hb
      go_wp2_with fail
      go_roundw
      case rel => exact ⟨q + 1, L.set q _, by omega, by go_num, by rw [List.length_set]; exact HL.out, Ow.set Hown.out q _, Hb.out.setCell hg _⟩
      case measure => simp [intOf]; omega
    · have hb02 := hb2.trans (hb.mono hb2.size)
      have hown2' : Ow wr W0.heap.size v1 l := hown2.keep hb
      obtain ⟨p0, p1, p2, p3, p4⟩ := HB.out _ hb02
      clear hown hb hown2 hb2 HL q0 hq hml m0 Hnl Hll
      go_upto_region 11 with (go_at_call 11; refine (K11.out _).mono ?_; rintro e w5 ⟨vx, rfl, hownx, hb5⟩)
      obtain ⟨ax, capx, rfl⟩ := (Bs.own hownx).form
      rw [Hel.out] at hownx ⊢
      clear p0 p1 p2 p3 p4
      go_wp2_with fail
      go_loopw [51] (fun i wr2 => ∃ (q : Nat) (L : List Int), q ≤ 12 ∧ i = .int .i64 q ∧ L.length = 12 ∧ Ow wr2 wr.heap.size (.slice ax 12 capx) L ∧ Below wr.heap.size wr wr2) (fun i _ => 12 - (intOf i).toNat)
      case atStart => exact ⟨0, le, by omega, rfl, Hel.out, hownx, hb5⟩
      case round =>
        obtain ⟨q, L, hq, rfl, hL, hown, hb⟩ := hrel
        have HL := hide hL
        clear hL hownx hb5
        have q0 : (0 : Int) ≤ (q : Int) := by omega
        by_cases hlt : q < 12
        · have q1 : (q : Int) < 12 := by omega
          obtain ⟨g, rfl, hg, hcell, hfr⟩ := ow_at hown q (by rw [HL.out]; exact hlt)
          generalize L[q]?.getD 0 = z0 at hcell
          have Hown := hide hown
          have Hb := hide hb
          clear hown hb
          go_wp2_with fail
          go_roundw
          case rel => exact ⟨q + 1, L.set q _, by omega, by go_num, by rw [List.length_set]; exact HL.out, Ow.set Hown.out q _, Hb.out.setCell hg _⟩
          case measure => simp [intOf]; omega
        · have q1 : ¬ (q : Int) < 12 := by omega
          have hb03 := hb02.trans (hb.mono hb02.size)
          have hown3' := hown2'.keep hb
          obtain ⟨p0, p1, p2, p3, p4⟩ := HB.out _ hb03
          clear hown hb hown2' HL hq hlt
          go_upto_region 17 with (go_at_call 11; refine (K11.out _).mono ?_; rintro e w6 ⟨vy, rfl, howny, hb6⟩)
          have hb06 := hb03.trans (hb6.mono hb03.size)
          have hown6 := hown3'.keep hb6
          have HF : Hid (∀ W, Below w6.heap.size w6 W → (W.cell? ⟨w.heap.size, 0, none⟩ = some (.int .u8 k) ∧ W.cell? ⟨w.heap.size, 1, none⟩ = some (.int .u16 d) ∧ W.cell? ⟨w.heap.size, 2, none⟩ = some (.int .u16 s) ∧ W.cell? ⟨w.heap.size, 3, none⟩ = some (.int .u16 a) ∧ W.cell? ⟨w.heap.size, 4, none⟩ = some (.int .u16 b)) ∧ (convert 27 9 vy).run Try.prog W = .ok (.string (str le)) W ∧ (convert 27 9 v1).run Try.prog W = .ok (.string (str l)) W ∧ (convert 27 9 (.slice ab n cap)).run Try.prog W = .ok (.string (str l)) W ∧ Below w.heap.size w W) := hide (fun W hW => by
            have hX := hb06.trans (hW.mono hb06.size)
            have hY := Ha.out.trans (hX.mono Ha.out.size)
            exact ⟨HB.out _ hX, conv_str (Bs.own (howny.keep hW)), conv_str (Bs.own (hown6.keep hW)), conv_str (Hbs.out.keep hY), hY⟩)
          clear hb06 hown6 hb03 hown3' hb6 howny p0 p1 p2 p3 p4 hb02 HB Ha Hbs K16 K11 Hel
          obtain ⟨⟨x0, x1, x2, x3, x4⟩, cy, _⟩ := HF.out _ (Below.refl _ _)
          have cyd := (HF.out _ (Below.refl _ _).drew).2.1
          go_region_with (first
            | (go_at_call 10; refine (K10.out _).mono ?_; rintro e w7 ⟨rfl, hb7⟩; have hd7 : Below w6.heap.size w6 w7 := ⟨hb7.os, hb7.tape, hb7.output, hb7.size, hb7.block⟩; obtain ⟨⟨y0, y1, y2, y3, y4⟩, cy7, _⟩ := HF.out _ hd7; have cy7d := (HF.out _ hd7.drew).2.1)
            | (go_at_call 14; refine (K14.out _).mono ?_; rintro e w8 ⟨v8, rfl, hown8, hb8⟩; have he8 : Below w7.heap.size w7 w8 := ⟨hb8.os, hb8.tape, hb8.output, hb8.size, hb8.block⟩; have hd8 := hd7.trans (he8.mono hd7.size); obtain ⟨_, cy8, c18, cb8, _⟩ := HF.out _ hd8; have cy8d := (HF.out _ hd8.drew).2.1; have c18d := (HF.out _ hd8.drew).2.2.1; have cb8d := (HF.out _ hd8.drew).2.2.2.1; have cv8 := conv_str (Bs.own hown8); have cv8d := conv_str (w := w8.drew) (Bs.own (hown8.keep (Below.refl _ _).drew))))
          all_goals
            have hf := (HF.out _ hd8).2.2.2.2
            go_wp2_with fail
            go_ret
            exact ⟨rfl, ⟨hf.os, hf.tape, hf.output, hf.size, hf.block⟩⟩


theorem walk (t0 : Tl) (a1 : Option Addr) (len1 cap1 : Nat) (z1 : List Int) (w : World) (i1 : t0.In) (w1 : IsRow .u8 w a1 len1 cap1 z1) (s1 : cap1 * Try.prog.bytesOf 5 ≤ 140737488351232) :
    Calls Try.prog 8 #[.agg #[.int .u8 t0.k, .int .u16 t0.d, .int .u16 t0.s, .int .u16 t0.a, .int .u16 t0.b], .slice a1 len1 cap1] w fun e w' => e = .returned (.bool true) ∧ Below w.heap.size w w' := by
  obtain ⟨k, d, s, a, b⟩ := t0
  obtain ⟨l, hl, hbs, hin, hm, hc⟩ := bs_of_row w1
  by_cases h : (100 : Int) < (len1 : Int)
  · exact walk_far _ _ _ _ w h ⟨_, _, _, _, _, rfl⟩
  · by_cases hz : chk ⟨k, d, s, a, b⟩ = 0
    · exact walk_yes k d s a b a1 len1 cap1 l w i1 hz hbs hl hin (by omega)
    · have h2 : chk ⟨k, d, s, a, b⟩ = 23 ∨ chk ⟨k, d, s, a, b⟩ = 24 := by
        unfold chk at hz ⊢
        split at hz
        · rename_i h1
          rw [if_pos h1]
          split at hz
          · exact absurd rfl hz
          · rename_i h2
            rw [if_neg h2]
            exact .inr rfl
        · rename_i h1
          rw [if_neg h1]
          exact .inl rfl
      rcases h2 with h2 | h2
      · exact walk_no23 k d s a b a1 len1 cap1 l w i1 h2 hbs hl hin (by omega)
      · exact walk_no24 k d s a b a1 len1 cap1 l w i1 h2 hbs hl hin (by omega)

set_option maxRecDepth 100000 in
theorem lifted (os : Os) (started : os.Started) (H : Type) (enc : TypeId × Value → H) :
    ReturnsInHanded {} Try.checked os 8 .any (Rows.teleOwnSpec.pre6 enc Try.prog Try.f8 Rows.teleOwnRow.domain false) (Rows.teleOwnSpec.post enc Try.prog Try.f8 false true false false) := by
  refine returnsInHanded_of_change_sized (C := Try.checked) own started (by kernel_rfl) Try.func8
    (ChangeSpec.witness6 (enc := enc) (C := Try.checked) false ⟨#[], #[.agg #[.int .u8 0, .int .u16 0, .int .u16 0, .int .u16 0, .int .u16 0], .slice none 0 0], []⟩ 8 (by kernel_rfl) (by kernel_rfl) (by kernel_rfl) (by kernel_rfl)) ?_
  intro W base args ds gs before hval0 hW hcnd hsz0 _
  have hval : ∀ (j : Nat) t v, Try.f8.params[j]? = some t → args[j]? = some v → Value.okWide Try.prog W .any base t v := hval0
  have hsz : (DataW.weightsEach Try.prog (Try.f8.params.toList ++ Rows.teleOwnSpec.plain.varTypes Try.prog) (ds ++ gs)).all (· ≤ reachBytes) = true := hsz0
  have hW' := hW
  obtain ⟨p, q, hA0, hV, rfl, hfz, hnd⟩ := hW
  have hA : DataW.TrodAll enc Try.prog W 0 (fun _ => true) true Try.f8.params.toList args.toList ds p := hA0
  rw [Try.params8] at hA hval hsz
  obtain ⟨v0, vs0, d0, ds0, p0, q0, hargs, rfl, rfl, h0, r0⟩ := trodAll_cons hA
  obtain ⟨v1, vs1, d1, ds1, p1, q1, rfl, rfl, rfl, h1, r1⟩ := trodAll_cons r0
  obtain ⟨rfl, rfl, rfl⟩ := trodAll_nil r1
  obtain rfl : args = #[v0, v1] := by cases args; simp_all
  obtain ⟨rfl, rfl⟩ := trodVars_none hV
  have k0 := h0
  have lt0 : ∀ x ∈ p0, x.block < W.heap.size := by obtain ⟨m, hm⟩ := k0; exact DataW.trod_lt m _ _ _ hm
  obtain ⟨cs0, rfl, _⟩ := okWide_struct Try.underlying24 (hval 0 24 v0 rfl rfl)
  obtain ⟨t0, w0, e0⟩ : ∃ t : Tl, t.In ∧ cs0 = #[.int .u8 t.k, .int .u16 t.d, .int .u16 t.s, .int .u16 t.a, .int .u16 t.b] := by
    obtain ⟨fuel, hf⟩ := h0
    obtain ⟨t, ht, he⟩ := tele_of_trod hf
    exact ⟨t, ht, by apply Array.toList_inj.1; exact he⟩
  subst e0
  obtain ⟨a1, len1, cap1, rfl⟩ := okWide_slice Try.underlying27 (hval 1 27 v1 rfl rfl)
  have k1 := h1
  have lt1 : ∀ x ∈ p1, x.block < W.heap.size := by obtain ⟨m, hm⟩ := k1; exact DataW.trod_lt m _ _ _ hm
  obtain ⟨z1, w1⟩ : ∃ zs, IsRow .u8 W a1 len1 cap1 zs := by
    obtain ⟨fuel, hf⟩ := h1
    rcases open_ints Try.underlying27 Try.underlying5 (by kernel_rfl) hf with ⟨hcs, _⟩ | ⟨x, l, c, zs, hcs, _, hl, hm, hz, _, hcell, hwz⟩
    · simp [Value.cells] at hcs
      obtain ⟨rfl, rfl, rfl⟩ := hcs
      exact ⟨[], .inl ⟨rfl, rfl, rfl, rfl⟩⟩
    · simp [Value.cells] at hcs
      obtain ⟨rfl, rfl, rfl⟩ := hcs
      exact ⟨zs, .inr ⟨_, rfl, hl, hm, by simpa using hz, hcell, hwz⟩⟩
  have s1 : cap1 * Try.prog.bytesOf 5 ≤ 140737488351232 := by
    obtain ⟨fuel, hf⟩ := k1
    rcases open_ints Try.underlying27 Try.underlying5 (by kernel_rfl) hf with ⟨hcs, _⟩ | ⟨x, l, c, zs, hcs, _, hl, hm, hz, hx, _, _⟩
    · simp [Value.cells] at hcs
      rw [hcs.2.2]; omega
    · simp [Value.cells] at hcs
      obtain ⟨rfl, rfl, rfl⟩ := hcs
      have hd : d1 = _ := congrArg Prod.fst hx
      have := sized_slice hsz (j := 1) (t := 27) (e := 5) rfl (by rw [hd]; rfl) Try.underlying27
      simp only [lits, List.length_map, List.length_take, List.length_drop, reachBytes] at this
      simp only [if_true] at hz
      rw [hz, Nat.min_eq_left hl, Nat.add_sub_cancel' hl] at this
      exact this
  clear hA0 hval0
  refine (walk t0 a1 len1 cap1 z1 W w0 w1 s1).mono fun e W' ⟨he, bel⟩ => ?_
  subst he
  exact ⟨_, rfl, _, _, _, [], _, [], hW', trodAll_mk1 (shut_bool Try.underlying4 _), (trodAll_cons_mk (Below.trod laidOut (by kernel_rfl) (of_decide_eq_true (by kernel_rfl)) k0 bel lt0) (trodAll_cons_mk (Below.trod laidOut (by kernel_rfl) (of_decide_eq_true (by kernel_rfl)) k1 bel lt1) trodAll_mk0)), rfl, bel.frame _, fun h => by cases h⟩

theorem over : Rows.teleOwnRow.holds Try.pinned (OpenSpec.ofChange Rows.teleOwnSpec) :=
  OpenClaim.holds_of_wide 8 Try.f8 rfl rfl rfl rfl rfl rfl rfl ⟨rfl, rfl, rfl, rfl, rfl⟩ rfl rfl rfl rfl rfl (by kernel_rfl) Try.func8 (by kernel_rfl)
    (of_decide_eq_true (by kernel_rfl)) (by unfold Func.isWrapper; first | (rw [if_pos (by decide +kernel)]; kernel_rfl) | (rw [if_neg (by decide +kernel)]; exact ⟨rfl, rfl⟩))
    (fun os started H enc _ => lifted os started H enc)

theorem proved : Rows.TeleOwnSaid := over
end Go.Proofs.Ytglleofhcokeiaa.teleOwn
