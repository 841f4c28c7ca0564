/- The walk of TapeTorn. -/
import Derived.Test.YtgdoagmnhmfjkaaTom
import Derived.Test.YtgdoagmnhmfjkaaTag
import Derived.Deep.CutBlock
namespace Go.Proofs.Ytgdoagmnhmfjkaa.tapeTorn
open Go.ChangeShapes Go.WideShapes Go.ChangeAt Go.RowKit
set_option linter.unusedVariables false

/-- what holds behind the loop -/
def Bh (w0 : World) (g : Nat) (v6 : Value) (a7 : Option Addr) (n7 c7 : Nat) (wx : World) : Prop := ∃ (H : Bool → Value) (T : Tp) (want last : List Nt), Its w0 [.tape w0.heap.size g H T, .row ntE w0.heap.size v6 want] wx ∧ ntE.Rd w0 (.slice a7 n7 c7) last ∧ last.length = n7 ∧ n7 ≤ c7 ∧ n7 ≤ 30 ∧ want.length ≤ 900 ∧ TornP T want last

theorem w64 (z : Int) (h0 : 0 ≤ z) (h1 : z < 9223372036854775808) : wrap64 z = z := by unfold wrap64; omega
theorem own_form {w : World} {B : Nat} {v : Value} {xs : List Nt} (h : ntE.Own w B v xs) : (v = .slice none 0 0 ∧ xs = []) ∨ ∃ b c, v = .slice (some ⟨b, 0, none⟩) xs.length c ∧ xs.length ≤ c := by
  rcases h.2 with ⟨h1, h2⟩ | ⟨g', c, cur, h1, hb, hg, hn, hmx, hs, ht⟩
  · exact .inl ⟨h1, List.eq_nil_of_length_eq_zero h2⟩
  · exact .inr ⟨g', c, h1, hn⟩

set_option maxRecDepth 100000 in
set_option maxHeartbeats 4000000 in
theorem walk (a0 : Option Addr) (L c : Nat) (ls : List (List Nt)) (x : Int) (w0 : World) (hl : ls.length = L) (hd : Nls w0 (.slice a0 L c) ls) (hx : -9223372036854775808 ≤ x ∧ x ≤ 9223372036854775807) : Calls Try.prog 4 #[.slice a0 L c, .int .i64 x] w0 fun e w' => e = .returned (.bool true) ∧ Below w0.heap.size w0 w' := by
  have K9 := hide (newS (Its.nil w0))
  have KA : Hid (∀ W l, Its w0 l W → Calls Try.prog 11 #[] W fun e w' => e = .returned (.bool true) ∧ Its w0 l w') := hide (fun W l hW => awakeS hW)
  obtain ⟨N, hN1, hN2, hN3⟩ := mod_is x 5000 (by decide) (by decide)
  rw [show ((5000 : Nat) : Int) = 5000 from rfl] at hN1 hN2
  have K12 : Hid (∀ W g H l, Its w0 (.tape w0.heap.size g H Tp.nw :: l) W → Calls Try.prog 12 #[.pointer (some ⟨g, 0, none⟩), .int .i64 (N : Int)] W fun e w' => e = .returned (.int .i64 0) ∧ Its w0 (.tape w0.heap.size g H ⟨Tp.nw.A, Tp.nw.cn, true, N, Tp.nw.dd⟩ :: l) w') := hide (fun W g H l hW => by
    have := armS hW (N : Int)
    rw [arm_ok (T := Tp.nw) rfl (k := N) (by omega)] at this
    exact this)
  have HD := hide hd
  have Hl := hide hl
  clear hd hl hx
  go_enter Try.func4, Try.ntmps4
  go_upto_region 4 with (first
    | (go_at_call 12; refine (K12.out _ _ _ _ h2).mono ?_; rintro e w3 ⟨rfl, h3⟩)
    | (go_at_call 11; refine (KA.out _ _ h1).mono ?_; rintro e w2 ⟨rfl, h2⟩)
    | (go_at_call 9; refine K9.out.mono ?_; rintro e w1 ⟨g, H1, rfl, h1⟩))
  obtain ⟨T1, hT1⟩ : ∃ T1 : Tp, (⟨Tp.nw.A, Tp.nw.cn, true, N, Tp.nw.dd⟩ : Tp) = T1 := ⟨_, rfl⟩
  have HT1 : Hid (T1.dd = false ∧ Rds T1.now [] []) := hide (by rw [← hT1]; exact ⟨rfl, rds_zero⟩)
  rw [hT1] at h3
  have HI := hide h3
  clear h1 h2 h3 K9 K12 KA hN1 hN2 hN3 hT1
  go_upto_block 0 with fail
  go_cut [6, 7] (fun v6 v7 wx => ∃ (a7 : Option Addr) (n7 c7 : Nat), v7 = .slice a7 n7 c7 ∧ Hid (Bh w0 g v6 a7 n7 c7 wx))
  case first =>
    go_wp2_with fail
    go_loopw [6, 7, 8] (fun v6 v7 v8 wr => ∃ j : Nat, v7 = .slice none 0 0 ∧ v8 = .int .i64 j ∧ j ≤ 30 ∧ Hid (∃ (H : Bool → Value) (T : Tp) (want : List Nt), T.dd = false ∧ Rds T.now want [] ∧ want.length ≤ 30 * j ∧ Its w0 [.tape w0.heap.size g H T, .row ntE w0.heap.size v6 want] wr)) (fun _ _ v8 _ => 30 - (intOf v8).toNat)
    case atStart => exact ⟨0, rfl, rfl, Nat.zero_le _, hide ⟨H1, T1, [], HT1.out.1, HT1.out.2, Nat.zero_le _, (HI.out.empty ntE).swap⟩⟩
    case round =>
      obtain ⟨j, rfl, rfl, hj, hh⟩ := hrel
      obtain ⟨H, T, want, hdd, hrd, hwl, hI⟩ := hh.out
      have HI := hide hI
      have Hdd := hide hdd
      have Hrd := hide hrd
      have Hwl := hide hwl
      clear hh hI hdd hrd hwl HT1
      by_cases hlt : j < L
      · by_cases hlt2 : j < 30
        · have q0 : (j : Int) < (L : Int) := by omega
          have q1 : (j : Int) < 30 := by omega
          have q2 : (0 : Int) ≤ (j : Int) := by omega
          obtain ⟨p, hp⟩ : ∃ p, ls[j]? = some p := ⟨_, List.getElem?_eq_getElem (by rw [Hl.out]; exact hlt)⟩
          obtain ⟨b, off, a1, c1, e1, z0, hpr, hpc⟩ := HD.out.at j p hp
          subst e1
          have HZ : Hid (∀ W, Below w0.heap.size w0 W → W.cell? ⟨b, off + j, none⟩ = some (.slice a1 p.length c1)) := hide (fun W hb => by
            obtain ⟨b', off', a', c', e', z', _⟩ := (HD.out.keep hb).at j p hp
            simp only [Option.some.injEq, Addr.mk.injEq] at e'
            obtain ⟨rfl, rfl, _⟩ := e'
            have : w0.cell? ⟨b, off + j, none⟩ = W.cell? ⟨b, off + j, none⟩ := (hb.cell (p := ⟨b, off + j, none⟩) (cell_lt z0)).symm
            rw [← this]
            exact z0)
          have z1 := HZ.out wr HI.out.bel
          have Hpr : Hid (∀ W m, Below w0.heap.size w0 W → m ≤ p.length → ntE.Rd W (.slice a1 m c1) (p.take m) ∧ (p.take m).length = m) := hide (fun W m hb hm => nt_take (hpr.keep hb) rfl m hm)
          obtain ⟨P, hP⟩ : ∃ P, p.length = P := ⟨_, rfl⟩
          rw [hP] at z1 hpc Hpr
          clear hp z0 hpr HZ hP
          go_upto_region 8 with fail
          go_cut [9] (fun v9 wx => ∃ m : Nat, v9 = .slice a1 m c1 ∧ m ≤ P ∧ m ≤ 30 ∧ Hid (Its w0 [.tape w0.heap.size g H T, .row ntE w0.heap.size u6 want] wx))
          case first =>
            by_cases q : 30 < P
            · have q' : (30 : Int) < (P : Int) := by omega
              have p1 : (30 : Int) ≤ (c1 : Int) := by omega
              go_region
              go_wp2_with fail
              go_meet
              exact ⟨30, rfl, by omega, by omega, hide (HI.out.drew 1)⟩
            · have q' : ¬ ((30 : Int) < (P : Int)) := by omega
              have p1 : (P : Int) ≤ (c1 : Int) := by omega
              go_region
              go_wp2_with fail
              go_meet
              exact ⟨P, rfl, by omega, by omega, hide (HI.out.drew 1)⟩
          case rest =>
            obtain ⟨m, rfl, hm1, hm2, HI⟩ := hcut
            have R1 := Hpr.out w0 m (Below.refl _ _) hm1
            have R2 := Hpr.out wc m HI.out.bel hm1
            obtain ⟨ns, hns⟩ : ∃ ns, p.take m = ns := ⟨_, rfl⟩
            rw [hns] at R1 R2
            have K14 := hide (appendS HI.out R2.1 R2.2 (by omega) Hrd.out)
            have hcs := torn_cases (ns := ns) Hdd.out Hrd.out
            generalize T.app [] ns = PR at *
            obtain ⟨CC, T'⟩ := PR
            simp only at hcs K14
            have HR1 := hide R1
            clear z1 R1 R2 hns Hpr
            rcases hcs with ⟨rfl, d1, d2⟩ | ⟨rfl, d1⟩ | ⟨d1, d2, d3⟩
            · have D1 := hide d1
              have D2 := hide d2
              have HL9 : Hid (want.length + ns.length ≤ 1000000) := hide (by have := Hwl.out; have := HR1.out.2; omega)
              clear d1 d2
              go_wp2_with (first
                | (at_builtin; refine ntE.wp h4.bel (by rfl) _ _ rfl _ _ rfl rfl want ns h4.one (HR1.out.1.keep h4.bel) HL9.out ?_; intro v5 w5 ho5 hg5 hs5 hb5; have h5 := h4.grow ho5 hg5 hs5; clear ho5 hg5 hs5 hb5)
                | (go_at_call 14; refine K14.out.mono ?_; rintro e w4 ⟨rfl, H4, h4a⟩; have h4 := h4a.swap; clear h4a))
              go_roundw
              case rel => exact ⟨j + 1, rfl, by go_num, by omega, hide ⟨H4, T', want ++ ns, D1.out, D2.out, by have := Hwl.out; have := HR1.out.2; rw [List.length_append]; omega, h5.swap⟩⟩
              case measure => simp [intOf]; omega
            · have D1 := hide d1
              clear d1
              go_wp2_with (go_at_call 14; refine K14.out.mono ?_; rintro e w4 ⟨rfl, H4, h4⟩)
              go_meet
              exact ⟨a1, m, c1, rfl, hide ⟨H4, T', want, ns, h4, HR1.out.1, HR1.out.2, by omega, hm2, by have := Hwl.out; omega, D1.out⟩⟩
            · have g1 : (CC == 0) = false := beq_eq_false_iff_ne.2 d1
              have g2 : (CC == 190) = false := beq_eq_false_iff_ne.2 d2
              subst d3
              clear d1 d2
              go_wp2_with (go_at_call 14; refine K14.out.mono ?_; rintro e w4 ⟨rfl, H4, h4⟩)
              go_roundw
              case rel => exact ⟨j + 1, rfl, by go_num, by omega, hide ⟨H4, T', want, Hdd.out, Hrd.out, by have := Hwl.out; omega, h4⟩⟩
              case measure => simp [intOf]; omega
        · have q0 : (j : Int) < (L : Int) := by omega
          have q1 : ¬ ((j : Int) < 30) := by omega
          go_wp2_with fail
          go_meet
          exact ⟨none, 0, 0, rfl, hide ⟨H, T, want, [], HI.out, .inl ⟨rfl, rfl⟩, rfl, Nat.le_refl _, by omega, by have := Hwl.out; omega, torn_end Hrd.out⟩⟩
      · have q0 : ¬ ((j : Int) < (L : Int)) := by omega
        go_wp2_with fail
        go_meet
        exact ⟨none, 0, 0, rfl, hide ⟨H, T, want, [], HI.out, .inl ⟨rfl, rfl⟩, rfl, Nat.le_refl _, by omega, by have := Hwl.out; omega, torn_end Hrd.out⟩⟩
  case rest =>
    obtain ⟨a7, n7, c7, rfl, hbh⟩ := hcut
    obtain ⟨H, T, want, last, hI, hR7, hl7, hc7, hn7, hwl, htorn⟩ := hbh.out
    obtain ⟨got, r, hr⟩ := rds_ex T.now
    obtain ⟨zs, e1, e2, e3⟩ := htorn got r hr
    obtain ⟨aW, cW, eW⟩ := El.Rd.form (El.Own.rd hI.two)
    subst eW
    obtain ⟨T1, f1, f2, f3⟩ := rep_free (free_crash T) (show Rds T.crash.now got r from hr)
    have hlt1 : T1.now.length ≤ 65536 := by
      have h1 := rds_len hr
      have h2 : T1.now.length = tot got := by rw [f3]; rfl
      have h3 : T.now.length ≤ 65536 := (tp_ok hI.one).len T.cn
      omega
    have r1 : Rds T1.now got [] := by rw [f3]; exact rds_all hr.ok
    obtain ⟨T2, f4, f5, f6⟩ := app_free f2 (ns := []) rfl (by show _ + 0 ≤ _; omega)
    have r2 : Rds T2.now got [] := by rw [f6]; simpa using r1
    obtain ⟨T3, f7, _, _⟩ := rep_free f5 r2
    obtain ⟨RL, hRL⟩ : ∃ RL : Int, (r.length : Int) = RL := ⟨_, rfl⟩
    rw [hRL] at f1
    obtain ⟨Wn, hWn⟩ : ∃ Wn, want.length = Wn := ⟨_, rfl⟩
    obtain ⟨Z, hZ⟩ : ∃ Z, zs.length = Z := ⟨_, rfl⟩
    obtain ⟨G, hG⟩ : ∃ G, got.length = G := ⟨_, rfl⟩
    have hGW : G = Wn + Z := by rw [← hG, e1, List.length_append, hWn, hZ]
    rw [hZ] at e2 e3
    rw [hl7] at e2
    have Hg : Hid (got.length ≤ 10000) := hide (by omega)
    have K20 : Hid (∀ W, Its w0 [.tape w0.heap.size g H T, .row ntE w0.heap.size (.slice aW want.length cW) want] W → Calls Try.prog 20 #[.pointer (some ⟨g, 0, none⟩)] W fun e w' => CraV w0 e T [.tape w0.heap.size g H T, .row ntE w0.heap.size (.slice aW want.length cW) want] w') := hide (fun W hW => crashS hW)
    have K24 : Hid (∀ W gc Hc l, Its w0 (.tape w0.heap.size gc Hc T.crash :: l) W → Calls Try.prog 24 #[.pointer (some ⟨gc, 0, none⟩)] W fun e w' => ReaV w0 e got (.tape w0.heap.size gc Hc T.crash :: l) w') := hide (fun W gc Hc l hW => readS hW (show Rds T.crash.now got r from hr))
    rw [hWn] at hI K20
    have HI := hide hI
    clear hbh hI
    go_upto_region 18 with (first
      | (go_at_call 24; refine (K24.out _ _ _ _ h4).mono ?_; rintro e w5 ⟨vG, rfl, h5⟩)
      | (go_at_call 20; refine (K20.out _ HI.out).mono ?_; rintro e w4 ⟨gc, Hc, rfl, h4⟩))
    clear h4 K20 K24 HI
    have hWr : ∀ W, Its w0 (.row ntE w0.heap.size vG got :: .tape w0.heap.size gc Hc T.crash :: [.tape w0.heap.size g H T, .row ntE w0.heap.size (.slice aW Wn cW) want]) W → ntE.Rd W (.slice aW Wn cW) want := fun W hW => El.Own.rd hW.four
    have K18a : Hid (∀ W v, Its w0 (.row ntE w0.heap.size v got :: .tape w0.heap.size gc Hc T.crash :: [.tape w0.heap.size g H T, .row ntE w0.heap.size (.slice aW Wn cW) want]) W → Calls Try.prog 18 #[.pointer (some ⟨gc, 0, none⟩)] W fun e w' => e = .returned (.tuple #[.int .i64 RL, .int .i64 0]) ∧ ∃ Hc', Its w0 [.tape w0.heap.size gc Hc' T1, .row ntE w0.heap.size v got] w') := hide (fun W v hW => by
      have := repairS hW.swap (show Rds T.crash.now got r from hr)
      rw [f1] at this
      exact this.mono (by rintro e w' ⟨rfl, H', h⟩; exact ⟨rfl, H', h.rot4.tail.rot3.tail⟩))
    have K24b : Hid (∀ W Hc v, Its w0 [.tape w0.heap.size gc Hc T1, .row ntE w0.heap.size v got] W → Calls Try.prog 24 #[.pointer (some ⟨gc, 0, none⟩)] W fun e w' => ∃ u, e = .returned u ∧ Its w0 [.row ntE w0.heap.size u got, .tape w0.heap.size gc Hc T1, .row ntE w0.heap.size v got] w') := hide (fun W Hc v hW => (readS hW r1).mono (by rintro e w' ⟨u, rfl, h⟩; exact ⟨u, rfl, h⟩))
    have K23 : Hid (∀ W Hc u v, Its w0 [.row ntE w0.heap.size u got, .tape w0.heap.size gc Hc T1, .row ntE w0.heap.size v got] W → Calls Try.prog 23 #[u, v] W fun e w' => e = .returned (.bool true) ∧ Its w0 [.tape w0.heap.size gc Hc T1, .row ntE w0.heap.size v got] w') := hide (fun W Hc u v hW => (same_eq (El.Own.rd hW.one) (El.Own.rd hW.three) Hg.out).mono (by rintro e w' ⟨rfl, q, rfl⟩; exact ⟨rfl, (hW.drew q).tail⟩))
    have K14 : Hid (∀ W Hc v, Its w0 [.tape w0.heap.size gc Hc T1, .row ntE w0.heap.size v got] W → Calls Try.prog 14 #[.pointer (some ⟨gc, 0, none⟩), .slice none 0 0] W fun e w' => e = .returned (.int .i64 0) ∧ ∃ H', Its w0 [.tape w0.heap.size gc H' T2, .row ntE w0.heap.size v got] w') := hide (fun W Hc v hW => by
      have := appendS hW (a := none) (N := 0) (c := 0) (ns := []) (.inl ⟨rfl, rfl⟩) rfl (by omega) r1
      rw [f4] at this
      exact this)
    have K18b : Hid (∀ W Hc v, Its w0 [.tape w0.heap.size gc Hc T2, .row ntE w0.heap.size v got] W → Calls Try.prog 18 #[.pointer (some ⟨gc, 0, none⟩)] W fun e w' => e = .returned (.tuple #[.int .i64 0, .int .i64 0]) ∧ Below w0.heap.size w0 w') := hide (fun W Hc v hW => by
      have := repairS hW r2
      rw [f7] at this
      exact this.mono (by rintro e w' ⟨rfl, H', h⟩; exact ⟨rfl, h.bel⟩))
    have g1 : ¬ ((G : Int) < (Wn : Int)) := by omega
    obtain ⟨SU, hSU⟩ : ∃ SU : Int, (Wn : Int) + (n7 : Int) = SU := ⟨_, rfl⟩
    have hs1 : 0 ≤ SU ∧ SU < 9223372036854775808 := by omega
    have g2 : ¬ (SU < (G : Int)) := by omega
    have w3 : (G : Int) - (Wn : Int) = (Z : Int) := by omega
    have hs2 : 0 ≤ (Z : Int) ∧ (Z : Int) < 9223372036854775808 := by omega
    have w6 : G - Wn = Z := by omega
    have z1 : (Z : Int) ≤ (c7 : Int) := by omega
    have g3 : (Wn : Int) ≤ (G : Int) := by omega
    have hS2 : ∀ W, Below w0.heap.size w0 W → ntE.Rd W (.slice a7 Z c7) zs := fun W hW => by
      have := (hR7.keep hW).take Z (by omega)
      rw [e3] at this
      exact this
    have hWz : (zs.length ≤ 10000) ∧ want.length ≤ 10000 := by omega
    have w1 : IntKind.i64.wrap SU = SU := wrap_i64 _ hs1.1 hs1.2
    have w2 : wrap64 SU = SU := w64 _ hs1.1 hs1.2
    have w4 : IntKind.i64.wrap (Z : Int) = (Z : Int) := wrap_i64 _ hs2.1 hs2.2
    have w5 : wrap64 (Z : Int) = (Z : Int) := w64 _ hs2.1 hs2.2
    have HWR := hide (And.intro w1 (And.intro w2 (And.intro w4 w5)))
    clear hs1 hs2 w1 w2 w4 w5
    have HI := hide h5
    have Hn7 := hide hn7
    have how := own_form h5.one
    rw [hG] at how
    clear h5 f1 f2 f3 f4 f5 f6 f7 hRL hlt1 r1 r2 hr htorn hl7 hc7 hn7 hwl e2
    have HSU := hide hSU
    clear hSU
    go_cut [109] (fun v109 wx => v109 = .bool false ∧ Hid (Its w0 (.row ntE w0.heap.size vG got :: .tape w0.heap.size gc Hc T.crash :: [.tape w0.heap.size g H T, .row ntE w0.heap.size (.slice aW Wn cW) want]) wx))
    case rest =>
      obtain ⟨rfl, HI⟩ := hcut
      clear HWR HSU hWz hWn hZ hG e1 e3 hS2 hR7 hWr hGW g1 g2 g3 w3 w6 z1 how
      go_upto_region 23 with (first
        | (go_at_call 14; refine (K14.out _ _ _ h9).mono ?_; rintro e w10 ⟨rfl, H10, h10⟩)
        | (go_at_call 23; refine (K23.out _ _ _ _ h8).mono ?_; rintro e w9 ⟨rfl, h9⟩)
        | (go_at_call 24; refine (K24b.out _ _ _ h7).mono ?_; rintro e w8 ⟨vx, rfl, h8⟩)
        | (go_at_call 18; refine (K18a.out _ _ HI.out).mono ?_; rintro e w7 ⟨rfl, H7, h7⟩))
      clear h7 h8 h9
      go_wp2_with (go_at_call 18; refine (K18b.out _ _ _ h10).mono ?_; rintro e w11 ⟨rfl, h11⟩)
      go_ret
      exact ⟨rfl, h11⟩
    case first =>
      clear K18a K24b K23 K14 K18b
      rcases how with ⟨rfl, hg0⟩ | ⟨b, cG, rfl, hcG⟩
      · have q1 : want = [] := by rw [hg0] at e1; exact (List.append_eq_nil_iff.1 e1.symm).1
        have q2 : zs = [] := by rw [hg0] at e1; exact (List.append_eq_nil_iff.1 e1.symm).2
        obtain rfl : Wn = 0 := by rw [← hWn, q1]; rfl
        obtain rfl : Z = 0 := by rw [← hZ, q2]; rfl
        have K1 : Hid (∀ q a c, (a = aW ∧ c = cW ∨ a = a7 ∧ c = c7) → Calls Try.prog 23 #[.slice none 0 0, .slice a 0 c] (w5.drewN q) fun e w' => e = .returned (.bool true) ∧ ∃ m, w' = (w5.drewN q).drewN m) := hide (fun q a c h => same_eq (ts := []) (.inl ⟨rfl, rfl⟩) (by
            rcases h with ⟨rfl, rfl⟩ | ⟨rfl, rfl⟩
            · have := El.Own.rd (HI.out.drew q).four
              rw [q1] at this
              exact this
            · have := hS2 _ (HI.out.drew q).bel
              rw [q2] at this
              exact this) (by simp))
        have k0 : (0 : Int) ≤ (n7 : Int) := by omega
        have k1 : ¬ ((n7 : Int) < 0) := by omega
        have k5 : (n7 : Int) < 9223372036854775808 := by have := Hn7.out; omega
        have k6 : (0 : Int) ≤ (c7 : Int) := by omega
        have k2 : IntKind.i64.wrap (n7 : Int) = (n7 : Int) := wrap_i64 _ k0 k5
        have k3 : wrap64 (n7 : Int) = (n7 : Int) := w64 _ k0 k5
        clear HWR HSU hWz hWn hZ hG e1 e3 hS2 hR7 hWr hGW g1 g2 g3 w3 w6 z1 hg0 q1 q2 k5
        go_quiet ((go_at_call 23; exact Calls.quiet_of (K1.out _ _ _ (by first | exact .inl ⟨rfl, rfl⟩ | exact .inr ⟨rfl, rfl⟩))))
        go_wp2_with fail
        go_meet
        exact ⟨rfl, hide (HI.out.drew _)⟩
      · have K1 : Hid (∀ q, Calls Try.prog 23 #[.slice (some ⟨b, 0, none⟩) Wn cG, .slice aW Wn cW] (w5.drewN q) fun e w' => e = .returned (.bool true) ∧ ∃ m, w' = (w5.drewN q).drewN m) := hide (fun q => same_eq (ts := want) (by
            have := (El.Own.rd (HI.out.drew q).one).take Wn (by omega)
            rw [show got.take Wn = want by rw [e1, ← hWn, List.take_left]] at this
            exact this) (El.Own.rd (HI.out.drew q).four) hWz.2)
        by_cases hcw : cG = Wn
        · have hz0 : Z = 0 := by omega
          have hgw : G = Wn := by omega
          have q2 : zs = [] := List.eq_nil_of_length_eq_zero (by omega)
          subst hcw
          subst hgw
          subst hz0
          have K2 : Hid (∀ q, Calls Try.prog 23 #[.slice (some ⟨b, 0, none⟩) 0 0, .slice a7 0 c7] (w5.drewN q) fun e w' => e = .returned (.bool true) ∧ ∃ m, w' = (w5.drewN q).drewN m) := hide (fun q => same_eq (ts := []) (.inr ⟨⟨b, 0, none⟩, 0, rfl, by simp⟩) (by
            have := hS2 _ (HI.out.drew q).bel
            rw [q2] at this
            exact this) (by simp))
          have k1 : ¬ ((G : Int) < (G : Int)) := by omega
          have k6 : (0 : Int) ≤ (c7 : Int) := by omega
          have k7 : (G : Int) ≤ (G : Int) := by omega
          obtain ⟨w1, w2, _, _⟩ := HWR.out
          have hSU := HSU.out
          clear hcG hWz hWn hZ hG e1 e3 hS2 hR7 hWr hGW w3 w6 q2 g1 g3 z1 HWR HSU
          go_quiet (first
            | (go_at_call_of 23 (Value.slice (some ⟨b, 0, none⟩) G G); exact Calls.quiet_of (K1.out _))
            | (go_at_call 23; exact Calls.quiet_of (K2.out _)))
          go_wp2_with fail
          go_meet
          exact ⟨rfl, hide (HI.out.drew _)⟩
        · have K2 : Hid (∀ q, Calls Try.prog 23 #[.slice (some ⟨b, Wn * 4, none⟩) Z (cG - Wn), .slice a7 Z c7] (w5.drewN q) fun e w' => e = .returned (.bool true) ∧ ∃ m, w' = (w5.drewN q).drewN m) := hide (fun q => same_eq (ts := zs) (by
            have := El.Rd.drop (cap' := cG - Wn) (El.Own.rd (HI.out.drew q).one) Wn Z (by omega) (by omega)
            rw [show got.drop Wn = zs by rw [e1, ← hWn, List.drop_left]] at this
            rw [Nat.zero_add] at this
            exact this) (hS2 _ (HI.out.drew q).bel) hWz.1)
          have g4 : (G : Int) ≤ (cG : Int) := by omega
          have g5 : (Wn : Int) ≤ (cG : Int) := by omega
          have g6 : ¬ ((cG : Int) = (Wn : Int)) := by omega
          obtain ⟨w1, w2, w4, w5⟩ := HWR.out
          have hSU := HSU.out
          clear hcG hWz hWn hZ hG e1 e3 hS2 hR7 hWr hGW HWR HSU
          go_quiet (first
            | (go_at_call_of 23 (Value.slice (some ⟨b, 0, none⟩) Wn cG); exact Calls.quiet_of (K1.out _))
            | (go_at_call 23; exact Calls.quiet_of (K2.out _)))
          go_wp2_with fail
          go_meet
          exact ⟨rfl, hide (HI.out.drew _)⟩
end Go.Proofs.Ytgdoagmnhmfjkaa.tapeTorn
