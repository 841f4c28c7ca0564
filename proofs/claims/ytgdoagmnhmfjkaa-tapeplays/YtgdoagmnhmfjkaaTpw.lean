/- The walk of TapePlays. -/
import Derived.Test.YtgdoagmnhmfjkaaTde
import Derived.Test.YtgdoagmnhmfjkaaTdf
import Derived.Test.YtgdoagmnhmfjkaaTag
import Derived.Deep.CutBlock
namespace Go.Proofs.Ytgdoagmnhmfjkaa.tapePlays
open Go.ChangeShapes Go.WideShapes Go.ChangeAt Go.RowKit
set_option linter.unusedVariables false

theorem rarm_dv (T : Tp) (n : Int) (w : World) : Calls Try.prog 13 #[.agg #[.string (str T.now), .string (str T.oth), .int .i64 (bud T), .bool T.dd], .int .i64 n] w fun e w' => e = .returned (.tuple #[dv (T.arm n).2, .int .i64 (T.arm n).1]) ∧ Below w.heap.size w w' := by
  have h := rarm_any (str T.now) (str T.oth) (bud T) T.dd w n
  have e : dv (T.arm n).2 = .agg #[.string (str T.now), .string (str T.oth), .int .i64 (if T.dd = true ∨ n < 0 ∨ 1099511627776 < n then bud T else n), .bool T.dd] ∧ (T.arm n).1 = (if T.dd = true then 190 else if n < 0 ∨ 1099511627776 < n then 1 else 0) := by
    unfold Tp.arm
    by_cases hd : T.dd = true
    · rw [if_pos hd, if_pos (.inl hd), if_pos hd]
      exact ⟨rfl, rfl⟩
    · rw [if_neg hd, if_neg hd]
      by_cases h1 : n < 0 ∨ 1099511627776 < n
      · rw [if_pos h1, if_pos (.inr h1), if_pos h1]
        exact ⟨rfl, rfl⟩
      · rw [if_neg h1, if_neg (by rintro (q | q); exact hd q; exact h1 q), if_neg h1]
        refine ⟨?_, rfl⟩
        unfold dv
        have e2 : bud (Tp.mk T.A T.cn true n.toNat T.dd) = n := by
          unfold bud
          rw [if_pos rfl]
          simp only
          omega
        rw [e2]
        rfl
  rw [e.1, e.2]
  exact h
/-- a number of a note is written -/
theorem Its.nset {w0 w : World} {l : List It} {B b n c : Nat} {xs : List Nt} (h : Its w0 (.row ntE B (.slice (some ⟨b, 0, none⟩) n c) xs :: l) w) {i : Nat} {p : Nt} (hp : xs[i]? = some p) (x : Int) : Its w0 (.row ntE B (.slice (some ⟨b, 0, none⟩) n c) (xs.set i ⟨p.kind, x, p.b, p.c⟩) :: l) (w.setCell ⟨b, i * 4 + 1, none⟩ (.int .i64 x)) :=
  h.chg (x' := .row ntE B (.slice (some ⟨b, 0, none⟩) n c) (xs.set i ⟨p.kind, x, p.b, p.c⟩)) (own_setC h.one (i := i) (j := 1) hp (by decide) rfl) (fun _ hk => .inl hk) ((Frm.set w b (i * 4 + 1) _).mono (fun j _ hj => by subst hj; rfl))

set_option maxRecDepth 100000 in
set_option maxHeartbeats 4000000 in
theorem walk (a0 : Option Addr) (M c : Nat) (os : List Op) (w0 : World) (hl : os.length = M) (hd : Ops w0 (.slice a0 M c) os) : Calls Try.prog 3 #[.slice a0 M c] w0 fun e w' => e = .returned (.bool true) ∧ Below w0.heap.size w0 w' := by
  have K9 := hide (newS (Its.nil w0))
  have K10 := hide (fun W => rnew_any W)
  have KA : Hid (∀ W l, Its w0 l W → Calls Try.prog 11 #[] W fun e w' => e = .returned (.bool true) ∧ Its w0 l w') := hide (fun W l hW => awakeS hW)
  have HD := hide hd
  have Hl := hide hl
  rw [show dv Tp.nw = .agg #[.string (str Tp.nw.now), .string (str Tp.nw.oth), .int .i64 (bud Tp.nw), .bool Tp.nw.dd] from rfl] at K10
  clear hd hl
  go_enter Try.func3, Try.ntmps3
  go_upto_region 2 with (first
    | (go_at_call 10; refine (K10.out _).mono ?_; rintro e w2 ⟨rfl, hb2⟩; have h2 := h1.keep hb2; clear hb2)
    | (go_at_call 9; refine K9.out.mono ?_; rintro e w1 ⟨g, H1, rfl, h1⟩))
  have I3 : Hid (Its w0 [.tape w0.heap.size g H1 Tp.nw, .box w2.heap.size #[.string (str Tp.nw.now), .string (str Tp.nw.oth), .int .i64 (bud Tp.nw), .bool Tp.nw.dd] 26] (w2.alloc (.cells #[.string (str Tp.nw.now), .string (str Tp.nw.oth), .int .i64 (bud Tp.nw), .bool Tp.nw.dd] 26))) := hide (h2.box1 #[.string (str Tp.nw.now), .string (str Tp.nw.oth), .int .i64 (bud Tp.nw), .bool Tp.nw.dd] 26).swap
  clear h1 h2 K9 K10
  generalize w2.alloc (.cells #[.string (str Tp.nw.now), .string (str Tp.nw.oth), .int .i64 (bud Tp.nw), .bool Tp.nw.dd] 26) = w3 at *
  generalize w2.heap.size = p at *
  go_upto_region 4 with (go_at_call 11; refine (KA.out _ _ I3.out).mono ?_; rintro e w4 ⟨rfl, h4⟩)
  have I4 := hide h4
  clear h4 I3 KA
  go_upto_region 5 with fail
  go_loopw [3, 5] (fun v3 v5 wr => ∃ (j g : Nat), v3 = .pointer (some ⟨g, 0, none⟩) ∧ v5 = .int .i64 j ∧ j ≤ 80 ∧ Hid (∃ (H : Bool → Value) (T : Tp), Its w0 [.tape w0.heap.size g H T, .box p #[.string (str T.now), .string (str T.oth), .int .i64 (bud T), .bool T.dd] 26] wr)) (fun _ v5 _ => 80 - (intOf v5).toNat)
  case atStart => exact ⟨0, g, rfl, rfl, Nat.zero_le _, hide ⟨H1, Tp.nw, I4.out⟩⟩
  case round =>
    obtain ⟨j, g, rfl, rfl, hj, hh⟩ := hrel
    obtain ⟨H, T, hI⟩ := hh.out
    obtain ⟨wA, rfl⟩ : ∃ W, W = wr := ⟨_, rfl⟩
    have HI := hide hI
    clear hh hI I4
    by_cases hlt : j < M
    · by_cases hlt2 : j < 80
      · have q0 : (j : Int) < (M : Int) := by omega
        have q1 : (j : Int) < 80 := by omega
        have q2 : (0 : Int) ≤ (j : Int) := by omega
        obtain ⟨o, ho⟩ : ∃ o, os[j]? = some o := ⟨_, List.getElem?_eq_getElem (by rw [Hl.out]; exact hlt)⟩
        obtain ⟨b, off, a1, c1, e1, z0, z1, z2, hrd, hcap⟩ := (HD.out.keep HI.out.bel).at j o ho
        subst e1
        have HR : Hid (∀ W, Below w0.heap.size w0 W → ntE.Rd W (.slice a1 o.notes.length c1) o.notes) := hide (fun W hW => by
          obtain ⟨b', off', a', c', e', _, _, y2, y3, _⟩ := HD.out.at j o ho
          simp only [Option.some.injEq, Addr.mk.injEq] at e'
          obtain ⟨rfl, rfl, _⟩ := e'
          have hk : wA.cell? ⟨b, off + j * 3 + 2, none⟩ = w0.cell? ⟨b, off + j * 3 + 2, none⟩ := HI.out.bel.cell (p := ⟨b, off + j * 3 + 2, none⟩) (cell_lt y2)
          rw [z2, y2] at hk
          simp only [Option.some.injEq, Value.slice.injEq] at hk
          obtain ⟨rfl, _, rfl⟩ := hk
          exact y3.keep hW)
        obtain ⟨kd, nn, notes⟩ := o
        simp only at z0 z1 z2 hrd hcap HR
        obtain ⟨P, hP⟩ : ∃ P, notes.length = P := ⟨_, rfl⟩
        rw [hP] at z2 hrd hcap HR
        have HP := hide hP
        clear ho hP
        go_upto_region 8 with fail
        have I2 : Hid (Its w0 [.box wA.heap.size #[.int .i64 kd, .int .i64 nn, .slice a1 P c1] 31, .tape w0.heap.size g H T, .box p #[.string (str T.now), .string (str T.oth), .int .i64 (bud T), .bool T.dd] 26] (wA.alloc (.cells #[.int .i64 kd, .int .i64 nn, .slice a1 P c1] 31))) := hide (HI.out.box1 _ _)
        clear z0 z1 z2 hrd hcap
        generalize wA.alloc (.cells #[.int .i64 kd, .int .i64 nn, .slice a1 P c1] 31) = wB at *
        generalize wA.heap.size = q at *
        have x0 : wB.cell? ⟨q, 0, none⟩ = some (.int .i64 kd) := (cells_at I2.out.one 0).1
        have x1 : wB.cell? ⟨q, 1, none⟩ = some (.int .i64 nn) := (cells_at I2.out.one 1).1
        have x2 : wB.cell? ⟨q, 2, none⟩ = some (.slice a1 P c1) := (cells_at I2.out.one 2).1
        clear HI
        by_cases hbig : 60 < P
        · have r0 : (60 : Int) < (P : Int) := by omega
          go_wp2_with fail
          go_roundw
          case rel => exact ⟨j + 1, g, rfl, by go_num, by omega, hide ⟨H, T, I2.out.tail⟩⟩
          case measure => simp [intOf]; omega
        · have r0 : ¬ ((60 : Int) < (P : Int)) := by omega
          have I3 : Hid (Its w0 (.box q #[.int .i64 kd, .int .i64 nn, .slice a1 P c1] 31 :: .tape w0.heap.size g H T :: .box p #[.string (str T.now), .string (str T.oth), .int .i64 (bud T), .bool T.dd] 26 :: []) (wB.alloc (.cells #[] 43))) := hide (I2.out.alloc _)
          have y2 : (wB.alloc (.cells #[] 43)).cell? ⟨q, 2, none⟩ = some (.slice a1 P c1) := (cells_at I3.out.one 2).1
          have hown0 : ntE.Own (wB.alloc (.cells #[] 43)) w0.heap.size (.slice (some ⟨wB.heap.size, 0, none⟩) 0 0) [] := (El.Own.new ntE wB wB.heap.size (Nat.le_refl _) #[] [] rfl (by simp) _ _ _ rfl rfl rfl).mono I2.out.size
          have HL0 : Hid (([] : List Nt).length + notes.length ≤ 1000000) := hide (by have := HP.out; simp; omega)
          have HR0 := hide (HR.out _ I3.out.bel)
          have HI0 : Hid (Its w0 (.row ntE w0.heap.size (.slice (some ⟨wB.heap.size, 0, none⟩) 0 0) [] :: .box q #[.int .i64 kd, .int .i64 nn, .slice a1 P c1] 31 :: .tape w0.heap.size g H T :: .box p #[.string (str T.now), .string (str T.oth), .int .i64 (bud T), .bool T.dd] 26 :: []) (wB.alloc (.cells #[] 43))) := hide (I2.out.new (x := .row ntE w0.heap.size (.slice (some ⟨wB.heap.size, 0, none⟩) 0 0) []) hown0 (fun k hk => by cases hk; exact Nat.le_refl _) (below_new _ _))
          go_upto_region 10 with (at_builtin; refine ntE.wp I3.out.bel (by rfl) _ _ rfl _ _ rfl rfl [] notes hown0 HR0.out HL0.out ?_; intro v7 w6 hown7 hg7 hs7 hb7; have h7 := HI0.out.grow hown7 hg7 hs7; clear hown7 hg7 hs7 hb7)
          rw [List.nil_append] at h7
          obtain ⟨a7, c7, e7⟩ := El.Rd.form (El.Own.rd h7.one)
          rw [HP.out] at e7
          subst e7
          have I5 : Hid (Its w0 (.tape w0.heap.size g H T :: .box p #[.string (str T.now), .string (str T.oth), .int .i64 (bud T), .bool T.dd] 26 :: .row ntE w0.heap.size (.slice a7 P c7) notes :: .box q #[.int .i64 kd, .int .i64 nn, .slice a1 P c1] 31 :: []) w6) := hide h7.rot3.rot4.swap
          clear h7 x0 x1 x2 y2 hown0 HL0 HR0 HI0 I2 I3
          have HC : Hid (∀ W g H T T0, Its w0 (.tape w0.heap.size g H T :: .box p #[.string (str T0.now), .string (str T0.oth), .int .i64 (bud T0), .bool T0.dd] 26 :: .row ntE w0.heap.size (.slice a7 P c7) notes :: .box q #[.int .i64 kd, .int .i64 nn, .slice a1 P c1] 31 :: []) W → W.cell? ⟨p, 0, none⟩ = some (.string (str T0.now)) ∧ W.cell? ⟨p, 1, none⟩ = some (.string (str T0.oth)) ∧ W.cell? ⟨p, 2, none⟩ = some (.int .i64 (bud T0)) ∧ W.cell? ⟨p, 3, none⟩ = some (.bool T0.dd) ∧ (∀ i, W.frozen? ⟨p, i, none⟩ = false) ∧ W.cell? ⟨q, 0, none⟩ = some (.int .i64 kd) ∧ W.cell? ⟨q, 1, none⟩ = some (.int .i64 nn) ∧ W.cell? ⟨q, 2, none⟩ = some (.slice a1 P c1)) := hide (fun W g H T T0 hW => by
            obtain ⟨b0, b1, b2, b3, bf⟩ := Its.cells4 hW.swap
            exact ⟨b0, b1, b2, b3, bf, (cells_at hW.four 0).1, (cells_at hW.four 1).1, (cells_at hW.four 2).1⟩)
          have HPUT : Hid (∀ W g H T T0, Its w0 (.tape w0.heap.size g H T :: .box p #[.string (str T0.now), .string (str T0.oth), .int .i64 (bud T0), .bool T0.dd] 26 :: .row ntE w0.heap.size (.slice a7 P c7) notes :: .box q #[.int .i64 kd, .int .i64 nn, .slice a1 P c1] 31 :: []) W → Its w0 (.tape w0.heap.size g H T :: .box p #[.string (str T.now), .string (str T.oth), .int .i64 (bud T), .bool T.dd] 26 :: .row ntE w0.heap.size (.slice a7 P c7) notes :: .box q #[.int .i64 kd, .int .i64 nn, .slice a1 P c1] 31 :: []) ((((W.setCell ⟨p, 0, none⟩ (.string (str T.now))).setCell ⟨p, 1, none⟩ (.string (str T.oth))).setCell ⟨p, 2, none⟩ (.int .i64 (bud T))).setCell ⟨p, 3, none⟩ (.bool T.dd))) := hide (fun W g H T T0 hW => (Its.out4 hW.swap _ _ _ _).swap)
          have HN : Hid (∀ W g H T T0, Its w0 (.tape w0.heap.size g H T :: .box p #[.string (str T0.now), .string (str T0.oth), .int .i64 (bud T0), .bool T0.dd] 26 :: .row ntE w0.heap.size (.slice a7 P c7) notes :: .box q #[.int .i64 kd, .int .i64 nn, .slice a1 P c1] 31 :: []) W → ntE.Rd W (.slice a7 P c7) notes) := hide (fun W g H T T0 hW => El.Own.rd hW.three)
          obtain ⟨x0, x1, x2, x3, xf, xq0, xq1, xq2⟩ := HC.out _ _ _ _ _ I5.out
          go_upto_block 2 with fail
          go_cut [3, 8, 9] (fun v3 v8 v9 wx => ∃ (g : Nat) (cd : Int), v3 = .pointer (some ⟨g, 0, none⟩) ∧ v8 = .int .i64 cd ∧ v9 = .int .i64 cd ∧ Hid (∃ (H : Bool → Value) (T : Tp), Its w0 (.tape w0.heap.size g H T :: .box p #[.string (str T.now), .string (str T.oth), .int .i64 (bud T), .bool T.dd] 26 :: .row ntE w0.heap.size (.slice a7 P c7) notes :: .box q #[.int .i64 kd, .int .i64 nn, .slice a1 P c1] 31 :: []) wx))
          case first =>
            by_cases h1 : kd = 1
            · subst h1
              obtain ⟨PR, hPR⟩ : ∃ PR, T.arm nn = PR := ⟨_, rfl⟩
              obtain ⟨cd, T1⟩ := PR
              have KP : Hid (∀ W, Its w0 (.tape w0.heap.size g H T :: .box p #[.string (str T.now), .string (str T.oth), .int .i64 (bud T), .bool T.dd] 26 :: .row ntE w0.heap.size (.slice a7 P c7) notes :: .box q #[.int .i64 1, .int .i64 nn, .slice a1 P c1] 31 :: []) W → Calls Try.prog 12 #[.pointer (some ⟨g, 0, none⟩), .int .i64 nn] W fun e w' => e = .returned (.int .i64 cd) ∧ ∃ H', Its w0 (.tape w0.heap.size g H' T1 :: .box p #[.string (str T.now), .string (str T.oth), .int .i64 (bud T), .bool T.dd] 26 :: .row ntE w0.heap.size (.slice a7 P c7) notes :: .box q #[.int .i64 1, .int .i64 nn, .slice a1 P c1] 31 :: []) w') := hide (fun W hW => by
                have := armS hW nn
                rw [hPR] at this
                exact this.mono (by rintro e w' ⟨rfl, h⟩; exact ⟨rfl, _, h⟩))
              have KD : Hid (∀ W, Below w0.heap.size w0 W → Calls Try.prog 13 #[.agg #[.string (str T.now), .string (str T.oth), .int .i64 (bud T), .bool T.dd], .int .i64 nn] W fun e w' => e = .returned (.tuple #[.agg #[.string (str T1.now), .string (str T1.oth), .int .i64 (bud T1), .bool T1.dd], .int .i64 cd]) ∧ Below W.heap.size W w') := hide (fun W hW => by
                have := rarm_dv T nn W
                rw [hPR] at this
                exact this)
              clear hPR
              go_wp2_with (first
                | (go_at_call 13; refine (KD.out _ h6.bel).mono ?_; rintro e w8 ⟨rfl, hb8⟩; have h8 := h6.keep hb8; obtain ⟨v0, v1, v2, v3, vf, vq0, vq1, vq2⟩ := HC.out _ _ _ _ _ h8)
                | (go_at_call 12; refine (KP.out _ I5.out).mono ?_; rintro e w7 ⟨rfl, H6, h6⟩; obtain ⟨u0, u1, u2, u3, uf, uq0, uq1, uq2⟩ := HC.out _ _ _ _ _ h6))
              go_meet
              exact ⟨g, cd, rfl, rfl, rfl, hide ⟨H6, T1, HPUT.out _ _ _ _ _ h8⟩⟩
            · by_cases h2 : kd = 2
              · subst h2
                obtain ⟨got, r, hr⟩ := rds_ex T.now
                have hok := tp_ok I5.out.one
                obtain ⟨PR, hPR⟩ : ∃ PR, T.app r notes = PR := ⟨_, rfl⟩
                obtain ⟨cd, T1⟩ := PR
                have KP : Hid (∀ W, Its w0 (.tape w0.heap.size g H T :: .box p #[.string (str T.now), .string (str T.oth), .int .i64 (bud T), .bool T.dd] 26 :: .row ntE w0.heap.size (.slice a7 P c7) notes :: .box q #[.int .i64 2, .int .i64 nn, .slice a1 P c1] 31 :: []) W → Calls Try.prog 14 #[.pointer (some ⟨g, 0, none⟩), (.slice a7 P c7)] W fun e w' => e = .returned (.int .i64 cd) ∧ ∃ H', Its w0 (.tape w0.heap.size g H' T1 :: .box p #[.string (str T.now), .string (str T.oth), .int .i64 (bud T), .bool T.dd] 26 :: .row ntE w0.heap.size (.slice a7 P c7) notes :: .box q #[.int .i64 2, .int .i64 nn, .slice a1 P c1] 31 :: []) w') := hide (fun W hW => by
                  have := appendS hW (HN.out _ _ _ _ _ hW) HP.out (by omega) hr
                  rw [hPR] at this
                  exact this)
                have KD : Hid (∀ W, Below w0.heap.size w0 W → Calls Try.prog 15 #[.agg #[.string (str T.now), .string (str T.oth), .int .i64 (bud T), .bool T.dd], .slice a1 P c1] W fun e w' => e = .returned (.tuple #[.agg #[.string (str T1.now), .string (str T1.oth), .int .i64 (bud T1), .bool T1.dd], .int .i64 cd]) ∧ Below W.heap.size W w') := hide (fun W hW => by
                  have := rappend_any hok hr W (HR.out W hW) HP.out (by omega)
                  rw [hPR] at this
                  exact this)
                clear hPR
                go_wp2_with (first
                  | (go_at_call 15; refine (KD.out _ h6.bel).mono ?_; rintro e w8 ⟨rfl, hb8⟩; have h8 := h6.keep hb8; obtain ⟨v0, v1, v2, v3, vf, vq0, vq1, vq2⟩ := HC.out _ _ _ _ _ h8)
                  | (go_at_call 14; refine (KP.out _ I5.out).mono ?_; rintro e w7 ⟨rfl, H6, h6⟩; obtain ⟨u0, u1, u2, u3, uf, uq0, uq1, uq2⟩ := HC.out _ _ _ _ _ h6))
                go_meet
                exact ⟨g, cd, rfl, rfl, rfl, hide ⟨H6, T1, HPUT.out _ _ _ _ _ h8⟩⟩
              · by_cases h3 : kd = 3
                · subst h3
                  obtain ⟨got, r, hr⟩ := rds_ex T.now
                  have hok := tp_ok I5.out.one
                  obtain ⟨PR, hPR⟩ : ∃ PR, T.cmp notes = PR := ⟨_, rfl⟩
                  obtain ⟨cd, T1⟩ := PR
                  have KP : Hid (∀ W, Its w0 (.tape w0.heap.size g H T :: .box p #[.string (str T.now), .string (str T.oth), .int .i64 (bud T), .bool T.dd] 26 :: .row ntE w0.heap.size (.slice a7 P c7) notes :: .box q #[.int .i64 3, .int .i64 nn, .slice a1 P c1] 31 :: []) W → Calls Try.prog 16 #[.pointer (some ⟨g, 0, none⟩), (.slice a7 P c7)] W fun e w' => e = .returned (.int .i64 cd) ∧ ∃ H', Its w0 (.tape w0.heap.size g H' T1 :: .box p #[.string (str T.now), .string (str T.oth), .int .i64 (bud T), .bool T.dd] 26 :: .row ntE w0.heap.size (.slice a7 P c7) notes :: .box q #[.int .i64 3, .int .i64 nn, .slice a1 P c1] 31 :: []) w') := hide (fun W hW => by
                    have := compactS hW (HN.out _ _ _ _ _ hW) HP.out (by omega)
                    rw [hPR] at this
                    exact this)
                  have KD : Hid (∀ W, Below w0.heap.size w0 W → Calls Try.prog 17 #[.agg #[.string (str T.now), .string (str T.oth), .int .i64 (bud T), .bool T.dd], .slice a1 P c1] W fun e w' => e = .returned (.tuple #[.agg #[.string (str T1.now), .string (str T1.oth), .int .i64 (bud T1), .bool T1.dd], .int .i64 cd]) ∧ Below W.heap.size W w') := hide (fun W hW => by
                    have := rcompact_any hok W (HR.out W hW) HP.out (by omega)
                    rw [hPR] at this
                    exact this)
                  clear hPR
                  go_wp2_with (first
                    | (go_at_call 17; refine (KD.out _ h6.bel).mono ?_; rintro e w8 ⟨rfl, hb8⟩; have h8 := h6.keep hb8; obtain ⟨v0, v1, v2, v3, vf, vq0, vq1, vq2⟩ := HC.out _ _ _ _ _ h8)
                    | (go_at_call 16; refine (KP.out _ I5.out).mono ?_; rintro e w7 ⟨rfl, H6, h6⟩; obtain ⟨u0, u1, u2, u3, uf, uq0, uq1, uq2⟩ := HC.out _ _ _ _ _ h6))
                  go_meet
                  exact ⟨g, cd, rfl, rfl, rfl, hide ⟨H6, T1, HPUT.out _ _ _ _ _ h8⟩⟩
                · by_cases h4 : kd = 4
                  · subst h4
                    obtain ⟨got, r, hr⟩ := rds_ex T.now
                    have hok := tp_ok I5.out.one
                    obtain ⟨PR, hPR⟩ : ∃ PR, T.rep r = PR := ⟨_, rfl⟩
                    obtain ⟨gn, cd, T1⟩ := PR
                    have KP : Hid (∀ W, Its w0 (.tape w0.heap.size g H T :: .box p #[.string (str T.now), .string (str T.oth), .int .i64 (bud T), .bool T.dd] 26 :: .row ntE w0.heap.size (.slice a7 P c7) notes :: .box q #[.int .i64 4, .int .i64 nn, .slice a1 P c1] 31 :: []) W → Calls Try.prog 18 #[.pointer (some ⟨g, 0, none⟩)] W fun e w' => e = .returned (.tuple #[.int .i64 gn, .int .i64 cd]) ∧ ∃ H', Its w0 (.tape w0.heap.size g H' T1 :: .box p #[.string (str T.now), .string (str T.oth), .int .i64 (bud T), .bool T.dd] 26 :: .row ntE w0.heap.size (.slice a7 P c7) notes :: .box q #[.int .i64 4, .int .i64 nn, .slice a1 P c1] 31 :: []) w') := hide (fun W hW => by
                      have := repairS hW hr
                      rw [hPR] at this
                      exact this)
                    have KD : Hid (∀ W, Calls Try.prog 19 #[.agg #[.string (str T.now), .string (str T.oth), .int .i64 (bud T), .bool T.dd]] W fun e w' => e = .returned (.tuple #[.agg #[.string (str T1.now), .string (str T1.oth), .int .i64 (bud T1), .bool T1.dd], .int .i64 gn, .int .i64 cd]) ∧ Below W.heap.size W w') := hide (fun W => by
                      have := rrepair_any hok hr W
                      rw [hPR] at this
                      exact this)
                    clear hPR
                    go_wp2_with (first
                      | (go_at_call 19; refine (KD.out _).mono ?_; rintro e w8 ⟨rfl, hb8⟩; have h8 := h6.keep hb8; obtain ⟨v0, v1, v2, v3, vf, vq0, vq1, vq2⟩ := HC.out _ _ _ _ _ h8)
                      | (go_at_call 18; refine (KP.out _ I5.out).mono ?_; rintro e w7 ⟨rfl, H6, h6⟩; obtain ⟨u0, u1, u2, u3, uf, uq0, uq1, uq2⟩ := HC.out _ _ _ _ _ h6))
                    go_meet
                    exact ⟨g, cd, rfl, rfl, rfl, hide ⟨H6, T1, HPUT.out _ _ _ _ _ h8⟩⟩
                  · by_cases h5 : kd = 5
                    · subst h5
                      obtain ⟨got, r, hr⟩ := rds_ex T.now
                      have hok := tp_ok I5.out.one
                      have K20 : Hid (∀ W, Its w0 (.tape w0.heap.size g H T :: .box p #[.string (str T.now), .string (str T.oth), .int .i64 (bud T), .bool T.dd] 26 :: .row ntE w0.heap.size (.slice a7 P c7) notes :: .box q #[.int .i64 5, .int .i64 nn, .slice a1 P c1] 31 :: []) W → Calls Try.prog 20 #[.pointer (some ⟨g, 0, none⟩)] W fun e w' => CraV w0 e T (.tape w0.heap.size g H T :: .box p #[.string (str T.now), .string (str T.oth), .int .i64 (bud T), .bool T.dd] 26 :: .row ntE w0.heap.size (.slice a7 P c7) notes :: .box q #[.int .i64 5, .int .i64 nn, .slice a1 P c1] 31 :: []) w') := hide (fun W hW => crashS hW)
                      have K14 : Hid (∀ W g2 H2, Its w0 (.tape w0.heap.size g2 H2 T.crash :: .tape w0.heap.size g H T :: .box p #[.string (str T.now), .string (str T.oth), .int .i64 (bud T), .bool T.dd] 26 :: .row ntE w0.heap.size (.slice a7 P c7) notes :: .box q #[.int .i64 5, .int .i64 nn, .slice a1 P c1] 31 :: []) W → Calls Try.prog 14 #[.pointer (some ⟨g, 0, none⟩), .slice (some ⟨W.heap.size, 0, none⟩) 1 1] (W.alloc (.cells #[.int .i64 6, .int .i64 9, .int .i64 0, .int .i64 0] 43)) fun e w' => ∃ cx : Int, e = .returned (.int .i64 cx) ∧ Its w0 (.tape w0.heap.size g2 H2 T.crash :: .box p #[.string (str T.now), .string (str T.oth), .int .i64 (bud T), .bool T.dd] 26 :: .row ntE w0.heap.size (.slice a7 P c7) notes :: .box q #[.int .i64 5, .int .i64 nn, .slice a1 P c1] 31 :: []) w') := hide (fun W g2 H2 hW => (appendS (hW.swap.alloc (.cells #[.int .i64 6, .int .i64 9, .int .i64 0, .int .i64 0] 43)) (nt_new W ⟨6, 9, 0, 0⟩ _ rfl) rfl (by decide) hr).mono (by
                        rintro e w' ⟨rfl, H', h⟩
                        exact ⟨_, rfl, h.tail⟩))
                      have K21 : Hid (∀ W, Calls Try.prog 21 #[.agg #[.string (str T.now), .string (str T.oth), .int .i64 (bud T), .bool T.dd]] W fun e w' => e = .returned (.agg #[.string (str T.crash.now), .string (str T.crash.oth), .int .i64 (bud T.crash), .bool T.crash.dd]) ∧ Below W.heap.size W w') := hide (fun W => rcrash_any (str T.now) (str T.oth) (bud T) T.dd W)
                      obtain ⟨T1, hT1⟩ : ∃ T1, T.crash = T1 := ⟨_, rfl⟩
                      rw [hT1] at K14 K21
                      have HT1 := hide hT1
                      clear hT1
                      go_wp2_with (first
                        | (go_at_call 21; refine (K21.out _).mono ?_; rintro e w9 ⟨rfl, hb9⟩; have h9 := h8.keep hb9; obtain ⟨v0, v1, v2, v3, vf, vq0, vq1, vq2⟩ := HC.out _ _ _ _ _ h9)
                        | (go_at_call 14; refine (K14.out _ _ _ h7).mono ?_; rintro e w8 ⟨cx, rfl, h8⟩; obtain ⟨u0, u1, u2, u3, uf, uq0, uq1, uq2⟩ := HC.out _ _ _ _ _ h8)
                        | (go_at_call 20; refine (K20.out _ I5.out).mono ?_; rintro e w7 ⟨g2, H6, rfl, h7⟩; rw [HT1.out] at h7))
                      go_meet
                      exact ⟨g2, 0, rfl, rfl, rfl, hide ⟨H6, T1, HPUT.out _ _ _ _ _ h9⟩⟩
                    · have k1 : (kd == 1) = false := beq_eq_false_iff_ne.2 h1
                      have k2 : (kd == 2) = false := beq_eq_false_iff_ne.2 h2
                      have k3 : (kd == 3) = false := beq_eq_false_iff_ne.2 h3
                      have k4 : (kd == 4) = false := beq_eq_false_iff_ne.2 h4
                      have k5 : (kd == 5) = false := beq_eq_false_iff_ne.2 h5
                      go_wp2_with fail
                      go_meet
                      exact ⟨g, 0, rfl, rfl, rfl, hide ⟨H, T, I5.out⟩⟩
          case rest =>
            obtain ⟨g2, cd, rfl, rfl, rfl, hh⟩ := hcut
            obtain ⟨H2, T2, h8⟩ := hh.out
            have HI8 := hide h8
            clear hh h8 xq0 xq1 xq2 x0 x1 x2 x3 xf
            obtain ⟨x0, x1, x2, x3, xf, xq0, xq1, xq2⟩ := HC.out _ _ _ _ _ HI8.out
            have K22 : Hid (∀ W, Its w0 (.tape w0.heap.size g2 H2 T2 :: .box p #[.string (str T2.now), .string (str T2.oth), .int .i64 (bud T2), .bool T2.dd] 26 :: .row ntE w0.heap.size (.slice a7 P c7) notes :: .box q #[.int .i64 kd, .int .i64 nn, .slice a1 P c1] 31 :: []) W → Calls Try.prog 22 #[.pointer (some ⟨g2, 0, none⟩), .agg #[.string (str T2.now), .string (str T2.oth), .int .i64 (bud T2), .bool T2.dd]] W fun e w' => e = .returned (.bool true) ∧ Its w0 (.tape w0.heap.size g2 H2 T2 :: .box p #[.string (str T2.now), .string (str T2.oth), .int .i64 (bud T2), .bool T2.dd] 26 :: .row ntE w0.heap.size (.slice a7 P c7) notes :: .box q #[.int .i64 kd, .int .i64 nn, .slice a1 P c1] 31 :: []) w') := hide (fun W hW => tellsS hW)
            have K23 : Hid (∀ W, Its w0 (.tape w0.heap.size g2 H2 T2 :: .box p #[.string (str T2.now), .string (str T2.oth), .int .i64 (bud T2), .bool T2.dd] 26 :: .row ntE w0.heap.size (.slice a7 P c7) notes :: .box q #[.int .i64 kd, .int .i64 nn, .slice a1 P c1] 31 :: []) W → Calls Try.prog 23 #[(.slice a7 P c7), .slice a1 P c1] W fun e w' => e = .returned (.bool true) ∧ Its w0 (.tape w0.heap.size g2 H2 T2 :: .box p #[.string (str T2.now), .string (str T2.oth), .int .i64 (bud T2), .bool T2.dd] 26 :: .row ntE w0.heap.size (.slice a7 P c7) notes :: .box q #[.int .i64 kd, .int .i64 nn, .slice a1 P c1] 31 :: []) w') := hide (fun W hW => (same_eq (HN.out _ _ _ _ _ hW) (HR.out _ hW.bel) (by have := HP.out; omega)).mono (by rintro e w' ⟨rfl, q, rfl⟩; exact ⟨rfl, hW.drew q⟩))
            go_upto_region 36 with (first
              | (go_at_call 23; refine (K23.out _ h9).mono ?_; rintro e w10 ⟨rfl, h10⟩)
              | (go_at_call 22; refine (K22.out _ HI8.out).mono ?_; rintro e w9 ⟨rfl, h9⟩; obtain ⟨u0, u1, u2, u3, uf, uq0, uq1, uq2⟩ := HC.out _ _ _ _ _ h9))
            have I9 := hide h10.rot3
            clear h9 h10 K22 K23 HI8 HC HPUT HN I5
            go_upto_region 37 with fail
            go_loopw [132] (fun i wr => Hid (∃ (k : Nat) (xs : List Nt), k ≤ P ∧ i = .int .i64 k ∧ xs.length = P ∧ Its w0 (.row ntE w0.heap.size (.slice a7 P c7) xs :: .tape w0.heap.size g2 H2 T2 :: .box p #[.string (str T2.now), .string (str T2.oth), .int .i64 (bud T2), .bool T2.dd] 26 :: .box q #[.int .i64 kd, .int .i64 nn, .slice a1 P c1] 31 :: []) wr)) (fun i _ => P - (intOf i).toNat)
            case atStart => exact hide ⟨0, notes, Nat.zero_le _, rfl, HP.out, I9.out⟩
            case round =>
              obtain ⟨k, xs, hk, rfl, hxs, hI⟩ := hrel.out
              have HI := hide hI
              have Hxs := hide hxs
              clear hrel hI hxs
              by_cases hlt3 : k < P
              · obtain ⟨y, hy⟩ : ∃ y, xs[k]? = some y := ⟨_, List.getElem?_eq_getElem (by rw [Hxs.out]; exact hlt3)⟩
                obtain ⟨b7, c', e, _⟩ := El.Own.some HI.out.one (by intro e; rw [e] at hy; simp at hy)
                rw [Hxs.out] at e
                simp only [Value.slice.injEq] at e
                obtain ⟨rfl, _, _⟩ := e
                obtain ⟨b', off', e', _, d1, _, _⟩ := nt_at (El.Own.rd HI.out.one) k y hy
                simp only [Option.some.injEq, Addr.mk.injEq] at e'
                obtain ⟨rfl, rfl, _⟩ := e'
                rw [Nat.zero_add] at d1
                have f1 : wr.frozen? ⟨b7, k * 4 + 1, none⟩ = false := (El.Own.cell HI.out.one (k * 4 + 1) (by rw [Hxs.out]; show k * 4 + 1 < P * 4; omega)).2.1
                have HNS := hide (Its.nset HI.out hy 7)
                have HXL : Hid (∀ z, (xs.set k z).length = P) := hide (fun z => by rw [List.length_set]; exact Hxs.out)
                obtain ⟨pk, pa, pb, pc⟩ := y
                simp only at d1 HNS
                have j0 : (0 : Int) ≤ (k : Int) := by omega
                have j1 : (k : Int) < (P : Int) := by omega
                clear hy
                go_wp2_with fail
                go_roundw
                case rel => exact hide ⟨k + 1, _, by omega, by go_num, HXL.out _, HNS.out⟩
                case measure => simp [intOf]; omega
              · have j1 : ¬ ((k : Int) < (P : Int)) := by omega
                go_wp2_with fail
                go_roundw
                case rel => exact ⟨j + 1, g2, rfl, by go_num, by omega, hide ⟨H2, T2, HI.out.tail.rot3.tail⟩⟩
                case measure => simp [intOf]; omega
      · have q0 : (j : Int) < (M : Int) := by omega
        have q1 : ¬ ((j : Int) < 80) := by omega
        go_wp2_with fail
        go_ret
        exact ⟨rfl, HI.out.bel⟩
    · have q0 : ¬ ((j : Int) < (M : Int)) := by omega
      go_wp2_with fail
      go_ret
      exact ⟨rfl, HI.out.bel⟩
end Go.Proofs.Ytgdoagmnhmfjkaa.tapePlays
