/- ClaimPlays, the walk. -/
import Derived.Test.YtbibegendejnlaaCpn
import Derived.Deep.CutBlock
namespace Go.Proofs.Ytbibegendejnlaa
open Go.RowKit
set_option linter.unusedVariables false

theorem nil_new (w : World) : intE.Own (w.alloc (.cells #[] 3)) w.heap.size (.slice (some ⟨w.heap.size, 0, none⟩) 0 0) [] := El.Own.new intE w w.heap.size (Nat.le_refl _) #[] [] rfl (by simp) _ _ _ rfl rfl rfl
theorem below_drew {B : Nat} {a w : World} (h : Below B a w) (q : Nat) : Below B a (w.drewN q) := ⟨h.os, h.tape, h.output, h.size, h.block⟩
theorem CW.start {w0 W W3 W4 : World} {B g gh hm N : Nat} (p : CP w0 B g gh hm N) (hT : ∀ b, Tbl W B g gh b ⟨List.replicate N 0, []⟩) (hgh : gh < W.heap.size) (hb : Below w0.heap.size w0 W) (hb3 : Below W.heap.size W W3) (ho : intE.Own W3 W.heap.size (.slice (some ⟨W.heap.size, 0, none⟩) N N) (List.replicate N 0)) (hh : W3.heap.size = hm) (hW : W4 = W3.alloc (.cells #[.slice (some ⟨W.heap.size, 0, none⟩) N N, .slice none 0 0] 31)) :
    CW w0 B g gh hm N (.slice none 0 0) (cn ⟨List.replicate N 0, []⟩) ⟨List.replicate N 0, []⟩ (some ⟨W.heap.size, 0, none⟩) N none 0 0 W4 := by
  have hb4 : Below W3.heap.size W3 W4 := by rw [hW]; exact (Below.refl _ _).alloc (Nat.le_refl _) _
  have hb5 : Below W.heap.size W W4 := hb3.trans (hb4.mono hb3.size)
  have ho4 := ho.keep hb4
  have n40 := p.n40
  refine ⟨(hT _).keep hb5, by rw [hW, ← hh]; exact heap_new _ _, ⟨by simpa using ho4.rd, ⟨[], .inl ⟨rfl, rfl⟩, rfl, (fun i x p hx _ => by simp at hx)⟩, (fun x hx => ?_), (fun x hx => by cases hx), (fun x hx => ?_), (fun x hx => by cases hx)⟩, wf_new N (by omega), by simp, rfl, Nat.le_refl _, hb.trans (hb5.mono hb.size)⟩
  · cases hx
    exact ⟨by show W.heap.size ≠ gh; omega, fun e => by cases e⟩
  · cases hx
    obtain ⟨C, hC⟩ := own_type ho4 W.heap.size rfl
    exact ⟨C, hC⟩

set_option maxRecDepth 100000 in
set_option maxHeartbeats 16000000 in
theorem plays_walk (n0 : Int) (a : Option Addr) (m c : Nat) (zs : List Op) (w : World) (hm : zs.length = m) (hv : Ops w (.slice a m c) zs) : Calls Try.prog 3 #[.int .i64 n0, .slice a m c] w fun e w' => e = .returned (.bool true) ∧ Below w.heap.size w w' := by
  obtain ⟨w0, rfl⟩ : ∃ w0, w0 = w := ⟨_, rfl⟩
  have KA := hide awake_any
  have Hm := hide hm
  have HV := hide hv
  clear hm hv
  by_cases hout : n0 < 1 ∨ 40 < n0
  · have KN : Hid (∀ W, _) := hide (fun W => new_no n0 W hout)
    rcases hout with hout | hout
    · go_enter Try.func3, Try.ntmps3
      go_wp2_with (first | (go_at_call 9; refine (KA.out _).mono ?_; rintro e W1 ⟨rfl, hb1⟩; have HB := hide hb1; clear hb1) | (go_at_call 10; refine (KN.out _).mono ?_; rintro e W2 ⟨rfl, hW⟩; have hW' := hW.symm; clear hW; subst hW'))
      go_ret
      exact ⟨by first | rfl | simp, HB.out⟩
    · have h1 : ¬ n0 < 1 := by omega
      have h2 : n0 > 40 := hout
      go_enter Try.func3, Try.ntmps3
      go_wp2_with (first | (go_at_call 9; refine (KA.out _).mono ?_; rintro e W1 ⟨rfl, hb1⟩; have HB := hide hb1; clear hb1) | (go_at_call 10; refine (KN.out _).mono ?_; rintro e W2 ⟨rfl, hW⟩; have hW' := hW.symm; clear hW; subst hW'))
      go_ret
      exact ⟨by first | rfl | simp, HB.out⟩
  obtain ⟨N, rfl⟩ : ∃ N : Nat, n0 = (N : Int) := ⟨n0.toNat, by omega⟩
  have hN1 : 1 ≤ N := by omega
  have hN2 : N ≤ 40 := by omega
  have h1 : ¬ (N : Int) < 1 := by omega
  have h2 : ¬ (N : Int) > 40 := by omega
  have h3 : (N : Int) ≤ 40 := by omega
  have KN : Hid (∀ W, _) := hide (fun W => new_ok N W hN1 hN2)
  have HN := hide (show 1 ≤ N ∧ N ≤ 40 from ⟨hN1, hN2⟩)
  clear hout hN1 hN2
  go_enter Try.func3, Try.ntmps3
  go_upto_region 8 with (first
    | (go_at_call 9; refine (KA.out _).mono ?_; rintro e W1 ⟨rfl, hb1⟩; have HB := hide hb1; clear hb1)
    | (go_at_call 10; refine (KN.out _).mono ?_; rintro e W2 ⟨g, rfl, gh, hT, hb, k1, k2, k3⟩; have HT0 := hide hT; have HB0 := hide hb; have Hk := hide (show W1.heap.size ≤ gh ∧ gh < W2.heap.size ∧ W1.heap.size ≤ g from ⟨k1, k2, by obtain ⟨_, _, h⟩ := hT (fun _ => False); exact h.base⟩); clear hT hb k1 k2 k3))
  obtain ⟨W3, hmk, ho3, hb3, hs3⟩ := made_ints W2 N (by have := HN.out; omega)
  have HO3 := hide ho3
  have HB3 := hide hb3
  clear ho3 hb3 hs3 KA KN
  obtain ⟨B, hB⟩ : ∃ B, W1.heap.size = B := ⟨_, rfl⟩
  obtain ⟨hm, hhm⟩ : ∃ hm, W3.heap.size = hm := ⟨_, rfl⟩
  rw [hB] at HT0 HB0 Hk
  have HP : Hid (CP w0 B g gh hm N) := hide ⟨by rw [← hB]; exact HB.out.size, Hk.out.2.2, Hk.out.1, by have e1 := HB.out.size; have e2 := HB0.out.size; have e3 := HB3.out.size; omega, HN.out.1, HN.out.2⟩
  have HW0 : Hid (CW w0 B g gh hm N (.slice none 0 0) (cn ⟨List.replicate N 0, []⟩) ⟨List.replicate N 0, []⟩ (some ⟨W2.heap.size, 0, none⟩) N none 0 0 (W3.alloc (.cells #[.slice (some ⟨W2.heap.size, 0, none⟩) N N, .slice none 0 0] 31))) := hide (CW.start HP.out HT0.out Hk.out.2.1 (HB.out.trans (HB0.out.mono (by have := HB.out.size; omega))) HB3.out HO3.out hhm rfl)
  go_upto_region 9 with fail
  try rw [hhm]
  have HgB : Hid (B ≤ hm) := hide (by have e2 := HB0.out.size; have e3 := HB3.out.size; omega)
  clear HB HT0 HB0 Hk HO3 HB3 hB hhm hmk
  generalize W3.alloc (.cells #[.slice (some ⟨W2.heap.size, 0, none⟩) N N, .slice none 0 0] 31) = W4 at *
  go_wp2_with fail
  go_loopw [8] (fun v8 wr => ∃ (i : Nat) (U : Tb) (aH : Option Addr) (cH : Nat) (aQ : Option Addr) (cQ M : Nat), v8 = .int .i64 i ∧ i ≤ m ∧ i ≤ 150 ∧ Hid (CW w0 B g gh hm N (.slice none 0 0) (cn U) U aH cH aQ cQ M wr)) (fun v8 _ => 150 - (intOf v8).toNat)
  case atStart => exact ⟨0, _, _, _, _, _, _, rfl, Nat.zero_le _, by omega, HW0⟩
  case round =>
    obtain ⟨i, U, aH, cH, aQ, cQ, M, rfl, him, hi2, HW⟩ := hrel
    clear HW0
    by_cases hlt : i < m
    · by_cases hlt2 : i < 150
      · have q0 : (i : Int) < (m : Int) := by omega
        have q1 : (i : Int) < 150 := by omega
        have q2 : (0 : Int) ≤ (i : Int) := by omega
        obtain ⟨o, ho⟩ : ∃ o, zs[i]? = some o := ⟨_, List.getElem?_eq_getElem (by rw [Hm.out]; exact hlt)⟩
        obtain ⟨b, off, an, c4, rfl, z0, z1, z2, z3, zr⟩ := HV.out.at i o ho
        obtain ⟨kd, tt, nd, ns⟩ := o
        simp only at z0 z1 z2 z3 zr
        obtain ⟨ln, hln⟩ : ∃ ln, ns.length = ln := ⟨_, rfl⟩
        rw [hln] at z3 zr
        have Hln := hide hln
        have HR : Hid (∀ W, Below w0.heap.size w0 W → intE.Rd W (.slice an ln c4) ns) := hide (fun W hb => zr.keep hb)
        have Hblk : Hid (ns ≠ [] → blk (ppV B gh (.slice none 0 0) 1) an) := hide (fun hne x hx => by
          subst hx
          cases ns with
          | nil => exact absurd rfl hne
          | cons y ys =>
            obtain ⟨b', off', e, hc⟩ := int_at zr 0 y rfl
            cases e
            have h1 := cell_lt hc
            have h2 := HP.out.pB
            show b' < B
            exact Nat.lt_of_lt_of_le h1 h2)
        have y0 : wr.cell? ⟨b, off + i * 4, none⟩ = some (.int .i64 kd) := by rw [HW.out.bel.cell (p := ⟨b, off + i * 4, none⟩) (cell_lt z0)]; exact z0
        have y1 : wr.cell? ⟨b, off + i * 4 + 1, none⟩ = some (.int .i64 tt) := by rw [HW.out.bel.cell (p := ⟨b, off + i * 4 + 1, none⟩) (cell_lt z1)]; exact z1
        have y2 : wr.cell? ⟨b, off + i * 4 + 2, none⟩ = some (.int .i64 nd) := by rw [HW.out.bel.cell (p := ⟨b, off + i * 4 + 2, none⟩) (cell_lt z2)]; exact z2
        have y3 : wr.cell? ⟨b, off + i * 4 + 3, none⟩ = some (.slice an ln c4) := by rw [HW.out.bel.cell (p := ⟨b, off + i * 4 + 3, none⟩) (cell_lt z3)]; exact z3
        clear z0 z1 z2 z3 zr ho hlt hlt2 hln
        have HW4 : Hid (CW w0 B g gh hm N (.slice none 0 0) (cn U) U aH cH aQ cQ M (wr.alloc (.cells #[.int .i64 kd, .int .i64 tt, .int .i64 nd, .slice an ln c4] 33))) := hide (HW.out.keep ((Below.refl _ _).alloc (Nat.le_refl _) _))
        have Hob := hide (heap_new wr (.cells #[.int .i64 kd, .int .i64 tt, .int .i64 nd, .slice an ln c4] 33))
        go_upto_region 13 with fail
        obtain ⟨ho, hho⟩ : ∃ ho, wr.heap.size = ho := ⟨_, rfl⟩
        rw [hho] at Hob
        try rw [hho]
        clear hho HW y0 y1 y2 y3
        generalize wr.alloc (.cells #[.int .i64 kd, .int .i64 tt, .int .i64 nd, .slice an ln c4] 33) = W4 at *
        have z0 : W4.cell? ⟨ho, 0, none⟩ = some (.int .i64 kd) := (cells_at Hob.out 0).1
        have z1 : W4.cell? ⟨ho, 1, none⟩ = some (.int .i64 tt) := (cells_at Hob.out 1).1
        have z2 : W4.cell? ⟨ho, 2, none⟩ = some (.int .i64 nd) := (cells_at Hob.out 2).1
        have z3 : W4.cell? ⟨ho, 3, none⟩ = some (.slice an ln c4) := (cells_at Hob.out 3).1
        by_cases hbig : 60 < ln
        · have r0 : (ln : Int) > 60 := by omega
          clear hbig
          go_wp2_with fail
          go_roundw
          case rel => exact ⟨i + 1, _, _, _, _, _, _, by go_num, by omega, by omega, HW4⟩
          case measure => simp [intOf]; omega
        have r0 : ¬ (ln : Int) > 60 := by omega
        have r1 : (ln : Int) ≤ 60 := by omega
        have Hl60 : Hid (ln ≤ 60) := hide (by omega)
        clear hbig
        go_upto_block 2 with fail
        go_cut [10, 11, 12, 13] (fun v10 v11 v12 v13 wx => ∃ (cd : Int) (l : List Int) (U' : Tb) (aH' : Option Addr) (cH' : Nat) (aQ' : Option Addr) (cQ' M' : Nat), v10 = .int .i64 cd ∧ v11 = .int .i64 cd ∧ Hid (intE.Rd wx v12 l ∧ intE.Rd wx v13 l ∧ l.length ≤ 1000) ∧ Hid (CW w0 B g gh hm N (.slice none 0 0) (cn U') U' aH' cH' aQ' cQ' M' wx))
        case first =>
          as_aux_lemma =>
           by_cases k1 : kd = 1
           · subst k1
             have Hba : Hid (∀ (V : World) (o : Obj), Below V.heap.size V (V.alloc o)) := hide (fun V o => (Below.refl _ _).alloc (Nat.le_refl _) o)
             have HO1 := hide (nil_new W4)
             have HB1 := hide (Hba.out W4 (.cells #[] 3))
             have HR1 : Hid (intE.Rd (W4.alloc (.cells #[] 3)) (.slice an ln c4) ns) := hide (HR.out _ (HW4.out.keep HB1.out).bel)
             have HL1 : Hid (([] : List Int).length + ns.length ≤ 1000000) := hide (by have := Hln.out; have := Hl60.out; simp; omega)
             have t3 : (W4.alloc (.cells #[] 3)).cell? ⟨ho, 3, none⟩ = some (.slice an ln c4) := (cells_at ((HB1.out.block ho (heap_lt Hob.out)).trans Hob.out) 3).1
             go_upto_region 19 with (at_builtin; refine intE.wp (w0 := W4) HB1.out (by rfl) _ _ rfl _ _ rfl rfl [] ns HO1.out HR1.out HL1.out ?_; intro v14 W5 ho5 hg5 hs5 hb5; have HO5 : Hid (intE.Own W5 W4.heap.size v14 ns) := hide ho5; have HB5 := hide hb5; clear ho5 hg5 hs5 hb5)
             clear t3 HO1 HB1 HR1 HL1
             obtain ⟨a14, c14, hf14⟩ := HO5.out.rd.form
             rw [Hln.out] at hf14
             subst hf14
             have HW5 := hide (HW4.out.arm HB5.out HO5.out)
             have Hob5 := hide ((HB5.out.block ho (heap_lt Hob.out)).trans Hob.out)
             obtain ⟨s4, hs4⟩ : ∃ s4, W4.heap.size = s4 := ⟨_, rfl⟩
             rw [hs4] at HO5
             have Hs4 : Hid (g < s4 ∧ gh < s4 ∧ hm < s4) := hide (by
               obtain ⟨⟨C1, hg⟩, C2, hgh⟩ := HW4.out.tbl.places
               have e1 := heap_lt hg
               have e2 := heap_lt hgh
               have e3 := heap_lt HW4.out.box
               omega)
             obtain ⟨U', code, yes, hwf, hN', K11, K12⟩ := pclaim (pp := ppV B gh (.slice a14 ln c14)) HW5.out.tbl HW5.out.wf (fun k hk => by
               rcases hk with rfl | hk
               · exact heap_lt HW5.out.box
               · exact HO5.out.lt k hk) HW5.out.hn HW5.out.hM HP.out.n1 tt a14 c14 ln ns Hln.out HO5.out.rd (by have := Hl60.out; omega)
             have H11 := hide K11
             have H12 : Hid (∀ W, CW w0 B g gh hm N (.slice a14 ln c14) (cn U') U aH cH aQ cQ M W → intE.Own W s4 (.slice a14 ln c14) ns → _) := hide (fun W x o => K12 aH aQ an cH cQ c4 W x.dt x.cap (x.hp (fun k hk => o.lt k hk)) (HR.out W x.bel) (fun hne => Hblk.out hne))
             have Hwf := hide hwf
             clear K11 K12 hwf hN' hs4 HW4 HB5 Hob z0 z1 z2 z3
             have z1 : W5.cell? ⟨ho, 1, none⟩ = some (.int .i64 tt) := (cells_at Hob5.out 1).1
             go_upto_region 22 with (first
               | (go_at_call 11; refine H11.out.mono ?_; rintro e W6 ⟨rfl, hT, hF⟩; have Hob6 := hide (HW5.out.boxFr hF Hob5.out (by decide) (by decide) (by decide)); have HW6 := hide (HW5.out.fr HP.out hT hF); have HO6 := hide (hF.own (by decide) HO5.out (fun e => by have := HO5.out.ge _ e; have := Hs4.out.1; omega) (fun e => by have := HO5.out.ge _ e; have := Hs4.out.2.1; omega)); clear hT hF; obtain ⟨x0, x1, x2⟩ := HW6.out.cells; have x3 : W6.cell? ⟨ho, 1, none⟩ = some (.int .i64 tt) := (cells_at Hob6.out 1).1; have x4 : W6.cell? ⟨ho, 3, none⟩ = some (.slice an ln c4) := (cells_at Hob6.out 3).1)
               | (go_at_call 12; refine (H12.out _ HW6.out HO6.out).mono ?_; rintro e W7 ⟨⟨aH', cH', aQ', cQ', M', rfl, hd⟩, hb⟩; have HW7 := hide (HW6.out.keep hb); have HW8 := hide (HW6.out.put HP.out hb hd Hwf.out); have HO8 := hide (HW7.out.ownPut (z1 := .slice aH' N cH') (z2 := .slice aQ' M' cQ') (HO6.out.keep hb)); have Hob7 := hide ((hb.block ho (heap_lt Hob6.out)).trans Hob6.out); clear hd hb; obtain ⟨u0, u1, u2⟩ := HW7.out.cells))
             have Hob8 : Hid (((W7.setCell ⟨hm, 0, none⟩ (.slice aH' N cH')).setCell ⟨hm, 1, none⟩ (.slice aQ' M' cQ')).heap[ho]? = some (.cells #[.int .i64 1, .int .i64 tt, .int .i64 nd, .slice an ln c4] 33)) := hide (by
               have hne : ho ≠ hm := ne_of_type Hob7.out HW7.out.box (by decide)
               rw [Below.heap_setCell _ _ _ _ hne, Below.heap_setCell _ _ _ _ hne]; exact Hob7.out)
             clear Hob7 HW7 HW6 HO6 Hob6 HW5 Hob5 HO5 x0 x1 x2 x3 x4 u0 u1 u2 z1 H11 H12
             generalize (W7.setCell ⟨hm, 0, none⟩ (.slice aH' N cH')).setCell ⟨hm, 1, none⟩ (.slice aQ' M' cQ') = W8 at *
             have t3 : W8.cell? ⟨ho, 3, none⟩ = some (.slice an ln c4) := (cells_at Hob8.out 3).1
             have K13 := hide (ints_any a14 an c14 c4 ln ln ns ns W8 Hln.out Hln.out HO8.out.rd (HR.out W8 HW8.out.bel) (by have := Hl60.out; omega))
             rw [decide_eq_true rfl] at K13
             have t4 : (yes != yes) = false := bne_self_eq_false _
             go_upto_region 24 with (go_at_call 13; refine K13.out.mono ?_; rintro e W9 ⟨rfl, q9, hq9⟩; have HW9 := hide (HW8.out.keep (w' := W9) (by rw [hq9]; exact below_drew (Below.refl _ _) q9)); have HO9 : Hid (intE.Own W9 s4 (.slice a14 ln c14) ns) := hide (by rw [hq9]; exact HO8.out); clear hq9)
             clear HW8 HO8 Hob8 t3 K13
             go_wp2_with fail
             go_loopw [103] (fun v103 wr => ∃ (k : Nat) (ls : List Int), v103 = .int .i64 k ∧ k ≤ ln ∧ Hid (ls.length = ln) ∧ Hid (intE.Own wr s4 (.slice a14 ln c14) ls) ∧ Hid (CW w0 B g gh hm N (.slice a14 ln c14) (cn U') U' aH' cH' aQ' cQ' M' wr)) (fun v103 _ => ln - (intOf v103).toNat)
             case atStart => exact ⟨0, ns, rfl, Nat.zero_le _, Hln, HO9, HW9⟩
             case round =>
               obtain ⟨k, ls, rfl, hkl, HLs, HO10, HW10⟩ := hrel
               by_cases hk : k < ln
               · obtain ⟨b5, c5, hf5, _, _⟩ := HO10.out.some (fun e => by have := HLs.out; rw [e] at this; simp at this; omega)
                 simp only [Value.slice.injEq] at hf5
                 obtain ⟨rfl, _, rfl⟩ := hf5
                 obtain ⟨p, hp⟩ : ∃ p, ls[k]? = some p := ⟨_, List.getElem?_eq_getElem (by rw [HLs.out]; exact hk)⟩
                 obtain ⟨y1, y2⟩ := HO10.out.at1 (Value.int .i64) (fun _ => rfl) rfl k p hp
                 have HO11 := hide (HO10.out.set (Value.int .i64) (fun _ => rfl) rfl k 0)
                 have HW11 := hide (HW10.out.cell HP.out HO10.out Hs4.out.2.1 (by have := HP.out.pgh; have := Hs4.out.2.1; omega) k (.int .i64 0))
                 have r2 : (k : Int) < (ln : Int) := by omega
                 have r3 : (0 : Int) ≤ (k : Int) := by omega
                 clear hk hp
                 go_wp2_with fail
                 go_roundw
                 case rel => exact ⟨k + 1, ls.set k 0, by go_num, by omega, hide (by rw [List.length_set]; exact HLs.out), HO11, HW11⟩
                 case measure => simp [intOf]; omega
               · obtain rfl : k = ln := by omega
                 have r2 : ¬ (k : Int) < (k : Int) := by omega
                 clear hk
                 go_wp2_with fail
                 go_meet
                 exact ⟨code, [], U', aH', cH', aQ', cQ', M', rfl, rfl, hide ⟨.inl ⟨rfl, rfl⟩, .inl ⟨rfl, rfl⟩, by simp⟩, hide HW10.out.rest⟩
           · have k1' : (kd == 1) = false := beq_eq_false_iff_ne.2 k1
             by_cases k2 : kd = 2
             · subst k2
               obtain ⟨U', code, l, hwf, hN', hl, K14, K15⟩ := prel (pp := ppV B gh (.slice none 0 0)) HW4.out.tbl HW4.out.wf HW4.out.hn HW4.out.hM HP.out.n1 tt nd
               have H14 := hide K14
               have H15 : Hid (∀ W, CW w0 B g gh hm N (.slice none 0 0) (cn U') U aH cH aQ cQ M W → _) := hide (fun W x => K15 aH aQ cH cQ W x.dt x.cap (x.hp (fun k hk => by cases hk)))
               have Hwf := hide hwf
               have Hl := hide hl
               clear K14 K15 hwf hN' hl
               go_wp2_with (first
                 | (go_at_call 14; refine H14.out.mono ?_; rintro e W5 ⟨v5, rfl, ho5, hT, hF⟩; have HO5 := hide ho5; have Hob5 := hide (HW4.out.boxFr hF Hob.out (by decide) (by decide) (by decide)); have HW5 := hide (HW4.out.fr HP.out hT hF); clear ho5 hT hF; obtain ⟨x0, x1, x2⟩ := HW5.out.cells; have x3 : W5.cell? ⟨ho, 1, none⟩ = some (.int .i64 tt) := (cells_at Hob5.out 1).1; have x4 : W5.cell? ⟨ho, 2, none⟩ = some (.int .i64 nd) := (cells_at Hob5.out 2).1)
                 | (go_at_call 15; refine (H15.out _ HW5.out).mono ?_; rintro e W6 ⟨⟨aH', cH', aQ', cQ', M', v6, rfl, ho6, hd⟩, hb⟩; have HW6 := hide (HW5.out.keep hb); have HW7 := hide (HW5.out.put HP.out hb hd Hwf.out); have HO6 := hide (HW6.out.ownPut (z1 := .slice aH' N cH') (z2 := .slice aQ' M' cQ') (HO5.out.keep hb)); have HO7 := hide (HW6.out.ownPut (z1 := .slice aH' N cH') (z2 := .slice aQ' M' cQ') ho6); clear ho6 hd hb; obtain ⟨u0, u1, u2⟩ := HW6.out.cells))
               go_meet
               exact ⟨code, l, U', aH', cH', aQ', cQ', M', rfl, rfl, hide ⟨HO6.out.rd, HO7.out.rd, Hl.out⟩, HW7⟩
             · have k2' : (kd == 2) = false := beq_eq_false_iff_ne.2 k2
               by_cases k3 : kd = 3
               · subst k3
                 obtain ⟨U', code, l, hwf, hN', hl, K14, K15⟩ := pdrop (pp := ppV B gh (.slice none 0 0)) HW4.out.tbl HW4.out.wf HW4.out.hn HW4.out.hM HP.out.n1 tt
                 have H14 := hide K14
                 have H15 : Hid (∀ W, CW w0 B g gh hm N (.slice none 0 0) (cn U') U aH cH aQ cQ M W → _) := hide (fun W x => K15 aH aQ cH cQ W x.dt x.cap (x.hp (fun k hk => by cases hk)))
                 have Hwf := hide hwf
                 have Hl := hide hl
                 clear K14 K15 hwf hN' hl
                 go_wp2_with (first
                   | (go_at_call 16; refine H14.out.mono ?_; rintro e W5 ⟨v5, rfl, ho5, hT, hF⟩; have HO5 := hide ho5; have Hob5 := hide (HW4.out.boxFr hF Hob.out (by decide) (by decide) (by decide)); have HW5 := hide (HW4.out.fr HP.out hT hF); clear ho5 hT hF; obtain ⟨x0, x1, x2⟩ := HW5.out.cells; have x3 : W5.cell? ⟨ho, 1, none⟩ = some (.int .i64 tt) := (cells_at Hob5.out 1).1)
                   | (go_at_call 17; refine (H15.out _ HW5.out).mono ?_; rintro e W6 ⟨⟨aH', cH', aQ', cQ', M', v6, rfl, ho6, hd⟩, hb⟩; have HW6 := hide (HW5.out.keep hb); have HW7 := hide (HW5.out.put HP.out hb hd Hwf.out); have HO6 := hide (HW6.out.ownPut (z1 := .slice aH' N cH') (z2 := .slice aQ' M' cQ') (HO5.out.keep hb)); have HO7 := hide (HW6.out.ownPut (z1 := .slice aH' N cH') (z2 := .slice aQ' M' cQ') ho6); clear ho6 hd hb; obtain ⟨u0, u1, u2⟩ := HW6.out.cells))
                 go_meet
                 exact ⟨code, l, U', aH', cH', aQ', cQ', M', rfl, rfl, hide ⟨HO6.out.rd, HO7.out.rd, Hl.out⟩, HW7⟩
               · have k3' : (kd == 3) = false := beq_eq_false_iff_ne.2 k3
                 by_cases k4 : kd = 4
                 · subst k4
                   obtain ⟨U', code, hwf, hN', K18, K19⟩ := pseize (pp := ppV B gh (.slice none 0 0)) HW4.out.tbl HW4.out.wf HW4.out.hn HW4.out.hM tt nd
                   have H18 := hide K18
                   have H19 : Hid (∀ W, CW w0 B g gh hm N (.slice none 0 0) (cn U') U aH cH aQ cQ M W → _) := hide (fun W x => K19 aH aQ cH cQ W x.dt x.cap (x.hp (fun k hk => by cases hk)))
                   have Hwf := hide hwf
                   clear K18 K19 hwf hN'
                   go_wp2_with (first
                     | (go_at_call 18; refine H18.out.mono ?_; rintro e W5 ⟨rfl, hT, hF⟩; have Hob5 := hide (HW4.out.boxFr hF Hob.out (by decide) (by decide) (by decide)); have HW5 := hide (HW4.out.fr HP.out hT hF); clear hT hF; obtain ⟨x0, x1, x2⟩ := HW5.out.cells; have x3 : W5.cell? ⟨ho, 1, none⟩ = some (.int .i64 tt) := (cells_at Hob5.out 1).1; have x4 : W5.cell? ⟨ho, 2, none⟩ = some (.int .i64 nd) := (cells_at Hob5.out 2).1)
                     | (go_at_call 19; refine (H19.out _ HW5.out).mono ?_; rintro e W6 ⟨⟨aH', cH', aQ', cQ', M', rfl, hd⟩, hb⟩; have HW6 := hide (HW5.out.keep hb); have HW7 := hide (HW5.out.put HP.out hb hd Hwf.out); clear hd hb; obtain ⟨u0, u1, u2⟩ := HW6.out.cells))
                   go_meet
                   exact ⟨code, [], U', aH', cH', aQ', cQ', M', rfl, rfl, hide ⟨.inl ⟨rfl, rfl⟩, .inl ⟨rfl, rfl⟩, by simp⟩, HW7⟩
                 · have k4' : (kd == 4) = false := beq_eq_false_iff_ne.2 k4
                   go_wp2_with fail
                   go_meet
                   exact ⟨0, [], U, aH, cH, aQ, cQ, M, rfl, rfl, hide ⟨.inl ⟨rfl, rfl⟩, .inl ⟨rfl, rfl⟩, by simp⟩, HW4⟩
        case rest =>
          as_aux_lemma =>
           obtain ⟨cd, l, U', aH', cH', aQ', cQ', M', rfl, rfl, HL, HWc⟩ := hcut
           clear HW4 Hob z0 z1 z2 z3 Hblk HR
           obtain ⟨a12, c12, hf12⟩ := HL.out.1.form
           obtain ⟨a13, c13, hf13⟩ := HL.out.2.1.form
           obtain ⟨ll, hll⟩ : ∃ ll, l.length = ll := ⟨_, rfl⟩
           rw [hll] at hf12 hf13
           subst hf12
           subst hf13
           have K13 := hide (ints_any a12 a13 c12 c13 ll ll l l wc hll hll HL.out.1 HL.out.2.1 (by have := HL.out.2.2; omega))
           rw [decide_eq_true rfl] at K13
           have s4 : (cd != cd) = false := bne_self_eq_false _
           have K20 : Hid (∀ W, CW w0 B g gh hm N (.slice none 0 0) (cn U') U' aH' cH' aQ' cQ' M' W → _) := hide (fun W x => tells_any aH' aQ' cH' cQ' N M' U' x.tbl x.dt x.hn x.hM x.wf HP.out.n40)
           clear hll HL
           go_wp2_with (first
             | (go_at_call 13; refine K13.out.mono ?_; rintro e W5 ⟨rfl, q5, hq5⟩; have HW5 := hide (HWc.out.keep (w' := W5) (by rw [hq5]; exact below_drew (Below.refl _ _) q5)); clear hq5; obtain ⟨x0, x1, x2⟩ := HW5.out.cells)
             | (go_at_call 20; refine (K20.out _ HW5.out).mono ?_; rintro e W6 ⟨rfl, hb⟩; have HW6 := hide (HW5.out.keep hb); clear hb))
           go_roundw
           case rel => exact ⟨i + 1, U', aH', cH', aQ', cQ', M', by go_num, by omega, by omega, HW6⟩
           case measure => simp [intOf]; omega
      · have q0 : (i : Int) < (m : Int) := by omega
        have q1 : ¬ (i : Int) < 150 := by omega
        clear hlt hlt2
        go_wp2_with fail
        go_ret
        exact ⟨rfl, HW.out.bel⟩
    · have q0 : ¬ (i : Int) < (m : Int) := by omega
      clear hlt
      go_wp2_with fail
      go_ret
      exact ⟨rfl, HW.out.bel⟩
end Go.Proofs.Ytbibegendejnlaa
