/- For every list of telegrams and every list of cuts (nil or not) the law TelePieces answers true: the good telegrams' bytes one behind the other, cut anywhere and handed in piece by piece behind what was left, are split into just these; no conditions. -/
import Derived.Test.YtapbjfllcjfpaaaPcs
namespace Go.Proofs.Ytapbjfllcjfpaaa.telePieces
open Go.ChangeShapes Go.WideShapes Go.ChangeAt Go.RowKit
set_option linter.unusedVariables false

theorem own : ownKnob Try.prog.godebug = none := by kernel_rfl
theorem laidOut : laidOutB Try.prog = true := by kernel_rfl

theorem gd_take (ts : List Tl) (k : Nat) : (gd (ts.take k)).length ≤ k := Nat.le_trans (gd_len _) (by rw [List.length_take]; omega)

theorem encs_in (G : List Tl) (h : ∀ t ∈ G, t.In) : InB (G.flatMap enc) := by
  intro z hz
  obtain ⟨t, ht, hz⟩ := List.mem_flatMap.1 hz
  exact enc_in t (h t ht) z hz

theorem at_is (a : Int) (n : Nat) (h1 : n ≤ 4000) : ∃ k : Nat, wrap64 ((IntKind.u64.wrap a).tmod ((n : Int) + 1)) = (k : Int) ∧ k ≤ n := by
  have hw : 0 ≤ IntKind.u64.wrap a := by simp [IntKind.wrap, IntKind.bits, IntKind.signed]; omega
  have h2 := Int.emod_nonneg (IntKind.u64.wrap a) (b := (n : Int) + 1) (by omega)
  have h3 := Int.emod_lt_of_pos (IntKind.u64.wrap a) (b := (n : Int) + 1) (by omega)
  rw [Int.tmod_eq_emod_of_nonneg hw]
  refine ⟨(IntKind.u64.wrap a % ((n : Int) + 1)).toNat, ?_, by omega⟩
  unfold wrap64
  omega
theorem ints_at {w wr : World} {a : Option Addr} {len cap : Nat} {zs : List Int} (h : IsRow .i64 w a len cap zs) (i : Nat) (hi : i < len) (hb : Below w.heap.size w wr) :
    ∃ b off, a = some ⟨b, off, none⟩ ∧ wr.cell? ⟨b, off + i, none⟩ = some (.int .i64 (zs.getD i 0)) := by
  rcases h with ⟨_, rfl, _⟩ | ⟨x, rfl, hl, hm, hz, hc, hw⟩
  · omega
  · obtain ⟨b, off, spot⟩ := x
    have hspot : spot = none := by simpa [Addr.add] using World.cell?_spot (hc 0 (by omega))
    subst hspot
    refine ⟨b, off, rfl, ?_⟩
    have := hc i (by omega)
    rw [add_plain] at this
    rw [hb.cell (Bs.lt this)]
    exact this

theorem left_in (l : List Int) : InB l → InB (spl l).2.1 := by
  refine spl_ind (fun l => InB l → InB (spl l).2.1) (fun l ih => ?_) l
  intro h
  by_cases h12 : 12 ≤ l.length
  · by_cases h0 : dcode (l.take 12) = 0
    · rw [spl_hit h12 h0]
      exact ih _ (by simp; omega) (in_drop h 12)
    · rw [spl_miss h12 h0]
      exact ih _ (by simp; omega) (in_drop h 1)
  · rw [spl_short (by omega)]; exact h
theorem pieces_next (con rest : List Int) (p : Nat) (L : List Int) (G : List Tl) (h : con ++ rest = L) (hG : spl L = (G, [], 0)) :
    (spl ((spl con).2.1 ++ rest.take p)).2.2 = 0 ∧ spl (con ++ rest.take p) = ((spl con).1 ++ (spl ((spl con).2.1 ++ rest.take p)).1, (spl ((spl con).2.1 ++ rest.take p)).2.1, 0) := by
  have h1 := spl_cut con (rest.take p)
  have h2 := spl_cut (con ++ rest.take p) (rest.drop p)
  rw [List.append_assoc, List.take_append_drop, h, hG] at h2
  have h3 : (spl (con ++ rest.take p)).2.2 = 0 := by
    have := congrArg (fun x => x.2.2) h2
    simp only at this
    omega
  have h4 : (spl con).2.2 + (spl ((spl con).2.1 ++ rest.take p)).2.2 = 0 := by
    rw [h1] at h3
    exact h3
  refine ⟨by omega, ?_⟩
  rw [h1, h4]

/-- between two pieces: what was handed in and what is still to come -/
structure PInv2 (W0 : World) (L : List Int) (len1 : Nat) (v5 v12 v14 v15 : Value) (wr : World) : Prop where
  mk :: (ex : ∃ (ni : Nat) (con rest : List Int), con ++ rest = L ∧ ni ≤ len1 + 1 ∧ (ni = len1 + 1 → rest = []) ∧ v15 = .int .i64 ni ∧ Bs W0 v5 rest ∧ Cp v5 ∧ Bs wr v12 (spl con).2.1 ∧ Ot wr W0.heap.size v14 (spl con).1 ∧ Below W0.heap.size W0 wr)

set_option maxHeartbeats 4000000 in
theorem walk_l (a0 : Option Addr) (len0 cap0 : Nat) (ts : List Tl) (a1 : Option Addr) (len1 cap1 : Nat) (z1 : List Int) (w : World) (h0 : IsTs w a0 len0 ts) (h1 : IsRow .i64 w a1 len1 cap1 z1) (l0 : len0 ≤ 50) (l1 : len1 ≤ 50) :
    Calls Try.prog 3 #[.slice a0 len0 cap0, .slice a1 len1 cap1] w fun e w' => e = .returned (.bool true) ∧ Below w.heap.size w w' := by
  have H0 := hide h0
  have H1 := hide h1
  clear h0 h1
  have i0 : (len0 : Int) ≤ 50 := by omega
  have i1 : (len1 : Int) ≤ 50 := by omega
  go_enter Try.func3, Try.ntmps3
  go_upto_region 5 with (go_at_call 4; refine (tawake_any _).mono ?_; rintro e w1 ⟨rfl, hb1⟩)
  have Hb1 := hide hb1
  clear hb1
  go_wp2_with fail
  go_loopw [5, 6, 35] (fun v5 v6 v35 wr => ∃ k : Nat, k ≤ len0 ∧ v35 = .int .i64 k ∧ Ow wr w.heap.size v5 ((gd (ts.take k)).flatMap enc) ∧ Ot wr w.heap.size v6 (gd (ts.take k)) ∧ Sep v5 v6 ∧ Below w.heap.size w wr) (fun _ _ i _ => len0 - (intOf i).toNat)
  case atStart => exact ⟨0, by omega, rfl, ⟨rfl, .inl ⟨rfl, rfl⟩⟩, ⟨rfl, .inl ⟨rfl, rfl⟩⟩, (fun g hg => by cases hg), Hb1.out⟩
  case round =>
    obtain ⟨k, hk, rfl, hall, hwant, hsep, hb⟩ := hrel
    have j0 : (0 : Int) ≤ (k : Int) := by omega
    by_cases hlt : k < len0
    · have j1 : (k : Int) < (len0 : Int) := by omega
      obtain ⟨t, ht⟩ : ∃ t, ts[k]? = some t := ⟨_, List.getElem?_eq_getElem (by rw [H0.out.1]; exact hlt)⟩
      obtain ⟨b, off, rfl, x0, x1, x2, x3, x4⟩ := (H0.out.keep hb).at k t ht
      have Hin : Hid t.In := hide (H0.out.2.1 t (List.mem_of_getElem? ht))
      have Hgd := hide (gd_succ ts k t ht)
      have Hl := hide (gd_take ts k)
      have Hall := hide hall
      have Hwant := hide hwant
      have Hsep := hide hsep
      have Hb := hide hb
      obtain ⟨tk, td, tss, ta, tb⟩ := t
      simp only at x0 x1 x2 x3 x4
      clear hall hwant hsep hb ht
      go_upto_region 8 with fail
      have hb8 : Below w.heap.size w (wr.alloc (.cells #[.int .u8 tk, .int .u16 td, .int .u16 tss, .int .u16 ta, .int .u16 tb] 28)) := Hb.out.alloc Hb.out.size _
      have hall8 : Ow (wr.alloc (.cells #[.int .u8 tk, .int .u16 td, .int .u16 tss, .int .u16 ta, .int .u16 tb] 28)) w.heap.size u5 ((gd (ts.take k)).flatMap enc) := World.ownsRow.alloc Hall.out _
      have hwant8 : Ot (wr.alloc (.cells #[.int .u8 tk, .int .u16 td, .int .u16 tss, .int .u16 ta, .int .u16 tb] 28)) w.heap.size u6 (gd (ts.take k)) := World.ownsRow.alloc Hwant.out _
      have hbox : ∀ i, (wr.alloc (.cells #[.int .u8 tk, .int .u16 td, .int .u16 tss, .int .u16 ta, .int .u16 tb] 28)).cell? ⟨wr.heap.size, i, none⟩ = (#[.int .u8 tk, .int .u16 td, .int .u16 tss, .int .u16 ta, .int .u16 tb] : Array Value)[i]? := fun i => cell_new _ _ _ _ _
      have hlt8 : wr.heap.size < (wr.alloc (.cells #[.int .u8 tk, .int .u16 td, .int .u16 tss, .int .u16 ta, .int .u16 tb] 28)).heap.size := by simp
      have hne : some wr.heap.size ≠ u5.ownBlock := fun h => by have := row_lt Hall.out _ h.symm; omega
      generalize wr.alloc (.cells #[.int .u8 tk, .int .u16 td, .int .u16 tss, .int .u16 ta, .int .u16 tb] 28) = W8 at *
      have p0 : W8.cell? ⟨wr.heap.size, 0, none⟩ = some (.int .u8 tk) := hbox 0
      have p1 : W8.cell? ⟨wr.heap.size, 1, none⟩ = some (.int .u16 td) := hbox 1
      have p2 : W8.cell? ⟨wr.heap.size, 2, none⟩ = some (.int .u16 tss) := hbox 2
      have p3 : W8.cell? ⟨wr.heap.size, 3, none⟩ = some (.int .u16 ta) := hbox 3
      have p4 : W8.cell? ⟨wr.heap.size, 4, none⟩ = some (.int .u16 tb) := hbox 4
      have P : Hid (∀ W9, Below W8.heap.size W8 W9 → W9.cell? ⟨wr.heap.size, 0, none⟩ = some (.int .u8 tk) ∧ W9.cell? ⟨wr.heap.size, 1, none⟩ = some (.int .u16 td) ∧ W9.cell? ⟨wr.heap.size, 2, none⟩ = some (.int .u16 tss) ∧ W9.cell? ⟨wr.heap.size, 3, none⟩ = some (.int .u16 ta) ∧ W9.cell? ⟨wr.heap.size, 4, none⟩ = some (.int .u16 tb)) := hide (fun W9 h => ⟨by rw [h.cell hlt8]; exact hbox 0, by rw [h.cell hlt8]; exact hbox 1, by rw [h.cell hlt8]; exact hbox 2, by rw [h.cell hlt8]; exact hbox 3, by rw [h.cell hlt8]; exact hbox 4⟩)
      have Hb8 := hide hb8
      have Hall8 := hide hall8
      have Hwant8 := hide hwant8
      have Hne := hide hne
      clear hb8 hall8 hwant8 hbox hlt8 hne x0 x1 x2 x3 x4 Hall Hwant Hb
      by_cases hz : chk ⟨tk, td, tss, ta, tb⟩ = 0
      · have K5 := hide (fun W => encode_yes tk td tss ta tb W hz Hin.out)
        rw [if_pos hz] at Hgd
        have HE := hide (enc_len ⟨tk, td, tss, ta, tb⟩)
        have HEs := hide (encs_len (gd (ts.take k)))
        have Hfm : Hid ((gd (ts.take (k + 1))).flatMap enc = (gd (ts.take k)).flatMap enc ++ enc ⟨tk, td, tss, ta, tb⟩) := hide (by rw [Hgd.out]; simp)
        clear hz
        go_wp2_with (first
          | (go_at_call 5; refine (K5.out _).mono ?_; rintro e w9 ⟨v9, rfl, hown9, hb9⟩)
          | (at_builtin; refine wpList_appB (w0 := w) (Hb8.out.trans (hb9.mono Hb8.out.size)) (by rfl) _ _ rfl _ _ rfl rfl ((gd (ts.take k)).flatMap enc) (enc ⟨tk, td, tss, ta, tb⟩) (Hall8.out.keep hb9) (Bs.own hown9) (by rw [HE.out, HEs.out]; have := Hl.out; omega) ?_; intro v10 w10 hall10 hg10 hk10 hb10; obtain ⟨r0, r1, r2, r3, r4⟩ := P.out _ hb9; have q0 := hg10.cell r0 Hne.out; have q1 := hg10.cell r1 Hne.out; have q2 := hg10.cell r2 Hne.out; have q3 := hg10.cell r3 Hne.out; have q4 := hg10.cell r4 Hne.out; have hwant10 : Ot w10 w.heap.size u6 (gd (ts.take k)) := kept_next Hsep.out (Hwant8.out.keep hb9) hg10; have hsep10 : Sep v10 u6 := sep_next Hsep.out (Hwant8.out.keep hb9) hk10; clear r0 r1 r2 r3 r4 hg10 hk10)
          | (at_builtin; refine wpList_apptB (w0 := w) (hb10.alloc hb10.size _) (by rfl) _ _ rfl _ _ rfl rfl (gd (ts.take k)) [⟨tk, td, tss, ta, tb⟩] (World.ownsRow.alloc hwant10 _) (Rt.one _ ⟨tk, td, tss, ta, tb⟩ _ rfl) (by have := Hl.out; simp; omega) ?_; intro v11 w11 hwant11 hg11 hk11 hb11; have hall11 : Ow w11 w.heap.size v10 ((gd (ts.take k)).flatMap enc ++ enc ⟨tk, td, tss, ta, tb⟩) := kept_next hsep10.symm (World.ownsRow.alloc hall10 _) hg11; have hsep11 : Sep v10 v11 := (sep_next hsep10.symm (World.ownsRow.alloc hall10 _) hk11).symm))
        go_roundw
        case rel => exact ⟨k + 1, by omega, by go_num, by rw [Hfm.out]; exact hall11, by rw [Hgd.out]; exact hwant11, hsep11, hb11⟩
        case measure => simp [intOf]; omega
      · have K5 := hide (fun W => encode_no tk td tss ta tb W hz)
        rw [if_neg hz, List.append_nil] at Hgd
        generalize chk ⟨tk, td, tss, ta, tb⟩ = z at *
        go_wp2_with (go_at_call 5; refine (K5.out _).mono ?_; rintro e w9 ⟨rfl, hb9⟩)
        go_roundw
        case rel => exact ⟨k + 1, by omega, by go_num, by rw [Hgd.out]; exact Hall8.out.keep hb9, by rw [Hgd.out]; exact Hwant8.out.keep hb9, Hsep.out, Hb8.out.trans (hb9.mono Hb8.out.size)⟩
        case measure => simp [intOf]; omega
    · have hkl : ts.take k = ts := List.take_of_length_le (by rw [H0.out.1]; omega)
      rw [hkl] at hall hwant
      have HG := hide (spl_encs (gd ts) (gd_ok ts))
      have HGl : Hid ((gd ts).length ≤ 50) := hide (by have := gd_len ts; rw [H0.out.1] at this; omega)
      have HLl : Hid (((gd ts).flatMap enc).length ≤ 600) := hide (by rw [encs_len]; have := HGl.out; omega)
      have HLi : Hid (InB ((gd ts).flatMap enc)) := hide (encs_in (gd ts) (fun t ht => H0.out.2.1 t ((List.mem_filter.1 ht).1)))
      have K6 := hide (split_any (Bs.own hall) (Cp.own hall) HLi.out (by have := HLl.out; omega))
      rw [HG.out] at K6
      have Hall := hide hall
      have Hwant := hide hwant
      have Hb := hide hb
      obtain rfl : k = len0 := by omega
      clear hall hwant hsep hb hkl j0 hlt hk
      generalize gd ts = G at *
      generalize G.flatMap enc = L at *
      go_upto_region 14 with (go_at_call 6; refine K6.out.mono ?_; rintro e w13 ⟨vf, vl, rfl, hot13, hown13, hb13⟩)
      obtain ⟨al, capl, rfl⟩ := (Bs.own hown13).form
      have K7 := hide (same_eq (Rt.own hot13) ((Rt.own Hwant.out).keep hb13) (by have := HGl.out; omega))
      have Hown13 := hide hown13
      have Hb13 := hide hb13
      clear K6 hot13 hown13 hb13
      go_upto_region 16 with (go_at_call 7; refine K7.out.mono ?_; rintro e w14 ⟨rfl, q14, rfl⟩)
      have hW : Below wr.heap.size wr (w13.drewN q14) := Hb13.out.drewN q14
      have hl0 : Bs (w13.drewN q14) (.slice al 0 capl) [] := (Bs.own Hown13.out).keep ((Below.refl _ _).drewN q14)
      generalize w13.drewN q14 = W0 at *
      have hA0 : Bs W0 u5 L := (Bs.own Hall.out).keep hW
      have hC0 : Cp u5 := Cp.own Hall.out
      have hW0 : Rt W0 u6 G := (Rt.own Hwant.out).keep hW
      have HW0 := hide hW0
      have HbW := hide (Hb.out.trans (hW.mono Hb.out.size))
      have HA0 := hide hA0
      have HC0 := hide hC0
      have Hl0 := hide hl0
      clear hW hl0 hA0 hC0 hW0 K7 Hb13 Hown13 Hall Hwant Hb
      go_wp2_with fail
      go_loopw [5, 12, 14, 15] (fun v5 v12 v14 v15 wr => PInv2 W0 L len1 v5 v12 v14 v15 wr) (fun _ _ _ i _ => len1 + 1 - (intOf i).toNat)
      case atStart => exact ⟨0, [], L, rfl, by omega, by omega, rfl, HA0.out, HC0.out, by rw [spl_short (by simp)]; exact Hl0.out, by rw [spl_short (by simp)]; exact Ot.none _ _, Below.refl _ _⟩
      case round =>
        obtain ⟨ni, con, rest, hcr, hni, hend, rfl, hbs, hcp, hlf, hgot, hb⟩ := hrel.ex
        clear hrel
        by_cases hr : rest = []
        · subst hr
          rw [List.append_nil] at hcr
          subst hcr
          rw [HG.out] at hlf hgot
          simp only at hlf hgot
          obtain ⟨a5, c5, rfl⟩ := hbs.form
          obtain ⟨a12, c12, rfl⟩ := hlf.form
          have K7 := hide (same_eq (Rt.own hgot) (HW0.out.keep hb) (by have := HGl.out; omega))
          have Hb := hide hb
          clear hbs hcp hlf hgot hb hend hni
          go_wp2_with (go_at_call 7; refine K7.out.mono ?_; rintro e w15 ⟨rfl, q15, rfl⟩)
          go_ret
          exact ⟨rfl, (HbW.out.trans (Hb.out.mono HbW.out.size)).drewN _⟩
        · have hrl : 0 < rest.length := List.length_pos_iff.2 hr
          have hni1 : ni ≤ len1 := by
            rcases Nat.lt_or_ge len1 ni with h | h
            · exact absurd (hend (by omega)) hr
            · exact h
          rcases hbs with ⟨_, h⟩ | ⟨x, cap, rfl, hc⟩
          · exact absurd h hr
          obtain ⟨b, off, spot⟩ := x
          have hspot : spot = none := by simpa [Addr.add] using World.cell?_spot (hc 0 (by omega))
          subst hspot
          have hbs : Bs W0 (.slice (some ⟨b, off, none⟩) rest.length cap) rest := .inr ⟨_, _, rfl, hc⟩
          obtain ⟨_, _, _, hv, hn⟩ := hcp
          simp only [Value.slice.injEq] at hv
          obtain ⟨rfl, rfl, rfl⟩ := hv
          have Hbs := hide hbs
          have Hcr := hide hcr
          have Hlf := hide hlf
          have Hgot := hide hgot
          have Hb := hide hb
          have Hr := hide hr
          obtain ⟨n, hnn⟩ : ∃ n, rest.length = n := ⟨_, rfl⟩
          have Hn := hide hnn
          rw [hnn] at hrl hn Hbs ⊢
          have Hnl : Hid (n ≤ 600) := hide (by have := HLl.out; rw [← hcr, List.length_append] at this; omega)
          clear hc hbs hcr hlf hgot hb hend hnn hr hni
          have i2 : (0 : Int) < (n : Int) := by omega
          have i3 : (n : Int) ≤ (cap : Int) := by omega
          have i4 : (n : Int) ≤ 600 := by have := Hnl.out; omega
          have i5 : (0 : Int) ≤ (ni : Int) := by omega
          have i6 : (ni : Int) ≤ 50 := by omega
          go_upto_if 83 with fail
          go_cut [16] (fun v wx => wx = wr ∧ ∃ p : Nat, p ≤ n ∧ (ni = len1 → p = n) ∧ v = .int .i64 p)
          case first =>
            by_cases hlt : ni < len1
            · obtain ⟨b2, off2, ha2, hcell⟩ : ∃ b2 off2, a1 = some ⟨b2, off2, none⟩ ∧ wr.cell? ⟨b2, off2 + ni, none⟩ = some (.int .i64 (z1.getD ni 0)) := ints_at H1.out ni hlt (HbW.out.trans (Hb.out.mono HbW.out.size))
              subst ha2
              generalize z1.getD ni 0 = c at hcell
              obtain ⟨p, hp, hpl⟩ := at_is c n (by have := Hnl.out; omega)
              have i7 : (ni : Int) < (len1 : Int) := by omega
              go_wp2_with fail
              go_meet
              exact ⟨by first | rfl | trivial, p, hpl, fun h => by omega, by rw [hp]⟩
            · have i7 : ¬ (ni : Int) < (len1 : Int) := by omega
              go_wp2_with fail
              go_meet
              exact ⟨by first | rfl | trivial, n, Nat.le_refl _, fun _ => rfl, rfl⟩
          case rest =>
            obtain ⟨rfl, p, hp, hpe, rfl⟩ := hcut
            obtain ⟨hz, hsp⟩ := pieces_next con rest p L G Hcr.out HG.out
            have Hsp := hide hsp
            have Hll := hide (spl_left_len con)
            have Hcnt := hide (spl_count con)
            have Hcl : Hid (con.length ≤ 600) := hide (by have := HLl.out; rw [← Hcr.out, List.length_append] at this; omega)
            have Hci : Hid (InB con) := hide (fun z hz => HLi.out z (by rw [← Hcr.out]; exact List.mem_append.2 (.inl hz)))
            have Hri : Hid (InB rest) := hide (fun z hz => HLi.out z (by rw [← Hcr.out]; exact List.mem_append.2 (.inr hz)))
            have Hinn : Hid (InB ((spl con).2.1 ++ rest.take p)) := hide ((left_in con Hci.out).append (in_take Hri.out p))
            have Htl : Hid ((rest.take p).length ≤ 600) := hide (by rw [List.length_take]; have := Hn.out; have := Hnl.out; omega)
            have k6 := fun W B v (h : Ow W B v ((spl con).2.1 ++ rest.take p)) => split_any (Bs.own h) (Cp.own h) Hinn.out (by rw [List.length_append]; have := Hll.out; have := Htl.out; omega)
            rw [hz] at k6
            have K6 := hide k6
            have Hcnt2 := hide (spl_count ((spl con).2.1 ++ rest.take p))
            have FB : Hid (∀ W, Below wc.heap.size wc W → Bs W u12 (spl con).2.1 ∧ Bs W (.slice (some ⟨b, off, none⟩) p cap) (rest.take p)) := hide (fun W hW => ⟨Hlf.out.keep hW, bs_take (Hbs.out.keep (Hb.out.trans (hW.mono Hb.out.size))) p (by rw [Hn.out]; exact hp)⟩)
            have Hdrop : Hid (Bs W0 (.slice (if cap = p then some ⟨b, off, none⟩ else some ⟨b, off + p, none⟩) (n - p) (cap - p)) (rest.drop p)) := hide (bs_drop_if (by rw [Hn.out]; exact Hbs.out) Hn.out hn p hp)
            clear k6 hz hsp Hlf
            have hE := (Below.refl wc.heap.size wc).alloc (Nat.le_refl _) (.cells #[] 5)
            have HgL : Hid ((spl con).1.length ≤ 50) := hide (by have := Hcnt.out; have := Hcl.out; omega)
            have HfL : Hid ((spl ((spl con).2.1 ++ rest.take p)).1.length ≤ 100) := hide (by have := Hcnt2.out; rw [List.length_append] at this; have := Hll.out; have := Htl.out; omega)
            have Hl12 : Hid ((spl con).2.1.length ≤ 12) := hide (by have := Hll.out; omega)
            clear Hcnt Hcnt2 Hll Hinn
            generalize (spl ((spl con).2.1 ++ rest.take p)).1 = f1 at *
            generalize (spl ((spl con).2.1 ++ rest.take p)).2.1 = l1' at *
            generalize (spl con).2.1 = lf at *
            generalize (spl con).1 = gs at *
            have HT : Hid (∃ tp, rest.take p = tp) := hide ⟨_, rfl⟩
            generalize htp : rest.take p = tp at FB K6 Htl
            have Htp := hide htp
            clear htp HT
            have t0 : (0 : Int) ≤ (p : Int) := by omega
            have t1 : (p : Int) ≤ (n : Int) := by omega
            have t2 : (p : Int) ≤ (cap : Int) := by omega
            go_upto_region 23 with fail
            go_region_held3 (fun _ => True) (trivial)
              (first
                | (refine step_app (w0 := wc) ?_ (by rfl) (.tmp 96) (.tmp 97) (by rfl) _ _ (by rfl) (by rfl) [] lf ?_ (FB.out _ ?_).1 ?_ ?_; exact ⟨hE.os, hE.tape, hE.output, hE.size, hE.block⟩; exact own_empty _ _ (Nat.le_refl _) _ rfl; exact ⟨hE.os, hE.tape, hE.output, hE.size, hE.block⟩; (have := Hl12.out; simp; omega); intro v5' w5 hown5 hb5; rw [List.nil_append] at hown5)
                | (refine step_app (w0 := wc) ?_ (by rfl) (.tmp 98) (.tmp 101) (by rfl) _ _ (by rfl) (by rfl) lf tp ?_ (FB.out _ ?_).2 ?_ ?_; exact ⟨hb5.os, hb5.tape, hb5.output, hb5.size, hb5.block⟩; exact hown5; exact ⟨hb5.os, hb5.tape, hb5.output, hb5.size, hb5.block⟩; (have := Hl12.out; have := Htl.out; omega); intro v7' w7 hown7 hb7)
                | (go_at_call 6; refine (K6.out _ wc.heap.size _ ?_).mono ?_; exact hown7; rintro e w8 ⟨vf8, vl8, rfl, hot8, hown8, hb8⟩))
            have hc8 : Below wc.heap.size wc w8 := hb7.trans (hb8.mono hb7.size)
            have hgot8 : Ot w8 W0.heap.size u14 gs := Hgot.out.keep hc8
            have hsep8 : Sep u14 vl8 := fun g h1 h2 => by
              have := row_lt Hgot.out g h1
              have := own_row hown8 g h2
              have := hb7.size
              omega
            have hb08 : Below W0.heap.size W0 w8 := Hb.out.trans (hc8.mono Hb.out.size)
            have Hgot8 := hide hgot8
            have Hsep8 := hide hsep8
            have Hb08 := hide hb08
            have Hot8 := hide (Rt.own hot8)
            have Hown8 := hide hown8
            clear hc8 hgot8 hsep8 hb08 hot8 hown8 hb8 hb7 hown7 hb5 hown5 hE FB K6
            go_upto_region 26 with fail
            go_region_held3 (fun _ => True) (trivial)
              (first
                | (refine step_apptB (w0 := W0) ?_ (by rfl) (.tmp 109) (.tmp 110) (by rfl) _ _ (by rfl) (by rfl) gs f1 ?_ ?_ ?_ ?_; exact ⟨Hb08.out.os, Hb08.out.tape, Hb08.out.output, Hb08.out.size, Hb08.out.block⟩; exact Hgot8.out; exact Hot8.out; (have := HgL.out; have := HfL.out; omega); intro v9' w9 hot9 hg9 hb9))
            have hg9' : w8.drew.grownBy w9 u14.ownBlock := hg9
            have hl9 : Ow w9 w7.heap.size vl8 l1' := kept_next Hsep8.out (show Ow w8.drew w7.heap.size vl8 l1' from Hown8.out) hg9'
            have Hl9 := hide (Bs.own hl9)
            have Hot9 := hide hot9
            have Hb9 := hide hb9
            clear hg9 hg9' hl9 hot9 hb9 Hgot8 Hsep8 Hb08 Hot8 Hown8
            go_wp2_with fail
            go_roundw
            case rel =>
              refine ⟨ni + 1, con ++ rest.take p, rest.drop p, ?_, by omega, fun h => ?_, by go_num, Hdrop.out, ⟨_, _, _, rfl, by omega⟩, ?_, ?_, Hb9.out⟩
              · rw [List.append_assoc, List.take_append_drop]; exact Hcr.out
              · exact List.drop_eq_nil_of_le (by rw [Hn.out, hpe (by omega)]; omega)
              · rw [Hsp.out]; exact Hl9.out
              · rw [Hsp.out]; exact Hot9.out
            case measure => simp [intOf]; omega

theorem walk (a0 : Option Addr) (len0 cap0 : Nat) (ts0 : List Tl) (a1 : Option Addr) (len1 cap1 : Nat) (z1 : List Int) (w : World) (h0 : IsTs w a0 len0 ts0) (h1 : IsRow .i64 w a1 len1 cap1 z1) (_ : cap1 * Try.prog.bytesOf 3 ≤ 140737488351232) :
    Calls Try.prog 3 #[.slice a0 len0 cap0, .slice a1 len1 cap1] w fun e w' => e = .returned (.bool true) ∧ Below w.heap.size w w' := by
  by_cases hl0 : len0 ≤ 50
  · by_cases hl1 : len1 ≤ 50
    · exact walk_l a0 len0 cap0 ts0 a1 len1 cap1 z1 w h0 h1 hl0 hl1
    · have j0 : ¬ (50 : Int) < (len0 : Int) := by omega
      have j : (50 : Int) < (len1 : Int) := by omega
      clear h0 h1
      go_enter Try.func3, Try.ntmps3
      go_wp2_with fail
      refine (tawake_any _).mono ?_; rintro e w1 ⟨rfl, hb1⟩
      go_wp2_with fail
      refine (tawake_any _).mono ?_; rintro e w2 ⟨rfl, hb2⟩
      go_wp2_with fail
      go_ret
      exact ⟨rfl, hb1.trans (hb2.mono hb1.size)⟩
  · have j : (50 : Int) < (len0 : Int) := by omega
    clear h0 h1
    go_enter Try.func3, Try.ntmps3
    go_wp2_with fail
    refine (tawake_any _).mono ?_; rintro e w1 ⟨rfl, hb1⟩
    go_wp2_with fail
    refine (tawake_any _).mono ?_; rintro e w2 ⟨rfl, hb2⟩
    go_wp2_with fail
    go_ret
    exact ⟨rfl, hb1.trans (hb2.mono hb1.size)⟩

set_option maxRecDepth 100000 in
theorem lifted (os : Os) (started : os.Started) (H : Type) (enc : TypeId × Value → H) :
    ReturnsInHanded {} Try.checked os 3 .any (Rows.telePiecesSpec.pre6 enc Try.prog Try.f3 Rows.telePiecesRow.domain false) (Rows.telePiecesSpec.post enc Try.prog Try.f3 false true false false) := by
  refine returnsInHanded_of_change_sized (C := Try.checked) own started (by kernel_rfl) Try.func3
    (ChangeSpec.witness6 (enc := enc) (C := Try.checked) false ⟨#[], #[.slice none 0 0, .slice none 0 0], []⟩ 8 (by kernel_rfl) (by kernel_rfl) (by kernel_rfl) (by kernel_rfl)) ?_
  intro W base args ds gs before hval0 hW hcnd hsz0 _
  have hval : ∀ (j : Nat) t v, Try.f3.params[j]? = some t → args[j]? = some v → Value.okWide Try.prog W .any base t v := hval0
  have hsz : (DataW.weightsEach Try.prog (Try.f3.params.toList ++ Rows.telePiecesSpec.plain.varTypes Try.prog) (ds ++ gs)).all (· ≤ reachBytes) = true := hsz0
  have hW' := hW
  obtain ⟨p, q, hA0, hV, rfl, hfz, hnd⟩ := hW
  have hA : DataW.TrodAll enc Try.prog W 0 (fun _ => true) true Try.f3.params.toList args.toList ds p := hA0
  rw [Try.params3] at hA hval hsz
  obtain ⟨v0, vs0, d0, ds0, p0, q0, hargs, rfl, rfl, h0, r0⟩ := trodAll_cons hA
  obtain ⟨v1, vs1, d1, ds1, p1, q1, rfl, rfl, rfl, h1, r1⟩ := trodAll_cons r0
  obtain ⟨rfl, rfl, rfl⟩ := trodAll_nil r1
  obtain rfl : args = #[v0, v1] := by cases args; simp_all
  obtain ⟨rfl, rfl⟩ := trodVars_none hV
  obtain ⟨a0, len0, cap0, rfl⟩ := okWide_slice Try.underlying22 (hval 0 22 v0 rfl rfl)
  have k0 := h0
  have lt0 : ∀ x ∈ p0, x.block < W.heap.size := by obtain ⟨m, hm⟩ := k0; exact DataW.trod_lt m _ _ _ hm
  obtain ⟨ts0, w0⟩ : ∃ ts, IsTs W a0 len0 ts := by
    obtain ⟨fuel, hf⟩ := h0
    exact teles_of_trod (a := a0) (len := len0) (cap := cap0) hf (by simp [Value.cells])
  obtain ⟨a1, len1, cap1, rfl⟩ := okWide_slice Try.underlying23 (hval 1 23 v1 rfl rfl)
  have k1 := h1
  have lt1 : ∀ x ∈ p1, x.block < W.heap.size := by obtain ⟨m, hm⟩ := k1; exact DataW.trod_lt m _ _ _ hm
  obtain ⟨z1, w1⟩ : ∃ zs, IsRow .i64 W a1 len1 cap1 zs := by
    obtain ⟨fuel, hf⟩ := h1
    rcases open_ints Try.underlying23 Try.underlying3 (by kernel_rfl) hf with ⟨hcs, _⟩ | ⟨x, l, c, zs, hcs, _, hl, hm, hz, _, hcell, hwz⟩
    · simp [Value.cells] at hcs
      obtain ⟨rfl, rfl, rfl⟩ := hcs
      exact ⟨[], .inl ⟨rfl, rfl, rfl, rfl⟩⟩
    · simp [Value.cells] at hcs
      obtain ⟨rfl, rfl, rfl⟩ := hcs
      exact ⟨zs, .inr ⟨_, rfl, hl, hm, by simpa using hz, hcell, hwz⟩⟩
  have s1 : cap1 * Try.prog.bytesOf 3 ≤ 140737488351232 := by
    obtain ⟨fuel, hf⟩ := k1
    rcases open_ints Try.underlying23 Try.underlying3 (by kernel_rfl) hf with ⟨hcs, _⟩ | ⟨x, l, c, zs, hcs, _, hl, hm, hz, hx, _, _⟩
    · simp [Value.cells] at hcs
      rw [hcs.2.2]; omega
    · simp [Value.cells] at hcs
      obtain ⟨rfl, rfl, rfl⟩ := hcs
      have hd : d1 = _ := congrArg Prod.fst hx
      have := sized_slice hsz (j := 1) (t := 23) (e := 3) rfl (by rw [hd]; rfl) Try.underlying23
      simp only [lits, List.length_map, List.length_take, List.length_drop, reachBytes] at this
      simp only [if_true] at hz
      rw [hz, Nat.min_eq_left hl, Nat.add_sub_cancel' hl] at this
      exact this
  clear hA0 hval0
  refine (walk a0 len0 cap0 ts0 a1 len1 cap1 z1 W w0 w1 s1).mono fun e W' ⟨he, bel⟩ => ?_
  subst he
  exact ⟨_, rfl, _, _, _, [], _, [], hW', trodAll_mk1 (shut_bool Try.underlying4 _), (trodAll_cons_mk (Below.trod laidOut (by kernel_rfl) (of_decide_eq_true (by kernel_rfl)) k0 bel lt0) (trodAll_cons_mk (Below.trod laidOut (by kernel_rfl) (of_decide_eq_true (by kernel_rfl)) k1 bel lt1) trodAll_mk0)), rfl, bel.frame _, fun h => by cases h⟩

theorem over : Rows.telePiecesRow.holds Try.pinned (OpenSpec.ofChange Rows.telePiecesSpec) :=
  OpenClaim.holds_of_wide 3 Try.f3 rfl rfl rfl rfl rfl rfl rfl ⟨rfl, rfl, rfl, rfl, rfl⟩ rfl rfl rfl rfl rfl (by kernel_rfl) Try.func3 (by kernel_rfl)
    (of_decide_eq_true (by kernel_rfl)) (by unfold Func.isWrapper; first | (rw [if_pos (by decide +kernel)]; kernel_rfl) | (rw [if_neg (by decide +kernel)]; exact ⟨rfl, rfl⟩))
    (fun os started H enc _ => lifted os started H enc)

theorem proved : Rows.TelePiecesSaid := over
end Go.Proofs.Ytapbjfllcjfpaaa.telePieces
