/- For every number of 16 bits and every slice of slices of bytes the law IntakeOwn answers true: pieces that are handed in aren't kept, and what is got is new memory; no conditions. -/
import Derived.Test.YtmbgcbbpkbaajaaOwnM
namespace Go.Proofs.Ytmbgcbbpkbaajaa.intakeOwn
open Go.ChangeShapes Go.WideShapes Go.ChangeAt Go.RowKit
set_option linter.unusedVariables false

theorem own : ownKnob Try.prog.godebug = none := by kernel_rfl
theorem laidOut : laidOutB Try.prog = true := by kernel_rfl

theorem w16 (a : Int) : IntKind.u16.wrap a = a % 65536 := by unfold IntKind.wrap; simp [IntKind.bits, IntKind.signed]
/-- the data that the law hands in -/
def dsOf (ls : List (List Int)) (i : Nat) : List Int := ((ls[i]?).getD []).take 200

/-- one of the slices that came in, and its first bytes -/
theorem bss_at {w : World} {a : Option Addr} {len : Nat} {ls : List (List Int)} (h : IsBss w a len ls) (i : Nat) (hi : i < len) : ∃ b off a' cap' m l, a = some ⟨b, off, none⟩ ∧ b < w.heap.size ∧ w.cell? ⟨b, off + i, none⟩ = some (.slice a' l cap') ∧ m ≤ l ∧ l ≤ cap' ∧ cap' ≤ 9223372036854775807 ∧ min l 200 = m ∧ bytesE.Rd w (.slice a' m cap') (dsOf ls i) ∧ (dsOf ls i).length = m := by
  have hi' : i < ls.length := by rw [h.1]; exact hi
  obtain ⟨b, off, v, h1, h2, h3, a', cap', rfl, hr, hl, hc⟩ := h.2 i (ls[i]) (List.getElem?_eq_getElem hi')
  have e : dsOf ls i = (ls[i]).take (min (ls[i]).length 200) := by
    unfold dsOf
    rw [List.getElem?_eq_getElem hi']
    show (ls[i]).take 200 = _
    rcases Nat.le_total (ls[i]).length 200 with h' | h'
    · rw [Nat.min_eq_left h', List.take_of_length_le h', List.take_of_length_le (Nat.le_refl _)]
    · rw [Nat.min_eq_right h']
  refine ⟨b, off, a', cap', min (ls[i]).length 200, (ls[i]).length, h1, h2, h3, Nat.min_le_left _ _, hl, by unfold maxLen at hc; omega, rfl, ?_, ?_⟩
  · rw [e]; exact hr.take _ (Nat.min_le_left _ _)
  · rw [e, List.length_take]; omega

theorem wtg_len {S : Ik} {r : List Int} (h : Wtg S r) : (r.length : Int) ≤ 65536 := by
  have key : ∀ (r : List Int) (a : Int), a ≤ 65536 → r.Pairwise (fun x y => up S.nx x < up S.nx y) → (∀ x ∈ r, a ≤ up S.nx x) → (r.length : Int) ≤ 65536 - a := by
    intro r
    induction r with
    | nil => intro a ha _ _; simp; omega
    | cons y r ih =>
      intro a ha hp hx
      obtain ⟨h1, h2⟩ := List.pairwise_cons.1 hp
      have hy := hx y (by simp)
      have hu := up_in S.nx y
      have := ih (up S.nx y + 1) (by omega) h2 (fun x hx => by have := h1 x hx; omega)
      simp only [List.length_cons]
      omega
  have := key r 0 (by omega) h.1 (fun x _ => (up_in S.nx x).1)
  omega

set_option maxHeartbeats 4000000 in
set_option maxRecDepth 100000 in
theorem walk (n0 : Int) (a1 : Option Addr) (len1 cap1 : Nat) (ls1 : List (List Int)) (w : World) (h0 : 0 ≤ n0 ∧ n0 ≤ 65535) (h1 : IsBss w a1 len1 ls1) (s1 : len1 ≤ maxLen) :
    Calls Try.prog 6 #[.int .u16 n0, .slice a1 len1 cap1] w fun e w' => e = .returned (.bool true) ∧ Below w.heap.size w w' := by
  obtain ⟨f0, f1⟩ := h0
  have hl : len1 ≤ 9223372036854775807 := by unfold maxLen at s1; omega
  have H1 := hide h1
  clear h1 s1
  obtain ⟨n, hn⟩ : ∃ n : Nat, min (len1 : Int) 60 = (n : Int) := ⟨min len1 60, by omega⟩
  have n1 : (n : Int) ≤ 60 := by omega
  have n2 : (n : Int) ≤ (len1 : Int) := by omega
  have n3 : (0 : Int) ≤ (n : Int) := by omega
  have j0 : (len1 : Int) ≤ 9223372036854775807 := by omega
  go_enter Try.func6, Try.ntmps6
  go_upto_region 3 with (go_at_call 9; refine (awake_any _).mono ?_; rintro e wa ⟨rfl, Ba⟩)
  obtain ⟨g0, gg1, gg2⟩ := hd_ge wa.heap.size
  go_upto_region 6 with (go_at_call 10; refine (new_ok 64 n0 _ (by omega) (by omega) (by omega) (by omega)).mono ?_; rintro e w1 ⟨rfl, I1, B1, Z1⟩)
  obtain ⟨h, hh⟩ : ∃ h, hdAt wa.heap.size = h := ⟨_, rfl⟩
  have hg : wa.heap.size + 2 = h.g := by rw [← hh]; rfl
  rw [hh] at I1 g0 gg1 gg2
  rw [hg]
  have q0 : w.heap.size ≤ h.g := Nat.le_trans Ba.size g0
  have q1 : w.heap.size ≤ h.mb := Nat.le_trans Ba.size gg1
  have q2 : w.heap.size ≤ h.c := Nat.le_trans Ba.size gg2
  have HB1 := hide (Ba.trans (B1.mono Ba.size))
  have HH1 := hide I1
  clear I1 B1 Z1 Ba hh hg g0 gg1 gg2
  go_upto_region 8 with fail
  go_loopw [8] (fun v8 wr => ∃ (K : Nat) (S : Ik), K ≤ n ∧ v8 = .int .i64 ((K : Int) - 1) ∧ Hid (Has wr h S) ∧ Hid ((0 < K → OBk h.g n0 n K (dsOf ls1) S) ∧ (K = 0 → OQ h.g n 0 (dsOf ls1) S)) ∧ Hid (Blk S (fun c => w.heap.size ≤ c ∧ c < wr.heap.size)) ∧ Hid (Below w.heap.size w wr)) (fun v8 _ => (intOf v8 + 1).toNat)
  case atStart => exact ⟨n, _, by omega, by go_num, HH1, hide ⟨fun _ => obk_new _ _ _ _, fun e => by subst e; exact oq_new _ _ _⟩, hide (Blk.new _ _ _), HB1⟩
  case round =>
    clear HH1 HB1
    obtain ⟨K, S, hK, rfl, HH, HS, HK, HB⟩ := hrel
    by_cases hK0 : K = 0
    · subst hK0
      have ek0 : ((0 : Nat) : Int) - 1 = -1 := by omega
      rw [ek0]
      clear ek0
      have HQ : Hid (OQ h.g n 0 (dsOf ls1) S) := hide (HS.out.2 rfl)
      have HL : Hid (Blk S (fun c => w.heap.size ≤ c)) := hide (HK.out.imp fun c hc => hc.1)
      clear HS HK
      go_wp2_with fail
      go_loopw [13] (fun v13 wr => ∃ (k : Nat) (S : Ik), k ≤ n ∧ v13 = .int .i64 (k : Int) ∧ Hid (OQ h.g n k (dsOf ls1) S) ∧ Hid (Has wr h S) ∧ Hid (Blk S (fun c => w.heap.size ≤ c)) ∧ Hid (Below w.heap.size w wr)) (fun v13 _ => (60 - intOf v13).toNat)
      case atStart => exact ⟨0, S, by omega, rfl, HQ, HH, HL, HB⟩
      case round =>
        clear HQ HH HL HB
        obtain ⟨k, S, hk, rfl, HQ, HH, HL, HB⟩ := hrel
        have k0 : (0 : Int) ≤ (k : Int) := by omega
        by_cases hkn : k < n
        · have k1 : (k : Int) < (n : Int) := by omega
          have k2 : (k : Int) < (len1 : Int) := by omega
          obtain ⟨p, rr, hq, hp, hq', hbl⟩ := oq_get HQ.out hkn
          have K11 := hide (get_some HH.out hq)
          have HQ' := hide hq'
          have HL' := hide (HL.out.get hq)
          have Hbl := hide hbl
          clear hq' hbl hq
          go_upto_region 28 with (go_at_call 11; refine K11.out.mono ?_; rintro e w5 ⟨v5, rfl, D5, H5, O5, Z5⟩)
          have HH5 := hide H5
          have HB5 := hide (O5.below HB.out HB.out.size q0 q1 q2)
          have HO5 := hide D5.1
          have HD5 := hide D5.2
          obtain ⟨a5, cap5, rfl⟩ := D5.1.rd.form
          rw [hp] at HO5 ⊢
          clear H5 O5 Z5 D5 K11
          obtain ⟨b1, off1, a', cap', m, l, rfl, hb1, hcell0, hml, hlc, hcm, hmin, hrd, hdl⟩ := bss_at H1.out k (by omega)
          have c1 : w5.cell? ⟨b1, off1 + k, none⟩ = some (.slice a' l cap') := by rw [HB5.out.cell hb1]; exact hcell0
          have hm1 : min (l : Int) 200 = (m : Int) := by omega
          have m0 : (0 : Int) ≤ (m : Int) := by omega
          have m1 : (m : Int) ≤ (cap' : Int) := by omega
          have m2 : (m : Int) ≤ 200 := by omega
          have m3 : (cap' : Int) ≤ 9223372036854775807 := by omega
          have cv1 : ∀ q, (convert 33 9 (.slice a5 (dsOf ls1 k).length cap5)).run Try.prog (w5.drewN q) = .ok (.string (str (dsOf ls1 k))) (w5.drewN q) := fun q => conv_str (HO5.out.rd.keep ⟨rfl, rfl, rfl, Nat.le_refl _, fun _ _ => rfl⟩)
          have cv2 : ∀ q, (convert 33 9 (.slice a' m cap')).run Try.prog (w5.drewN q) = .ok (.string (str (dsOf ls1 k))) (w5.drewN q) := fun q => conv_str (hrd.keep ⟨HB5.out.os, HB5.out.tape, HB5.out.output, HB5.out.size, HB5.out.block⟩)
          rw [hdl] at cv1 HO5 ⊢
          have Hdl := hide hdl
          clear hcell0 hrd hmin hdl
          go_quiet (fail)
          have HH6 : Hid (Has (w5.drewN nq) h { S with q := rr }) := hide (HH5.out.drewN nq)
          have HB6 : Hid (Below w.heap.size w (w5.drewN nq)) := hide ⟨HB5.out.os, HB5.out.tape, HB5.out.output, HB5.out.size, HB5.out.block⟩
          have HO6 : Hid (bytesE.Own (w5.drewN nq) 0 (.slice a5 m cap5) (dsOf ls1 k)) := HO5
          generalize w5.drewN nq = w6 at *
          clear cv1 cv2 c1 HO5 HH5 HB5
          go_wp2_with fail
          go_loopw [114] (fun v114 wr => ∃ (j : Nat) (xs : List Int), j ≤ m ∧ v114 = .int .i64 (j : Int) ∧ xs.length = m ∧ Hid (bytesE.Own wr 0 (.slice a5 m cap5) xs) ∧ Hid (Has wr h { S with q := rr }) ∧ Hid (Below w.heap.size w wr)) (fun v114 _ => (200 - intOf v114).toNat)
          case atStart => exact ⟨0, _, by omega, rfl, Hdl.out, HO6, HH6, HB6⟩
          case round =>
            clear HO6 HH6 HB6
            obtain ⟨j, xs, hj, rfl, hxs, HO6, HH6, HB6⟩ := hrel
            have jj0 : (0 : Int) ≤ (j : Int) := by omega
            by_cases hjm : j < m
            · have jj1 : (j : Int) < (m : Int) := by omega
              obtain ⟨g9, rfl⟩ := HO6.out.where' (by omega)
              obtain ⟨s0, s1⟩ := HO6.out.at1 (Value.int .u8) (fun _ => rfl) rfl j (by omega)
              obtain ⟨o1, o2, o3⟩ := HH6.out.off bytes58 HO6.out g9 rfl
              have eg : g9 = p.1 := HD5.out g9 rfl
              have HW : Hid (∀ u, Has (wr.setCell ⟨g9, j, none⟩ u) h { S with q := rr }) := hide (fun u => by
                rcases Hbl.out with e | e
                · exact absurd (eg.trans e) o1
                · exact HH6.out.write e (by intro hc; rcases hc with e' | e' <;> omega) o1 o2 o3 j u)
              have HOw : Hid (∀ y, bytesE.Own (wr.setCell ⟨g9, j, none⟩ (.int .u8 y)) 0 (.slice (some ⟨g9, 0, none⟩) m cap5) (xs.set j y)) := hide (fun y => HO6.out.set (Value.int .u8) (fun _ => rfl) rfl j y)
              have HBw : Hid (∀ u, Below w.heap.size w (wr.setCell ⟨g9, j, none⟩ u)) := hide (fun u => HB6.out.setCell (p := ⟨g9, j, none⟩) (by show w.heap.size ≤ g9; have := HL'.out.2; omega) u)
              generalize xs[j] = y at s0
              clear o1 o2 o3 eg
              go_wp2_with fail
              go_roundw
              case rel => exact ⟨j + 1, _, by omega, by go_num, by rw [List.length_set]; exact hxs, hide (HOw.out _), hide (HW.out _), hide (HBw.out _)⟩
              case measure => simp [intOf]; omega
            · have hjm' : j = m := by omega
              subst hjm'
              go_wp2_with fail
              go_roundw
              case rel => exact ⟨k + 1, _, by omega, by go_num, HQ', HH6, hide HL'.out.1, HB6⟩
              case measure => simp [intOf]; omega
        · have hkn' : k = n := by omega
          subst hkn'
          have hq : S.q.length = 0 := by have := HQ.out.ql; omega
          have K15 := hide (ready_any HH.out)
          rw [hq] at K15
          clear hq
          go_wp2_with (go_at_call 15; refine K15.out.mono ?_; rintro e w5 ⟨rfl, rfl⟩)
          go_ret
          exact ⟨rfl, HB.out⟩
    · obtain ⟨k, rfl⟩ : ∃ k, K = k + 1 := ⟨K - 1, by omega⟩
      have hBk := HS.out.1 (by omega)
      have hk : k < n := by omega
      have ek : ((k + 1 : Nat) : Int) - 1 = (k : Int) := by omega
      rw [ek]
      have k0 : (0 : Int) ≤ (k : Int) := by omega
      have k1 : (k : Int) < (len1 : Int) := by omega
      obtain ⟨b1, off1, a', cap', m, l, rfl, hb1, hcell0, hml, hlc, hcm, hmin, hrd, hdl⟩ := bss_at H1.out k (by omega)
      have hcell : ∀ W, Below w.heap.size w W → W.cell? ⟨b1, off1 + k, none⟩ = some (.slice a' l cap') := fun W hW => by rw [hW.cell hb1]; exact hcell0
      have c1 := hcell wr HB.out
      have hm1 : min (l : Int) 200 = (m : Int) := by omega
      have m0 : (0 : Int) ≤ (m : Int) := by omega
      have m1 : (m : Int) ≤ (cap' : Int) := by omega
      have m2 : (m : Int) ≤ 200 := by omega
      have m3 : (cap' : Int) ≤ 9223372036854775807 := by omega
      go_upto_region 10 with fail
      have HBk := hide hBk
      have HRd := hide (fun W (hW : Below w.heap.size w W) => hrd.keep hW)
      have HC := hide hcell
      have Hdl := hide hdl
      have HE := hide (HB.out.alloc HB.out.size (.cells #[] 5))
      have c2 := hcell _ HE.out
      clear hBk HS hcell hcell0 hrd hdl hmin
      have HE2 : Hid (Below wr.heap.size wr (wr.alloc (.cells #[] 5))) := hide ((Below.refl _ _).alloc (Nat.le_refl _) _)
      go_cut [9] (fun v9 wx => Hid (bytesE.Own wx wr.heap.size v9 (dsOf ls1 k)) ∧ Hid (Below wr.heap.size wr wx))
      case first =>
        go_region_held3 (fun W => W.cell? ⟨b1, off1 + k, none⟩ = some (.slice a' l cap')) (first | exact c5 | exact c1 | exact c2)
          (first
            | (refine bytesE.step (w0 := wr) ?_ (by rfl) (.tmp 39) (.tmp 50) (by rfl) _ _ (by rfl) (by rfl) [] (dsOf ls1 k) ?_ (HRd.out _ ?_) ?_ ?_; exact ⟨HE2.out.os, HE2.out.tape, HE2.out.output, HE2.out.size, HE2.out.block⟩; exact El.Own.new bytesE _ _ (Nat.le_refl _) #[] [] rfl (by simp) _ _ _ rfl rfl rfl; exact ⟨HE.out.os, HE.out.tape, HE.out.output, HE.out.size, HE.out.block⟩; (have := Hdl.out; simp; omega); intro v5 w5 hown5 hg5 hz5 hb5; have c5 := HC.out w5 (HB.out.trans (hb5.mono HB.out.size)))
            | fail)
        all_goals
          go_wp2_with fail
          go_meet
          exact ⟨hide hown5, hide hb5⟩
      case rest =>
        obtain ⟨HO5, HB5⟩ := hcut
        obtain ⟨wA, rfl⟩ : ∃ W, W = wr := ⟨_, rfl⟩
        clear HRd HC HE HE2 c1 c2
        obtain ⟨a9, cap9, rfl⟩ := HO5.out.rd.form
        rw [Hdl.out] at HO5 ⊢
        have HH5 := hide (HH.out.keep HB5.out)
        have HzA := hide HB.out.size
        have HB05 := hide (HB.out.trans (HB5.out.mono HB.out.size))
        have hdlen : (dsOf ls1 k).length ≤ 256 := by have := Hdl.out; omega
        have K12 := hide (take_own HH5.out HBk.out.inw (by have := HBk.out.cnt; omega) HO5.out.rd ((n0 + k) % 65536) (by omega) (by omega) (obk_code HBk.out (by omega) hK _ hdlen))
        have ew : IntKind.u16.wrap (n0 + (k : Int)) = (n0 + k) % 65536 := w16 _
        have ewa : IntKind.u16.wrap (k : Int) = (k : Int) := by rw [w16]; omega
        obtain ⟨x, hx⟩ : ∃ x, (n0 + (k : Int)) % 65536 = x := ⟨_, rfl⟩
        rw [hx] at K12 ew
        have Hx := hide hx
        clear hx hdlen
        go_wp2_with (go_at_call 12; refine K12.out.mono ?_; rintro e w6 ⟨rfl, p, j, hp, hpb, hpz, jj1, jj2, I6, N6, O6⟩)
        have HH6 := hide I6
        have HB6 := hide (O6.below HB05.out HB05.out.size q0 q1 q2)
        have HO6 := hide (HH5.out.row bytes58 HO5.out O6)
        have HS6 : Hid ((0 < k → OBk h.g n0 n k (dsOf ls1) ((S.put x p).go j)) ∧ (k = 0 → OQ h.g n 0 (dsOf ls1) ((S.put x p).go j))) := hide (by
          have hb' : Blk S (· < wc.heap.size) := HK.out.imp fun c hc => Nat.lt_of_lt_of_le hc.2 HB5.out.size
          rw [← Hx.out] at jj1 jj2 N6 ⊢
          refine ⟨fun h0 => obk_next HBk.out (by omega) hK h0 hp ⟨f0, f1⟩ hb' hpb jj1 N6, fun h0 => ?_⟩
          subst h0
          exact obk_full HBk.out (by omega) (by omega) hp ⟨f0, f1⟩ hb' hpb jj1 jj2)
        have HK6 : Hid (Blk ((S.put x p).go j) (fun c => (w.heap.size ≤ c ∧ c < w6.heap.size) ∧ (c < wA.heap.size ∨ c = h.g ∨ wc.heap.size ≤ c))) := hide (by
          refine Blk.go (Blk.put (HK.out.imp fun c hc => ⟨⟨hc.1, ?_⟩, .inl hc.2⟩) x p ⟨⟨?_, hpz⟩, ?_⟩) jj1
          · exact Nat.lt_of_lt_of_le hc.2 (Nat.le_trans HB5.out.size O6.size)
          · rcases hpb with e | e
            · rw [e]; exact q0
            · exact Nat.le_trans HB05.out.size e
          · rcases hpb with e | e
            · exact .inr (.inl e)
            · exact .inr (.inr e))
        have Hsz6 := hide O6.size
        generalize (S.put x p).go j = S1 at *
        clear I6 O6 N6 jj1 jj2 hp hpb hpz K12 HBk HK HH HB
        go_wp2_with fail
        go_loopw [62] (fun v62 wr => ∃ (j : Nat) (xs : List Int), j ≤ m ∧ v62 = .int .i64 (j : Int) ∧ xs.length = m ∧ Hid (bytesE.Own wr wA.heap.size (.slice a9 m cap9) xs) ∧ Hid (Has wr h S1) ∧ Hid (Below w.heap.size w wr) ∧ Hid (wr.heap.size = w6.heap.size)) (fun v62 _ => (200 - intOf v62).toNat)
        case atStart => exact ⟨0, _, by omega, rfl, Hdl.out, HO6, HH6, HB6, hide rfl⟩
        case round =>
          clear HO6 HH6 HB6
          obtain ⟨j, xs, hj, rfl, hxs, HO6, HH6, HB6, HZ6⟩ := hrel
          have jj0 : (0 : Int) ≤ (j : Int) := by omega
          by_cases hjm : j < m
          · have jj1 : (j : Int) < (m : Int) := by omega
            obtain ⟨g9, rfl⟩ := HO6.out.where' (by omega)
            obtain ⟨s0, s1⟩ := HO6.out.at1 (Value.int .u8) (fun _ => rfl) rfl j (by omega)
            have g1 : g9 < wc.heap.size := HO5.out.lt g9 rfl
            have g2 : wA.heap.size ≤ g9 := HO5.out.ge g9 rfl
            obtain ⟨o1, o2, o3⟩ := HH6.out.off bytes58 HO6.out g9 rfl
            have HW : Hid (∀ u, Has (wr.setCell ⟨g9, j, none⟩ u) h S1) := hide (fun u => HH6.out.write HK6.out (by intro hc; rcases hc.2 with e | e | e <;> omega) o1 o2 o3 j u)
            have HOw : Hid (∀ y, bytesE.Own (wr.setCell ⟨g9, j, none⟩ (.int .u8 y)) wA.heap.size (.slice (some ⟨g9, 0, none⟩) m cap9) (xs.set j y)) := hide (fun y => HO6.out.set (Value.int .u8) (fun _ => rfl) rfl j y)
            have HBw : Hid (∀ u, Below w.heap.size w (wr.setCell ⟨g9, j, none⟩ u)) := hide (fun u => HB6.out.setCell (p := ⟨g9, j, none⟩) (by show w.heap.size ≤ g9; have := HzA.out; omega) u)
            have HZw : Hid (∀ u, (wr.setCell ⟨g9, j, none⟩ u).heap.size = w6.heap.size) := hide (fun u => by rw [← HZ6.out]; simp)
            generalize xs[j] = y at s0
            clear o1 o2 o3 g1 g2
            go_wp2_with fail
            go_roundw
            case rel => exact ⟨j + 1, _, by omega, by go_num, by rw [List.length_set]; exact hxs, hide (HOw.out _), hide (HW.out _), hide (HBw.out _), hide (HZw.out _)⟩
            case measure => simp [intOf]; omega
          · have hjm' : j = m := by omega
            subst hjm'
            obtain ⟨wB, rfl⟩ : ∃ W, W = wr := ⟨_, rfl⟩
            have K17 := hide (waiting_any HH6.out (by
              by_cases hk0 : k = 0
              · have := (HS6.out.2 hk0).cnt; omega
              · have := (HS6.out.1 (by omega)).cnt; omega))
            go_upto_region 19 with (go_at_call 17; refine K17.out.mono ?_; rintro e w7 ⟨v7, r7, rfl, ho7, hw7, hb7⟩)
            obtain ⟨a7, cap7, rfl⟩ := (Bs.own ho7).form
            have HO7 := hide (ow_el ho7)
            have HH7 := hide (HH6.out.keep hb7)
            have HB7 := hide (HB6.out.trans (hb7.mono HB6.out.size))
            have HZ7 : Hid (w6.heap.size ≤ w7.heap.size) := hide (by have := HZ6.out; have := hb7.size; omega)
            obtain ⟨r, hr⟩ : ∃ r : Nat, r7.length = r := ⟨_, rfl⟩
            rw [hr] at HO7 ⊢
            have Hr := hide hr
            have hr6 : (r : Int) ≤ 65536 := by rw [← hr]; exact wtg_len hw7
            clear ho7 hw7 hb7 hr K17
            go_wp2_with fail
            go_loopw [76] (fun v76 wr => ∃ (i : Nat) (xs : List Int), i ≤ r ∧ v76 = .int .i64 (i : Int) ∧ xs.length = r ∧ Hid (u16sE.Own wr wB.heap.size (.slice a7 r cap7) xs) ∧ Hid (Has wr h S1) ∧ Hid (Below w.heap.size w wr) ∧ Hid (wr.heap.size = w7.heap.size)) (fun v76 _ => (r - intOf v76).toNat)
            case atStart => exact ⟨0, _, by omega, rfl, Hr.out, HO7, HH7, HB7, hide rfl⟩
            case round =>
              clear HO7 HH7 HB7
              obtain ⟨i, ys, hi, rfl, hys, HO7, HH7, HB7, HZ8⟩ := hrel
              have ii0 : (0 : Int) ≤ (i : Int) := by omega
              by_cases hir : i < r
              · have ii1 : (i : Int) < (r : Int) := by omega
                obtain ⟨g7, rfl⟩ := HO7.out.where' (by omega)
                obtain ⟨s0, s1⟩ := HO7.out.at1 (Value.int .u16) (fun _ => rfl) rfl i (by omega)
                have g2 : wB.heap.size ≤ g7 := HO7.out.ge g7 rfl
                obtain ⟨o1, o2, o3⟩ := HH7.out.off (show u16sE.e ≠ 58 by decide) HO7.out g7 rfl
                have HW : Hid (∀ u, Has (wr.setCell ⟨g7, i, none⟩ u) h S1) := hide (fun u => HH7.out.write HK6.out (by intro hc; have := hc.1.2; have := HZ6.out; omega) o1 o2 o3 i u)
                have HOw : Hid (∀ y, u16sE.Own (wr.setCell ⟨g7, i, none⟩ (.int .u16 y)) wB.heap.size (.slice (some ⟨g7, 0, none⟩) r cap7) (ys.set i y)) := hide (fun y => HO7.out.set (Value.int .u16) (fun _ => rfl) rfl i y)
                have HBw : Hid (∀ u, Below w.heap.size w (wr.setCell ⟨g7, i, none⟩ u)) := hide (fun u => HB7.out.setCell (p := ⟨g7, i, none⟩) (by show w.heap.size ≤ g7; have := HB6.out.size; omega) u)
                have HZw : Hid (∀ u, (wr.setCell ⟨g7, i, none⟩ u).heap.size = w7.heap.size) := hide (fun u => by rw [← HZ8.out]; simp)
                generalize ys[i] = y at s0
                clear o1 o2 o3 g2
                go_wp2_with fail
                go_roundw
                case rel => exact ⟨i + 1, _, by omega, by go_num, by rw [List.length_set]; exact hys, hide (HOw.out _), hide (HW.out _), hide (HBw.out _), hide (HZw.out _)⟩
                case measure => simp [intOf]; omega
              · have hir' : i = r := by omega
                subst hir'
                have HK7 : Hid (Blk S1 (fun c => w.heap.size ≤ c ∧ c < wr.heap.size)) := hide (HK6.out.imp fun c hc => ⟨hc.1.1, by have := HZ8.out; have := HZ7.out; have := hc.1.2; omega⟩)
                go_wp2_with fail
                go_roundw
                case rel => exact ⟨k, S1, by omega, by go_num, HH7, HS6, HK7, HB7⟩
                case measure => simp [intOf]

set_option maxRecDepth 100000 in
theorem lifted (os : Os) (started : os.Started) (H : Type) (enc : TypeId × Value → H) :
    ReturnsInHanded {} Try.checked os 6 .any (Rows.intakeOwnSpec.pre6 enc Try.prog Try.f6 Rows.intakeOwnRow.domain false) (Rows.intakeOwnSpec.post enc Try.prog Try.f6 false true false false) := by
  refine returnsInHanded_of_change_sized (C := Try.checked) own started (by kernel_rfl) Try.func6
    (ChangeSpec.witness6 (enc := enc) (C := Try.checked) false ⟨#[], #[.int .u16 0, .slice none 0 0], []⟩ 8 (by kernel_rfl) (by kernel_rfl) (by kernel_rfl) (by kernel_rfl)) ?_
  intro W base args ds gs before hval0 hW hcnd hsz0 _
  have hval : ∀ (j : Nat) t v, Try.f6.params[j]? = some t → args[j]? = some v → Value.okWide Try.prog W .any base t v := hval0
  have hsz : (DataW.weightsEach Try.prog (Try.f6.params.toList ++ Rows.intakeOwnSpec.plain.varTypes Try.prog) (ds ++ gs)).all (· ≤ reachBytes) = true := hsz0
  have hW' := hW
  obtain ⟨p, q, hA0, hV, rfl, hfz, hnd⟩ := hW
  have hA : DataW.TrodAll enc Try.prog W 0 (fun _ => true) true Try.f6.params.toList args.toList ds p := hA0
  rw [Try.params6] at hA hval hsz
  obtain ⟨v0, vs0, d0, ds0, p0, q0, hargs, rfl, rfl, h0, r0⟩ := trodAll_cons hA
  obtain ⟨v1, vs1, d1, ds1, p1, q1, rfl, rfl, rfl, h1, r1⟩ := trodAll_cons r0
  obtain ⟨rfl, rfl, rfl⟩ := trodAll_nil r1
  obtain rfl : args = #[v0, v1] := by cases args; simp_all
  obtain ⟨rfl, rfl⟩ := trodVars_none hV
  have k0 := h0
  have lt0 : ∀ x ∈ p0, x.block < W.heap.size := by obtain ⟨m, hm⟩ := k0; exact DataW.trod_lt m _ _ _ hm
  obtain ⟨n0, rfl⟩ := okWide_int Try.underlying22 (hval 0 22 v0 rfl rfl)
  have w0 : (Lit.int .u16 n0).wf = true := by
    obtain ⟨fuel, hf⟩ := h0
    obtain ⟨m, e, _, hw⟩ := DataW.trod_int Try.underlying22 hf
    simp [Value.cells] at e
    rw [e]; exact hw
  obtain ⟨a1, len1, cap1, rfl⟩ := okWide_slice Try.underlying49 (hval 1 49 v1 rfl rfl)
  have k1 := h1
  have lt1 : ∀ x ∈ p1, x.block < W.heap.size := by obtain ⟨m, hm⟩ := k1; exact DataW.trod_lt m _ _ _ hm
  obtain ⟨⟨ls1, w1⟩, s1⟩ : (∃ ls, IsBss W a1 len1 ls) ∧ len1 ≤ maxLen := by
    obtain ⟨fuel, hf⟩ := h1
    exact bss_of_trod (a := a1) (len := len1) (cap := cap1) hf (by simp [Value.cells])
  clear hA0 hval0
  refine (walk n0 a1 len1 cap1 ls1 W (bounds_u16 w0) w1 s1).mono fun e W' ⟨he, bel⟩ => ?_
  subst he
  exact ⟨_, rfl, _, _, _, [], _, [], hW', trodAll_mk1 (shut_bool Try.underlying4 _), (trodAll_cons_mk (Below.trod laidOut (by kernel_rfl) (of_decide_eq_true (by kernel_rfl)) k0 bel lt0) (trodAll_cons_mk (Below.trod laidOut (by kernel_rfl) (of_decide_eq_true (by kernel_rfl)) k1 bel lt1) trodAll_mk0)), rfl, bel.frame _, fun h => by cases h⟩

theorem over : Rows.intakeOwnRow.holds Try.pinned (OpenSpec.ofChange Rows.intakeOwnSpec) :=
  OpenClaim.holds_of_wide 6 Try.f6 rfl rfl rfl rfl rfl rfl rfl ⟨rfl, rfl, rfl, rfl, rfl⟩ rfl rfl rfl rfl rfl (by kernel_rfl) Try.func6 (by kernel_rfl)
    (of_decide_eq_true (by kernel_rfl)) (by unfold Func.isWrapper; first | (rw [if_pos (by decide +kernel)]; kernel_rfl) | (rw [if_neg (by decide +kernel)]; exact ⟨rfl, rfl⟩))
    (fun os started H enc _ => lifted os started H enc)

theorem proved : Rows.IntakeOwnSaid := over
end Go.Proofs.Ytmbgcbbpkbaajaa.intakeOwn
