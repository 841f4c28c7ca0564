/- The walk of ZoneJoined. -/
import Derived.Test.YtmmkfcmbmecleaaZaw
import Derived.Test.YtmmkfcmbmecleaaZpc
import Derived.Test.YtmmkfcmbmecleaaArgs
import Derived.Test.YtmmkfcmbmecleaaArn
namespace Go.Proofs.Ytmmkfcmbmecleaa.zoneJoined
open Go.ChangeShapes Go.WideShapes Go.ChangeAt Go.RowKit
set_option linter.unusedVariables false

theorem wlk_ok {es : List Ed} {t : Int} : ∀ (ds : List Int) (u : Int), wlk es u ds = some t → ds.all (dOk es) = true
  | [], _, _ => rfl
  | d :: ds, u, h => by
    unfold wlk at h
    by_cases hd : 1 ≤ d ∧ d ≤ es.length
    · rw [if_pos hd] at h
      rw [List.all_cons, Bool.and_eq_true]
      refine ⟨decide_eq_true hd, ?_⟩
      split at h
      · split at h
        · exact wlk_ok ds _ h
        · cases h
      · cases h
    · rw [if_neg hd] at h; cases h

set_option maxRecDepth 100000 in
set_option maxHeartbeats 8000000 in
theorem walk (a0 b0 : Option Addr) (c0 e0 : Nat) (ns0 : List Nd) (es0 : List Ed) (a1 : Option Addr) (len1 cap1 : Nat) (z1 : List Int) (x20 x21 : Int) (w : World) (rn0 : ndE.Rd w (.slice a0 ns0.length c0) ns0) (re0 : edE.Rd w (.slice b0 es0.length e0) es0) (rs0 : ∀ p ∈ ns0, p.name.size ≤ maxLen) (w1 : z1.length = len1) (s1 : intE.Rd w (.slice a1 len1 cap1) z1) :
    Calls Try.prog 4 #[.agg #[.slice a0 ns0.length c0, .slice b0 es0.length e0], .slice a1 len1 cap1, .agg #[.int .i64 x20, .int .i64 x21]] w fun e w' => e = .returned (.bool true) ∧ Below w.heap.size w w' := by
  obtain ⟨n, hn⟩ : ∃ n, ns0.length = n := ⟨_, rfl⟩
  obtain ⟨m, hm⟩ : ∃ m, es0.length = m := ⟨_, rfl⟩
  rw [hn] at rn0 ⊢
  rw [hm] at re0 ⊢
  obtain ⟨W0, hW0⟩ : ∃ W0, (w.alloc (.cells #[.slice a0 n c0, .slice b0 m e0] 25)).alloc (.cells #[.int .i64 x20, .int .i64 x21] 43) = W0 := ⟨_, rfl⟩
  have bA : Below w.heap.size w W0 := by rw [← hW0]; exact ((Below.refl _ _).alloc (Nat.le_refl _) _).alloc (by simp) _
  have hbox : W0.heap[w.heap.size]? = some (.cells #[.slice a0 n c0, .slice b0 m e0] 25) := by rw [← hW0, Below.heap_alloc _ _ _ (by simp)]; exact heap_new _ _
  have hbox2 : W0.heap[w.heap.size + 1]? = some (.cells #[.int .i64 x20, .int .i64 x21] 43) := by
    rw [← hW0]
    have := heap_new (w.alloc (.cells #[.slice a0 n c0, .slice b0 m e0] 25)) (.cells #[.int .i64 x20, .int .i64 x21] 43)
    rwa [show (w.alloc (.cells #[.slice a0 n c0, .slice b0 m e0] 25)).heap.size = w.heap.size + 1 by simp] at this
  have HBOX2 := hide hbox2
  clear hbox2
  have HBOX := hide hbox
  have HA := hide bA
  have HW0 := hide hW0
  have K9 := hide awake_any
  have HR : Hid (∀ W, Below W0.heap.size W0 W → ndE.Rd W (.slice a0 n c0) ns0 ∧ edE.Rd W (.slice b0 m e0) es0 ∧ intE.Rd W (.slice a1 len1 cap1) z1) := hide (fun W h => have b := bA.trans (h.mono bA.size); ⟨rn0.keep b, re0.keep b, s1.keep b⟩)
  have K10 : Hid (∀ W, Below W0.heap.size W0 W → Calls Try.prog 19 #[.agg #[.slice a0 n c0, .slice b0 m e0], .slice a1 len1 cap1] W fun e w' => e = .returned (.bool (decide (len1 ≤ 200) && good ns0 es0)) ∧ Below W.heap.size W w') := hide (fun W h => fits_any a0 b0 a1 c0 e0 cap1 n m len1 ns0 es0 W hn hm (HR.out W h).1 (HR.out W h).2.1 rs0)
  have HG : Hid ((decide (len1 ≤ 200) && good ns0 es0) = true → (∀ W, Below W0.heap.size W0 W → Ly W a0 b0 c0 e0 n m ns0 es0 ∧ Mk W a1 cap1 len1 z1) ∧ len1 ≤ 200 ∧ n ≤ 40 ∧ 1 ≤ n ∧ m ≤ 120 ∧ ∀ e ∈ es0, e.1 ≠ e.2) := hide (fun h => by
    simp only [Bool.and_eq_true, decide_eq_true_eq] at h
    have h1 := h.1
    have h2 := h.2
    have hg := good_ly h2 hn hm (HR.out _ (Below.refl _ _)).1 (HR.out _ (Below.refl _ _)).2.1
    refine ⟨fun W hW => ⟨(good_ly h2 hn hm (HR.out W hW).1 (HR.out W hW).2.1).1, w1, (HR.out W hW).2.2, by omega⟩, h1, hg.2.2.1, hg.2.1, hg.2.2.2, ?_⟩
    unfold good goodE at h2
    simp only [Bool.and_eq_true, decide_eq_true_eq] at h2
    intro e he
    have h3 := h2.2.2.1 e he
    unfold edB at h3
    simp only [Bool.and_eq_true, decide_eq_true_eq] at h3
    exact h3.1.2)
  have Hw1 := hide w1
  clear rn0 re0 rs0 w1 s1 hn hm bA hbox hW0
  generalize (decide (len1 ≤ 200) && good ns0 es0) = gd at *
  go_enter Try.func4, Try.ntmps4
  go_upto_region 1 with fail
  rw [HW0.out]
  clear HW0
  go_upto_region 3 with (go_at_call 9; refine (K9.out _).mono ?_; rintro e W1 ⟨rfl, hb1⟩; have Hb1 := hide hb1; obtain ⟨x0, x1⟩ := layg HBOX.out hb1; clear hb1)
  cases gd with
  | false =>
    go_wp2_with (go_at_call 19; refine (K10.out _ Hb1.out).mono ?_; rintro e W2 ⟨rfl, hb2⟩; have Hb2 := hide (Hb1.out.trans (hb2.mono Hb1.out.size)); clear hb2)
    go_ret
    exact ⟨rfl, HA.out.trans (Hb2.out.mono HA.out.size)⟩
  | true =>
    obtain ⟨hLM, hlen, hn40, hn1, hm12, hself⟩ := HG.out rfl
    have HLM := hide hLM
    have Hlen := hide hlen
    have Hn40 := hide hn40
    have Hm12 := hide hm12
    have Hself := hide hself
    have l1 : (len1 : Int) ≤ 200 := by omega
    have l2 : (n : Int) ≤ 40 := by omega
    have l3 : (1 : Int) ≤ (n : Int) := by omega
    have l4 : (m : Int) ≤ 120 := by omega
    clear hLM hlen hn40 hn1 hm12 hself HG HR
    go_upto_region 5 with (go_at_call 19; refine (K10.out _ Hb1.out).mono ?_; rintro e W2 ⟨rfl, hb2⟩; have Hb2 := hide (Hb1.out.trans (hb2.mono Hb1.out.size)); obtain ⟨x0, x1⟩ := layg HBOX.out Hb2.out; clear hb2)
    clear K9 K10 Hb1
    have HV : Hid (∀ W, Below W0.heap.size W0 W → W.cell? ⟨w.heap.size + 1, 0, none⟩ = some (.int .i64 x20) ∧ W.cell? ⟨w.heap.size + 1, 1, none⟩ = some (.int .i64 x21)) := hide (fun W h => by
      rw [h.cell (p := ⟨w.heap.size + 1, 0, none⟩) (heap_lt HBOX2.out), h.cell (p := ⟨w.heap.size + 1, 1, none⟩) (heap_lt HBOX2.out)]
      exact ⟨(cells_at HBOX2.out 0).1, (cells_at HBOX2.out 1).1⟩)
    obtain ⟨v0, v1⟩ := HV.out _ Hb2.out
    by_cases hx : (0 ≤ x20 ∧ x20 < (n : Int)) ∧ 0 ≤ x21 ∧ x21 < (n : Int)
    case neg =>
      have Hx := hide hx
      clear hx
      go_wp2_with (go_at_call 20; refine (path_no a0 b0 a1 c0 e0 cap1 n m len1 _ _ _ Hx.out).mono ?_; rintro e W4 ⟨rfl, hb4⟩; have Hb4 := hide (Hb2.out.trans (hb4.mono Hb2.out.size)); clear hb4)
      go_ret
      exact ⟨by first | rfl | simp, HA.out.trans (Hb4.out.mono HA.out.size)⟩
    case pos =>
    obtain ⟨u, hu⟩ := Int.eq_ofNat_of_zero_le hx.1.1
    obtain ⟨t, ht⟩ := Int.eq_ofNat_of_zero_le hx.2.1
    subst hu
    subst ht
    have Hu : Hid (u < n ∧ t < n) := hide ⟨by omega, by omega⟩
    clear hx
    have K20 : Hid (∀ (W : World), Below W0.heap.size W0 W → Calls Try.prog 20 #[.agg #[.slice a0 n c0, .slice b0 m e0], .slice a1 len1 cap1, .int .i64 (u : Int), .int .i64 (t : Int)] W fun e w' => (∃ aP kP cP cd, e = .returned (.tuple #[.slice aP kP cP, .int .i64 cd]) ∧ (cd = 80 ∨ (cd = 0 ∧ kP ≤ 40 ∧ ∃ path : List Int, path.length = kP ∧ intE.Rd w' (.slice aP kP cP) path ∧ path.all (dOk es0) = true))) ∧ Below W.heap.size W w') := hide (fun W h => by
      refine (path_ok a0 b0 a1 c0 e0 cap1 n m len1 u t ns0 es0 z1 W (HLM.out W h).1 (HLM.out W h).2 (by have := Hlen.out; omega) Hu.out.1 Hu.out.2).mono ?_
      rintro e w' ⟨⟨l, hg, h2⟩, hb⟩
      refine ⟨?_, hb⟩
      rcases h2 with ⟨_, rfl⟩ | ⟨k, v', h3, rfl, h4⟩
      · exact ⟨_, _, _, _, rfl, .inl rfl⟩
      · obtain ⟨aP, cP, rfl⟩ := h4.rd.form
        have hl : (pth ns0 es0 z1 l t k u).length = k := pth_len k u
        have hh := hg.high u
        refine ⟨aP, _, cP, _, rfl, .inr ⟨rfl, ?_, _, rfl, h4.rd, wlk_ok _ _ (hg.walk k u h3)⟩⟩
        rw [hl]
        have := Hn40.out
        omega)
    go_upto_region 6 with (go_at_call 20; refine (K20.out _ Hb2.out).mono ?_; rintro e W4 ⟨⟨aP, kP, cP, cd, rfl, hcs⟩, hb4⟩; have Hb4 := hide (Hb2.out.trans (hb4.mono Hb2.out.size)); have Hcs := hide hcs; clear hb4 hcs)
    rcases Hcs.out with rfl | ⟨rfl, hkP, path, hpl, hpr, hok⟩
    · go_wp2_with fail
      go_ret
      exact ⟨by first | rfl | simp, HA.out.trans (Hb4.out.mono HA.out.size)⟩
    have Hpr : Hid (∀ W, Below W4.heap.size W4 W → intE.Rd W (.slice aP kP cP) path) := hide (fun W hb => hpr.keep hb)
    obtain ⟨ps, hps⟩ : ∃ ps, pcs (dz ns0 es0) path kP = ps := ⟨_, rfl⟩
    obtain ⟨zc, hzc⟩ : ∃ zc, pzs (dz ns0 es0) path kP = zc := ⟨_, rfl⟩
    have hpc := pcf (dz ns0 es0) path kP (by omega)
    have hflat : ps.flatten = path := by have := hpc.flat; rw [hps, List.take_of_length_le (by omega)] at this; exact this
    have hlen2 : ps.length = zc.length := by have := hpc.len; rw [hps, hzc] at this; exact this
    have hzn := hpc.zn
    have hadj := hpc.adj
    rw [hps, hzc] at hzn
    rw [hzc] at hadj
    obtain ⟨N, hN⟩ : ∃ N, ps.length = N := ⟨_, rfl⟩
    have hN40 : N ≤ 40 := by have := pcs_bound (dz ns0 es0) path kP; rw [hps, hN] at this; omega
    have hpb : ∀ p ∈ ps, p.length ≤ 40 := fun p hp => by have := piece_bound hpc (p := p) (by rw [hps]; exact hp); omega
    have K12 : Hid (∀ W, Below W4.heap.size W4 W → Calls Try.prog 12 #[.agg #[.slice a0 n c0, .slice b0 m e0], .slice aP kP cP] W fun e w' => (∃ aG cG, e = .returned (.tuple #[.slice aG N cG, .int .i64 0]) ∧ Lds w' (.slice aG N cG) ps) ∧ Below W.heap.size W w') := hide (fun W hb => by
      refine (pieces_any a0 b0 aP c0 e0 cP n m kP ns0 es0 path W (HLM.out W (Hb4.out.trans (hb.mono Hb4.out.size))).1 hpl (hpr.keep hb) (by omega)).mono ?_
      rintro e w' ⟨⟨uu, x, rfl, hp⟩, hb'⟩
      refine ⟨?_, hb'⟩
      rcases hp with ⟨_, rfl, svs, hlb⟩ | ⟨h, _⟩
      · rw [hps] at hlb
        obtain ⟨aG, cG, rfl⟩ := hlb.lds.form
        rw [hN] at hlb ⊢
        exact ⟨aG, cG, rfl, hlb.lds⟩
      · rw [hok] at h; cases h)
    have K13 : Hid (∀ W, Below W4.heap.size W4 W → Calls Try.prog 13 #[.agg #[.slice a0 n c0, .slice b0 m e0], .slice aP kP cP] W fun e w' => (∃ aZ cZ, e = .returned (.tuple #[.slice aZ N cZ, .int .i64 0]) ∧ intE.Rd w' (.slice aZ N cZ) zc) ∧ Below W.heap.size W w') := hide (fun W hb => by
      refine (zones_any a0 b0 aP c0 e0 cP n m kP ns0 es0 path W (HLM.out W (Hb4.out.trans (hb.mono Hb4.out.size))).1 hpl (hpr.keep hb) (by omega)).mono ?_
      rintro e w' ⟨⟨uu, x, rfl, hp⟩, hb'⟩
      refine ⟨?_, hb'⟩
      rcases hp with ⟨_, rfl, ho⟩ | ⟨h, _⟩
      · rw [hzc] at ho
        obtain ⟨aZ, cZ, rfl⟩ := ho.rd.form
        have hzl : zc.length = N := by rw [← hlen2, hN]
        have := ho.rd
        rw [hzl] at this ⊢
        exact ⟨aZ, cZ, rfl, this⟩
      · rw [hok] at h; cases h)
    have K18 : Hid (∀ W b c, intE.Rd W (.slice b kP c) path → Below W4.heap.size W4 W → Calls Try.prog 18 #[.slice b kP c, .slice aP kP cP] W fun e w' => e = .returned (.bool true) ∧ Below W.heap.size W w') := hide (fun W b c h hb => by
      have := ints_eq h (hpr.keep hb) hpl hpl (by omega)
      rwa [decide_eq_true rfl] at this)
    have Hflat := hide hflat
    have Hpl := hide hpl
    have HN := hide hN
    have Hpb := hide hpb
    have Hzn := hide hzn
    have Hadj := hide hadj
    have Hok : Hid (∀ x ∈ path, dOk es0 x = true) := hide (List.all_eq_true.1 hok)
    have Hzl : Hid (zc.length = N) := hide (by rw [← hlen2, hN])
    have N40 : (N : Int) ≤ 40 := by omega
    have hNN : ((N : Int) != (N : Int)) = false := by simp
    clear hpc hflat hlen2 hzn hadj hN hpb hps hzc hpl hpr hok Hcs K20 v0 v1 x0 x1
    obtain ⟨x0, x1⟩ := layg HBOX.out Hb4.out
    go_upto_region 9 with (go_at_call 12; refine (K12.out _ (Below.refl _ _)).mono ?_; rintro e W5 ⟨⟨aG, cG, rfl, hg5⟩, hb5⟩; have Hg5 := hide hg5; have HB5 := hide hb5; obtain ⟨x0, x1⟩ := layg HBOX.out (Hb4.out.trans (hb5.mono Hb4.out.size)); clear hg5 hb5)
    go_upto_region 10 with (go_at_call 13; refine (K13.out _ HB5.out).mono ?_; rintro e W6 ⟨⟨aZ, cZ, rfl, hz6⟩, hb6⟩; have Hz6 := hide hz6; have HB6 := hide (HB5.out.trans (hb6.mono HB5.out.size)); have Hg6 := hide (Hg5.out.keep hb6); clear hz6 hb6)
    have HGr : Hid (∀ W, Below W6.heap.size W6 W → Lds W (.slice aG N cG) ps ∧ intE.Rd W (.slice aZ N cZ) zc) := hide (fun W hb => ⟨Hg6.out.keep hb, Hz6.out.keep hb⟩)
    have HB06 : Hid (Below W0.heap.size W0 W6) := hide (Hb4.out.trans (HB6.out.mono Hb4.out.size))
    clear Hg5 Hg6 Hz6 HB5 K12 K13 x0 x1
    go_upto_region 14 with fail
    go_loopw [12, 61] (fun v12 v61 wr => ∃ i : Nat, v61 = .int .i64 i ∧ i ≤ N ∧ Hid (Below W6.heap.size W6 wr) ∧ Hid (intE.Own wr W6.heap.size v12 (ps.take i).flatten)) (fun _ v61 _ => N - (intOf v61).toNat)
    case atStart => exact ⟨0, rfl, Nat.zero_le _, hide (Below.refl _ _), hide (El.Own.nil _ _ _)⟩
    case round =>
      obtain ⟨i, rfl, hi, HB, HO⟩ := hrel
      obtain ⟨vA, hvA⟩ : ∃ V, V = u12 := ⟨_, rfl⟩
      subst hvA
      by_cases hlt : i < N
      · obtain ⟨p, hp⟩ : ∃ p, ps[i]? = some p := ⟨_, List.getElem?_eq_getElem (by rw [HN.out]; exact hlt)⟩
        obtain ⟨zi, hzi⟩ : ∃ zi, zc[i]? = some zi := ⟨_, List.getElem?_eq_getElem (by rw [Hzl.out]; exact hlt)⟩
        obtain ⟨bg, og, a2, c2, hag, e0', hr2⟩ := (HGr.out _ HB.out).1.at i p hp
        subst hag
        obtain ⟨bz, oz, haz, ez⟩ := int_at (HGr.out _ HB.out).2 i zi hzi
        subst haz
        have hpl40 := Hpb.out p (List.mem_of_getElem? hp)
        have hd : ∀ x ∈ p, dOk es0 x = true ∧ dz ns0 es0 x = zi := fun x hx => ⟨Hok.out x (by rw [← Hflat.out]; exact List.mem_flatten.2 ⟨p, List.mem_of_getElem? hp, hx⟩), Hzn.out i p zi hp hzi x hx⟩
        have Hd := hide hd
        have Hfl : Hid ((ps.take (i + 1)).flatten = (ps.take i).flatten ++ p) := hide (by rw [List.take_add_one, hp]; simp)
        have Hl5 : Hid ((ps.take i).flatten.length + p.length ≤ 1000000) := hide (by
          have h1 : (ps.take i).flatten.length ≤ ps.flatten.length := by
            conv => rhs; rw [← List.take_append_drop i ps, List.flatten_append, List.length_append]
            omega
          rw [Hflat.out, Hpl.out] at h1
          omega)
        have Hzi := hide hzi
        have Hr2 := hide hr2
        obtain ⟨pn, hpn⟩ : ∃ pn, p.length = pn := ⟨_, rfl⟩
        rw [hpn] at e0' Hr2
        have Hpn := hide hpn
        have g0 : (0 : Int) ≤ (i : Int) := by omega
        have g1 : (i : Int) < (N : Int) := by omega
        have p40 : (pn : Int) ≤ 40 := by omega
        clear hp hzi hr2 hd hpl40 hpn
        obtain ⟨wA, hwA⟩ : ∃ W, W = wr := ⟨_, rfl⟩
        subst hwA
        have HBq : Hid (∀ q, Below W6.heap.size W6 (wA.drewN q)) := hide (fun q => below_heap HB.out rfl rfl rfl rfl)
        have HOq : Hid (∀ q, intE.Own (wA.drewN q) W6.heap.size vA (ps.take i).flatten) := hide (fun q => own_heap HO.out rfl)
        have Hr2q : Hid (∀ q, intE.Rd (wA.drewN q) (.slice a2 pn c2) p) := hide (fun q => rd_heap Hr2.out rfl)
        go_upto_region 17 with fail
        go_loopw [69] (fun v69 wr => ∃ j : Nat, v69 = .int .i64 j ∧ j ≤ pn ∧ Hid (∃ q, wr = wA.drewN q)) (fun v69 _ => pn - (intOf v69).toNat)
        case atStart => exact ⟨0, rfl, Nat.zero_le _, hide ⟨0, rfl⟩⟩
        case round =>
          obtain ⟨j, rfl, hj, HW⟩ := hrel
          by_cases hjl : j < pn
          · obtain ⟨d, hdj⟩ : ∃ d, p[j]? = some d := ⟨_, List.getElem?_eq_getElem (by rw [Hpn.out]; exact hjl)⟩
            obtain ⟨hdo, hdz⟩ := Hd.out d (List.mem_of_getElem? hdj)
            have HB' : Hid (Below W6.heap.size W6 wr) := hide (by obtain ⟨q, rfl⟩ := HW.out; exact HBq.out q)
            have HB0' : Hid (Below W0.heap.size W0 wr) := hide (HB06.out.trans (HB'.out.mono HB06.out.size))
            have hLw := (HLM.out wr HB0'.out).1
            obtain ⟨jd, q, e, nd, hxe, he, hq, hqn, hnd, hz⟩ := dz_at hLw.hn hLw.hE hdo
            have hdd := of_decide_eq_true hdo
            rw [hLw.hm] at hdd
            obtain ⟨be, offe, hae, _, d1⟩ := ed_at hLw.hu jd e he
            obtain ⟨bn, offn, han, _, _, d3⟩ := nd_at hLw.hv q nd hnd
            rw [hq] at d1
            rw [hz, hdz] at d3
            subst hae
            subst han
            obtain ⟨x0, x1⟩ := layg HBOX.out HB0'.out
            have hr2w : intE.Rd wr (.slice a2 pn c2) p := by obtain ⟨q, rfl⟩ := HW.out; exact Hr2q.out q
            obtain ⟨bp, op, hap, f0⟩ := int_at hr2w j d hdj
            subst hap
            obtain ⟨bz', oz', haz', f1⟩ := int_at (HGr.out _ HB'.out).2 i zi Hzi.out
            simp only [Option.some.injEq, Addr.mk.injEq] at haz'
            obtain ⟨rfl, rfl, _⟩ := haz'
            have HW2 : Hid (∀ m, ∃ q, wr.drewN m = wA.drewN q) := hide (fun m => by
              obtain ⟨q, rfl⟩ := HW.out
              exact ⟨q + m, by simp⟩)
            have hsub : d - 1 = (jd : Int) := by omega
            have hsub2 : IntKind.i64.wrap (d - 1) = (jd : Int) := by rw [hsub]; exact i64_small _ (by omega) (by omega)
            have hwjd : IntKind.i64.wrap (jd : Int) = (jd : Int) := i64_small _ (by omega) (by omega)
            have y1 : decide (d < 1) = false := decide_eq_false (by omega)
            have y2 : decide (d > (m : Int)) = false := decide_eq_false (by omega)
            have y1' : ¬ (d < 1) := by omega
            have y2' : ¬ (d > (m : Int)) := by omega
            have hzz : (zi != zi) = false := by simp
            have q2 : (0 : Int) ≤ (q : Int) := by omega
            have q3 : (q : Int) < (n : Int) := by omega
            have k0 : (0 : Int) ≤ (jd : Int) := by omega
            have k1 : (jd : Int) < (m : Int) := by omega
            have j0 : (0 : Int) ≤ (j : Int) := by omega
            have j1 : (j : Int) < (pn : Int) := by omega
            clear hdj hdo hdz hLw hxe he hq hqn hnd hz hdd hr2w HW
            go_upto_region 19 with fail
            go_quiet (fail)
            go_wp2_with fail
            go_roundw
            case rel => exact ⟨j + 1, by go_num, by omega, hide (HW2.out _)⟩
            case measure => simp [intOf]; omega
          · obtain rfl : j = pn := by omega
            have j1 : ¬ (j : Int) < (j : Int) := by omega
            have HB' : Hid (Below W6.heap.size W6 wr) := hide (by obtain ⟨q, rfl⟩ := HW.out; exact HBq.out q)
            have HB'q : Hid (∀ q, Below W6.heap.size W6 (wr.drewN q)) := hide (fun q => below_heap HB'.out rfl rfl rfl rfl)
            have HO'q : Hid (∀ q, intE.Own (wr.drewN q) W6.heap.size vA (ps.take i).flatten) := hide (fun q => by obtain ⟨q', rfl⟩ := HW.out; exact own_heap (HOq.out q') rfl)
            have Hr'q : Hid (∀ q, intE.Rd (wr.drewN q) (.slice a2 j c2) p) := hide (fun q => by obtain ⟨q', rfl⟩ := HW.out; exact rd_heap (Hr2q.out q') rfl)
            have eg : ∀ q, (wr.drewN q).cell? ⟨bg, og + i, none⟩ = some (.slice a2 j c2) := fun q => by obtain ⟨q', rfl⟩ := HW.out; exact e0'
            have Heg := hide eg
            obtain ⟨bz', oz', haz', f1⟩ := int_at (HGr.out _ HB'.out).2 i zi Hzi.out
            simp only [Option.some.injEq, Addr.mk.injEq] at haz'
            obtain ⟨rfl, rfl, _⟩ := haz'
            clear eg HW
            by_cases h0 : i = 0
            · have hgt : ¬ ((i : Int) > 0) := by omega
              have hgN : decide (0 < i) = false := decide_eq_false (by omega)
              have hgZ : decide ((i : Int) > 0) = false := decide_eq_false (by omega)
              clear h0
              go_upto_region 22 with fail
              go_quiet (fail)
              have e9 := Heg.out nq
              go_wp2_with (at_builtin; refine intE.wp (w0 := W6) (HB'q.out _) (by rfl) _ _ rfl _ _ rfl rfl (ps.take i).flatten p (HO'q.out _) (Hr'q.out _) Hl5.out ?_; intro v3 w3 ho3 hg3 hs3 hb3; have HF := hide ho3; have HB3 := hide hb3; clear ho3 hg3 hs3 hb3)
              go_roundw
              case rel => exact ⟨i + 1, by go_num, by omega, HB3, hide (by rw [Hfl.out]; exact HF.out)⟩
              case measure => simp [intOf]; omega
            · obtain ⟨zp, hzp⟩ : ∃ zp, zc[i - 1]? = some zp := ⟨_, List.getElem?_eq_getElem (by rw [Hzl.out]; omega)⟩
              have hne : zp ≠ zi := Hadj.out (i - 1) zp zi hzp (by rw [show i - 1 + 1 = i by omega]; exact Hzi.out)
              obtain ⟨bz'', oz'', haz'', f2⟩ := int_at (HGr.out _ HB'.out).2 (i - 1) zp hzp
              simp only [Option.some.injEq, Addr.mk.injEq] at haz''
              obtain ⟨rfl, rfl, _⟩ := haz''
              have hbe : (zi == zp) = false := beq_eq_false_iff_ne.2 (fun e => hne e.symm)
              have hne' : ¬ (zi = zp) := fun e => hne e.symm
              obtain ⟨im, him⟩ : ∃ im : Nat, i - 1 = im := ⟨_, rfl⟩
              rw [him] at f2
              have hgt : ((i : Int) > 0) := by omega
              have hgN : decide (0 < i) = true := decide_eq_true (by omega)
              have hgZ : decide ((i : Int) > 0) = true := decide_eq_true (by omega)
              have hsi : (i : Int) - 1 = (im : Int) := by omega
              have hwi : IntKind.i64.wrap ((i : Int) - 1) = (im : Int) := by rw [hsi]; exact i64_small _ (by omega) (by omega)
              have hwim : IntKind.i64.wrap (im : Int) = (im : Int) := i64_small _ (by omega) (by omega)
              have m0 : (0 : Int) ≤ (im : Int) := by omega
              have m1 : (im : Int) < (N : Int) := by omega
              clear h0 hzp hne him
              go_upto_region 22 with fail
              go_quiet (fail)
              have e9 := Heg.out nq
              go_wp2_with (at_builtin; refine intE.wp (w0 := W6) (HB'q.out _) (by rfl) _ _ rfl _ _ rfl rfl (ps.take i).flatten p (HO'q.out _) (Hr'q.out _) Hl5.out ?_; intro v3 w3 ho3 hg3 hs3 hb3; have HF := hide ho3; have HB3 := hide hb3; clear ho3 hg3 hs3 hb3)
              go_roundw
              case rel => exact ⟨i + 1, by go_num, by omega, HB3, hide (by rw [Hfl.out]; exact HF.out)⟩
              case measure => simp [intOf]; omega
      · obtain rfl : i = N := by omega
        have g1 : ¬ (i : Int) < (i : Int) := by omega
        have hall : (ps.take i).flatten = path := by rw [List.take_of_length_le (by rw [HN.out]; exact Nat.le_refl _)]; exact Hflat.out
        obtain ⟨aA, cA, hf⟩ := HO.out.rd.form
        rw [hall, Hpl.out] at hf
        subst hf
        have HB4' : Hid (Below W4.heap.size W4 wr) := hide (HB6.out.trans (HB.out.mono HB6.out.size))
        have HBf : Hid (Below w.heap.size w wr) := hide (HA.out.trans ((Hb4.out.trans (HB4'.out.mono Hb4.out.size)).mono HA.out.size))
        have K := hide (K18.out wr aA cA (by have := HO.out.rd; rw [hall] at this; exact this) HB4'.out)
        clear hall
        go_wp2_with (go_at_call 18; refine (K.out).mono ?_; rintro e W9 ⟨rfl, hb9⟩; have HB9 := hide (HBf.out.trans (hb9.mono HBf.out.size)); clear hb9)
        go_ret
        exact ⟨rfl, HB9.out⟩
end Go.Proofs.Ytmmkfcmbmecleaa.zoneJoined
