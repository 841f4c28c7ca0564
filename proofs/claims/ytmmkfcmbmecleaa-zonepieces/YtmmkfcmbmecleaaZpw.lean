/- The walk of ZonePieces. -/
import Derived.Test.YtmmkfcmbmecleaaZaw
import Derived.Test.YtmmkfcmbmecleaaZkq
import Derived.Test.YtmmkfcmbmecleaaArgs
namespace Go.Proofs.Ytmmkfcmbmecleaa.zonePieces
open Go.ChangeShapes Go.WideShapes Go.ChangeAt Go.RowKit
set_option linter.unusedVariables false

set_option maxRecDepth 100000 in
set_option maxHeartbeats 8000000 in
theorem walk (a0 b0 : Option Addr) (c0 e0 : Nat) (ns0 : List Nd) (es0 : List Ed) (a1 : Option Addr) (len1 cap1 : Nat) (z1 : List Int) (w : World) (rn0 : ndE.Rd w (.slice a0 ns0.length c0) ns0) (re0 : edE.Rd w (.slice b0 es0.length e0) es0) (rs0 : ∀ p ∈ ns0, p.name.size ≤ maxLen) (w1 : z1.length = len1) (s1 : intE.Rd w (.slice a1 len1 cap1) z1) :
    Calls Try.prog 3 #[.agg #[.slice a0 ns0.length c0, .slice b0 es0.length e0], .slice a1 len1 cap1] w fun e w' => e = .returned (.bool true) ∧ Below w.heap.size w w' := by
  obtain ⟨n, hn⟩ : ∃ n, ns0.length = n := ⟨_, rfl⟩
  obtain ⟨m, hm⟩ : ∃ m, es0.length = m := ⟨_, rfl⟩
  rw [hn] at rn0 ⊢
  rw [hm] at re0 ⊢
  obtain ⟨W0, hW0⟩ : ∃ W0, w.alloc (.cells #[.slice a0 n c0, .slice b0 m e0] 25) = W0 := ⟨_, rfl⟩
  have bA : Below w.heap.size w W0 := by rw [← hW0]; exact (Below.refl _ _).alloc (Nat.le_refl _) _
  have hbox : W0.heap[w.heap.size]? = some (.cells #[.slice a0 n c0, .slice b0 m e0] 25) := by rw [← hW0]; exact heap_new _ _
  have HBOX := hide hbox
  have HA := hide bA
  have HW0 := hide hW0
  have K9 := hide awake_any
  have HR : Hid (∀ W, Below W0.heap.size W0 W → ndE.Rd W (.slice a0 n c0) ns0 ∧ edE.Rd W (.slice b0 m e0) es0 ∧ intE.Rd W (.slice a1 len1 cap1) z1) := hide (fun W h => have b := bA.trans (h.mono bA.size); ⟨rn0.keep b, re0.keep b, s1.keep b⟩)
  have K10 : Hid (∀ W, Below W0.heap.size W0 W → Calls Try.prog 10 #[.agg #[.slice a0 n c0, .slice b0 m e0]] W fun e w' => e = .returned (.bool (good ns0 es0)) ∧ Below W.heap.size W w') := hide (fun W h => by
    have h1 := (HR.out W h).1
    have h2 := (HR.out W h).2.1
    rw [← hn] at h1 ⊢
    rw [← hm] at h2 ⊢
    exact rgood_any a0 b0 c0 e0 ns0 es0 W h1 h2)
  have HG : Hid (good ns0 es0 = true → (∀ W, Below W0.heap.size W0 W → Ly W a0 b0 c0 e0 n m ns0 es0) ∧ n ≤ 40 ∧ m ≤ 120 ∧ ∀ p ∈ ns0, 0 ≤ p.zone) := hide (fun h => by
    have hg := good_ly h hn hm (HR.out _ (Below.refl _ _)).1 (HR.out _ (Below.refl _ _)).2.1
    refine ⟨fun W hW => (good_ly h hn hm (HR.out W hW).1 (HR.out W hW).2.1).1, hg.2.2.1, hg.2.2.2, fun p hp => ?_⟩
    unfold good goodN at h
    simp only [Bool.and_eq_true, decide_eq_true_eq] at h
    have h3 := h.1.2.2.1 p hp
    unfold ndB zoneB at h3
    simp only [Bool.and_eq_true, decide_eq_true_eq] at h3
    exact h3.2.1)
  have Hw1 := hide w1
  clear rn0 re0 rs0 w1 s1 hn hm bA hbox hW0
  generalize good ns0 es0 = gd at *
  by_cases hl : len1 ≤ 300
  case neg =>
    have g1 : ((len1 : Int) > 300) := by omega
    clear hl HR K10 HG
    go_enter Try.func3, Try.ntmps3
    go_upto_region 1 with fail
    rw [HW0.out]
    clear HW0
    go_upto_region 2 with (go_at_call 9; refine (K9.out _).mono ?_; rintro e W1 ⟨rfl, hb1⟩; have Hb1 := hide hb1; clear hb1)
    go_wp2_with (go_at_call 9; refine (K9.out _).mono ?_; rintro e W2 ⟨rfl, hb2⟩; have Hb2 := hide (Hb1.out.trans (hb2.mono Hb1.out.size)); clear hb2)
    go_ret
    exact ⟨rfl, HA.out.trans (Hb2.out.mono HA.out.size)⟩
  case pos =>
  have g1 : ¬ ((len1 : Int) > 300) := by omega
  have i1 : (len1 : Int) ≤ 300 := by omega
  go_enter Try.func3, Try.ntmps3
  go_upto_region 1 with fail
  rw [HW0.out]
  clear HW0
  go_upto_region 3 with (go_at_call 9; refine (K9.out _).mono ?_; rintro e W1 ⟨rfl, hb1⟩; have Hb1 := hide hb1; obtain ⟨x0, x1⟩ := layg HBOX.out hb1; clear hb1)
  cases gd with
  | false =>
    go_wp2_with (go_at_call 10; refine (K10.out _ Hb1.out).mono ?_; rintro e W2 ⟨rfl, hb2⟩; have Hb2 := hide (Hb1.out.trans (hb2.mono Hb1.out.size)); clear hb2)
    go_ret
    exact ⟨rfl, HA.out.trans (Hb2.out.mono HA.out.size)⟩
  | true =>
    obtain ⟨hLy, hn40, hm12, hzn⟩ := HG.out rfl
    have HLy := hide hLy
    have HP : Hid (∀ W, Below W0.heap.size W0 W → intE.Rd W (.slice a1 len1 cap1) z1) := hide (fun W h => (HR.out W h).2.2)
    have l2 : (n : Int) ≤ 40 := by omega
    have l4 : (m : Int) ≤ 120 := by omega
    have Hzn := hide hzn
    have Hl := hide hl
    have KC : Hid (∀ W, Below W0.heap.size W0 W → Calls Try.prog 11 #[.agg #[.slice a0 n c0, .slice b0 m e0]] W fun e w' => ∃ aN aE cN cE, e = .returned (.agg #[.slice aN n cN, .slice aE m cE]) ∧ Ly w' aN aE cN cE n m ns0 es0 ∧ Below W.heap.size W w') := hide (fun W h => copy_ly (hLy W h))
    have Hl3 : Hid (([] : List Int).length + z1.length ≤ 1000000) := hide (by rw [Hw1.out]; simp; omega)
    clear hLy hn40 hm12 hzn HG HR
    go_upto_region 5 with (go_at_call 10; refine (K10.out _ Hb1.out).mono ?_; rintro e W2 ⟨rfl, hb2⟩; have Hb2 := hide (Hb1.out.trans (hb2.mono Hb1.out.size)); obtain ⟨x0, x1⟩ := layg HBOX.out Hb2.out; clear hb2)
    clear K10 Hb1
    go_upto_region 6 with (first | (go_at_call 11; refine (KC.out _ Hb2.out).mono ?_; rintro e W3 ⟨aN, aE, cN, cE, rfl, hly3, hb3⟩; have Hly3 := hide hly3; have Hb3 := hide (Hb2.out.trans (hb3.mono Hb2.out.size)); have Hba3 : Hid (∀ (o : Obj), Below W3.heap.size W3 (W3.alloc o)) := hide (fun o => (Below.refl _ _).alloc (Nat.le_refl _) o); have HBa3 : Hid (∀ (o : Obj), Below W0.heap.size W0 (W3.alloc o)) := hide (fun o => Hb3.out.alloc Hb3.out.size o); have Hnew3 : Hid (intE.Own (W3.alloc (.cells #[] 3)) W3.heap.size (.slice (some ⟨W3.heap.size, 0, none⟩) 0 0) []) := hide (El.Own.new intE W3 W3.heap.size (Nat.le_refl _) #[] [] rfl (by simp) _ _ _ rfl rfl rfl); clear hly3 hb3) | (at_builtin; refine intE.wp (w0 := W3) (Hba3.out _) (by rfl) _ _ rfl _ _ rfl rfl [] z1 Hnew3.out (HP.out _ (HBa3.out _)) Hl3.out ?_; intro v4 W4 ho4 _ _ hb4; have Ho4 := hide ho4; have Hb4 := hide hb4; clear ho4 hb4))
    obtain ⟨aP, cP, hv4⟩ := Ho4.out.rd.form
    rw [List.nil_append, Hw1.out] at hv4
    subst hv4
    obtain ⟨Wb, hWb⟩ : ∃ W, W4.alloc (.cells #[.slice aN n cN, .slice aE m cE] 25) = W := ⟨_, rfl⟩
    have bB : Below W4.heap.size W4 Wb := by rw [← hWb]; exact (Below.refl _ _).alloc (Nat.le_refl _) _
    have hbox5 : Wb.heap[W4.heap.size]? = some (.cells #[.slice aN n cN, .slice aE m cE] 25) := by rw [← hWb]; exact heap_new _ _
    have HB0b : Hid (Below W0.heap.size W0 Wb) := hide (Hb3.out.trans ((Hb4.out.trans (bB.mono Hb4.out.size)).mono Hb3.out.size))
    have HBOX5 := hide hbox5
    have HLin : Hid (∀ W, Below Wb.heap.size Wb W → Ly W aN aE cN cE n m ns0 es0) := hide (fun W hb => ((Hly3.out.keep Hb4.out).keep bB).keep hb)
    have Hpin : Hid (∀ W, Below Wb.heap.size Wb W → intE.Rd W (.slice aP len1 cP) z1) := hide (fun W hb => (Ho4.out.rd.keep bB).keep hb)
    rw [hWb]
    clear hWb bB hbox5 Ho4 Hb4 Hly3 Hba3 HBa3 Hnew3 Hb3 Hl3 KC
    obtain ⟨g5, hg5⟩ : ∃ g, W4.heap.size = g := ⟨_, rfl⟩
    rw [hg5] at HBOX5
    rw [hg5]
    clear hg5 x0 x1
    -- what is needed of all worlds behind
    have HCb : Hid (∀ W, Below Wb.heap.size Wb W → (W.cell? ⟨w.heap.size, 0, none⟩ = some (.slice a0 n c0) ∧ W.cell? ⟨w.heap.size, 1, none⟩ = some (.slice b0 m e0)) ∧ (W.cell? ⟨g5, 0, none⟩ = some (.slice aN n cN) ∧ W.cell? ⟨g5, 1, none⟩ = some (.slice aE m cE))) := hide (fun W hb => ⟨layg HBOX.out (HB0b.out.trans (hb.mono HB0b.out.size)), layg HBOX5.out hb⟩)
    have HLb : Hid (∀ W, Below Wb.heap.size Wb W → Ly W a0 b0 c0 e0 n m ns0 es0 ∧ intE.Rd W (.slice a1 len1 cap1) z1) := hide (fun W hb => ⟨HLy.out W (HB0b.out.trans (hb.mono HB0b.out.size)), HP.out W (HB0b.out.trans (hb.mono HB0b.out.size))⟩)
    obtain ⟨⟨x0, x1⟩, x2, x3⟩ := HCb.out _ (Below.refl _ _)
    have HBfin : Hid (∀ W, Below Wb.heap.size Wb W → Below w.heap.size w W) := hide (fun W hb => HA.out.trans ((HB0b.out.trans (hb.mono HB0b.out.size)).mono HA.out.size))
    cases hok : z1.all (dOk es0) with
    | false =>
      have K12 : Hid (∀ W, Below Wb.heap.size Wb W → Calls Try.prog 12 #[.agg #[.slice aN n cN, .slice aE m cE], .slice aP len1 cP] W fun e w' => e = .returned (.tuple #[.slice none 0 0, .int .i64 1]) ∧ Below W.heap.size W w') := hide (fun W hb => by
        refine (pieces_any aN aE aP cN cE cP n m len1 ns0 es0 z1 W (HLin.out W hb) Hw1.out (Hpin.out W hb) (by have := Hl.out; omega)).mono ?_
        rintro e w' ⟨⟨uu, x, rfl, hp⟩, hb'⟩
        refine ⟨?_, hb'⟩
        rcases hp with ⟨h, _⟩ | ⟨_, rfl, rfl⟩
        · rw [hok] at h; cases h
        · rfl)
      have K13 : Hid (∀ W, Below Wb.heap.size Wb W → Calls Try.prog 13 #[.agg #[.slice aN n cN, .slice aE m cE], .slice aP len1 cP] W fun e w' => e = .returned (.tuple #[.slice none 0 0, .int .i64 1]) ∧ Below W.heap.size W w') := hide (fun W hb => by
        refine (zones_any aN aE aP cN cE cP n m len1 ns0 es0 z1 W (HLin.out W hb) Hw1.out (Hpin.out W hb) (by have := Hl.out; omega)).mono ?_
        rintro e w' ⟨⟨uu, x, rfl, hp⟩, hb'⟩
        refine ⟨?_, hb'⟩
        rcases hp with ⟨h, _⟩ | ⟨_, rfl, rfl⟩
        · rw [hok] at h; cases h
        · rfl)
      have K14 : Hid (∀ W, Below Wb.heap.size Wb W → Calls Try.prog 14 #[.agg #[.slice a0 n c0, .slice b0 m e0], .slice a1 len1 cap1] W fun e w' => e = .returned (.tuple #[.slice none 0 0, .bool false]) ∧ Below W.heap.size W w') := hide (fun W hb => by
        refine (rpieces_any a0 b0 a1 c0 e0 cap1 n m len1 ns0 es0 z1 W (HLb.out W hb).1 Hw1.out (HLb.out W hb).2 (by have := Hl.out; omega) Hzn.out).mono ?_
        rintro e w' ⟨⟨uu, rfl, hp⟩, hb'⟩
        refine ⟨?_, hb'⟩
        rcases hp with ⟨h, _⟩ | ⟨_, rfl⟩
        · rw [hok] at h; cases h
        · rw [hok])
      clear hok
      go_upto_region 7 with (go_at_call 12; refine (K12.out _ (Below.refl _ _)).mono ?_; rintro e W5 ⟨rfl, hb5⟩; have HB5 := hide hb5; obtain ⟨⟨x0, x1⟩, x2, x3⟩ := HCb.out _ hb5; clear hb5)
      go_upto_region 8 with (go_at_call 13; refine (K13.out _ HB5.out).mono ?_; rintro e W6 ⟨rfl, hb6⟩; have HB6 := hide (HB5.out.trans (hb6.mono HB5.out.size)); obtain ⟨⟨x0, x1⟩, x2, x3⟩ := HCb.out _ HB6.out; clear hb6)
      go_wp2_with (go_at_call 14; refine (K14.out _ HB6.out).mono ?_; rintro e W7 ⟨rfl, hb7⟩; have HB7 := hide (HBfin.out _ (HB6.out.trans (hb7.mono HB6.out.size))); clear hb7)
      go_ret
      exact ⟨rfl, HB7.out⟩
    | true =>
      obtain ⟨ps, hps⟩ : ∃ ps, pcs (dz ns0 es0) z1 len1 = ps := ⟨_, rfl⟩
      obtain ⟨zc, hzc⟩ : ∃ zc, pzs (dz ns0 es0) z1 len1 = zc := ⟨_, rfl⟩
      have hpc := pcf (dz ns0 es0) z1 len1 (by rw [Hw1.out]; exact Nat.le_refl _)
      have hflat : ps.flatten = z1 := by have := hpc.flat; rw [hps, List.take_of_length_le (by rw [Hw1.out]; exact Nat.le_refl _)] at this; exact this
      have hlen2 : ps.length = zc.length := by have := hpc.len; rw [hps, hzc] at this; exact this
      have hznn := hpc.zn
      have hpne := hpc.ne
      rw [hps, hzc] at hznn
      rw [hps] at hpne
      obtain ⟨N, hN⟩ : ∃ N, ps.length = N := ⟨_, rfl⟩
      have hN300 : N ≤ 300 := by have := pcs_bound (dz ns0 es0) z1 len1; rw [hps, hN] at this; omega
      have hpb : ∀ p ∈ ps, p.length ≤ 300 := fun p hp => by have := piece_bound hpc (p := p) (by rw [hps]; exact hp); omega
      have K12 : Hid (∀ W, Below Wb.heap.size Wb W → Calls Try.prog 12 #[.agg #[.slice aN n cN, .slice aE m cE], .slice aP len1 cP] W fun e w' => (∃ aG cG, e = .returned (.tuple #[.slice aG N cG, .int .i64 0]) ∧ ∃ svs, Lb W.heap.size w' (.slice aG N cG) svs ps) ∧ Below W.heap.size W w') := hide (fun W hb => by
        refine (pieces_any aN aE aP cN cE cP n m len1 ns0 es0 z1 W (HLin.out W hb) Hw1.out (Hpin.out W hb) (by have := Hl.out; omega)).mono ?_
        rintro e w' ⟨⟨uu, x, rfl, hp⟩, hb'⟩
        refine ⟨?_, hb'⟩
        rcases hp with ⟨_, rfl, svs, hlb⟩ | ⟨h, _⟩
        · rw [hps] at hlb
          obtain ⟨aG, cG, rfl⟩ := hlb.lds.form
          rw [hN] at hlb ⊢
          exact ⟨aG, cG, rfl, svs, hlb⟩
        · rw [hok] at h; cases h)
      have K13 : Hid (∀ W, Below Wb.heap.size Wb W → Calls Try.prog 13 #[.agg #[.slice aN n cN, .slice aE m cE], .slice aP len1 cP] W fun e w' => (∃ aZ cZ, e = .returned (.tuple #[.slice aZ N cZ, .int .i64 0]) ∧ intE.Own w' W.heap.size (.slice aZ N cZ) zc) ∧ Below W.heap.size W w') := hide (fun W hb => by
        refine (zones_any aN aE aP cN cE cP n m len1 ns0 es0 z1 W (HLin.out W hb) Hw1.out (Hpin.out W hb) (by have := Hl.out; omega)).mono ?_
        rintro e w' ⟨⟨uu, x, rfl, hp⟩, hb'⟩
        refine ⟨?_, hb'⟩
        rcases hp with ⟨_, rfl, ho⟩ | ⟨h, _⟩
        · rw [hzc] at ho
          obtain ⟨aZ, cZ, rfl⟩ := ho.rd.form
          rw [← hlen2, hN] at ho ⊢
          exact ⟨aZ, cZ, rfl, ho⟩
        · rw [hok] at h; cases h)
      have K14 : Hid (∀ W, Below Wb.heap.size Wb W → Calls Try.prog 14 #[.agg #[.slice a0 n c0, .slice b0 m e0], .slice a1 len1 cap1] W fun e w' => (∃ aV cV, e = .returned (.tuple #[.slice aV N cV, .bool true]) ∧ ∃ svs, Lb W.heap.size w' (.slice aV N cV) svs ps) ∧ Below W.heap.size W w') := hide (fun W hb => by
        refine (rpieces_any a0 b0 a1 c0 e0 cap1 n m len1 ns0 es0 z1 W (HLb.out W hb).1 Hw1.out (HLb.out W hb).2 (by have := Hl.out; omega) Hzn.out).mono ?_
        rintro e w' ⟨⟨uu, rfl, hp⟩, hb'⟩
        refine ⟨?_, hb'⟩
        rcases hp with ⟨_, svs, hlb⟩ | ⟨h, _⟩
        · rw [hps] at hlb
          obtain ⟨aG, cG, rfl⟩ := hlb.lds.form
          rw [hN] at hlb ⊢
          exact ⟨aG, cG, by rw [hok], svs, hlb⟩
        · rw [hok] at h; cases h)
      have K15 : Hid (∀ W v v', Lds W v ps → Lds W v' ps → Calls Try.prog 15 #[v, v'] W fun e w' => e = .returned (.bool true) ∧ Below W.heap.size W w') := hide (fun W v v' h1 h2 => samep_any v v' ps W h1 h2 (by omega) (fun p hp => by have := hpb p hp; omega))
      have K16 : Hid (∀ (W : World) (d : Int), Below Wb.heap.size Wb W → dOk es0 d = true → Calls Try.prog 16 #[.agg #[.slice a0 n c0, .slice b0 m e0], .int .i64 d] W fun e w' => e = .returned (.int .i64 (dz ns0 es0 d)) ∧ Below W.heap.size W w') := hide (fun W d hb hd => by
        have := rzone_any a0 b0 c0 e0 n m ns0 es0 d W (HLb.out W hb).1
        rwa [show rdz ns0 es0 d = dz ns0 es0 d by unfold rdz; rw [if_pos hd]] at this)
      have HN := hide hN
      have Hpb := hide hpb
      have Hznn := hide hznn
      have Hpne := hide hpne
      have Hok : Hid (∀ p ∈ ps, ∀ x ∈ p, dOk es0 x = true) := hide (fun p hp x hx => List.all_eq_true.1 hok x (by rw [← hflat]; exact List.mem_flatten.2 ⟨p, hp, hx⟩))
      have Hzl : Hid (zc.length = N) := hide (by rw [← hlen2, hN])
      have N300 : (N : Int) ≤ 300 := by omega
      have hNN : ((N : Int) != (N : Int)) = false := by simp
      clear hpc hflat hlen2 hznn hpne hN hpb hps hzc hok
      go_upto_region 7 with (go_at_call 12; refine (K12.out _ (Below.refl _ _)).mono ?_; rintro e W5 ⟨⟨aG, cG, rfl, svg, hg5⟩, hb5⟩; have Hg5 := hide hg5; have HB5 := hide hb5; obtain ⟨⟨x0, x1⟩, x2, x3⟩ := HCb.out _ hb5; clear hb5 hg5)
      go_upto_region 8 with (go_at_call 13; refine (K13.out _ HB5.out).mono ?_; rintro e W6 ⟨⟨aZ, cZ, rfl, hz6⟩, hb6⟩; have Hz6 := hide hz6; have HBs6 := hide hb6; have HB6 := hide (HB5.out.trans (hb6.mono HB5.out.size)); obtain ⟨⟨x0, x1⟩, x2, x3⟩ := HCb.out _ HB6.out; clear hb6 hz6)
      go_upto_region 9 with (go_at_call 14; refine (K14.out _ HB6.out).mono ?_; rintro e W7 ⟨⟨aV, cV, rfl, svw, hw7⟩, hb7⟩; have Hw7 := hide hw7; have HBs7 := hide hb7; have HB7 := hide (HB6.out.trans (hb7.mono HB6.out.size)); obtain ⟨⟨x0, x1⟩, x2, x3⟩ := HCb.out _ HB7.out; clear hb7 hw7)
      go_upto_region 13 with (go_at_call 15; refine (K15.out _ _ _ ((Hg5.out.lds.keep HBs6.out).keep HBs7.out) Hw7.out.lds).mono ?_; rintro e W8 ⟨rfl, hb8⟩; have HBs8 := hide hb8; have HB8 := hide (HB7.out.trans (hb8.mono HB7.out.size)); clear hb8)
      -- the world at the loop's beginning
      obtain ⟨Ng, hNg⟩ : ∃ x, W5.heap.size = x := ⟨_, rfl⟩
      have hG0 := Gq.start W8.heap.size Hg5.out
      rw [hNg] at hG0
      have HGq : Hid (Gq Wb.heap.size Ng W8.heap.size W8 (.slice aG N cG) svg ps) := hide (((hG0.keep HBs6.out).keep HBs7.out).keep HBs8.out)
      have HZ8 : Hid (∀ W, Kq Wb.heap.size Ng W8 W → intE.Rd W (.slice aZ N cZ) zc) := hide (fun W hk => (hk.own ((Hz6.out.keep HBs7.out).keep HBs8.out) (by rw [hNg]; exact Nat.le_refl _)).rd)
      obtain ⟨Bv, hBv⟩ : ∃ x, W6.heap.size = x := ⟨_, rfl⟩
      have HV8 : Hid (∀ W, Kq Wb.heap.size Ng W8 W → Lb Bv W (.slice aV N cV) svw ps) := hide (fun W hk => by rw [← hBv]; exact hk.lb (Hw7.out.keep HBs8.out) (by rw [← hNg]; exact HBs6.out.size))
      have HKb : Hid (∀ W, Kq Wb.heap.size Ng W8 W → Below Wb.heap.size Wb W) := hide (fun W hk => hk.below HB8.out)
      clear hG0 hNg hBv Hg5 HB5 HB6 HB7 HBs6 HBs7 HBs8 Hz6 Hw7 K12 K13 K14 K15 x0 x1 x2 x3
      go_upto_region 14 with fail
      go_loopw [86] (fun v86 wr => ∃ (i : Nat) (svs : List Sv) (qs : List (List Int)), v86 = .int .i64 i ∧ i ≤ N ∧ Hid (Kq Wb.heap.size Ng W8 wr) ∧ Hid (Gq Wb.heap.size Ng W8.heap.size wr (.slice aG N cG) svs qs) ∧ Hid (qs.length = N) ∧ Hid (∀ j, i ≤ j → qs[j]? = ps[j]?)) (fun v86 _ => N - (intOf v86).toNat)
      case atStart => exact ⟨0, svg, ps, rfl, Nat.zero_le _, hide (Kq.refl _ _ _), HGq, HN, hide (fun j _ => rfl)⟩
      case round =>
        clear HGq
        obtain ⟨i, svs, qs, rfl, hi, HK, HQ, Hql, Hqs⟩ := hrel
        by_cases hlt : i < N
        · obtain ⟨p, hp⟩ : ∃ p, ps[i]? = some p := ⟨_, List.getElem?_eq_getElem (by rw [HN.out]; exact hlt)⟩
          have hqp : qs[i]? = some p := by rw [Hqs.out i (Nat.le_refl _)]; exact hp
          obtain ⟨zi, hzi⟩ : ∃ zi, zc[i]? = some zi := ⟨_, List.getElem?_eq_getElem (by rw [Hzl.out]; exact hlt)⟩
          have hpn0 := Hpne.out p (List.mem_of_getElem? hp)
          have hplen : 0 < p.length := List.length_pos_iff.2 hpn0
          obtain ⟨d, hd⟩ : ∃ d, p[0]? = some d := ⟨_, List.getElem?_eq_getElem hplen⟩
          have hdo := Hok.out p (List.mem_of_getElem? hp) d (List.mem_of_getElem? hd)
          have hdz := Hznn.out i p zi hp hzi d (List.mem_of_getElem? hd)
          obtain ⟨sw, hsw⟩ : ∃ sw, svw[i]? = some sw := ⟨_, List.getElem?_eq_getElem (by rw [(HV8.out _ HK.out).len]; exact idx_lt hp)⟩
          obtain ⟨bv, ov, hav, _, hr3, hswl⟩ := (HV8.out _ HK.out).at hp hsw
          subst hav
          obtain ⟨b3, ha3⟩ := sv_some hr3 hpn0
          obtain ⟨swa, swl, swc⟩ := sw
          simp only at ha3 hswl hr3
          subst ha3
          obtain ⟨bz, oz, haz, _⟩ := int_at (HZ8.out _ HK.out) i zi hzi
          subst haz
          have hpl300 := Hpb.out p (List.mem_of_getElem? hp)
          obtain ⟨pn, hpn⟩ : ∃ pn, p.length = pn := ⟨_, rfl⟩
          rw [hpn] at hswl hpl300 hplen
          subst hswl
          have HC : Hid (∀ W, Kq Wb.heap.size Ng W8 W → (W.cell? ⟨w.heap.size, 0, none⟩ = some (.slice a0 n c0) ∧ W.cell? ⟨w.heap.size, 1, none⟩ = some (.slice b0 m e0)) ∧ W.cell? ⟨bz, oz + i, none⟩ = some (.int .i64 zi) ∧ W.cell? ⟨bv, ov + i, none⟩ = some (.slice (some ⟨b3, 0, none⟩) swl swc) ∧ W.cell? ⟨b3, 0, none⟩ = some (.int .i64 d)) := hide (fun W hk => by
            obtain ⟨b, o, e, h⟩ := int_at (HZ8.out W hk) i zi hzi
            simp only [Option.some.injEq, Addr.mk.injEq] at e
            obtain ⟨rfl, rfl, _⟩ := e
            obtain ⟨b', o', e', h', hr', _⟩ := (HV8.out W hk).at hp hsw
            simp only [Option.some.injEq, Addr.mk.injEq] at e'
            obtain ⟨rfl, rfl, _⟩ := e'
            exact ⟨(HCb.out W (HKb.out W hk)).1, h, h', (hr'.at1 (Value.int .i64) (fun _ => rfl) rfl 0 d hd).1⟩)
          have K16d : Hid (∀ W, Below Wb.heap.size Wb W → Calls Try.prog 16 #[.agg #[.slice a0 n c0, .slice b0 m e0], .int .i64 d] W fun e w' => e = .returned (.int .i64 zi) ∧ Below W.heap.size W w') := hide (fun W hb => by
            have := K16.out W d hb hdo
            rwa [hdz] at this)
          obtain ⟨g, cap, hfg, _, _⟩ := HQ.out.lb.own.some (by intro e; have := congrArg List.length e; rw [HQ.out.lb.len, Hql.out] at this; simp at this; omega)
          simp only [Value.slice.injEq] at hfg
          obtain ⟨hag, hNs, hcg⟩ := hfg
          clear hNs
          subst hag
          subst hcg
          obtain ⟨s, hs⟩ : ∃ s, svs[i]? = some s := ⟨_, List.getElem?_eq_getElem (by rw [HQ.out.lb.len, Hql.out]; exact hlt)⟩
          have hos := HQ.out.lb.el i s p hs hqp
          obtain ⟨b, hsa⟩ := sv_some hos hpn0
          have hsl : s.l = swl := by
            obtain ⟨a', c', e3⟩ := hos.rd.form
            simp only [Value.slice.injEq] at e3
            rw [e3.2.1, hpn]
          obtain ⟨sa, sl, sc⟩ := s
          simp only at hsa hsl
          subst hsa
          subst hsl
          have Hs := hide hs
          have Hqp := hide hqp
          have Hpn := hide hpn
          have g0 : (0 : Int) ≤ (i : Int) := by omega
          have g1 : (i : Int) < (N : Int) := by omega
          have p0 : (0 : Int) < (sl : Int) := by omega
          have p3 : (sl : Int) ≤ 300 := by omega
          have p4 : ¬ (sl = 0) := by omega
          have hzz : (zi != zi) = false := by simp
          have Hcel : Hid (∀ W qs', Gq Wb.heap.size Ng W8.heap.size W (.slice (some ⟨g, 0, none⟩) N cG) svs qs' → qs'.length = N → W.cell? ⟨g, i, none⟩ = some (.slice (some ⟨b, 0, none⟩) sl sc)) := hide (fun W qs' hq hl => by
            obtain ⟨p'', hp''⟩ : ∃ p'', qs'[i]? = some p'' := ⟨_, List.getElem?_eq_getElem (by rw [hl]; exact hlt)⟩
            obtain ⟨b', o', e', h', _, _⟩ := hq.lb.at hp'' Hs.out
            simp only [Option.some.injEq, Addr.mk.injEq] at e'
            obtain ⟨rfl, rfl, _⟩ := e'
            rw [Nat.zero_add] at h'
            exact h')
          have Hnx : Hid (i + 1 < N → ∃ p2 d2, ps[i + 1]? = some p2 ∧ p2[0]? = some d2 ∧ p2.length ≤ 300 ∧ 0 < p2.length) := hide (fun h => by
            obtain ⟨p2, hp2⟩ : ∃ p2, ps[i + 1]? = some p2 := ⟨_, List.getElem?_eq_getElem (by rw [HN.out]; exact h)⟩
            have hne2 := List.length_pos_iff.2 (Hpne.out p2 (List.mem_of_getElem? hp2))
            exact ⟨p2, p2[0], hp2, List.getElem?_eq_getElem hne2, Hpb.out p2 (List.mem_of_getElem? hp2), hne2⟩)
          clear hp hqp hzi hpn0 hplen hd hdo hdz hsw hr3 hpl300 hpn hs hos K16
          go_upto_region 16 with fail
          refine wp_region_held_drew (S := fun W => Kq Wb.heap.size Ng W8 W) (by kernel_rfl) (HK.out.keep ((Below.refl _ _).drew)) (fun hS0 => ?_)
          refine wpAnyH_take (i := 0) (v := .slice (some ⟨bz, oz, none⟩) N cZ) rfl (by kernel_rfl) (by kernel_rfl) (by kernel_rfl) (fun _ _ _ h => h) (Or.inl ⟨by rfl, fun W' hW => by go_simp⟩) hS0 ?_
          refine wpAnyH_take (i := 1) (v := .int .i64 (i : Int)) rfl (by kernel_rfl) (by kernel_rfl) (by kernel_rfl) (fun _ _ _ h => h) (Or.inl ⟨by rfl, fun W' hW => by go_simp⟩) hS0 ?_
          refine wpAnyH_take (i := 2) (v := .pointer (some ⟨bz, oz + i, none⟩)) rfl (by kernel_rfl) (by kernel_rfl) (by kernel_rfl) (fun _ _ _ h => h) (Or.inl ⟨by rfl, fun W' hW => by go_simp⟩) hS0 ?_
          refine wpAnyH_take (i := 3) (v := .int .i64 zi) rfl (by kernel_rfl) (by kernel_rfl) (by kernel_rfl) (fun _ _ _ h => h) (Or.inl ⟨by rfl, fun W' hW => by obtain ⟨⟨z0, z1⟩, z2, z3, z4⟩ := HC.out W' hW; go_simp⟩) hS0 ?_
          refine wpAnyH_take (i := 4) (v := .agg #[.slice a0 n c0, .slice b0 m e0]) rfl (by kernel_rfl) (by kernel_rfl) (by kernel_rfl) (fun _ _ _ h => h) (Or.inl ⟨by rfl, fun W' hW => by obtain ⟨⟨z0, z1⟩, z2, z3, z4⟩ := HC.out W' hW; go_simp⟩) hS0 ?_
          refine wpAnyH_take (i := 5) (v := .slice (some ⟨bv, ov, none⟩) N cV) rfl (by kernel_rfl) (by kernel_rfl) (by kernel_rfl) (fun _ _ _ h => h) (Or.inl ⟨by rfl, fun W' hW => by go_simp⟩) hS0 ?_
          refine wpAnyH_take (i := 6) (v := .int .i64 (i : Int)) rfl (by kernel_rfl) (by kernel_rfl) (by kernel_rfl) (fun _ _ _ h => h) (Or.inl ⟨by rfl, fun W' hW => by go_simp⟩) hS0 ?_
          refine wpAnyH_take (i := 7) (v := .pointer (some ⟨bv, ov + i, none⟩)) rfl (by kernel_rfl) (by kernel_rfl) (by kernel_rfl) (fun _ _ _ h => h) (Or.inl ⟨by rfl, fun W' hW => by go_simp⟩) hS0 ?_
          refine wpAnyH_take (i := 8) (v := .slice (some ⟨b3, 0, none⟩) sl swc) rfl (by kernel_rfl) (by kernel_rfl) (by kernel_rfl) (fun _ _ _ h => h) (Or.inl ⟨by rfl, fun W' hW => by obtain ⟨⟨z0, z1⟩, z2, z3, z4⟩ := HC.out W' hW; go_simp⟩) hS0 ?_
          refine wpAnyH_take (i := 9) (v := .pointer (some ⟨b3, 0, none⟩)) rfl (by kernel_rfl) (by kernel_rfl) (by kernel_rfl) (fun _ _ _ h => h) (Or.inl ⟨by rfl, fun W' hW => by go_simp⟩) hS0 ?_
          refine wpAnyH_take (i := 10) (v := .int .i64 d) rfl (by kernel_rfl) (by kernel_rfl) (by kernel_rfl) (fun _ _ _ h => h) (Or.inl ⟨by rfl, fun W' hW => by obtain ⟨⟨z0, z1⟩, z2, z3, z4⟩ := HC.out W' hW; go_simp⟩) hS0 ?_
          refine wpAnyH_ready (rs := [11]) (by kernel_rfl) (by simp) ?_
          refine AllReadyH.cons rfl (fun K hK => ?_) AllReadyH.nil
          go_simp
          refine (K16d.out _ (HKb.out _ hS0)).mono ?_
          rintro e W9 ⟨rfl, hb9⟩
          have HK9 := hide (hS0.keep hb9)
          have HQ9 := hide ((HQ.out.keep ((Below.refl _ _).drew)).keep hb9)
          refine hK.out _ _ HK9.out (fun hS1 => ?_)
          clear hK K hb9
          refine wpAnyH_ready (rs := [12]) (by kernel_rfl) (by simp) ?_
          refine AllReadyH.cons rfl (fun K hK => ?_) AllReadyH.nil
          go_simp
          refine hK.out _ _ hS1 (fun _ => ?_)
          clear hK K
          refine wpAnyH_done (by kernel_rfl) ?_ _
          have c8 := Hcel.out W9 qs HQ9.out Hql.out
          clear HK HQ hS0 hS1
          go_upto_region 19 with fail
          clear c8
          go_loopw [107] (fun v107 wr => ∃ (k : Nat) (p' : List Int), v107 = .int .i64 k ∧ k ≤ sl ∧ Hid (Kq Wb.heap.size Ng W8 wr) ∧ Hid (Gq Wb.heap.size Ng W8.heap.size wr (.slice (some ⟨g, 0, none⟩) N cG) svs (qs.set i p')) ∧ Hid (p'.length = sl)) (fun v107 _ => sl - (intOf v107).toNat)
          case atStart => exact ⟨0, p, rfl, Nat.zero_le _, HK9, hide (by rw [set_same Hqp.out]; exact HQ9.out), Hpn⟩
          case round =>
            clear HK9 HQ9
            obtain ⟨k, p', rfl, hk, HK, HQ, Hpl'⟩ := hrel
            have c8 := Hcel.out wr (qs.set i p') HQ.out (by rw [List.length_set]; exact Hql.out)
            by_cases hkl : k < sl
            · obtain ⟨⟨y, e0'⟩, e1', hK2, hQ2⟩ := HQ.out.setc (x := -1) HK.out Hs.out (set_at Hqp.out) (j := k) (by rw [Hpl'.out]; exact hkl)
              rw [List.set_set] at hQ2
              have HK2 := hide hK2
              have HQ2 := hide hQ2
              have Hpl2 : Hid ((p'.set k (-1)).length = sl) := hide (by rw [List.length_set]; exact Hpl'.out)
              have k0 : (0 : Int) ≤ (k : Int) := by omega
              have k1 : (k : Int) < (sl : Int) := by omega
              clear hK2 hQ2
              go_wp2_with fail
              go_roundw
              case rel => exact ⟨k + 1, _, by go_num, by omega, HK2, HQ2, Hpl2⟩
              case measure => simp [intOf]; omega
            · obtain rfl : k = sl := by omega
              have k1 : ¬ (k : Int) < (k : Int) := by omega
              have hov := HQ.out.lb.el i _ p' Hs.out (set_at Hqp.out)
              have Hov := hide hov
              have Hba : Hid (∀ (o : Obj), Below wr.heap.size wr (wr.alloc o)) := hide (fun o => (Below.refl _ _).alloc (Nat.le_refl _) o)
              have HKa : Hid (∀ (o : Obj), Kq Wb.heap.size Ng W8 (wr.alloc o)) := hide (fun o => HK.out.keep (Hba.out o))
              have HQa : Hid (∀ (o : Obj), Gq Wb.heap.size Ng W8.heap.size (wr.alloc o) (.slice (some ⟨g, 0, none⟩) N cG) svs (qs.set i p')) := hide (fun o => HQ.out.keep (Hba.out o))
              have HBa : Hid (∀ (o : Obj), Wb.heap.size ≤ (wr.alloc o).heap.size) := hide (fun o => (HKb.out _ (HKa.out o)).size)
              have Hl5 : Hid (p'.length + [(-1 : Int)].length ≤ 1000000) := hide (by rw [Hpl'.out]; simp; omega)
              clear hov
              go_upto_region 24 with (at_builtin; refine intE.wpB (B := Wb.heap.size) (HBa.out _) (by rfl) _ _ rfl _ _ rfl rfl p' [-1] (Hov.out.keep (Hba.out _)) (int_new wr _ _ rfl) Hl5.out ?_; intro v3 w3 ho3 hg3 hs3; obtain ⟨pa, pll, pcc, rfl⟩ : ∃ a l c, v3 = .slice a l c := (by obtain ⟨a, c, h⟩ := ho3.rd.form; exact ⟨_, _, _, h⟩); obtain ⟨⟨y0, y1⟩, hK3, hQ3⟩ := (HQa.out _).put (HKa.out _) (set_at Hqp.out) Hs.out ho3 hg3 hs3; have HK3 := hide hK3; have HQ3 := hide hQ3; clear ho3 hg3 hs3 hK3 hQ3)
              obtain ⟨WA, hWA⟩ : ∃ W, w3.setCell ⟨g, i, none⟩ (.slice pa pll pcc) = W := ⟨_, rfl⟩
              rw [hWA] at HK3 HQ3
              rw [hWA]
              rw [List.set_set] at HQ3
              have Hql3 : Hid ((qs.set i (p' ++ [-1])).length = N) := hide (by rw [List.length_set]; exact Hql.out)
              have Hqs3 : Hid (∀ j, i + 1 ≤ j → (qs.set i (p' ++ [-1]))[j]? = ps[j]?) := hide (fun j hj => by rw [set_off (by omega)]; exact Hqs.out j (by omega))
              have HKq : Hid (∀ q, Kq Wb.heap.size Ng W8 (WA.drewN q)) := hide (fun q => HK3.out.keep (below_heap (Below.refl _ _) rfl rfl rfl rfl))
              have HQq : Hid (∀ q, Gq Wb.heap.size Ng W8.heap.size (WA.drewN q) (.slice (some ⟨g, 0, none⟩) N cG) (svs.set i ⟨pa, pll, pcc⟩) (qs.set i (p' ++ [-1]))) := hide (fun q => HQ3.out.keep (below_heap (Below.refl _ _) rfl rfl rfl rfl))
              obtain ⟨i', hi'⟩ : ∃ i' : Nat, i + 1 = i' := ⟨_, rfl⟩
              have hsi : (i : Int) + 1 = (i' : Int) := by omega
              have hwi : IntKind.i64.wrap ((i : Int) + 1) = (i' : Int) := by rw [hsi]; exact i64_small _ (by omega) (by omega)
              have hwi2 : IntKind.i64.wrap (i' : Int) = (i' : Int) := i64_small _ (by omega) (by omega)
              clear hWA y0 y1 c8 Hov Hba HKa HQa HBa Hl5 HK HQ
              by_cases hn1 : i' < N
              · obtain ⟨p2, d2, hp2, hd2, hl2, hl20⟩ := Hnx.out (by omega)
                rw [hi'] at hp2
                have hq2 : (qs.set i (p' ++ [-1]))[i']? = some p2 := by rw [Hqs3.out i' (by omega)]; exact hp2
                obtain ⟨s2, hs2⟩ : ∃ s2, (svs.set i (⟨pa, pll, pcc⟩ : Sv))[i']? = some s2 := ⟨_, List.getElem?_eq_getElem (by rw [HQ3.out.lb.len, Hql3.out]; exact hn1)⟩
                obtain ⟨b5, o5, e5, h5, ho5, hl5⟩ := HQ3.out.lb.at hq2 hs2
                simp only [Option.some.injEq, Addr.mk.injEq] at e5
                obtain ⟨rfl, rfl, _⟩ := e5
                rw [Nat.zero_add] at h5
                have hne2 : p2 ≠ [] := List.length_pos_iff.1 hl20
                obtain ⟨b6, ha6⟩ := sv_some ho5 hne2
                obtain ⟨s2a, s2l, s2c⟩ := s2
                simp only at ha6 hl5 h5 ho5
                subst ha6
                have f5 := (ho5.at1 (Value.int .i64) (fun _ => rfl) rfl 0 d2 hd2).1
                obtain ⟨sw2, hsw2⟩ : ∃ sw, svw[i']? = some sw := ⟨_, List.getElem?_eq_getElem (by rw [(HV8.out _ HK3.out).len]; exact idx_lt hp2)⟩
                obtain ⟨b7, o7, e7, h7, ho7, hl7⟩ := (HV8.out _ HK3.out).at hp2 hsw2
                simp only [Option.some.injEq, Addr.mk.injEq] at e7
                obtain ⟨rfl, rfl, _⟩ := e7
                obtain ⟨b8, ha8⟩ := sv_some ho7 hne2
                obtain ⟨swa2, swl2, swc2⟩ := sw2
                simp only at ha8 hl7 h7 ho7
                subst ha8
                have f7 := (ho7.at1 (Value.int .i64) (fun _ => rfl) rfl 0 d2 hd2).1
                rw [← hl5] at hl7 hl20 hl2
                subst hl7
                have n1 : (i' : Int) < (N : Int) := by omega
                have n2 : decide (i' < N) = true := decide_eq_true hn1
                have n3 : decide ((i' : Int) < (N : Int)) = true := decide_eq_true n1
                have n4 : (0 : Int) ≤ (i' : Int) := by omega
                have n5 : (0 : Int) < (swl2 : Int) := by omega
                have hdd : (d2 != d2) = false := by simp
                clear hp2 hd2 hl2 hl20 hq2 hs2 ho5 hl5 hne2 hsw2 ho7 hi'
                go_quiet (fail)
                go_wp2_with fail
                go_roundw
                case rel => exact ⟨i + 1, _, _, by go_num, by omega, hide (HKq.out _), hide (HQq.out _), Hql3, Hqs3⟩
                case measure => simp [intOf]; omega
              · have n1 : ¬ ((i' : Int) < (N : Int)) := by omega
                have n2 : decide (i' < N) = false := decide_eq_false hn1
                have n3 : decide ((i' : Int) < (N : Int)) = false := decide_eq_false n1
                clear hi'
                go_quiet (fail)
                go_wp2_with fail
                go_roundw
                case rel => exact ⟨i + 1, _, _, by go_num, by omega, hide (HKq.out _), hide (HQq.out _), Hql3, Hqs3⟩
                case measure => simp [intOf]; omega
        · obtain rfl : i = N := by omega
          have g1 : ¬ (i : Int) < (i : Int) := by omega
          have HBw := hide (HKb.out _ HK.out)
          obtain ⟨⟨x0, x1⟩, x2, x3⟩ := HCb.out _ HBw.out
          have K17 := hide (same_ly (HLin.out _ HBw.out) (HLb.out _ HBw.out).1)
          have K18 : Hid (∀ W, Below Wb.heap.size Wb W → Calls Try.prog 18 #[.slice aP len1 cP, .slice a1 len1 cap1] W fun e w' => e = .returned (.bool true) ∧ Below W.heap.size W w') := hide (fun W hb => by
            have := ints_eq (Hpin.out W hb) (HLb.out W hb).2 Hw1.out Hw1.out (by have := Hl.out; omega)
            rwa [decide_eq_true rfl] at this)
          go_wp2_with (first | (go_at_call 17; refine (K17.out).mono ?_; rintro e WX ⟨rfl, hbX⟩; have HBX := hide (HBw.out.trans (hbX.mono HBw.out.size)); clear hbX) | (go_at_call 18; refine (K18.out _ HBX.out).mono ?_; rintro e WY ⟨rfl, hbY⟩; have HBY := hide (HBfin.out _ (HBX.out.trans (hbY.mono HBX.out.size))); clear hbY))
          go_ret
          exact ⟨rfl, HBY.out⟩
end Go.Proofs.Ytmmkfcmbmecleaa.zonePieces
