import Derived.Test.YtocmngpoemfpkabGreatDoorControlSendsAA
import Derived.Test.YtocmngpoemfpkabGreatDoorControlSendsAB
import Derived.Test.YtocmngpoemfpkabGreatDoorControlSendsAG
import Derived.Test.YtocmngpoemfpkabGreatDoorControlSendsAI
import Derived.Test.YtocmngpoemfpkabGreatDoorControlSendsAJ
import Derived.Test.YtocmngpoemfpkabGreatDoorControlSendsAK
set_option linter.unusedVariables false
namespace Go.Proofs.YtocmngpoemfpkabGreatDoor
open Go.RowKit
theorem hasRP_eq {K : Bk} {c : Ct} (h : K = c.K) (t : Int) : hasRP K t = c.hasR t := by subst h; rfl
theorem near_succ (E : Ev) (c : Ct) (t : Int) (k : Nat) : Ct.near E c t (k + 1) = Ct.near1 E c t (c.fullL E t) (Ct.near E c t k) (k : Int) := by
  unfold Ct.near
  rw [List.range_succ, List.map_append, List.foldl_append]
  rfl
theorem away_succ (E : Ev) (c : Ct) (k : Nat) : Ct.away E c (k + 1) = Ct.away1 E (Ct.away E c k) ((k : Int) + 1) := by
  unfold Ct.away
  rw [List.range_succ, List.map_append, List.foldl_append]
  rfl
theorem near1_fact {E : Ev} {c : Ct} {t n : Int} {full best : List Int} (hb : best.length ≤ E.ns.length ∧ ∀ d ∈ best, 1 ≤ d ∧ d ≤ (E.es.length : Int)) :
    (Ct.near1 E c t full best n).length ≤ E.ns.length ∧ ∀ d ∈ Ct.near1 E c t full best n, 1 ≤ d ∧ d ≤ (E.es.length : Int) := by
  unfold Ct.near1
  split
  · split
    · exact wayF_fact _ _ _ _ _
    · exact hb
  · exact hb
theorem near_fact (E : Ev) (c : Ct) (t : Int) (k : Nat) : (Ct.near E c t k).length ≤ E.ns.length ∧ ∀ d ∈ Ct.near E c t k, 1 ≤ d ∧ d ≤ (E.es.length : Int) := by
  induction k with
  | zero => exact ⟨Nat.zero_le _, fun d hd => by cases hd⟩
  | succ k ih => rw [near_succ]; exact near1_fact ih
theorem away1_keep (E : Ev) (c : Ct) (t : Int) : (Ct.away1 E c t).S = c.S ∧ (Ct.away1 E c t).K = c.K ∧ (Ct.away1 E c t).dead = c.dead ∧ (Ct.away1 E c t).T = c.T ∧ (Ct.away1 E c t).tk = c.tk := by
  unfold Ct.away1
  split
  · exact ⟨rfl, rfl, rfl, rfl, rfl⟩
  · split
    · exact ⟨rfl, rfl, rfl, rfl, rfl⟩
    · exact ⟨rfl, rfl, rfl, rfl, rfl⟩
theorem away_keep (E : Ev) (c : Ct) (k : Nat) : (Ct.away E c k).S = c.S ∧ (Ct.away E c k).K = c.K ∧ (Ct.away E c k).dead = c.dead ∧ (Ct.away E c k).T = c.T ∧ (Ct.away E c k).tk = c.tk := by
  induction k with
  | zero => exact ⟨rfl, rfl, rfl, rfl, rfl⟩
  | succ k ih =>
    obtain ⟨a1, a2, a3, a4, a5⟩ := away1_keep E (Ct.away E c k) ((k : Int) + 1)
    obtain ⟨b1, b2, b3, b4, b5⟩ := ih
    rw [away_succ]
    exact ⟨a1.trans b1, a2.trans b2, a3.trans b3, a4.trans b4, a5.trans b5⟩
theorem Gd.away1 {E : Ev} {c : Ct} {k : Nat} (h : Gd c k) (hn : E.ns.length ≤ 1000) (t : Int) : Gd (Ct.away1 E c t) k := by
  unfold Ct.away1
  split
  · exact h
  · split
    · exact h
    · exact h.setJ _ (Nat.le_trans (near_fact _ _ _ _).1 hn)
theorem Gd.away {E : Ev} {c : Ct} {k : Nat} (h : Gd c k) (hn : E.ns.length ≤ 1000) (j : Nat) : Gd (Ct.away E c j) k := by
  induction j with
  | zero => exact h
  | succ j ih => rw [away_succ]; exact ih.away1 hn _
theorem whr_in {S : Mr} {t : Int} (ht : 1 ≤ t ∧ t ≤ 30) (h : S.whr t ≠ -1) : 0 ≤ S.whr t ∧ S.whr t < S.ts.length := Mr.isN_iff.1 (whr_at (isT_iff.2 ht) h).1
section
set_option maxRecDepth 100000
set_option maxHeartbeats 4000000
variable {w0 w : World} {l : List It} {B g n m : Nat} {E : Ev} {P : Kp} {c : Ct}
theorem kawayS (h : Its w0 (.ctl w0.heap.size g E n m P c :: l) w) (hv : P.S = c.S ∧ P.K = c.K ∧ c.dead = false) {kk : Nat} (hg : Gd c kk) :
    Calls Tryz.prog 54 #[.pointer (some ⟨g, 0, none⟩)] w (VoidP w0 l g E n m (Ct.away E c 30)) := by
  have hn4 := (kt_ly h.one).n4
  have hnn := (kt_f h.one).hn
  have hmm := (kt_f h.one).hm
  have HE : Hid (E.ns.length ≤ 1000 ∧ E.ns.length = n ∧ E.es.length = m) := hide ⟨by omega, hnn, hmm⟩
  have HI := hide h
  have HG := hide hg
  have HV := hide hv
  obtain ⟨F, hF⟩ : ∃ F : Nat → Ct, F = Ct.away E c := ⟨_, rfl⟩
  have F0 : Hid (F 0 = c) := hide (by rw [hF]; rfl)
  have FS : Hid (∀ k, F (k + 1) = Ct.away1 E (F k) ((k : Int) + 1)) := hide (fun k => by rw [hF]; exact away_succ E c k)
  rw [← hF]
  generalize hR : VoidP w0 l g E n m (F 30) = R
  have HR0 : Hid (∀ P' w', (P'.S = (F 30).S ∧ P'.K = (F 30).K) → Its w0 (.ctl w0.heap.size g E n m P' (F 30) :: l) w' → R (.returned (.tuple #[])) w') := hide (fun P' w' h1 h2 => by rw [← hR]; exact ⟨rfl, P', fun _ => h1, h2⟩)
  have i0 : (n : Int) ≤ 1000 := by omega
  clear hR h hv hg hn4 hnn hmm hF
  go_enter Tryz.func54, Tryz.ntmps54
  go_wp2_with fail
  go_step3
  go_wp2_with fail
  go_step3
  go_wp2_with fail
  go_loopg [2] 30 (fun go s2 wx => ∃ (d : Nat) (P' : Kp) (ck : Ct), d + go = 31 ∧ 1 ≤ d ∧ s2 = .int .i64 d ∧ Hid (P'.S = ck.S ∧ P'.K = ck.K ∧ ck.dead = false) ∧ Hid (F (d - 1) = ck) ∧ Hid (Gd ck kk) ∧ Hid (Its w0 (.ctl w0.heap.size g E n m P' ck :: l) wx))
  case atStart => exact ⟨1, P, c, by omega, by omega, rfl, HV, F0, HG, HI⟩
  case round =>
    obtain ⟨d, P', ck, hd, hd1, rfl, HP, HF, HGk, HR⟩ := hrel
    cases gk with
    | zero =>
      obtain rfl : d = 31 := by omega
      have j1 : ¬ ((31 : Nat) : Int) ≤ 30 := by omega
      have HF30 : Hid (F 30 = ck) := HF
      have HZ := hide (HR0.out P' wr (by rw [HF30.out]; exact ⟨HP.out.1, HP.out.2.1⟩) (by rw [HF30.out]; exact HR.out))
      go_wp2_with fail
      first
        | exact HZ.out
        | (refine bodyPost_end (results_none rfl _ _ _) rfl ?_; exact HZ.out)
    | succ go =>
      have j0 : (0 : Int) ≤ (d : Int) := by omega
      have j1 : (d : Int) ≤ 30 := by omega
      have j3 : (d : Int) < 31 := by omega
      have j2 : wrap64 ((d : Int) + 1) = (d : Int) + 1 := by unfold wrap64; omega
      have HN : Hid (F (d + 1 - 1) = Ct.away1 E ck (d : Int)) := hide (by
        have := FS.out (d - 1)
        rw [show d - 1 + 1 = d by omega, HF.out, show ((d - 1 : Nat) : Int) + 1 = (d : Int) by omega] at this
        exact this)
      have KR : Hid (∀ W, Its w0 (.ctl w0.heap.size g E n m P' ck :: l) W → Calls Tryz.prog 122 #[.pointer (some ⟨g, 0, none⟩), .int .i64 (d : Int)] W fun e w' => e = .returned (.bool (ck.rests (d : Int))) ∧ ∃ q, w' = W.drewN q) := hide (fun W hW => by
        have := rests_any hW.one (d : Int) (by omega)
        rw [HP.out.1] at this
        exact this)
      have KH : Hid (∀ W, Its w0 (.ctl w0.heap.size g E n m P' ck :: l) W → Calls Tryz.prog 125 #[.pointer (some ⟨g, 0, none⟩), .int .i64 (d : Int)] W fun e w' => e = .returned (.bool (ck.hasR (d : Int))) ∧ Below W.heap.size W w') := hide (fun W hW => by
        have := hasReq_any hW.one (d : Int) (by omega)
        rw [hasRP_eq HP.out.2.1] at this
        exact this)
      have HA : Hid (Ct.away1 E ck (d : Int) = if (!ck.rests (d : Int) || ck.hasR (d : Int)) = true then ck else if kindAt E.ns (ck.S.whr (d : Int)) = 2 then ck else ck.setJ (d : Int) (Ct.near E ck (d : Int) E.ns.length)) := hide rfl
      have Hre : Hid (ck.rests (d : Int) = true → ck.S.whr (d : Int) ≠ -1) := hide (fun h => by
        unfold Ct.rests at h
        simp only [Bool.and_eq_true, decide_eq_true_eq] at h
        exact h.1)
      generalize ck.rests (d : Int) = rr at *
      generalize ck.hasR (d : Int) = hq at *
      cases rr with
      | false =>
        have HN1 : Hid (F (d + 1 - 1) = ck) := hide (by have := HN.out; rw [HA.out, if_pos (by simp)] at this; exact this)
        clear HN HA Hre KH
        go_wp2_with (go_at_call 122; refine (KR.out _ HR.out).mono ?_; rintro e w2 ⟨rfl, q9, rfl⟩)
        go_roundg go
        case measure => omega
        case rel => exact ⟨d + 1, P', ck, by omega, by omega, by go_num, HP, HN1, HGk, hide (HR.out.hp rfl rfl rfl rfl)⟩
      | true =>
      cases hq with
      | true =>
        have HN1 : Hid (F (d + 1 - 1) = ck) := hide (by have := HN.out; rw [HA.out, if_pos (by simp)] at this; exact this)
        clear HN HA Hre
        go_wp2_with (first
          | (go_at_call 122; refine (KR.out _ HR.out).mono ?_; rintro e w2 ⟨rfl, q9, rfl⟩)
          | (go_at_call 125; refine (KH.out _ ?_).mono ?_; exact HR.out.hp rfl rfl rfl rfl; rintro e w3 ⟨rfl, q8⟩; have HR3 := hide ((HR.out.drew q9).keep q8); clear q8))
        go_roundg go
        case measure => omega
        case rel => exact ⟨d + 1, P', ck, by omega, by omega, by go_num, HP, HN1, HGk, hide (HR3.out.hp rfl rfl rfl rfl)⟩
      | false =>
        have HA2 : Hid (Ct.away1 E ck (d : Int) = if kindAt E.ns (ck.S.whr (d : Int)) = 2 then ck else ck.setJ (d : Int) (Ct.near E ck (d : Int) E.ns.length)) := hide (by have := HA.out; rw [if_neg (by simp)] at this; exact this)
        have hwn := whr_in (S := ck.S) (t := (d : Int)) (by omega) (Hre.out rfl)
        rw [← HP.out.1, (mr_len (kt_m HR.out.one)).1, HP.out.1] at hwn
        have Hwn := hide hwn
        clear HA Hre hwn
        obtain ⟨FL, hFL⟩ : ∃ FL, ck.fullL E (d : Int) = FL := ⟨_, rfl⟩
        obtain ⟨NE, hNE⟩ : ∃ NE : Nat → List Int, NE = Ct.near E ck (d : Int) := ⟨_, rfl⟩
        have N0 : Hid (NE 0 = []) := hide (by rw [hNE]; rfl)
        have NS : Hid (∀ k : Nat, NE (k + 1) = if kindAt E.ns (k : Int) = 2 then (if ck.wayF E (d : Int) (k : Int) FL ≠ [] ∧ (NE k = [] ∨ (ck.wayF E (d : Int) (k : Int) FL).length < (NE k).length) then ck.wayF E (d : Int) (k : Int) FL else NE k) else NE k) := hide (fun k => by rw [hNE, near_succ, hFL]; rfl)
        have NF : Hid (∀ k, (NE k).length ≤ E.ns.length ∧ ∀ x ∈ NE k, 1 ≤ x ∧ x ≤ (E.es.length : Int)) := hide (fun k => by rw [hNE]; exact near_fact E ck _ k)
        have HA3 : Hid (Ct.away1 E ck (d : Int) = if kindAt E.ns (ck.S.whr (d : Int)) = 2 then ck else ck.setJ (d : Int) (NE n)) := hide (by have := HA2.out; rw [← hNE, HE.out.2.1] at this; exact this)
        have KB : Hid (∀ W, Its w0 (.ctl w0.heap.size g E n m P' ck :: l) W → Calls Tryz.prog 124 #[.pointer (some ⟨g, 0, none⟩), .int .i64 (d : Int)] W (OwnI W FL)) := hide (fun W hW => by
          have := fullFor_any hW.one HGk.out.jl (d : Int)
          rw [fulL_eq (HP.out.1) HE.out.2.1, hFL] at this
          exact this)
        have HFl : Hid (FL.length ≤ 1000) := hide (by
          have := fulL_len E P' ck (d : Int) n
          rw [fulL_eq (HP.out.1) HE.out.2.1, hFL] at this
          have := HE.out
          omega)
        clear hFL hNE HA2
        have hn1 : 0 < n := by have := Hwn.out; omega
        obtain ⟨b, off, hla⟩ : ∃ b off, P'.la = some ⟨b, off, none⟩ := by
          obtain ⟨p, hp⟩ : ∃ p, E.ns[0]? = some p := ⟨_, List.getElem?_eq_getElem (by rw [HE.out.2.1]; exact hn1)⟩
          obtain ⟨b, off, hb, _⟩ := nd_at (kt_ns HR.out.one).rd 0 p hp
          exact ⟨b, off, hb⟩
        have HLA := hide hla
        clear hla
        go_upto_region 6 with (first
          | (go_at_call 122; refine (KR.out _ HR.out).mono ?_; rintro e w2 ⟨rfl, q9, rfl⟩)
          | (go_at_call 125; refine (KH.out _ ?_).mono ?_; exact HR.out.hp rfl rfl rfl rfl; rintro e w3 ⟨rfl, q8⟩; have HR3 := hide ((HR.out.drew q9).keep q8); clear q8)
          | (go_at_call 124; refine (KB.out _ HR3.out).mono ?_; rintro e w4 ⟨a2, n2, p2, rfl, q1, q2, q3⟩; have N2 := hide q1; have HX := hide (HR3.out.fresh q2 q3); clear q1 q2 q3))
        obtain ⟨f0, _⟩ := kt_c HX.out.two
        rw [HLA.out] at f0
        have HX0 := hide (HX.out.empty intE)
        go_wp2_with fail
        clear f0
        go_loopg [3, 30] n (fun g2 s3 s30 wy => ∃ (k : Nat) (a : Option Addr) (q p : Nat) (best : List Int), k + g2 = n ∧ s3 = .slice a q p ∧ s30 = .int .i64 k ∧ Hid (NE k = best ∧ best.length = q) ∧ Hid (∀ j : Nat, j < k → kindAt E.ns (j : Int) = 2 → ck.S.whr (d : Int) ≠ (j : Int)) ∧ Hid (Its w0 (.ints w0.heap.size (.slice a q p) best :: .ints w0.heap.size (.slice a2 n2 p2) FL :: .ctl w0.heap.size g E n m P' ck :: l) wy))
        case atStart => exact ⟨0, none, 0, 0, [], by omega, rfl, rfl, hide ⟨N0.out, rfl⟩, hide (fun j hj => by omega), hide (HX0.out.hp rfl rfl rfl rfl)⟩
        case round =>
          obtain ⟨k, a, q, p, best, hkg, rfl, rfl, HBe, HNo, HW⟩ := hrel
          cases gk with
          | zero =>
            obtain rfl : k = n := by omega
            have j4 : ¬ (k : Int) < (k : Int) := by omega
            have HN1 : Hid (F (d + 1 - 1) = ck.setJ (d : Int) best) := hide (by
              have := HN.out
              obtain ⟨z, hz⟩ : ∃ z : Nat, ck.S.whr (d : Int) = (z : Int) := ⟨(ck.S.whr (d : Int)).toNat, by have := Hwn.out; omega⟩
              rw [HA3.out, if_neg (fun q => HNo.out z (by have := Hwn.out; omega) (by rw [← hz]; exact q) hz), HBe.out.1] at this
              exact this)
            have HK1 := hide ((HW.out.swap.tail).kjobN d (by omega) (fun x hx => by rw [← HE.out.2.2]; rw [← HBe.out.1] at hx; exact (NF.out k).2 x hx))
            have HGk1 : Hid (Gd (ck.setJ (d : Int) best) kk) := hide (HGk.out.setJ _ (by rw [← HBe.out.1]; exact Nat.le_trans (NF.out k).1 HE.out.1))
            have f1 := kt_vj HW.out.three d (by omega)
            have f2 := kt_z HW.out.three (6 + d)
            clear NS NF HA3 HN
            go_wp2_with fail
            go_roundg go
            case measure => omega
            case rel => exact ⟨d + 1, { P' with vJ := updJ P'.vJ d (.slice a q p) }, ck.setJ (d : Int) best, by omega, by omega, by go_num, hide HP.out, HN1, HGk1, hide (HK1.out.hp rfl rfl rfl rfl)⟩
          | succ g2 =>
            have j4 : (k : Int) < (n : Int) := by omega
            have j5 : (0 : Int) ≤ (k : Int) := by omega
            have j6 : wrap64 ((k : Int) + 1) = (k : Int) + 1 := by unfold wrap64; omega
            obtain ⟨nd, hnd⟩ : ∃ nd, E.ns[k]? = some nd := ⟨_, List.getElem?_eq_getElem (by rw [HE.out.2.1]; omega)⟩
            have hk : kindAt E.ns (k : Int) = nd.kind := by unfold kindAt; rw [show ((k : Int)).toNat = k by omega, hnd]; rfl
            obtain ⟨b', off', hb', d0, d1, d2⟩ := nd_at (kt_ns HW.out.three).rd k nd hnd
            rw [HLA.out] at hb'
            simp only [Option.some.injEq, Addr.mk.injEq, and_true] at hb'
            obtain ⟨rfl, rfl⟩ := hb'
            obtain ⟨nm, kd, zn⟩ := nd
            dsimp only at hk d0 d1 d2
            have NSk : Hid (NE (k + 1) = if kd = 2 then (if ck.wayF E (d : Int) (k : Int) FL ≠ [] ∧ (best = [] ∨ (ck.wayF E (d : Int) (k : Int) FL).length < best.length) then ck.wayF E (d : Int) (k : Int) FL else best) else best) := hide (by have := NS.out k; rw [hk, HBe.out.1] at this; exact this)
            have HNo1 : Hid ((kd = 2 → ck.S.whr (d : Int) ≠ (k : Int)) → ∀ j : Nat, j < k + 1 → kindAt E.ns (j : Int) = 2 → ck.S.whr (d : Int) ≠ (j : Int)) := hide (fun h j hj q => by
              by_cases e : j = k
              · subst e; rw [hk] at q; exact h q
              · exact HNo.out j (by omega) q)
            have HA4 : Hid (kd = 2 → ck.S.whr (d : Int) = (k : Int) → F (d + 1 - 1) = ck) := hide (fun q1 q2 => by
              have := HN.out
              rw [HA3.out, if_pos (by rw [q2, hk]; exact q1)] at this
              exact this)
            clear hnd hk
            by_cases hkd : kd = 2
            case neg =>
              have hkd' : (kd == 2) = false := beq_eq_false_iff_ne.2 hkd
              have HN2 : Hid (NE (k + 1) = best) := hide (by have := NSk.out; rw [if_neg hkd] at this; exact this)
              have HNo2 := hide (HNo1.out (fun q => absurd q hkd))
              clear NSk HNo1 HA4
              go_wp2_with fail
              go_roundg g2
              case measure => omega
              case rel => exact ⟨k + 1, a, q, p, best, by omega, rfl, by go_num, hide ⟨HN2.out, HBe.out.2⟩, HNo2, hide (HW.out.alloc _)⟩
            case pos =>
              subst hkd
              have NS2 : Hid (NE (k + 1) = if ck.wayF E (d : Int) (k : Int) FL ≠ [] ∧ (best = [] ∨ (ck.wayF E (d : Int) (k : Int) FL).length < best.length) then ck.wayF E (d : Int) (k : Int) FL else best) := hide (by have := NSk.out; rw [if_pos rfl] at this; exact this)
              obtain ⟨l2, hl2⟩ : ∃ l2, It.ints w0.heap.size (.slice a2 n2 p2) FL :: .ctl w0.heap.size g E n m P' ck :: l = l2 := ⟨_, rfl⟩
              have HB1 : Hid (Its w0 (.box wr.heap.size #[.string nm, .int .i64 2, .int .i64 zn] 133 :: .ints w0.heap.size (.slice a q p) best :: .ints w0.heap.size (.slice a2 n2 p2) FL :: .ctl w0.heap.size g E n m P' ck :: l) (wr.alloc (.cells #[.string nm, .int .i64 2, .int .i64 zn] 133))) := hide (HW.out.boxN #[.string nm, .int .i64 2, .int .i64 zn] 133 rfl)
              clear hl2
              have KW : Hid (∀ W, (It.mir w0.heap.size P'.gm P'.Hm n m E.es P'.S).P W → Calls Tryz.prog 47 #[.pointer (some ⟨P'.gm, 0, none⟩), .int .i64 (d : Int)] W fun e w' => e = .returned (.int .i64 (ck.S.whr (d : Int))) ∧ w' = W) := hide (fun W hW => by
                have := where_m hW (d : Int)
                rw [HP.out.1] at this
                exact this)
              have hbx := HB1.out.one
              have x1 := (cells_at hbx 1).1
              obtain ⟨_, _, _, _, y4, _, _, _⟩ := kt_c HB1.out.four
              clear hbx NSk
              generalize hwh : ck.S.whr (d : Int) = wh at *
              by_cases hw : wh = (k : Int)
              · have hw' : ((k : Int) == wh) = true := by simp [hw]
                have HF1 := hide (HA4.out rfl hw)
                clear hw NS2 HNo1 HA4 hwh
                go_wp2_with (go_at_call 47; refine (KW.out _ (kt_m HB1.out.four)).mono ?_; rintro e w5 ⟨rfl, rfl⟩)
                go_roundg go
                case measure => omega
                case rel => exact ⟨d + 1, P', ck, by omega, by omega, by go_num, HP, HF1, HGk, hide (HB1.out.tail.tail.tail.hp rfl rfl rfl rfl)⟩
              · have hw' : ((k : Int) == wh) = false := beq_eq_false_iff_ne.2 (fun q => hw q.symm)
                have HNo2 := hide (HNo1.out (fun _ => hw))
                have HWd := hide (wayF_fact ck E (d : Int) (k : Int) FL)
                have HWp : Hid (pathP E P'.S (d : Int) (k : Int) FL = ck.wayF E (d : Int) (k : Int) FL) := hide (by rw [HP.out.1]; rfl)
                generalize ck.wayF E (d : Int) (k : Int) FL = pw at *
                have KP : Hid (∀ W, Its w0 (.box wr.heap.size #[.string nm, .int .i64 2, .int .i64 zn] 133 :: .ints w0.heap.size (.slice a q p) best :: .ints w0.heap.size (.slice a2 n2 p2) FL :: .ctl w0.heap.size g E n m P' ck :: l) W → Calls Tryz.prog 123 #[.pointer (some ⟨g, 0, none⟩), .int .i64 (d : Int), .int .i64 (k : Int), .slice a2 n2 p2] W (fun e w' => ∃ a5 n5 p5, e = .returned (.slice a5 n5 p5) ∧ pw.length = n5 ∧ Its w0 (.ints w0.heap.size (.slice a5 n5 p5) pw :: .ints w0.heap.size (.slice a q p) best :: .ints w0.heap.size (.slice a2 n2 p2) FL :: .ctl w0.heap.size g E n m P' ck :: l) w')) := hide (fun W hW => by
                  have := pathTo_any hW.four (d : Int) (k : Int) N2.out hW.three.rd (by rw [← N2.out]; exact HFl.out)
                  rw [HWp.out] at this
                  refine this.mono ?_
                  rintro e w' ⟨v, rfl, q1, q2⟩
                  obtain ⟨a5, p5, rfl⟩ := q1.rd.form
                  exact ⟨a5, _, p5, rfl, rfl, hW.tail.fresh q1 q2⟩)
                clear hw HNo1 HA4 HWp hwh HWd
                have ARMS : True := trivial
                obtain ⟨n5, hn5⟩ : ∃ n5, pw.length = n5 := ⟨_, rfl⟩
                rw [hn5] at KP NS2
                have Hn5 := hide hn5
                have Hq := HBe.out.2
                rw [Hq] at NS2
                have e1 : (pw ≠ [] ↔ ¬ n5 = 0) := by rw [← hn5]; exact ⟨fun h q => h (List.eq_nil_of_length_eq_zero q), fun h q => h (by rw [q]; rfl)⟩
                have e2 : (best = [] ↔ q = 0) := by rw [← Hq]; exact ⟨fun h => by rw [h]; rfl, fun h => List.eq_nil_of_length_eq_zero h⟩
                simp only [ne_eq] at e1 NS2
                simp only [e1, e2] at NS2
                clear e1 e2 hn5 Hq
                by_cases z5 : n5 = 0
                · subst z5
                  have z1 : ¬ (0 : Int) < ((0 : Nat) : Int) := by omega
                  have HN3 : Hid (NE (k + 1) = best) := hide (by have := NS2.out; rw [if_neg (by omega)] at this; exact this)
                  clear NS2
                  go_wp2_with (first
                    | (go_at_call 47; refine (KW.out _ (kt_m HB1.out.four)).mono ?_; rintro e w5 ⟨rfl, rfl⟩)
                    | (go_at_call 123; refine (KP.out _ ?_).mono ?_; (first | exact HB1.out | exact HB1.out.hp rfl rfl rfl rfl); rintro e w6 ⟨a5, n5', p5, rfl, q1, q2⟩; subst q1; have HY := hide q2; clear q2))
                  go_roundg g2
                  case measure => omega
                  case rel => exact ⟨k + 1, a, q, p, best, by omega, rfl, by go_num, hide ⟨HN3.out, HBe.out.2⟩, HNo2, hide (HY.out.tail.hp rfl rfl rfl rfl)⟩
                · have z1 : (0 : Int) < (n5 : Int) := by omega
                  by_cases zq : q = 0
                  · subst zq
                    have HN3 : Hid (NE (k + 1) = pw) := hide (by have := NS2.out; rw [if_pos (by omega)] at this; exact this)
                    clear NS2
                    go_wp2_with (first
                      | (go_at_call 47; refine (KW.out _ (kt_m HB1.out.four)).mono ?_; rintro e w5 ⟨rfl, rfl⟩)
                      | (go_at_call 123; refine (KP.out _ ?_).mono ?_; (first | exact HB1.out | exact HB1.out.hp rfl rfl rfl rfl); rintro e w6 ⟨a5, n5', p5, rfl, q1, q2⟩; subst q1; have HY := hide q2; clear q2))
                    go_roundg g2
                    case measure => omega
                    case rel => exact ⟨k + 1, a5, n5, p5, pw, by omega, rfl, by go_num, hide ⟨HN3.out, Hn5.out⟩, HNo2, hide (HY.out.swap.tail.hp rfl rfl rfl rfl)⟩
                  · have z2 : ((q : Int) == 0) = false := beq_eq_false_iff_ne.2 (by omega)
                    have z2' : ¬ (q : Int) = 0 := by omega
                    by_cases zl : n5 < q
                    · have z3 : (n5 : Int) < (q : Int) := by omega
                      have HN3 : Hid (NE (k + 1) = pw) := hide (by have := NS2.out; rw [if_pos (by omega)] at this; exact this)
                      clear NS2
                      go_wp2_with (first
                        | (go_at_call 47; refine (KW.out _ (kt_m HB1.out.four)).mono ?_; rintro e w5 ⟨rfl, rfl⟩)
                        | (go_at_call 123; refine (KP.out _ ?_).mono ?_; (first | exact HB1.out | exact HB1.out.hp rfl rfl rfl rfl); rintro e w6 ⟨a5, n5', p5, rfl, q1, q2⟩; subst q1; have HY := hide q2; clear q2))
                      go_roundg g2
                      case measure => omega
                      case rel => exact ⟨k + 1, a5, n5, p5, pw, by omega, rfl, by go_num, hide ⟨HN3.out, Hn5.out⟩, HNo2, hide (HY.out.swap.tail.hp rfl rfl rfl rfl)⟩
                    · have z3 : ¬ (n5 : Int) < (q : Int) := by omega
                      have HN3 : Hid (NE (k + 1) = best) := hide (by have := NS2.out; rw [if_neg (by omega)] at this; exact this)
                      clear NS2
                      go_wp2_with (first
                        | (go_at_call 47; refine (KW.out _ (kt_m HB1.out.four)).mono ?_; rintro e w5 ⟨rfl, rfl⟩)
                        | (go_at_call 123; refine (KP.out _ ?_).mono ?_; (first | exact HB1.out | exact HB1.out.hp rfl rfl rfl rfl); rintro e w6 ⟨a5, n5', p5, rfl, q1, q2⟩; subst q1; have HY := hide q2; clear q2))
                      go_roundg g2
                      case measure => omega
                      case rel => exact ⟨k + 1, a, q, p, best, by omega, rfl, by go_num, hide ⟨HN3.out, HBe.out.2⟩, HNo2, hide (HY.out.tail.hp rfl rfl rfl rfl)⟩
end
end Go.Proofs.YtocmngpoemfpkabGreatDoor

namespace Go.Proofs.YtocmngpoemfpkabGreatDoor
open Go.RowKit
theorem note_tk (c : Ct) (x : Nt) : (c.note x).2.tk = c.tk ∧ (c.note x).2.J = c.J := by
  unfold Ct.note
  split
  · exact ⟨rfl, rfl⟩
  · split
    · exact ⟨rfl, rfl⟩
    · exact ⟨rfl, rfl⟩
theorem Sqo.note {c : Ct} (h : Sqo c.S) (x : Nt) : Sqo (c.note x).2.S := by
  unfold Ct.note
  split
  · exact h
  · split
    · exact h.nd x
    · exact h
theorem Tko.of {c c' : Ct} (h : Tko c) (e : c'.tk = c.tk) : Tko c' := fun d => by
  have := h d
  unfold Ct.tkAt at this ⊢
  rw [e]; exact this
structure Fit (c : Ct) (k : Nat) : Prop where
  gd : Gd c k
  tk : Tko c
  sq : Sqo c.S
theorem Fit.up {c : Ct} {k j : Nat} (h : Fit c k) (hk : k ≤ j) : Fit c j := ⟨h.gd.up hk, h.tk, h.sq⟩
theorem Fit.note {c : Ct} {k : Nat} (h : Fit c k) (x : Nt) : Fit (c.note x).2 (k + 1) := ⟨h.gd.note x, h.tk.of (note_tk c x).1, h.sq.note x⟩
theorem Fit.setJ {c : Ct} {k : Nat} (h : Fit c k) (t : Int) {xs : List Int} (hx : xs.length ≤ 1000) : Fit (c.setJ t xs) k := ⟨h.gd.setJ t hx, h.tk.of rfl, h.sq⟩
theorem Fit.setK {c : Ct} {k : Nat} (h : Fit c k) (d : Int) {x : Int} (hx : 0 ≤ x ∧ x ≤ 1000) : Fit (c.setK d x) k := by
  refine ⟨h.gd.setK d x, ?_, h.sq⟩
  have := h.tk.setK d.toNat hx
  have e : c.setK ((d.toNat : Nat) : Int) x = c.setK d x := by unfold Ct.setK; rw [show ((d.toNat : Nat) : Int).toNat = d.toNat by omega]
  rw [e] at this
  exact this
theorem Fit.serve : ∀ (j : Nat) {c : Ct} {k : Nat}, Fit c k → Fit (Ct.serve j c).2 (k + j)
  | 0, _, _, h => h
  | j + 1, c, k, h => by
    unfold Ct.serve
    split
    · exact h.up (by omega)
    · rename_i r _
      split
      · exact (Fit.serve j (h.note ⟨6, r.id, 0, 0⟩)).up (by omega)
      · exact (h.note ⟨6, r.id, 0, 0⟩).up (by omega)
theorem serve_keep : ∀ (j : Nat) {c : Ct}, (Ct.serve j c).1 = 0 → (Ct.serve j c).2.S = c.S ∧ (Ct.serve j c).2.J = c.J ∧ (Ct.serve j c).2.tk = c.tk ∧ (Ct.serve j c).2.dead = c.dead
  | 0, _, _ => ⟨rfl, rfl, rfl, rfl⟩
  | j + 1, c, h => by
    unfold Ct.serve at h ⊢
    split
    · exact ⟨rfl, rfl, rfl, rfl⟩
    · rename_i r e
      rw [e] at h
      dsimp only at h
      split
      · rename_i h0
        rw [if_pos h0] at h
        obtain ⟨a1, a2, a3, a4⟩ := serve_keep j h
        have b1 := (note_S h0).1
        exact ⟨a1.trans b1, a2.trans (note_tk c _).2, a3.trans (note_tk c _).1, a4.trans (note_alive h0).1⟩
      · rename_i h0
        rw [if_neg h0] at h
        exact absurd h h0
theorem fetch_keep (E : Ev) (c : Ct) : (Ct.fetch E c).S = c.S ∧ (Ct.fetch E c).K = c.K ∧ (Ct.fetch E c).dead = c.dead ∧ (Ct.fetch E c).T = c.T ∧ (Ct.fetch E c).tk = c.tk := by
  unfold Ct.fetch
  generalize ops c.K.all = rs
  induction rs generalizing c with
  | nil => exact ⟨rfl, rfl, rfl, rfl, rfl⟩
  | cons r rs ih =>
    obtain ⟨a1, a2, a3, a4, a5⟩ := ih (Ct.fetch1 E c r)
    obtain ⟨b1, b2, b3⟩ := fetch1_keep E c r
    have b4 : (Ct.fetch1 E c r).T = c.T ∧ (Ct.fetch1 E c r).tk = c.tk := by
      unfold Ct.fetch1
      split
      · exact ⟨rfl, rfl⟩
      · exact ⟨rfl, rfl⟩
    exact ⟨a1.trans b1, a2.trans b2, a3.trans b3, a4.trans b4.1, a5.trans b4.2⟩
theorem Fit.plan {E : Ev} {c : Ct} {k : Nat} (h : Fit c k) (hn : E.ns.length ≤ 1000) (j : Nat) : Fit (Ct.away E (Ct.fetch E c) j) k := by
  obtain ⟨a1, _, _, _, a5⟩ := away_keep E (Ct.fetch E c) j
  obtain ⟨b1, _, _, _, b5⟩ := fetch_keep E c
  exact ⟨(h.gd.fetch hn).away hn j, h.tk.of (a5.trans b5), by rw [a1, b1]; exact h.sq⟩
theorem Fit.due1 {pause : Int} (hp : pause ≤ 1000) {now : List Int} {p : Ct × List Int} {k : Nat} (h : Fit p.1 k) (d : Int) : Fit (Ct.due1 pause now p d).1 k := by
  unfold Ct.due1
  split
  · exact h
  · split
    · exact h
    · split
      · exact h.setK d (by have := h.tk d; omega)
      · exact h.setK d (by decide)
theorem Fit.due {pause : Int} (hp : pause ≤ 1000) {now : List Int} {c : Ct} {k : Nat} (h : Fit c k) (j : Nat) : Fit (Ct.due pause now c j).1 k := by
  induction j with
  | zero => exact h
  | succ j ih => rw [due_succ]; exact ih.due1 hp _
theorem due_keep (pause : Int) (now : List Int) (c : Ct) (j : Nat) : (Ct.due pause now c j).1.S = c.S ∧ (Ct.due pause now c j).1.K = c.K ∧ (Ct.due pause now c j).1.dead = c.dead := by
  induction j with
  | zero => exact ⟨rfl, rfl, rfl⟩
  | succ j ih =>
    obtain ⟨a1, a2, a3⟩ := due1_S pause now (Ct.due pause now c j) ((j : Int) + 1)
    rw [due_succ]
    exact ⟨a1.trans ih.1, a2.trans ih.2.1, a3.trans ih.2.2⟩
theorem due_told (pause : Int) (now : List Int) (c : Ct) (j : Nat) : ∀ d ∈ (Ct.due pause now c j).2, (1 ≤ d ∧ d ≤ (j : Int)) ∧ (c.S.dev d).tt ≠ 0 := by
  induction j with
  | zero => intro d hd; cases hd
  | succ j ih =>
    intro d hd
    rw [due_succ] at hd
    have hS := (due_keep pause now c j).1
    generalize Ct.due pause now c j = p at *
    have ih' : d ∈ p.2 → (1 ≤ d ∧ d ≤ ((j + 1 : Nat) : Int)) ∧ (c.S.dev d).tt ≠ 0 := fun q => by
      obtain ⟨h1, h2⟩ := ih d q
      exact ⟨by omega, h2⟩
    unfold Ct.due1 at hd
    split at hd
    · exact ih' hd
    · rename_i h0
      rw [hS] at h0
      have one : d ∈ p.2 ++ [(j : Int) + 1] → (1 ≤ d ∧ d ≤ ((j + 1 : Nat) : Int)) ∧ (c.S.dev d).tt ≠ 0 := fun q => by
        rcases List.mem_append.1 q with q | q
        · exact ih' q
        · obtain rfl : d = (j : Int) + 1 := by simpa using q
          exact ⟨by omega, h0⟩
      split at hd
      · exact one hd
      · split at hd
        · exact ih' hd
        · exact one hd
def Ct.movT (c : Ct) (d : Int) : Tl := ⟨1, d, (c.S.dev d).sq, (c.S.dev d).tt, 0⟩
def Ct.movB (c : Ct) (d : Int) : List Int := enc (c.movT d)
theorem movT_ok {n : Nat} {es : List (Int × Int)} {c : Ct} (H : c.S.Ok n es) (hq : Sqo c.S) {d : Int} (hd : 1 ≤ d ∧ d ≤ (es.length : Int)) (ht : (c.S.dev d).tt ≠ 0) : chk (c.movT d) = 0 ∧ Tl.In (c.movT d) := by
  have hlen := H.len
  have hm := H.m120
  have hD := Mr.dev_at (S := c.S) (d := d) (Mr.isD_iff.2 (by omega))
  have h1 := H.td _ hD.2 ht
  have h2 := H.ins hD.2
  have h3 := H.rg (c.S.att (c.S.dev d).fr) (List.mem_of_getElem? (Mr.att_at h2.1))
  rw [h1.1] at h3
  have h4 := hq.dev d
  refine ⟨?_, ?_⟩
  · unfold chk Ct.movT
    have w1 : wi (1 : Int) 1 7 = true := by decide
    have w2 : wi d 1 200 = true := decide_eq_true (by omega)
    have w3 : wi (c.S.dev d).tt 1 30 = true := decide_eq_true (by omega)
    have w4 : fit 1 (c.S.dev d).sq (c.S.dev d).tt 0 = true := by unfold fit; rw [if_pos (.inl rfl), w3]; rfl
    dsimp only
    rw [if_pos w1, w2, w4]
    rfl
  · unfold Tl.In Ct.movT
    dsimp only
    omega
structure Sv where
  a : Option Addr
  l : Nat
  c : Nat
def slE : El Tryz.prog Sv where
  t := 67
  e := 54
  k := 1
  by' := 24
  z := .slice none 0 0
  enc s := [.slice s.a s.l s.c]
  ht := Tryz.underlying67
  info := by kernel_rfl
  zc := rfl
  kpos := by omega
  bsm := by omega
  len _ := rfl
  one x v hv := by simp at hv; subst hv; rfl
def Sv.v (s : Sv) : Value := .slice s.a s.l s.c
theorem sl_new (w : World) (x : Sv) (g : Nat) (hg : g = w.heap.size) : slE.Rd (w.alloc (.cells #[.slice x.a x.l x.c] 54)) (.slice (some ⟨g, 0, none⟩) 1 1) [x] :=
  (El.Own.new slE w w.heap.size (Nat.le_refl _) _ [x] rfl (by simp) _ _ _ hg rfl rfl).rd
def It.bys (B : Nat) (svs : List Sv) (ts : List (List Int)) : It where
  P w := svs.length = ts.length ∧ ∀ (i : Nat) (s : Sv) (t : List Int), svs[i]? = some s → ts[i]? = some t → byE.Own w B s.v t
  f k := ∃ s ∈ svs, s.v.ownBlock = some k
  lt h k hk := by
    obtain ⟨s, hs, q⟩ := hk
    obtain ⟨i, hi⟩ := List.getElem?_of_mem hs
    obtain ⟨t, ht⟩ : ∃ t, ts[i]? = some t := ⟨_, List.getElem?_eq_getElem (by rw [← h.1]; exact idx_lt hi)⟩
    exact (h.2 i s t hi ht).lt k q
  st h hs := ⟨h.1, fun i s t h1 h2 => own_stay (h.2 i s t h1 h2) fun g hg _ => hs g ⟨s, List.mem_of_getElem? h1, hg⟩⟩
theorem Its.nobys {w0 w : World} {l : List It} (h : Its w0 l w) : Its w0 (.bys w0.heap.size [] [] :: l) w :=
  h.new (x := .bys w0.heap.size [] []) ⟨rfl, fun i s t h1 => by simp at h1⟩ (fun k hk => by obtain ⟨s, hs, _⟩ := hk; cases hs) (Below.refl _ _)
theorem Its.bysnoc {w0 w : World} {l : List It} {s : Sv} {svs : List Sv} {t : List Int} {ts : List (List Int)} (h : Its w0 (.row byE w0.heap.size s.v t :: .bys w0.heap.size svs ts :: l) w) : Its w0 (.bys w0.heap.size (svs ++ [s]) (ts ++ [t]) :: l) w := by
  have h1 := h.one
  have h2 := h.two
  refine (Its.shut (a := [_, _]) h).as (x' := .bys w0.heap.size (svs ++ [s]) (ts ++ [t])) ⟨?_, fun i u q hu hq => ?_⟩ ?_
  · rw [List.length_append, List.length_append, h2.1]; rfl
  · by_cases hi : i < svs.length
    · rw [List.getElem?_append_left hi] at hu
      rw [List.getElem?_append_left (by rw [← h2.1]; exact hi)] at hq
      exact h2.2 i u q hu hq
    · rw [List.getElem?_append_right (by omega)] at hu
      rw [List.getElem?_append_right (by rw [← h2.1]; omega)] at hq
      have h0 := idx_lt hu
      simp at h0
      have e : i - svs.length = 0 := by omega
      rw [← h2.1] at hq
      rw [e] at hu hq
      simp at hu hq
      subst hu hq
      exact h1
  · rintro k ⟨u, hu, q⟩
    rcases List.mem_append.1 hu with z | z
    · exact ⟨.bys w0.heap.size svs ts, by simp, u, z, q⟩
    · obtain rfl : u = s := by simpa using z
      exact ⟨.row byE w0.heap.size u.v t, by simp, q⟩
theorem ow_by {w : World} {B : Nat} {v : Value} {l : List Int} (h : Ow w B v l) : byE.Own w B v l := by
  unfold El.Own
  rw [by_fl]
  exact h
end Go.Proofs.YtocmngpoemfpkabGreatDoor

namespace Go.Proofs.YtocmngpoemfpkabGreatDoor
open Go.RowKit
def MovP (w0 : World) (l : List It) (ts : List (List Int)) (e : Ending) (w' : World) : Prop := ∃ a q r svs, e = .returned (.slice a q r) ∧ svs.length = q ∧ Its w0 (.row slE w0.heap.size (.slice a q r) svs :: .bys w0.heap.size svs ts :: l) w'
def TickP (w0 : World) (l : List It) (g : Nat) (E : Ev) (n m : Nat) (p : Int × Ct × List Int) (e : Ending) (w' : World) : Prop :=
  (p.1 = 0 ∧ ∃ a q r svs P', e = .returned (.tuple #[.slice a q r, .int .i64 0]) ∧ svs.length = q ∧ p.2.2.length = q ∧ (P'.S = p.2.1.S ∧ P'.K = p.2.1.K ∧ p.2.1.dead = false) ∧ Its w0 (.row slE w0.heap.size (.slice a q r) svs :: .bys w0.heap.size svs (p.2.2.map p.2.1.movB) :: .ctl w0.heap.size g E n m P' p.2.1 :: l) w') ∨
  (p.1 ≠ 0 ∧ ∃ P', e = .returned (.tuple #[.slice none 0 0, .int .i64 p.1]) ∧ Liv P' p.2.1 ∧ Its w0 (.ctl w0.heap.size g E n m P' p.2.1 :: l) w')
section
set_option maxRecDepth 100000
set_option maxHeartbeats 4000000
variable {w0 w : World} {l : List It} {B g n m : Nat} {E : Ev} {P : Kp} {c : Ct}
theorem kmovesS {ds : List Int} {aN : Option Addr} {nN pN : Nat} (h : Its w0 (.ints w0.heap.size (.slice aN nN pN) ds :: .ctl w0.heap.size g E n m P c :: l) w) (eS : P.S = c.S) (hq : Sqo c.S) (hnl : ds.length = nN) (hn1 : nN ≤ 1000) (hd : ∀ d ∈ ds, (1 ≤ d ∧ d ≤ (m : Int)) ∧ (c.S.dev d).tt ≠ 0) :
    Calls Tryz.prog 56 #[.pointer (some ⟨g, 0, none⟩), .slice aN nN pN] w (MovP w0 (.ints w0.heap.size (.slice aN nN pN) ds :: .ctl w0.heap.size g E n m P c :: l) (ds.map c.movB)) := by
  have hok := mr_fact (kt_m h.two)
  have hml := (mr_len (kt_m h.two)).2.1
  rw [eS] at hok hml
  have HD : Hid (∀ d ∈ ds, (1 ≤ d ∧ d ≤ (m : Int)) ∧ (c.S.told d = ((c.S.dev d).tt, (c.S.dev d).sq, true)) ∧ chk (c.movT d) = 0 ∧ Tl.In (c.movT d)) := hide (fun d hx => by
    obtain ⟨h1, h2⟩ := hd d hx
    have hem : (m : Int) = (E.es.length : Int) := by rw [← hok.2]
    refine ⟨h1, ?_, movT_ok hok.1 hq (by omega) h2⟩
    unfold Mr.told
    rw [if_pos ⟨Mr.isD_iff.2 (by omega), h2⟩])
  obtain ⟨l1, hl1⟩ : ∃ l1, It.ctl w0.heap.size g E n m P c :: l = l1 := ⟨_, rfl⟩
  have KT : Hid (∀ W x y z, Its w0 (x :: y :: z :: l1) W → ∀ d : Int, Calls Tryz.prog 58 #[.pointer (some ⟨P.gm, 0, none⟩), .int .i64 d] W fun e w' => e = .returned (.tuple #[.int .i64 (c.S.told d).1, .int .i64 (c.S.told d).2.1, .bool (c.S.told d).2.2]) ∧ ∃ q, w' = W.drewN q) := hide (fun W x y z hW d => by
    subst hl1
    have := told_m (kt_m hW.four) d
    rw [eS] at this
    exact this)
  have CC : Hid (∀ W x y z, Its w0 (x :: y :: z :: l1) W → W.cell? ⟨g, 4, none⟩ = some (.pointer (some ⟨P.gm, 0, none⟩))) := hide (fun W x y z hW => by
    subst hl1
    obtain ⟨c0, c1, c2, c3, c4, c5, c37, c38⟩ := kt_c hW.four
    exact c4)
  have HI : Hid (Its w0 (.row slE w0.heap.size (.slice none 0 0) [] :: .bys w0.heap.size [] ((ds.take 0).map c.movB) :: .ints w0.heap.size (.slice aN nN pN) ds :: l1) w) := hide (by rw [← hl1]; exact h.nobys.empty slE)
  have Hnl := hide hnl
  rw [hl1]
  clear h hok hml hd hnl hl1 eS hq
  go_enter Tryz.func56, Tryz.ntmps56
  go_wp2_with fail
  go_loopw [5, 15] (fun v5 v15 wr => ∃ (k : Nat) (a : Option Addr) (q p : Nat) (svs : List Sv), v15 = .int .i64 k ∧ v5 = .slice a q p ∧ k ≤ nN ∧ Hid (svs.length = q ∧ q = k) ∧ Hid (Its w0 (.row slE w0.heap.size (.slice a q p) svs :: .bys w0.heap.size svs ((ds.take k).map c.movB) :: .ints w0.heap.size (.slice aN nN pN) ds :: l1) wr)) (fun _ v15 _ => nN - (intOf v15).toNat)
  case atStart => exact ⟨0, none, 0, 0, [], rfl, rfl, Nat.zero_le _, hide ⟨rfl, rfl⟩, HI⟩
  case round =>
    obtain ⟨k, a, q, p, svs, rfl, rfl, hk, HQ, HR⟩ := hrel
    by_cases hlt : k < nN
    · obtain ⟨d, hdk⟩ : ∃ d, ds[k]? = some d := ⟨_, List.getElem?_eq_getElem (by rw [Hnl.out]; exact hlt)⟩
      obtain ⟨b, off, rfl, d0⟩ := int_at HR.out.three.rd k d hdk
      have j0 : (0 : Int) ≤ (k : Int) := by omega
      have j1 : (k : Int) < (nN : Int) := by omega
      have j2 : wrap64 ((k : Int) + 1) = (k : Int) + 1 := by unfold wrap64; omega
      obtain ⟨g1, g2, g3, g4⟩ := HD.out d (List.mem_of_getElem? hdk)
      have HTk : Hid ((ds.take (k + 1)).map c.movB = (ds.take k).map c.movB ++ [c.movB d]) := hide (by rw [List.take_add_one, hdk, List.map_append]; rfl)
      have K78 : Hid (Calls Tryz.prog 58 #[.pointer (some ⟨P.gm, 0, none⟩), .int .i64 d] wr fun e w' => e = .returned (.tuple #[.int .i64 (c.S.dev d).tt, .int .i64 (c.S.dev d).sq, .bool true]) ∧ ∃ q, w' = wr.drewN q) := hide (by
        have := KT.out wr _ _ _ HR.out d
        rw [g2] at this
        exact this)
      have KE : Hid (∀ W, Calls Tryz.prog 129 #[.agg #[.int .u8 1, .int .u16 d, .int .u16 (c.S.dev d).sq, .int .u16 (c.S.dev d).tt, .int .u16 0]] W fun e w' => ∃ sv : Sv, e = .returned (.tuple #[.slice sv.a sv.l sv.c, .int .i64 0]) ∧ byE.Own w' W.heap.size (.slice sv.a sv.l sv.c) (c.movB d) ∧ Below W.heap.size W w') := hide (fun W => by
        refine (tl_encode_yes _ _ _ _ _ W g3 g4).mono ?_
        rintro e w' ⟨v, rfl, q1, q2⟩
        have q3 := ow_by q1
        obtain ⟨a5, p5, rfl⟩ := q3.rd.form
        exact ⟨⟨a5, _, p5⟩, rfl, q3, q2⟩)
      have u1 : IntKind.u16.wrap d = d := by have := g4.2.1; unfold Ct.movT at this; simp only at this; unfold IntKind.wrap; simp [IntKind.signed, IntKind.bits]; omega
      have u2 : IntKind.u16.wrap (c.S.dev d).sq = (c.S.dev d).sq := by have := g4.2.2.1; unfold Ct.movT at this; simp only at this; unfold IntKind.wrap; simp [IntKind.signed, IntKind.bits]; omega
      have u3 : IntKind.u16.wrap (c.S.dev d).tt = (c.S.dev d).tt := by have := g4.2.2.2.1; unfold Ct.movT at this; simp only at this; unfold IntKind.wrap; simp [IntKind.signed, IntKind.bits]; omega
      generalize c.movB d = mb at *
      generalize (c.S.dev d).sq = sq at *
      generalize (c.S.dev d).tt = tt at *
      have c4 := CC.out _ _ _ _ HR.out
      have Hle : Hid (svs.length + [(⟨none, 0, 0⟩ : Sv)].length ≤ 1000000) := hide (by have := HQ.out; simp only [List.length_singleton]; omega)
      clear hdk g1 g2 g3 g4
      go_upto_region 7 with (first
        | (go_at_call 58; refine K78.out.mono ?_; rintro e w2 ⟨rfl, q9, rfl⟩)
        | (go_at_call 129; refine (KE.out _).mono ?_; rintro e w3 ⟨⟨av, nv, pv⟩, rfl, q1, q2⟩; have H3 := hide (((HR.out.drew q9).fresh q1 q2).swap); clear q1 q2))
      have HX := hide (H3.out.alloc (.cells #[.slice av nv pv] 54))
      have HSX : Hid (slE.Rd (w3.alloc (.cells #[.slice av nv pv] 54)) (.slice (some ⟨w3.heap.size, 0, none⟩) 1 1) [⟨av, nv, pv⟩]) := hide (sl_new _ _ _ rfl)
      go_wp2_with (first
        | (at_builtin; refine slE.wpB (B := w0.heap.size) HX.out.size (by rfl) _ _ rfl _ _ rfl rfl svs [⟨av, nv, pv⟩] HX.out.one HSX.out Hle.out ?_; intro v4 W4 ho hg hs; obtain ⟨a4, p4, hf4⟩ := ho.rd.form; obtain ⟨n4, hn4⟩ : ∃ n4, (svs ++ [(⟨av, nv, pv⟩ : Sv)]).length = n4 := ⟨_, rfl⟩; rw [hn4] at hf4; subst hf4; have HI4 := hide ((Its.bysnoc (s := ⟨av, nv, pv⟩) (HX.out.grow ho hg hs).rot3').swap); have Hn4 := hide hn4; clear ho hg hs hn4)
        | fail)
      go_roundw
      case rel => exact ⟨k + 1, a4, n4, p4, _, by go_num, rfl, by omega, hide ⟨Hn4.out, by have := HQ.out; have := Hn4.out; rw [List.length_append, List.length_singleton] at this; omega⟩, hide (by rw [HTk.out]; exact HI4.out)⟩
      case measure => simp [intOf]; omega
    · obtain rfl : k = nN := by omega
      have j1 : ¬ (k : Int) < (k : Int) := by omega
      have HZ := hide (show MovP w0 (.ints w0.heap.size (.slice aN k pN) ds :: l1) (ds.map c.movB) (.returned (.slice a q p)) wr from ⟨a, q, p, svs, rfl, HQ.out.1, by have := HR.out; rw [List.take_of_length_le (by rw [Hnl.out]; omega)] at this; exact this⟩)
      go_wp2_with fail
      go_ret
      exact HZ.out
theorem ktickS (h : Its w0 (.ctl w0.heap.size g E n m P c :: l) w) (hv : Liv P c) {kk : Nat} (hg : Fit c kk) (hk : kk ≤ 5000) :
    Calls Tryz.prog 17 #[.pointer (some ⟨g, 0, none⟩)] w (TickP w0 l g E n m (Ct.tick E c)) := by
  obtain ⟨_, _, _, _, _, _, _, c38⟩ := kt_c h.one
  cases hd : c.dead with
  | true =>
    rw [hd] at c38
    have HZ := hide (show TickP w0 l g E n m (Ct.tick E c) (.returned (.tuple #[.slice none 0 0, .int .i64 190])) w from by
      have e : Ct.tick E c = (190, c, []) := by unfold Ct.tick; rw [if_pos hd]
      rw [e]
      exact .inr ⟨show (190 : Int) ≠ 0 by decide, P, rfl, hv, h⟩)
    generalize Ct.tick E c = tp at *
    clear h hv hg hd
    go_enter Tryz.func17, Tryz.ntmps17
    go_wp2_with fail
    go_ret2
    exact HZ.out
  | false =>
    rw [hd] at c38
    obtain ⟨eS, eK⟩ := hv hd
    have hok := (bk_lie (kt_b h.one)).1
    have hfew := hok.few
    rw [eK] at hfew
    have hf := kt_f h.one
    have hn4 := (kt_ly h.one).n4
    have hnn := hf.hn
    have hmm := hf.hm
    have hpa := hf.pa
    have KS := hide (kserveS h hv hd hg.gd (by omega))
    obtain ⟨j0, hj0⟩ : ∃ j0, (ops c.K.all).length + 1 = j0 := ⟨_, rfl⟩
    rw [hj0] at KS
    have hj1 : j0 ≤ 31 := by omega
    obtain ⟨p, hp⟩ : ∃ p, Ct.serve j0 c = p := ⟨_, rfl⟩
    have hfit := hg.serve j0
    have hkeep := serve_keep j0 (c := c)
    rw [hp] at hfit hkeep
    have ht : Ct.tick E c = if p.1 ≠ 0 then (p.1, p.2, []) else if (Ct.tell (Ct.away E (Ct.fetch E p.2) 30) 31).1 ≠ 0 then ((Ct.tell (Ct.away E (Ct.fetch E p.2) 30) 31).1, (Ct.tell (Ct.away E (Ct.fetch E p.2) 30) 31).2.1, []) else (0, (Ct.due E.pause (Ct.tell (Ct.away E (Ct.fetch E p.2) 30) 31).2.2 (Ct.tell (Ct.away E (Ct.fetch E p.2) 30) 31).2.1 E.es.length).1, (Ct.due E.pause (Ct.tell (Ct.away E (Ct.fetch E p.2) 30) 31).2.2 (Ct.tell (Ct.away E (Ct.fetch E p.2) 30) 31).2.1 E.es.length).2) := by
      unfold Ct.tick
      rw [if_neg (by rw [hd]; simp)]
      dsimp only
      rw [hj0, hp]
    rw [hp] at KS
    rw [ht]
    obtain ⟨sc, cp⟩ := p
    dsimp only at *
    have HI := hide h
    clear h hv hj0 hp ht c38
    have HFit := hide hfit
    have HKp := hide hkeep
    have HE : Hid (E.ns.length ≤ 1000 ∧ E.es.length = m ∧ E.pause ≤ 1000 ∧ c.dead = false ∧ kk + j0 ≤ 5031) := hide ⟨by omega, hmm, hpa.2, hd, by omega⟩
    clear hfit hkeep hn4 hnn hmm hpa hok hfew eS eK hj1 hd hg hf
    obtain ⟨_, _, _, _, _, _, _, c38⟩ := kt_c HI.out.one
    rw [HE.out.2.2.2.1] at c38
    by_cases h0 : sc = 0
    case neg =>
      have h0' : (sc == 0) = false := beq_eq_false_iff_ne.2 h0
      rw [if_pos h0]
      have HZ : Hid (∀ P' w', Liv P' cp → Its w0 (.ctl w0.heap.size g E n m P' cp :: l) w' → TickP w0 l g E n m (sc, cp, []) (.returned (.tuple #[.slice none 0 0, .int .i64 sc])) w') := hide (fun P' w' h1 h2 => .inr ⟨h0, P', rfl, h1, h2⟩)
      generalize TickP w0 l g E n m (sc, cp, []) = R at *
      go_enter Tryz.func17, Tryz.ntmps17
      go_wp2_with (go_at_call 52; refine KS.out.mono ?_; rintro e w1 ⟨rfl, P1, q1, q2⟩; have HV1 := hide q1; have H1 := hide q2; clear q1 q2)
      exact HZ.out P1 w1 HV1.out H1.out
    subst h0
    rw [if_neg (by simp)]
    have HK1 := hide (HKp.out rfl)
    have HDC : Hid (cp.dead = false) := hide (HK1.out.2.2.2.trans HE.out.2.2.2.1)
    have KF : Hid (∀ W P1, (P1.S = cp.S ∧ P1.K = cp.K) → Its w0 (.ctl w0.heap.size g E n m P1 cp :: l) W → Calls Tryz.prog 53 #[.pointer (some ⟨g, 0, none⟩)] W (VoidP w0 l g E n m (Ct.fetch E cp))) := hide (fun W P1 h1 hW => kfetchS hW (fun _ => h1) (HK1.out.2.2.2.trans HE.out.2.2.2.1) HFit.out.gd)
    have HF1 := hide (fetch_keep E cp)
    have HA1 := hide (away_keep E (Ct.fetch E cp) 30)
    have HFp := hide (HFit.out.plan HE.out.1 30)
    have HGf := hide (HFit.out.gd.fetch HE.out.1)
    generalize hcf : Ct.fetch E cp = cf at *
    have KA : Hid (∀ W P1, (P1.S = cf.S ∧ P1.K = cf.K) → Its w0 (.ctl w0.heap.size g E n m P1 cf :: l) W → Calls Tryz.prog 54 #[.pointer (some ⟨g, 0, none⟩)] W (VoidP w0 l g E n m (Ct.away E cf 30))) := hide (fun W P1 h1 hW => kawayS hW ⟨h1.1, h1.2, (HF1.out.2.2.1).trans (HK1.out.2.2.2.trans HE.out.2.2.2.1)⟩ HGf.out)
    have Hda : Hid ((Ct.away E cf 30).dead = false ∧ cf.dead = false) := hide ⟨(HA1.out.2.2.1).trans ((HF1.out.2.2.1).trans (HK1.out.2.2.2.trans HE.out.2.2.2.1)), (HF1.out.2.2.1).trans (HK1.out.2.2.2.trans HE.out.2.2.2.1)⟩
    generalize hca : Ct.away E cf 30 = ca at *
    have KT : Hid (∀ W P1, (P1.S = ca.S ∧ P1.K = ca.K) → Its w0 (.ctl w0.heap.size g E n m P1 ca :: l) W → Calls Tryz.prog 55 #[.pointer (some ⟨g, 0, none⟩)] W (TellP w0 l g E n m (Ct.tell ca 31))) := hide (fun W P1 h1 hW => ktellS hW ⟨h1.1, h1.2, Hda.out.1⟩ HFp.out.gd (by have := HE.out.2.2.2.2; omega) HFp.out.tk HFp.out.sq)
    clear HA1 HF1 HKp HK1 hca hcf HGf
    obtain ⟨tp, htp⟩ : ∃ tp, Ct.tell ca 31 = tp := ⟨_, rfl⟩
    rw [htp] at KT ⊢
    clear htp
    obtain ⟨tc, ct, now⟩ := tp
    dsimp only at *
    by_cases h1 : tc = 0
    case neg =>
      have h1' : (tc == 0) = false := beq_eq_false_iff_ne.2 h1
      rw [if_pos h1]
      have HZ : Hid (∀ P' w', Liv P' ct → Its w0 (.ctl w0.heap.size g E n m P' ct :: l) w' → TickP w0 l g E n m (tc, ct, []) (.returned (.tuple #[.slice none 0 0, .int .i64 tc])) w') := hide (fun P' w' q1 q2 => .inr ⟨h1, P', rfl, q1, q2⟩)
      have KT2 : Hid (∀ W P1, (P1.S = ca.S ∧ P1.K = ca.K) → Its w0 (.ctl w0.heap.size g E n m P1 ca :: l) W → Calls Tryz.prog 55 #[.pointer (some ⟨g, 0, none⟩)] W (fun e w' => ∃ P', e = .returned (.tuple #[.slice none 0 0, .int .i64 tc]) ∧ Liv P' ct ∧ Its w0 (.ctl w0.heap.size g E n m P' ct :: l) w')) := hide (fun W P1 q1 hW => by
        refine (KT.out W P1 q1 hW).mono ?_
        rintro e w' (⟨q, _⟩ | ⟨_, q⟩)
        · exact absurd q h1
        · exact q)
      clear KT
      generalize TickP w0 l g E n m (tc, ct, []) = R at *
      go_enter Tryz.func17, Tryz.ntmps17
      go_wp2_with (first
        | (go_at_call 52; refine KS.out.mono ?_; rintro e w1 ⟨rfl, P1, q1, q2⟩; have HV1 := hide (q1 (HDC.out)); have H1 := hide q2; clear q1 q2)
        | (go_at_call 53; refine (KF.out _ P1 HV1.out H1.out).mono ?_; rintro e w2 ⟨rfl, P2, q1, q2⟩; have HV2 := hide (q1 Hda.out.2); have H2 := hide q2; clear q1 q2)
        | (go_at_call 54; refine (KA.out _ P2 HV2.out H2.out).mono ?_; rintro e w3 ⟨rfl, P3, q1, q2⟩; have HV3 := hide (q1 Hda.out.1); have H3 := hide q2; clear q1 q2)
        | (go_at_call 55; refine (KT2.out _ P3 HV3.out H3.out).mono ?_; rintro e w4 ⟨P4, rfl, q1, q2⟩; have HV4 := hide q1; have H4 := hide q2; clear q1 q2))
      exact HZ.out P4 w4 HV4.out H4.out
    subst h1
    rw [if_neg (by simp)]
    have KT2 : Hid (∀ W P1, (P1.S = ca.S ∧ P1.K = ca.K) → Its w0 (.ctl w0.heap.size g E n m P1 ca :: l) W → Calls Tryz.prog 55 #[.pointer (some ⟨g, 0, none⟩)] W (fun e w' => ∃ a q r P', e = .returned (.tuple #[.slice a q r, .int .i64 0]) ∧ now.length = q ∧ q ≤ 31 ∧ (P'.S = ct.S ∧ P'.K = ct.K ∧ ct.dead = false) ∧ (Gd ct 7000 ∧ Tko ct ∧ Sqo ct.S) ∧ Its w0 (.ints w0.heap.size (.slice a q r) now :: .ctl w0.heap.size g E n m P' ct :: l) w')) := hide (fun W P1 q1 hW => by
      refine (KT.out W P1 q1 hW).mono ?_
      rintro e w' (⟨_, q⟩ | ⟨q, _⟩)
      · exact q
      · exact absurd rfl q)
    have HDu := hide (due_keep E.pause now ct E.es.length)
    have HDt := hide (due_told E.pause now ct E.es.length)
    have KD : Hid (∀ W P4 a q r, P4.S = ct.S → Tko ct → now.length = q → q ≤ 31 → Its w0 (.ctl w0.heap.size g E n m P4 ct :: .ints w0.heap.size (.slice a q r) now :: l) W → Calls Tryz.prog 57 #[.pointer (some ⟨g, 0, none⟩), .slice a q r] W (DueP w0 (.ints w0.heap.size (.slice a q r) now :: l) g E n m P4 (Ct.due E.pause now ct E.es.length))) := hide (fun W P4 a q r q1 q2 q3 q4 hW => by
      have := kdueS hW q1 q2 q3 (by omega)
      rw [HE.out.2.1]
      exact this)
    obtain ⟨dp, hdp⟩ : ∃ dp, Ct.due E.pause now ct E.es.length = dp := ⟨_, rfl⟩
    rw [hdp] at HDu HDt KD ⊢
    have Hln : Hid (dp.2.length ≤ 1000) := hide (by
      have : ∀ j, (Ct.due E.pause now ct j).2.length ≤ j := by
        intro j
        induction j with
        | zero => exact Nat.le_refl _
        | succ j ih => rw [due_succ]; have := due1_len E.pause now (Ct.due E.pause now ct j) ((j : Int) + 1); omega
      have := this E.es.length
      rw [hdp] at this
      have := (mr_len (kt_m HI.out.one)).2.2.2
      have := HE.out.2.1
      omega)
    obtain ⟨cd, ds⟩ := dp
    dsimp only at *
    clear hdp KT
    have KM : Hid (∀ W P4 a q r l3, P4.S = ct.S → Sqo ct.S → ds.length = q → Its w0 (.ints w0.heap.size (.slice a q r) ds :: .ctl w0.heap.size g E n m P4 cd :: l3) W → Calls Tryz.prog 56 #[.pointer (some ⟨g, 0, none⟩), .slice a q r] W (MovP w0 (.ints w0.heap.size (.slice a q r) ds :: .ctl w0.heap.size g E n m P4 cd :: l3) (ds.map cd.movB))) := hide (fun W P4 a q r l3 q1 q2 q3 hW => by
      refine kmovesS hW (q1.trans HDu.out.1.symm) (by rw [HDu.out.1]; exact q2) q3 (by rw [← q3]; exact Hln.out) (fun d hd => ?_)
      obtain ⟨z1, z2⟩ := HDt.out d hd
      rw [HDu.out.1]
      exact ⟨by rw [← HE.out.2.1]; exact z1, z2⟩)
    have HZ : Hid (∀ a q r svs P4 w', ds.length = svs.length → svs.length = q → P4.S = ct.S → P4.K = ct.K → ct.dead = false → Its w0 (.row slE w0.heap.size (.slice a q r) svs :: .bys w0.heap.size svs (ds.map cd.movB) :: .ctl w0.heap.size g E n m P4 cd :: l) w' → TickP w0 l g E n m (0, cd, ds) (.returned (.tuple #[.slice a q r, .int .i64 0])) w') := hide (fun a q r svs P4 w' z1 z2 z3 z4 z5 z6 => .inl ⟨rfl, a, q, r, svs, P4, rfl, z2, z1.trans z2, ⟨z3.trans HDu.out.1.symm, z4.trans HDu.out.2.1.symm, HDu.out.2.2.trans z5⟩, z6⟩)
    generalize TickP w0 l g E n m (0, cd, ds) = R at *
    clear HDu HDt
    go_enter Tryz.func17, Tryz.ntmps17
    go_wp2_with (first
      | (go_at_call 52; refine KS.out.mono ?_; rintro e w1 ⟨rfl, P1, q1, q2⟩; have HV1 := hide (q1 (HDC.out)); have H1 := hide q2; clear q1 q2)
      | (go_at_call 53; refine (KF.out _ P1 HV1.out H1.out).mono ?_; rintro e w2 ⟨rfl, P2, q1, q2⟩; have HV2 := hide (q1 Hda.out.2); have H2 := hide q2; clear q1 q2)
      | (go_at_call 54; refine (KA.out _ P2 HV2.out H2.out).mono ?_; rintro e w3 ⟨rfl, P3, q1, q2⟩; have HV3 := hide (q1 Hda.out.1); have H3 := hide q2; clear q1 q2)
      | (go_at_call 55; refine (KT2.out _ P3 HV3.out H3.out).mono ?_; rintro e w4 ⟨a4, n4, p4, P4, rfl, q1, q2, q3, q4, q5⟩; have N4 := hide (And.intro q1 q2); have HV4 := hide q3; have HF4 := hide q4; have H4 := hide q5.swap; clear q1 q2 q3 q4 q5)
      | (go_at_call 57; refine (KD.out _ P4 a4 n4 p4 HV4.out.1 HF4.out.2.1 N4.out.1 N4.out.2 ?_).mono ?_; (first | exact H4.out | exact H4.out.hp rfl rfl rfl rfl); rintro e w5 ⟨a5, n5, p5, rfl, q1, q2⟩; have N5 := hide q1; have H5 := hide q2; clear q1 q2)
      | (go_at_call 56; refine (KM.out _ P4 a5 n5 p5 _ HV4.out.1 HF4.out.2.2 N5.out H5.out).mono ?_; rintro e w6 ⟨a6, n6, p6, svs, rfl, q1, q2⟩; have N6 := hide q1; have H6 := hide q2; clear q1 q2))
    have h61 := H6.out
    have e6 : (ds.map cd.movB).length = svs.length := h61.two.1.symm
    rw [List.length_map] at e6
    have h62 : Its w0 (.row slE w0.heap.size (.slice a6 n6 p6) svs :: .bys w0.heap.size svs (ds.map cd.movB) :: .ctl w0.heap.size g E n m P4 cd :: l) w6 := by
      have z1 := (h61.pick 2 rfl).tail
      have z2 := (z1.pick 3 rfl).tail
      exact z2
    exact HZ.out a6 n6 p6 svs P4 w6 e6 N6.out HV4.out.1 HV4.out.2.1 HV4.out.2.2 h62
end
end Go.Proofs.YtocmngpoemfpkabGreatDoor

namespace Go.Proofs.YtocmngpoemfpkabGreatDoor
open Go.RowKit Go.Maps Go.ChangeMaps
structure Hd where
  g : Nat
  b : Nat
  B : Nat
structure Rdr (w : World) (h : Hd) (vN vE : Value) (st : St) : Prop where
  box : w.heap[h.g]? = some (.cells #[vN, vE, .map (some h.b)] 127)
  ns : ndE.Own w h.B vN st.1
  es : edE.Own w h.B vE st.2
  map : Mp w h.b st.1.length (lastAt st.1)
  hg : h.B ≤ h.g
  hb : h.B ≤ h.b
structure Chg (h : Hd) (w w' : World) : Prop where
  below : Below h.B w w'
  strs : ∀ (k : Nat) (cur : Array Value), w.heap[k]? = some (Obj.cells cur 9) → w'.heap[k]? = w.heap[k]?
theorem Chg.refl (h : Hd) (w : World) : Chg h w w := ⟨Below.refl _ _, fun _ _ _ => rfl⟩
theorem Chg.trans {h : Hd} {a b c : World} (x : Chg h a b) (y : Chg h b c) : Chg h a c := ⟨x.below.trans y.below, fun k cur hk => by rw [y.strs k cur (by rw [x.strs k cur hk]; exact hk), x.strs k cur hk]⟩
theorem Chg.of {h : Hd} {w w' : World} (hB : h.B ≤ w.heap.size) (hb : Below w.heap.size w w') : Chg h w w' := ⟨hb.mono hB, fun k cur hk => hb.block k (heap_lt hk)⟩
theorem Rdr.keep {w w' : World} {h : Hd} {vN vE : Value} {st : St} (H : Rdr w h vN vE st) (hb : Below w.heap.size w w') : Rdr w' h vN vE st where
  box := by rw [hb.block _ (heap_lt H.box)]; exact H.box
  ns := H.ns.keep hb
  es := H.es.keep hb
  map := H.map.keep (hb.block _ H.map.lt)
  hg := H.hg
  hb := H.hb
theorem Mp.block {w : World} {b n : Nat} {f : ByteArray → Option Int} (H : Mp w b n f) : ∃ es clock, w.heap[b]? = some (.map es clock) := by
  obtain ⟨D, ⟨es, clock, hx, _⟩, _⟩ := H
  exact ⟨es, clock, hx⟩
theorem rd_strs {w w' : World} {h : Hd} {B : Nat} {v : Value} {xs : List ByteArray} (ho : strE.Own w B v xs) (hc : Chg h w w') : strE.Own w' B v xs :=
  own_chg ho fun g cur _ hx => hc.strs g cur hx
theorem cell_of_get {w : World} {a : Option Addr} {n c : Nat} {ws : List ByteArray} (h : strE.Rd w (.slice a n c) ws) (i : Nat) (x : ByteArray) (hx : ws[i]? = some x) : ∃ b off, a = some ⟨b, off, none⟩ ∧ w.cell? ⟨b, off + i, none⟩ = some (.string x) := by
  obtain ⟨b, off, h1, h2⟩ := h.at i x hx
  exact ⟨b, off, h1, by have := h2 0 (by decide); simpa [strE] using this⟩
theorem nodeS_form {ws : List ByteArray} {nd : Nd} (h : nodeS ws = some nd) : ∃ b c, ws = [nd.name, b, c] ∧ nameB nd.name = true ∧ kindS b = some nd.kind ∧ zoneS c = some nd.zone := by
  unfold nodeS at h
  split at h
  · rename_i a b c
    split at h
    · rename_i hn
      split at h
      · rename_i k z hk hz
        cases h
        exact ⟨b, c, rfl, hn, hk, hz⟩
      · cases h
    · cases h
  · cases h
theorem Mp.next {w' : World} {b n : Nat} {st : St} {nd : Nd} (h : Mp w' b (n + 1) (fun y => if y = nd.name then some (st.1.length : Int) else lastAt st.1 y)) (hn : n = st.1.length) : Mp w' b (st.1 ++ [nd]).length (lastAt (st.1 ++ [nd])) := by
  subst hn
  rw [lastAt_app, List.length_append]
  exact h
end Go.Proofs.YtocmngpoemfpkabGreatDoor

namespace Go.Proofs.YtocmngpoemfpkabGreatDoor
open Go.RowKit Go.Maps Go.ChangeMaps
theorem Laid.size {w : World} (L : Laid w) : 4 ≤ w.heap.size := by
  have := (L.t.2 0 (by omega)).1
  exact cell_lt this
theorem El.wpBd {P : Program} {α : Type} (E : El P α) {w : World} {B : Nat} (hB : B ≤ w.heap.size) {ops : Array Oper} {rest : List Oper} {o : Oper} {a : Act} {Q : Exit → Act → World → Prop} (hwant : Region.wanted o (yielded ops a.tmps) = true) (s x : Operand)
    (ho : o.op = .call { callee := .builtin .append, args := #[s, x], argTypes := #[E.t, E.t] }) (v u : Value) (hs : a.eval s = v) (hx : a.eval x = u)
    (xs ys : List α) (hown : E.Own w B v xs) (hu : E.Rd w u ys) (hn : xs.length + ys.length ≤ 1000000)
    (h : ∀ v' w', E.Own w' B v' (xs ++ ys) → w.grownBy w' v.ownBlock → wpList P ops Q rest (a.put o.dst v') w') : wpList P ops Q (o :: rest) a w := by
  obtain ⟨v', w', hr, h2, h3, h4⟩ := E.run hown hB hu hn o.type
  refine wpList_step fun K hK => ?_
  rw [if_pos hwant]
  unfold Oper.wp execOp
  simp only [ho, resolve, invoke, builtin, Sem.run_bind, Sem.run_pure, Result.andThen_ok, List.map_toArray, List.map_cons, List.map_nil, hs, hx, hr]
  exact hK _ _ (h v' w' h2 h3)
theorem grown_kept {α : Type} {E : El Tryz.prog α} {w w2 : World} {B g i : Nat} {v v' : Value} {xs ys : List α} {C : Array Value} (ho : E.Own w B v xs) (hbox : w.heap[g]? = some (.cells C 127)) (he : E.e ≠ 127) (o : Obj) (hg : (w.alloc o).grownBy w2 v.ownBlock) (hB : B ≤ g) (hBw : B ≤ w.heap.size) (ho2 : E.Own w2 B v' ys) :
    (w2.setCell ⟨g, i, none⟩ v').heap[g]? = some (.cells (C.setIfInBounds i v') 127) ∧ E.Own (w2.setCell ⟨g, i, none⟩ v') B v' ys ∧ (∀ k, k < w.heap.size → k ≠ g → (∀ cur, w.heap[k]? ≠ some (.cells cur E.e)) → (w2.setCell ⟨g, i, none⟩ v').heap[k]? = w.heap[k]?) ∧ Below B w (w2.setCell ⟨g, i, none⟩ v') := by
  have vb : ∀ q, v.ownBlock = some q → ∃ cur, w.heap[q]? = some (.cells cur E.e) ∧ B ≤ q := by
    intro q hq
    rcases ho.2 with ⟨rfl, _⟩ | ⟨q', cap, cur, rfl, h2, h3, _⟩
    · cases hq
    · simp [Value.ownBlock] at hq
      subst hq
      exact ⟨cur, h3, h2⟩
  have kk : ∀ k, k < w.heap.size → (∀ cur, w.heap[k]? ≠ some (.cells cur E.e)) → w2.heap[k]? = w.heap[k]? := fun k hk hne => by
    rw [hg.block k (by simp; omega) (fun e => by obtain ⟨cur, h1, _⟩ := vb k e.symm; exact hne cur h1)]
    exact Below.heap_alloc _ _ _ (by omega)
  have gb : w2.heap[g]? = some (.cells C 127) := by
    rw [kk g (heap_lt hbox) (fun cur e => by rw [hbox] at e; simp only [Option.some.injEq, Obj.cells.injEq] at e; exact he e.2.1.symm)]; exact hbox
  have bl : Below B w w2 := by
    refine ⟨hg.os, hg.tape, hg.output, Nat.le_trans (by simp) hg.size, fun k hk => ?_⟩
    rw [hg.block k (by simp; omega) (fun e => by obtain ⟨_, _, h2⟩ := vb k e.symm; omega)]
    exact Below.heap_alloc _ _ _ (by omega)
  refine ⟨heap_put gb v', own_chg ho2 fun k cur _ hk => Below.heap_setCell _ _ _ _ (fun e => by subst e; rw [gb] at hk; simp only [Option.some.injEq, Obj.cells.injEq] at hk; exact he hk.2.1.symm), fun k hk hne hc => ?_, bl.setCell (p := ⟨g, i, none⟩) hB v'⟩
  rw [Below.heap_setCell _ _ _ _ hne]
  exact kk k hk hc
set_option maxRecDepth 100000 in
set_option maxHeartbeats 2000000 in
theorem takeNode_no (p : Value) (w : World) (L : Laid w) (aw : Option Addr) (cw : Nat) (ws : List ByteArray) (hw : strE.Rd w (.slice aw ws.length cw) ws) (hn : nodeS ws = none) :
    Calls Tryz.prog 135 #[p, .slice aw ws.length cw] w fun e w' => e = .returned (.bool false) ∧ Below w.heap.size w w' := by
  have b0 : Hid (Below w.heap.size w w) := hide (Below.refl _ _)
  by_cases h3 : ws.length = 3
  · match ws, h3 with
    | [a, b, c], _ =>
    obtain ⟨bb, off, rfl, x0⟩ := cell_of_get hw 0 a rfl
    rw [Nat.add_zero] at x0
    obtain ⟨_, _, e1, x1⟩ := cell_of_get hw 1 b rfl
    obtain ⟨_, _, e2, x2⟩ := cell_of_get hw 2 c rfl
    cases e1
    cases e2
    have X : Hid (∀ W, Below w.heap.size w W → W.cell? ⟨bb, off, none⟩ = some (.string a) ∧ W.cell? ⟨bb, off + 1, none⟩ = some (.string b) ∧ W.cell? ⟨bb, off + 2, none⟩ = some (.string c)) := hide (fun W h => ⟨by rw [h.cell (cell_lt x0)]; exact x0, by rw [h.cell (cell_lt x1)]; exact x1, by rw [h.cell (cell_lt x2)]; exact x2⟩)
    have K50 := hide (fun W => isName_any a W)
    have K57 : Hid (∀ W, Below w.heap.size w W → _) := hide (fun W (h : Below w.heap.size w W) => kindOf_any b W (L.keep L.size h))
    have K58 : Hid (∀ W, Below w.heap.size w W → _) := hide (fun W (h : Below w.heap.size w W) => zoneOf_any c W (L.keep L.size h))
    have hlen : [a, b, c].length = 3 := rfl
    rw [hlen]
    have x0' : w.cell? ⟨bb, off, none⟩ = some (.string a) := x0
    clear x0 x1 x2 hw L hlen
    have hn' : nameB a = true → kindS b = none ∨ zoneS c = none := fun h => by
      unfold nodeS at hn
      simp only [h, if_true] at hn
      cases hk : kindS b with
      | none => exact .inl rfl
      | some k => cases hz : zoneS c with
        | none => exact .inr rfl
        | some z => rw [hk, hz] at hn; cases hn
    clear hn
    cases hna : nameB a with
    | false =>
      rw [hna] at K50
      clear hn' hna K57 K58
      go_enter Tryz.func135, Tryz.ntmps135
      go_wp2_with (go_at_call 189; refine (K50.out _).mono ?_; rintro e W1 ⟨rfl, hb1⟩; have Hb1 := hide hb1; clear hb1)
      go_ret
      exact ⟨rfl, Hb1.out⟩
    | true =>
      rw [hna] at K50
      have hor := hn' hna
      clear hn' hna
      generalize kindS b = kb at *
      generalize zoneS c = zc at *
      cases kb with
      | none =>
        clear hor
        go_enter Tryz.func135, Tryz.ntmps135
        go_wp2_with (first
          | (go_at_call 189; refine (K50.out _).mono ?_; rintro e W1 ⟨rfl, hb1⟩; have Hb1 := hide hb1; have ⟨y0, y1, y2⟩ := X.out _ hb1; clear hb1)
          | (go_at_call 190; refine (K57.out _ Hb1.out).mono ?_; rintro e W2 ⟨rfl, rfl⟩)
          | (go_at_call 191; refine (K58.out _ Hb1.out).mono ?_; rintro e W3 ⟨rfl, hb3⟩; have Hb3 := hide (Hb1.out.trans (hb3.mono Hb1.out.size)); clear hb3))
        go_ret
        exact ⟨rfl, Hb3.out⟩
      | some k =>
        obtain rfl : zc = none := by rcases hor with h | h; cases h; exact h
        clear hor
        go_enter Tryz.func135, Tryz.ntmps135
        go_wp2_with (first
          | (go_at_call 189; refine (K50.out _).mono ?_; rintro e W1 ⟨rfl, hb1⟩; have Hb1 := hide hb1; have ⟨y0, y1, y2⟩ := X.out _ hb1; clear hb1)
          | (go_at_call 190; refine (K57.out _ Hb1.out).mono ?_; rintro e W2 ⟨rfl, rfl⟩)
          | (go_at_call 191; refine (K58.out _ Hb1.out).mono ?_; rintro e W3 ⟨rfl, hb3⟩; have Hb3 := hide (Hb1.out.trans (hb3.mono Hb1.out.size)); clear hb3))
        go_ret
        exact ⟨rfl, Hb3.out⟩
  · have h3' : ¬ (ws.length : Int) = 3 := by omega
    clear hw hn h3
    generalize ws.length = n at *
    go_enter Tryz.func135, Tryz.ntmps135
    go_wp2_with fail
    go_ret
    exact ⟨rfl, b0.out⟩
theorem nd_new (w : World) (p : Nd) (g : Nat) (hg : g = w.heap.size) : ndE.Rd (w.alloc (.cells #[.string p.name, .int .i64 p.kind, .int .i64 p.zone] 133)) (.slice (some ⟨g, 0, none⟩) 1 1) [p] :=
  (El.Own.new ndE w w.heap.size (Nat.le_refl _) _ [p] rfl (by simp) _ _ _ hg rfl rfl).rd
theorem ed_new (w : World) (p : Ed) (g : Nat) (hg : g = w.heap.size) : edE.Rd (w.alloc (.cells #[.int .i64 p.1, .int .i64 p.2] 65)) (.slice (some ⟨g, 0, none⟩) 1 1) [p] :=
  (El.Own.new edE w w.heap.size (Nat.le_refl _) _ [p] rfl (by simp) _ _ _ hg rfl rfl).rd
set_option maxRecDepth 100000 in
set_option maxHeartbeats 4000000 in
theorem takeNode_yes {w : World} {h : Hd} {vN vE : Value} {st : St} (H : Rdr w h vN vE st) (hBw : h.B ≤ w.heap.size) (L : Laid w) (hlen : st.1.length ≤ 5000) (aw : Option Addr) (cw : Nat) (ws : List ByteArray) (hw : strE.Rd w (.slice aw ws.length cw) ws) (hsz : ∀ x ∈ ws, x.size ≤ 100000) (nd : Nd) (hn : nodeS ws = some nd) :
    Calls Tryz.prog 135 #[.pointer (some ⟨h.g, 0, none⟩), .slice aw ws.length cw] w fun e w' => e = .returned (.bool true) ∧ (∃ vN', Rdr w' h vN' vE (st.1 ++ [nd], st.2)) ∧ Chg h w w' := by
  obtain ⟨b, c, rfl, hna, hk, hz⟩ := nodeS_form hn
  clear hn
  obtain ⟨a, kd, z⟩ := nd
  simp only at hna hk hz hw hsz ⊢
  obtain ⟨bb, off, rfl, x0⟩ := cell_of_get hw 0 a rfl
  rw [Nat.add_zero] at x0
  obtain ⟨_, _, e1, x1⟩ := cell_of_get hw 1 b rfl
  obtain ⟨_, _, e2, x2⟩ := cell_of_get hw 2 c rfl
  cases e1
  cases e2
  have X : Hid (∀ W, Below w.heap.size w W → W.cell? ⟨bb, off, none⟩ = some (.string a) ∧ W.cell? ⟨bb, off + 1, none⟩ = some (.string b) ∧ W.cell? ⟨bb, off + 2, none⟩ = some (.string c)) := hide (fun W h => ⟨by rw [h.cell (cell_lt x0)]; exact x0, by rw [h.cell (cell_lt x1)]; exact x1, by rw [h.cell (cell_lt x2)]; exact x2⟩)
  have K50 := hide (fun W => isName_any a W)
  have K57 : Hid (∀ W, Below w.heap.size w W → _) := hide (fun W (h : Below w.heap.size w W) => kindOf_any b W (L.keep L.size h))
  have K58 : Hid (∀ W, Below w.heap.size w W → _) := hide (fun W (h : Below w.heap.size w W) => zoneOf_any c W (L.keep L.size h))
  have K59 := hide (fun W => clone_any a W (hsz a (by simp)))
  rw [hna] at K50
  rw [hk] at K57
  rw [hz] at K58
  have hl3 : [a, b, c].length = 3 := rfl
  rw [hl3]
  have x0' : w.cell? ⟨bb, off, none⟩ = some (.string a) := x0
  have hasz : a.size ≤ maxLen := Nat.le_trans (hsz a (by simp)) (by unfold maxLen; omega)
  have HH := hide H
  have Hlen := hide hlen
  have Hasz := hide hasz
  have HBw := hide hBw
  clear x0 x1 x2 hw L hl3 hna hk hz hsz hasz H hlen hBw
  go_enter Tryz.func135, Tryz.ntmps135
  go_upto_region 8 with (first
    | (go_at_call 189; refine (K50.out _).mono ?_; rintro e W1 ⟨rfl, hb1⟩; have Hb1 := hide hb1; have ⟨y0, y1, y2⟩ := X.out _ hb1; clear hb1)
    | (go_at_call 190; refine (K57.out _ Hb1.out).mono ?_; rintro e W2 ⟨rfl, rfl⟩)
    | (go_at_call 191; refine (K58.out _ Hb1.out).mono ?_; rintro e W3 ⟨rfl, hb3⟩; have Hb3 := hide (Hb1.out.trans (hb3.mono Hb1.out.size)); have ⟨z0, z1, z2⟩ := X.out _ Hb3.out; clear hb3)
    | (go_at_call 70; refine (K59.out _).mono ?_; rintro e W4 ⟨rfl, hb4⟩; have Hb4 := hide (Hb3.out.trans (hb4.mono Hb3.out.size)); clear hb4))
  clear y0 y1 y2 z0 z1 z2 K50 K57 K58 K59 x0'
  have H4 := HH.out.keep Hb4.out
  obtain ⟨aN, cN, rfl⟩ := H4.ns.rd.form
  obtain ⟨n, hn⟩ : ∃ n, st.1.length = n := ⟨_, rfl⟩
  have Hn := hide hn
  obtain ⟨W5, hup, M5, hst, hs5, ho1, ho2, ho3⟩ := (H4.map.keep (w' := W4.drew) rfl).put a Hasz.out (n : Int) (by have := Hlen.out; omega)
  obtain ⟨me, mc, hmb⟩ := H4.map.block
  have hgb : h.g ≠ h.b := fun e => by rw [← e, H4.box] at hmb; cases hmb
  have bx4 := H4.box
  rw [hn] at bx4
  have box5 : W5.heap[h.g]? = some (.cells #[.slice aN n cN, vE, .map (some h.b)] 127) := by rw [hst _ hgb]; exact bx4
  have nsb : ∀ k (cur : Array Value) (tt : TypeId), W4.heap[k]? = some (Obj.cells cur tt) → W5.heap[k]? = W4.heap[k]? := fun k cur tt hk => by
    rw [hst k (fun e => by subst e; rw [hmb] at hk; cases hk)]; rfl
  have ns5 : Hid (ndE.Own W5 h.B (.slice aN st.1.length cN) st.1) := hide (own_chg H4.ns fun k cur _ hk => nsb k cur _ hk)
  have es5 : Hid (edE.Own W5 h.B vE st.2) := hide (own_chg H4.es fun k cur _ hk => nsb k cur _ hk)
  have B5 : Hid (Below h.B w W5) := hide (by
    have b4 := Hb4.out.mono HBw.out
    exact ⟨ho1.trans b4.os, ho2.trans b4.tape, ho3.trans b4.output, by rw [hs5]; exact b4.size, fun k hk => (hst k (by have := H4.hb; omega)).trans (b4.block k hk)⟩)
  have C5 : Hid (Chg h w W5) := hide ⟨B5.out, fun k cur hk => by
    have hk4 : W4.heap[k]? = some (.cells cur 9) := by rw [Hb4.out.block _ (heap_lt hk)]; exact hk
    rw [nsb k cur 9 hk4, hk4, hk]⟩
  have HM5 := hide M5
  have Hbox5 := hide box5
  have Hsz5 : Hid (h.B ≤ W5.heap.size) := hide (Nat.le_trans (by have := H4.hg; exact this) (Nat.le_of_lt (heap_lt box5)))
  have Hgg := hide H4.hg
  have Hbb := hide H4.hb
  obtain ⟨SS, hSS⟩ : ∃ SS : World → Prop, SS = fun W' => W'.heap[h.g]? = some (.cells #[.slice aN n cN, vE, .map (some h.b)] 127) := ⟨_, rfl⟩
  have s1 : ∀ W', SS W' → W'.cell? ⟨h.g, 0, none⟩ = some (.slice aN n cN) := fun W' hh => by rw [hSS] at hh; exact (cells_at hh 0).1
  have s2 : ∀ W', SS W' → W'.cell? ⟨h.g, 2, none⟩ = some (.map (some h.b)) := fun W' hh => by rw [hSS] at hh; exact (cells_at hh 2).1
  have S0 : Hid (SS W4.drew) := hide (by rw [hSS]; exact bx4)
  have S5 : Hid (SS W5) := hide (by rw [hSS]; exact box5)
  clear hSS M5 hst hs5 ho1 ho2 ho3 hmb hgb nsb H4 bx4 box5 hn
  refine wp_region_held_drew (S := SS) (by kernel_rfl) (S0.out) (fun hS0 => ?_)
  refine wpAnyH_take (i := 0) (v := .pointer (some ⟨h.g, 0, none⟩)) rfl (by kernel_rfl) (by kernel_rfl) (by kernel_rfl) (fun _ _ _ h => h) (Or.inl ⟨by rfl, fun W' hW => by go_simp⟩) hS0 ?_
  refine wpAnyH_take (i := 1) (v := .pointer (some ⟨h.g, 0, none⟩)) rfl (by kernel_rfl) (by kernel_rfl) (by kernel_rfl) (fun _ _ _ h => h) (Or.inl ⟨by rfl, fun W' hW => by go_simp⟩) hS0 ?_
  refine wpAnyH_take (i := 2) (v := .pointer (some ⟨h.g, 2, none⟩)) rfl (by kernel_rfl) (by kernel_rfl) (by kernel_rfl) (fun _ _ _ h => h) (Or.inl ⟨by rfl, fun W' hW => by go_simp⟩) hS0 ?_
  refine wpAnyH_take (i := 3) (v := .map (some h.b)) rfl (by kernel_rfl) (by kernel_rfl) (by kernel_rfl) (fun _ _ _ h => h) (Or.inl ⟨by rfl, fun W' hW => by have x0 := s2 W' hW; go_simp⟩) hS0 ?_
  refine wpAnyH_take (i := 4) (v := .string a) rfl (by kernel_rfl) (by kernel_rfl) (by kernel_rfl) (fun _ _ _ h => h) (Or.inl ⟨by rfl, fun W' hW => by go_simp⟩) hS0 ?_
  refine wpAnyH_take (i := 5) (v := .pointer (some ⟨h.g, 0, none⟩)) rfl (by kernel_rfl) (by kernel_rfl) (by kernel_rfl) (fun _ _ _ h => h) (Or.inl ⟨by rfl, fun W' hW => by go_simp⟩) hS0 ?_
  refine wpAnyH_take (i := 6) (v := .pointer (some ⟨h.g, 0, none⟩)) rfl (by kernel_rfl) (by kernel_rfl) (by kernel_rfl) (fun _ _ _ h => h) (Or.inl ⟨by rfl, fun W' hW => by go_simp⟩) hS0 ?_
  refine wpAnyH_take (i := 7) (v := .pointer (some ⟨h.g, 0, none⟩)) rfl (by kernel_rfl) (by kernel_rfl) (by kernel_rfl) (fun _ _ _ h => h) (Or.inl ⟨by rfl, fun W' hW => by go_simp⟩) hS0 ?_
  refine wpAnyH_take (i := 8) (v := .pointer (some ⟨h.g, 0, none⟩)) rfl (by kernel_rfl) (by kernel_rfl) (by kernel_rfl) (fun _ _ _ h => h) (Or.inl ⟨by rfl, fun W' hW => by go_simp⟩) hS0 ?_
  refine wpAnyH_take (i := 9) (v := .slice aN n cN) rfl (by kernel_rfl) (by kernel_rfl) (by kernel_rfl) (fun _ _ _ h => h) (Or.inl ⟨by rfl, fun W' hW => by have x0 := s1 W' hW; go_simp⟩) hS0 ?_
  refine wpAnyH_take (i := 10) (v := .int .i64 n) rfl (by kernel_rfl) (by kernel_rfl) (by kernel_rfl) (fun _ _ _ h => h) (Or.inl ⟨by rfl, fun W' hW => by go_simp⟩) hS0 ?_
  refine wpAnyH_ready (rs := [11]) (by kernel_rfl) (by simp) ?_
  refine AllReadyH.cons rfl (fun K hK => ?_) AllReadyH.nil
  go_simp
  refine hK.out _ _ S5.out (fun _ => ?_)
  clear hK K
  refine wpAnyH_done (by kernel_rfl) ?_ _
  have k0 := s1 W5 S5.out
  clear s1 s2 S0 S5 hup
  have fz : W5.frozen? ⟨h.g, 0, none⟩ = false := (cells_at Hbox5.out 0).2
  have Hal : Hid (h.B ≤ (W5.alloc (.cells #[.string a, .int .i64 kd, .int .i64 z] 133)).heap.size) := hide (by have := Hsz5.out; simp; omega)
  have Hal2 : Hid (ndE.Own (W5.alloc (.cells #[.string a, .int .i64 kd, .int .i64 z] 133)) h.B (.slice aN n cN) st.1) := hide (by rw [← Hn.out]; exact World.ownsRow.alloc ns5.out _)
  have gl : h.g < W5.heap.size := heap_lt Hbox5.out
  have k1 : (W5.alloc (.cells #[.string a, .int .i64 kd, .int .i64 z] 133)).cell? ⟨h.g, 0, none⟩ = some (.slice aN n cN) := by
    rw [((Below.refl W5.heap.size W5).alloc (Nat.le_refl _) _).cell gl]; exact k0
  have Hk0 := hide k0
  have Hfz := hide fz
  clear fz
  go_wp2_with (at_builtin; refine ndE.wpBd (B := h.B) Hal.out (by rfl) _ _ rfl _ _ rfl rfl st.1 [⟨a, kd, z⟩] Hal2.out (nd_new W5 ⟨a, kd, z⟩ _ (by simp)) (by have := Hlen.out; simp; omega) ?_; intro v6 W6 ho6 hg6; refine Hid.out ?_)
  refine hide ?_
  obtain ⟨a6, c6, hv6⟩ := ho6.rd.form
  obtain ⟨n6, hn6⟩ : ∃ n6, (st.1 ++ [(⟨a, kd, z⟩ : Nd)]).length = n6 := ⟨_, rfl⟩
  rw [hn6] at hv6
  subst hv6
  clear hn6
  have hg6' : (W5.alloc (.cells #[.string a, .int .i64 kd, .int .i64 z] 133)).grownBy W6 (Value.slice aN n cN).ownBlock := hg6
  clear hg6
  obtain ⟨q1, q2, q3, q4⟩ := grown_kept (i := 0) ns5.out Hbox5.out (by decide) _ (by rw [Hn.out]; exact hg6') Hgg.out Hsz5.out ho6
  have k6 : W6.heap[h.g]? = some (.cells #[.slice aN n cN, vE, .map (some h.b)] 127) := by
    have := hg6'.block h.g (by simp; omega) (fun e => by
      rcases Hal2.out.2 with ⟨hx, _⟩ | ⟨q', cap, cur, hx, h2, h3, _⟩
      · rw [hx] at e; cases e
      · rw [hx] at e
        simp [Value.ownBlock] at e
        subst e
        rw [Below.heap_alloc _ _ _ (by omega), Hbox5.out] at h3
        simp only [Option.some.injEq, Obj.cells.injEq] at h3
        exact absurd h3.2.1 (by decide))
    rw [this, Below.heap_alloc _ _ _ (by omega)]; exact Hbox5.out
  have k7 := (cells_at k6 0).1
  have k8 := (cells_at k6 0).2
  simp at k7
  have HR : Hid (Rdr (W6.setCell ⟨h.g, 0, none⟩ (.slice a6 n6 c6)) h (.slice a6 n6 c6) vE (st.1 ++ [⟨a, kd, z⟩], st.2)) := hide {
    box := q1
    ns := q2
    es := own_chg es5.out fun k cur _ hk => q3 k (heap_lt hk) (fun e => by subst e; rw [Hbox5.out] at hk; simp only [Option.some.injEq, Obj.cells.injEq] at hk; exact absurd hk.2.1 (by decide)) (fun cur' e => by rw [hk] at e; simp only [Option.some.injEq, Obj.cells.injEq] at e; exact absurd e.2.1 (by decide))
    map := by
      have hm := HM5.out
      obtain ⟨me, mc, hmb⟩ := hm.block
      have hm2 := hm.keep (w' := W6.setCell ⟨h.g, 0, none⟩ (.slice a6 n6 c6)) (q3 h.b hm.lt (fun e => by rw [e, Hbox5.out] at hmb; cases hmb) (fun cur e => by rw [hmb] at e; cases e))
      rw [← Hn.out] at hm2
      exact Mp.next (nd := ⟨a, kd, z⟩) hm2 rfl
    hg := Hgg.out
    hb := Hbb.out }
  have HC : Hid (Chg h w (W6.setCell ⟨h.g, 0, none⟩ (.slice a6 n6 c6))) := hide (C5.out.trans ⟨q4, fun k cur hk => q3 k (heap_lt hk) (fun e => by subst e; rw [Hbox5.out] at hk; simp only [Option.some.injEq, Obj.cells.injEq] at hk; exact absurd hk.2.1 (by decide)) (fun cur' e => by rw [hk] at e; simp only [Option.some.injEq, Obj.cells.injEq] at e; exact absurd e.2.1 (by decide))⟩)
  clear q1 q2 q3 q4 ho6 hg6' k6 k1 k0
  go_wp2_with fail
  go_ret
  exact ⟨rfl, ⟨_, HR.out⟩, HC.out⟩
end Go.Proofs.YtocmngpoemfpkabGreatDoor

namespace Go.Proofs.YtocmngpoemfpkabGreatDoor
open Go.RowKit Go.Maps Go.ChangeMaps
theorem edgeS_form {f : ByteArray → Option Int} {ws : List ByteArray} {ed : Ed} (h : edgeS f ws = some ed) : ∃ a b, ws = [a, b] ∧ f a = some ed.1 ∧ f b = some ed.2 := by
  unfold edgeS at h
  split at h
  · rename_i a b
    split at h
    · rename_i x y hx hy
      cases h
      exact ⟨a, b, rfl, hx, hy⟩
    · cases h
  · cases h
set_option maxRecDepth 100000 in
set_option maxHeartbeats 2000000 in
theorem takeEdge_no {w : World} {h : Hd} {vN vE : Value} {st : St} (H : Rdr w h vN vE st) (aw : Option Addr) (cw : Nat) (ws : List ByteArray) (hw : strE.Rd w (.slice aw ws.length cw) ws) (hsz : ∀ x ∈ ws, x.size ≤ 100000) (hn : edgeS (lastAt st.1) ws = none) :
    Calls Tryz.prog 136 #[.pointer (some ⟨h.g, 0, none⟩), .slice aw ws.length cw] w fun e w' => e = .returned (.bool false) ∧ Below w.heap.size w w' := by
  have b0 : Hid (∀ q, Below w.heap.size w (w.drewN q)) := hide (fun q => ⟨rfl, rfl, rfl, Nat.le_refl _, fun _ _ => rfl⟩)
  by_cases h3 : ws.length = 2
  · match ws, h3 with
    | [a, b], _ =>
    obtain ⟨bb, off, rfl, x0⟩ := cell_of_get hw 0 a rfl
    rw [Nat.add_zero] at x0
    obtain ⟨_, _, e1, x1⟩ := cell_of_get hw 1 b rfl
    cases e1
    have l0 : ∀ q, _ := fun q => (H.map.keep (w' := w.drewN q) rfl).look a (Nat.le_trans (hsz a (by simp)) (by unfold maxLen; omega))
    have l1 : ∀ q, _ := fun q => (H.map.keep (w' := w.drewN q) rfl).look b (Nat.le_trans (hsz b (by simp)) (by unfold maxLen; omega))
    have k2 := (cells_at H.box 2).1
    simp at k2
    have hlen : [a, b].length = 2 := rfl
    rw [hlen]
    have hor : lastAt st.1 a = none ∨ lastAt st.1 b = none := by
      unfold edgeS at hn
      simp only at hn
      cases hk : lastAt st.1 a with
      | none => exact .inl rfl
      | some k => cases hz : lastAt st.1 b with
        | none => exact .inr rfl
        | some z => rw [hk, hz] at hn; cases hn
    clear hn hw hlen hsz H
    generalize lastAt st.1 a = ka at *
    generalize lastAt st.1 b = kb at *
    cases ka with
    | none =>
      clear hor
      go_enter Tryz.func136, Tryz.ntmps136
      go_upto_region 3 with fail
      go_quiet (fail)
      go_upto_region 4 with fail
      go_quiet (fail)
      go_wp2_with fail
      go_ret
      exact ⟨rfl, b0.out _⟩
    | some k =>
      obtain rfl : kb = none := by rcases hor with h | h; cases h; exact h
      clear hor
      go_enter Tryz.func136, Tryz.ntmps136
      go_upto_region 3 with fail
      go_quiet (fail)
      go_upto_region 4 with fail
      go_quiet (fail)
      go_wp2_with fail
      go_ret
      exact ⟨rfl, b0.out _⟩
  · have h3' : ¬ (ws.length : Int) = 2 := by omega
    clear hw hn h3 hsz
    generalize ws.length = n at *
    go_enter Tryz.func136, Tryz.ntmps136
    go_wp2_with fail
    go_ret
    exact ⟨rfl, b0.out 0⟩
set_option maxRecDepth 100000 in
set_option maxHeartbeats 4000000 in
theorem takeEdge_yes {w : World} {h : Hd} {vN vE : Value} {st : St} (H : Rdr w h vN vE st) (hBw : h.B ≤ w.heap.size) (hlen : st.2.length ≤ 5000) (aw : Option Addr) (cw : Nat) (ws : List ByteArray) (hw : strE.Rd w (.slice aw ws.length cw) ws) (hsz : ∀ x ∈ ws, x.size ≤ 100000) (ed : Ed) (hn : edgeS (lastAt st.1) ws = some ed) :
    Calls Tryz.prog 136 #[.pointer (some ⟨h.g, 0, none⟩), .slice aw ws.length cw] w fun e w' => e = .returned (.bool true) ∧ (∃ vE', Rdr w' h vN vE' (st.1, st.2 ++ [ed])) ∧ Chg h w w' := by
  obtain ⟨a, b, rfl, hk, hz⟩ := edgeS_form hn
  clear hn
  obtain ⟨x, y⟩ := ed
  simp only at hk hz hw hsz ⊢
  obtain ⟨bb, off, rfl, x0⟩ := cell_of_get hw 0 a rfl
  rw [Nat.add_zero] at x0
  obtain ⟨_, _, e1, x1⟩ := cell_of_get hw 1 b rfl
  cases e1
  have l0 : ∀ q, _ := fun q => (H.map.keep (w' := w.drewN q) rfl).look a (Nat.le_trans (hsz a (by simp)) (by unfold maxLen; omega))
  have l1 : ∀ q, _ := fun q => (H.map.keep (w' := w.drewN q) rfl).look b (Nat.le_trans (hsz b (by simp)) (by unfold maxLen; omega))
  rw [hk] at l0
  rw [hz] at l1
  have k2 := (cells_at H.box 2).1
  simp at k2
  have hl3 : [a, b].length = 2 := rfl
  rw [hl3]
  have HH := hide H
  have Hlen := hide hlen
  have HBw := hide hBw
  clear hw hl3 hk hz hsz H hlen hBw
  go_enter Tryz.func136, Tryz.ntmps136
  go_upto_region 3 with fail
  go_quiet (fail)
  rename Nat => nq1
  go_upto_region 4 with fail
  go_quiet (fail)
  clear l0 l1 k2
  go_upto_region 7 with fail
  have bq : Below w.heap.size w (w.drewN (nq1 + nq)) := ⟨rfl, rfl, rfl, Nat.le_refl _, fun _ _ => rfl⟩
  have H5 := HH.out.keep bq
  have C5 : Hid (Chg h w (w.drewN (nq1 + nq))) := hide (Chg.of HBw.out bq)
  have Hsz5 : Hid (h.B ≤ (w.drewN (nq1 + nq)).heap.size) := hide HBw.out
  clear x0 x1 HBw HH bq
  generalize w.drewN (nq1 + nq) = W5 at *
  obtain ⟨aN, cN, rfl⟩ := H5.es.rd.form
  obtain ⟨n, hn⟩ : ∃ n, st.2.length = n := ⟨_, rfl⟩
  have bx := H5.box
  have own5 := H5.es
  rw [hn] at bx own5
  have es5 := hide own5
  have ns5 := hide H5.ns
  have Hbox5 := hide bx
  have HM5 := hide H5.map
  have Hgg := hide H5.hg
  have Hbb := hide H5.hb
  have k0 : W5.cell? ⟨h.g, 1, none⟩ = some (.slice aN n cN) := (cells_at bx 1).1
  have fz : W5.frozen? ⟨h.g, 1, none⟩ = false := (cells_at bx 1).2
  have gl : h.g < W5.heap.size := heap_lt bx
  have Hal : Hid (h.B ≤ (W5.alloc (.cells #[.int .i64 x, .int .i64 y] 65)).heap.size) := hide (by have := Hsz5.out; simp; omega)
  have Hal2 : Hid (edE.Own (W5.alloc (.cells #[.int .i64 x, .int .i64 y] 65)) h.B (.slice aN n cN) st.2) := hide (World.ownsRow.alloc es5.out _)
  have k1 : (W5.alloc (.cells #[.int .i64 x, .int .i64 y] 65)).cell? ⟨h.g, 1, none⟩ = some (.slice aN n cN) := by
    rw [((Below.refl W5.heap.size W5).alloc (Nat.le_refl _) _).cell gl]; exact k0
  clear fz bx own5 H5 hn
  go_wp2_with (at_builtin; refine edE.wpBd (B := h.B) Hal.out (by rfl) _ _ rfl _ _ rfl rfl st.2 [(x, y)] Hal2.out (ed_new W5 (x, y) _ (by simp)) (by have := Hlen.out; simp; omega) ?_; intro v6 W6 ho6 hg6; refine Hid.out ?_)
  refine hide ?_
  obtain ⟨a6, c6, hv6⟩ := ho6.rd.form
  obtain ⟨n6, hn6⟩ : ∃ n6, (st.2 ++ [((x, y) : Ed)]).length = n6 := ⟨_, rfl⟩
  rw [hn6] at hv6
  subst hv6
  clear hn6
  have hg6' : (W5.alloc (.cells #[.int .i64 x, .int .i64 y] 65)).grownBy W6 (Value.slice aN n cN).ownBlock := hg6
  clear hg6
  obtain ⟨q1, q2, q3, q4⟩ := grown_kept (i := 1) es5.out Hbox5.out (by decide) _ hg6' Hgg.out Hsz5.out ho6
  have k6 : W6.heap[h.g]? = some (.cells #[vN, .slice aN n cN, .map (some h.b)] 127) := by
    have := hg6'.block h.g (by simp; omega) (fun e => by
      rcases Hal2.out.2 with ⟨hx, _⟩ | ⟨q', cap, cur, hx, h2, h3, _⟩
      · rw [hx] at e; cases e
      · rw [hx] at e
        simp [Value.ownBlock] at e
        subst e
        rw [Below.heap_alloc _ _ _ (by omega), Hbox5.out] at h3
        simp only [Option.some.injEq, Obj.cells.injEq] at h3
        exact absurd h3.2.1 (by decide))
    rw [this, Below.heap_alloc _ _ _ (by omega)]; exact Hbox5.out
  have k7 := (cells_at k6 1).1
  have k8 := (cells_at k6 1).2
  simp at k7
  have HR : Hid (Rdr (W6.setCell ⟨h.g, 1, none⟩ (.slice a6 n6 c6)) h vN (.slice a6 n6 c6) (st.1, st.2 ++ [(x, y)])) := hide {
    box := q1
    ns := own_chg ns5.out fun k cur _ hk => q3 k (heap_lt hk) (fun e => by subst e; rw [Hbox5.out] at hk; simp only [Option.some.injEq, Obj.cells.injEq] at hk; exact absurd hk.2.1 (by decide)) (fun cur' e => by rw [hk] at e; simp only [Option.some.injEq, Obj.cells.injEq] at e; exact absurd e.2.1 (by decide))
    es := q2
    map := by
      have hm := HM5.out
      obtain ⟨me, mc, hmb⟩ := hm.block
      exact hm.keep (w' := W6.setCell ⟨h.g, 1, none⟩ (.slice a6 n6 c6)) (q3 h.b hm.lt (fun e => by rw [e, Hbox5.out] at hmb; cases hmb) (fun cur e => by rw [hmb] at e; cases e))
    hg := Hgg.out
    hb := Hbb.out }
  have HC : Hid (Chg h w (W6.setCell ⟨h.g, 1, none⟩ (.slice a6 n6 c6))) := hide (C5.out.trans ⟨q4, fun k cur hk => q3 k (heap_lt hk) (fun e => by subst e; rw [Hbox5.out] at hk; simp only [Option.some.injEq, Obj.cells.injEq] at hk; exact absurd hk.2.1 (by decide)) (fun cur' e => by rw [hk] at e; simp only [Option.some.injEq, Obj.cells.injEq] at e; exact absurd e.2.1 (by decide))⟩)
  clear q1 q2 q3 q4 ho6 hg6' k6 k1 k0
  go_wp2_with fail
  go_ret
  exact ⟨rfl, ⟨_, HR.out⟩, HC.out⟩
end Go.Proofs.YtocmngpoemfpkabGreatDoor

namespace Go.Proofs.YtocmngpoemfpkabGreatDoor
open Go.RowKit Go.Maps Go.ChangeMaps
theorem hasPrefix_hash (l : ByteArray) : Lib.hasPrefix l.data.toList [35] = (decide (l.size ≠ 0) && decide (byteAt l 0 = 35)) := by
  unfold Lib.hasPrefix byteAt
  obtain ⟨⟨x⟩⟩ := l
  cases x with
  | nil => rfl
  | cons y x =>
    simp [ByteArray.size]
    by_cases h : y = 35
    · subst h; simp [List.isPrefixOf]
    · have : ¬ y.toNat = 35 := fun e => h (UInt8.toNat_inj.1 (by simpa using e))
      simp [List.isPrefixOf, this]
      exact fun e => h e.symm
theorem eq_empty (l : ByteArray) : (l.toList == ([] : List UInt8)) = decide (l.size = 0) := by
  rw [ByteArray.toList_eq]
  obtain ⟨⟨x⟩⟩ := l
  cases x with
  | nil => rfl
  | cons y x => simp [ByteArray.size]
structure Kept (w : World) (h : Hd) (vN vE : Value) (st : St) : Prop where
  r : Rdr w h vN vE st
  l : Laid w
  b : h.B ≤ w.heap.size
  b5 : 4 ≤ h.B
  n1 : st.1.length ≤ 4500
  n2 : st.2.length ≤ 4500
set_option maxRecDepth 100000 in
set_option maxHeartbeats 2000000 in
theorem take_skip (p : Value) (l : ByteArray) (w : World) (hs : skipS l = true) : Calls Tryz.prog 60 #[p, .string l] w fun e w' => e = .returned (.bool true) ∧ w' = w := by
  have K42 := hide (fun W => Tryz.strings_HasPrefix l ⟨#[35]⟩ W)
  have e1 := eq_empty l
  have e2 : Lib.hasPrefix l.data.toList [35] = (decide (l.size ≠ 0) && decide (byteAt l 0 = 35)) := hasPrefix_hash l
  unfold skipS at hs
  by_cases h0 : l.size = 0
  · rw [decide_eq_true h0] at e1
    clear hs e2 h0
    go_enter Tryz.func60, Tryz.ntmps60
    go_wp2_with fail
    go_ret
    exact ⟨rfl, rfl⟩
  · rw [decide_eq_false h0] at e1 hs
    rw [decide_eq_true (show l.size ≠ 0 from h0)] at e2
    rw [Bool.false_or] at hs
    rw [hs, Bool.and_true] at e2
    clear hs h0
    go_enter Tryz.func60, Tryz.ntmps60
    go_wp2_with (go_at_call 134; refine (K42.out _).mono ?_; rintro e W1 ⟨rfl, rfl⟩; simp only [e2])
    go_ret
    exact ⟨rfl, rfl⟩
end Go.Proofs.YtocmngpoemfpkabGreatDoor

namespace Go.Proofs.YtocmngpoemfpkabGreatDoor
open Go.RowKit Go.Maps Go.ChangeMaps
theorem takeNode_any {w : World} {h : Hd} {vN vE : Value} {st : St} (K : Kept w h vN vE st) (aw : Option Addr) (n cw : Nat) (ws : List ByteArray) (hn : ws.length = n) (hw : strE.Rd w (.slice aw n cw) ws) (hsz : ∀ x ∈ ws, x.size ≤ 100000) :
    Calls Tryz.prog 135 #[.pointer (some ⟨h.g, 0, none⟩), .slice aw n cw] w fun e w' => ∃ ok, e = .returned (.bool ok) ∧ ((ok = true ∧ ∃ nd vN', nodeS ws = some nd ∧ Rdr w' h vN' vE (st.1 ++ [nd], st.2)) ∨ (ok = false ∧ nodeS ws = none)) ∧ Chg h w w' := by
  subst hn
  cases hx : nodeS ws with
  | none =>
    refine (takeNode_no _ w K.l aw cw ws hw hx).mono ?_
    rintro e w' ⟨rfl, hb⟩
    exact ⟨_, rfl, .inr ⟨rfl, rfl⟩, Chg.of K.b hb⟩
  | some nd =>
    refine (takeNode_yes K.r K.b K.l (by have := K.n1; omega) aw cw ws hw hsz nd hx).mono ?_
    rintro e w' ⟨rfl, ⟨v, hr⟩, hc⟩
    exact ⟨_, rfl, .inl ⟨rfl, nd, v, rfl, hr⟩, hc⟩
theorem takeEdge_any {w : World} {h : Hd} {vN vE : Value} {st : St} (K : Kept w h vN vE st) (aw : Option Addr) (n cw : Nat) (ws : List ByteArray) (hn : ws.length = n) (hw : strE.Rd w (.slice aw n cw) ws) (hsz : ∀ x ∈ ws, x.size ≤ 100000) :
    Calls Tryz.prog 136 #[.pointer (some ⟨h.g, 0, none⟩), .slice aw n cw] w fun e w' => ∃ ok, e = .returned (.bool ok) ∧ ((ok = true ∧ ∃ ed vE', edgeS (lastAt st.1) ws = some ed ∧ Rdr w' h vN vE' (st.1, st.2 ++ [ed])) ∨ (ok = false ∧ edgeS (lastAt st.1) ws = none)) ∧ Chg h w w' := by
  subst hn
  cases hx : edgeS (lastAt st.1) ws with
  | none =>
    refine (takeEdge_no K.r aw cw ws hw hsz hx).mono ?_
    rintro e w' ⟨rfl, hb⟩
    exact ⟨_, rfl, .inr ⟨rfl, rfl⟩, Chg.of K.b hb⟩
  | some ed =>
    refine (takeEdge_yes K.r K.b (by have := K.n2; omega) aw cw ws hw hsz ed hx).mono ?_
    rintro e w' ⟨rfl, ⟨v, hr⟩, hc⟩
    exact ⟨_, rfl, .inl ⟨rfl, ed, v, rfl, hr⟩, hc⟩
theorem Kept.keep {w w' : World} {h : Hd} {vN vE : Value} {st : St} (K : Kept w h vN vE st) (hb : Below w.heap.size w w') : Kept w' h vN vE st :=
  ⟨K.r.keep hb, K.l.keep K.l.size hb, Nat.le_trans K.b hb.size, K.b5, K.n1, K.n2⟩
theorem tail_rd {W : World} {B g n : Nat} {w0 : ByteArray} {ws : List ByteArray} (hn : ws.length = n) (ho : strE.Own W B (.slice (some ⟨g, 0, none⟩) (n + 1) (n + 1)) (w0 :: ws)) : strE.Rd W (.slice (some ⟨g, 1, none⟩) n n) ws := by
  have := El.Rd.drop (cap' := n) ho.rd 1 n (by simp [hn]) (by simp)
  simpa [strE] using this
theorem nil_rd (W : World) (x : Addr) (c : Nat) : strE.Rd W (.slice (some x) 0 c) [] := .inr ⟨x, c, rfl, fun i hi => by simp at hi⟩
set_option maxRecDepth 100000 in
set_option maxHeartbeats 2000000 in
theorem take_line {w : World} {h : Hd} {vN vE : Value} {st : St} (K : Kept w h vN vE st) (l : ByteArray) (hl : l.size ≤ 5000) (hs : skipS l = false) :
    Calls Tryz.prog 60 #[.pointer (some ⟨h.g, 0, none⟩), .string l] w fun e w' => (∃ st', lineS lastAt st l = some st' ∧ e = .returned (.bool true) ∧ (∃ vN' vE', Rdr w' h vN' vE' st') ∧ Chg h w w') ∨ (lineS lastAt st l = none ∧ e = .returned (.bool false) ∧ Chg h w w') := by
  have K42 := hide (fun W => Tryz.strings_HasPrefix l ⟨#[35]⟩ W)
  have e1 := eq_empty l
  have e2 : Lib.hasPrefix l.data.toList [35] = (decide (l.size ≠ 0) && decide (byteAt l 0 = 35)) := hasPrefix_hash l
  have hls : lineS lastAt st l = (match pieces 32 l with
    | w :: ws => if w = nodeWd then (nodeS ws).map (fun n => (st.1 ++ [n], st.2)) else if w = edgeWd then (edgeS (lastAt st.1) ws).map (fun e => (st.1, st.2 ++ [e])) else none
    | [] => none) := by unfold lineS; rw [hs]; rfl
  rw [hls]
  clear hls
  have hs' := hs
  unfold skipS at hs
  rw [Bool.or_eq_false_iff] at hs
  rw [hs.1] at e1
  rw [hs.2, Bool.and_false] at e2
  have K28 := hide (split_any 32 l ⟨#[32]⟩ rfl w (by omega) K.l.m)
  have hps : Hid (∀ x ∈ pieces 32 l, x.size ≤ 100000) := hide (fun x hx => by
    unfold pieces at hx
    obtain ⟨y, hy, rfl⟩ := List.mem_map.1 hx
    have := piece_small 32 _ y hy
    have hb2 : l.data.toList.length = l.size := rfl
    rw [strU_size]; omega)
  have hne : pieces 32 l ≠ [] := by unfold pieces; intro e; exact cutL_ne 32 l.data.toList (List.map_eq_nil_iff.1 e)
  generalize pieces 32 l = ps at *
  match ps, hne with
  | w0 :: ws, _ =>
  obtain ⟨n, hn⟩ : ∃ n, ws.length = n := ⟨_, rfl⟩
  have hn2 : (w0 :: ws).length = n + 1 := by simp [hn]
  rw [hn2] at K28
  have HK := hide K
  have Hn := hide hn
  clear hs hs' hne hn hn2 hl K
  simp only
  have X : Hid (∀ W, strE.Own W w.heap.size (.slice (some ⟨w.heap.size, 0, none⟩) (n + 1) (n + 1)) (w0 :: ws) → W.cell? ⟨w.heap.size, 0, none⟩ = some (.string w0)) := hide (fun W ho => by
    obtain ⟨b, off, e, hx⟩ := cell_of_get ho.rd 0 w0 rfl
    cases e
    exact hx)
  have hpw : Hid (∀ x ∈ ws, x.size ≤ 100000) := hide (fun x hx => hps.out x (by simp [hx]))
  have nw : nodeWd.toList = [110, 111, 100, 101] := by rw [ByteArray.toList_eq]; rfl
  have ew : edgeWd.toList = [101, 100, 103, 101] := by rw [ByteArray.toList_eq]; rfl
  have ee := eq_bytes w0 nodeWd
  have ff := eq_bytes w0 edgeWd
  rw [nw] at ee
  rw [ew] at ff
  clear nw ew hps
  by_cases c1 : w0 = nodeWd
  · rw [decide_eq_true c1] at ee
    rw [if_pos c1]
    clear c1 ff
    by_cases hn0 : n = 0
    · subst hn0
      obtain rfl : ws = [] := List.eq_nil_of_length_eq_zero Hn.out
      go_enter Tryz.func60, Tryz.ntmps60
      go_wp2_with (first
        | (go_at_call 134; refine (K42.out _).mono ?_; rintro e W1 ⟨rfl, rfl⟩; simp only [e2])
        | (go_at_call 59; refine (K28.out).mono ?_; rintro e W2 ⟨rfl, ho2, hb2⟩; have y0 := X.out _ ho2; have Ho2 := hide ho2; have Hb2 := hide hb2; clear ho2 hb2)
        | (go_at_call 135; refine (takeNode_any (HK.out.keep Hb2.out) _ _ _ [] Hn.out (nil_rd _ _ _) hpw.out).mono ?_; rintro e W3 ⟨ok, rfl, hp, hc⟩; have hP := hide hp; have HC := hide hc; clear hp hc; refine Hid.out ?_))
      refine hide ?_
      rcases hP.out with ⟨rfl, nd, vN', h1, h2⟩ | ⟨rfl, h1⟩
      · have HR := hide h2
        have H1 := hide h1
        clear h1 h2 hP
        go_wp2_with fail
        go_ret
        exact .inl ⟨_, by rw [H1.out]; rfl, rfl, ⟨_, _, HR.out⟩, (Chg.of HK.out.b Hb2.out).trans HC.out⟩
      · have H1 := hide h1
        clear h1 hP
        go_wp2_with fail
        go_ret
        exact .inr ⟨by rw [H1.out]; rfl, rfl, (Chg.of HK.out.b Hb2.out).trans HC.out⟩
    · obtain ⟨n', rfl⟩ : ∃ n', n = n' + 1 := ⟨n - 1, by omega⟩
      clear hn0
      go_enter Tryz.func60, Tryz.ntmps60
      go_wp2_with (first
        | (go_at_call 134; refine (K42.out _).mono ?_; rintro e W1 ⟨rfl, rfl⟩; simp only [e2])
        | (go_at_call 59; refine (K28.out).mono ?_; rintro e W2 ⟨rfl, ho2, hb2⟩; have y0 := X.out _ ho2; have Ho2 := hide ho2; have Hb2 := hide hb2; clear ho2 hb2)
        | (go_at_call 135; refine (takeNode_any (HK.out.keep Hb2.out) _ _ _ ws Hn.out (tail_rd Hn.out Ho2.out) hpw.out).mono ?_; rintro e W3 ⟨ok, rfl, hp, hc⟩; have hP := hide hp; have HC := hide hc; clear hp hc; refine Hid.out ?_))
      refine hide ?_
      rcases hP.out with ⟨rfl, nd, vN', h1, h2⟩ | ⟨rfl, h1⟩
      · have HR := hide h2
        have H1 := hide h1
        clear h1 h2 hP
        go_wp2_with fail
        go_ret
        exact .inl ⟨_, by rw [H1.out]; rfl, rfl, ⟨_, _, HR.out⟩, (Chg.of HK.out.b Hb2.out).trans HC.out⟩
      · have H1 := hide h1
        clear h1 hP
        go_wp2_with fail
        go_ret
        exact .inr ⟨by rw [H1.out]; rfl, rfl, (Chg.of HK.out.b Hb2.out).trans HC.out⟩
  · rw [decide_eq_false c1] at ee
    rw [if_neg c1]
    clear c1
    by_cases c2 : w0 = edgeWd
    · rw [decide_eq_true c2] at ff
      rw [if_pos c2]
      clear c2
      by_cases hn0 : n = 0
      · subst hn0
        obtain rfl : ws = [] := List.eq_nil_of_length_eq_zero Hn.out
        go_enter Tryz.func60, Tryz.ntmps60
        go_wp2_with (first
          | (go_at_call 134; refine (K42.out _).mono ?_; rintro e W1 ⟨rfl, rfl⟩; simp only [e2])
          | (go_at_call 59; refine (K28.out).mono ?_; rintro e W2 ⟨rfl, ho2, hb2⟩; have y0 := X.out _ ho2; have Ho2 := hide ho2; have Hb2 := hide hb2; clear ho2 hb2)
          | (go_at_call 136; refine (takeEdge_any (HK.out.keep Hb2.out) _ _ _ [] Hn.out (nil_rd _ _ _) hpw.out).mono ?_; rintro e W3 ⟨ok, rfl, hp, hc⟩; have hP := hide hp; have HC := hide hc; clear hp hc; refine Hid.out ?_))
        refine hide ?_
        rcases hP.out with ⟨rfl, ed, vE', h1, h2⟩ | ⟨rfl, h1⟩
        · have HR := hide h2
          have H1 := hide h1
          clear h1 h2 hP
          go_wp2_with fail
          go_ret
          exact .inl ⟨_, by rw [H1.out]; rfl, rfl, ⟨_, _, HR.out⟩, (Chg.of HK.out.b Hb2.out).trans HC.out⟩
        · have H1 := hide h1
          clear h1 hP
          go_wp2_with fail
          go_ret
          exact .inr ⟨by rw [H1.out]; rfl, rfl, (Chg.of HK.out.b Hb2.out).trans HC.out⟩
      · obtain ⟨n', rfl⟩ : ∃ n', n = n' + 1 := ⟨n - 1, by omega⟩
        clear hn0
        go_enter Tryz.func60, Tryz.ntmps60
        go_wp2_with (first
          | (go_at_call 134; refine (K42.out _).mono ?_; rintro e W1 ⟨rfl, rfl⟩; simp only [e2])
          | (go_at_call 59; refine (K28.out).mono ?_; rintro e W2 ⟨rfl, ho2, hb2⟩; have y0 := X.out _ ho2; have Ho2 := hide ho2; have Hb2 := hide hb2; clear ho2 hb2)
          | (go_at_call 136; refine (takeEdge_any (HK.out.keep Hb2.out) _ _ _ ws Hn.out (tail_rd Hn.out Ho2.out) hpw.out).mono ?_; rintro e W3 ⟨ok, rfl, hp, hc⟩; have hP := hide hp; have HC := hide hc; clear hp hc; refine Hid.out ?_))
        refine hide ?_
        rcases hP.out with ⟨rfl, ed, vE', h1, h2⟩ | ⟨rfl, h1⟩
        · have HR := hide h2
          have H1 := hide h1
          clear h1 h2 hP
          go_wp2_with fail
          go_ret
          exact .inl ⟨_, by rw [H1.out]; rfl, rfl, ⟨_, _, HR.out⟩, (Chg.of HK.out.b Hb2.out).trans HC.out⟩
        · have H1 := hide h1
          clear h1 hP
          go_wp2_with fail
          go_ret
          exact .inr ⟨by rw [H1.out]; rfl, rfl, (Chg.of HK.out.b Hb2.out).trans HC.out⟩
    · rw [decide_eq_false c2] at ff
      rw [if_neg c2]
      clear c2
      go_enter Tryz.func60, Tryz.ntmps60
      go_wp2_with (first
        | (go_at_call 134; refine (K42.out _).mono ?_; rintro e W1 ⟨rfl, rfl⟩; simp only [e2])
        | (go_at_call 59; refine (K28.out).mono ?_; rintro e W2 ⟨rfl, ho2, hb2⟩; have y0 := X.out _ ho2; have Ho2 := hide ho2; have Hb2 := hide hb2; clear ho2 hb2))
      go_ret
      exact .inr ⟨by first | rfl | trivial, by first | rfl | trivial, Chg.of HK.out.b Hb2.out⟩
end Go.Proofs.YtocmngpoemfpkabGreatDoor

namespace Go.Proofs.YtocmngpoemfpkabGreatDoor
open Go.RowKit Go.Maps Go.ChangeMaps
theorem take_any {w : World} {h : Hd} {vN vE : Value} {st : St} (K : Kept w h vN vE st) (l : ByteArray) (hl : l.size ≤ 5000) :
    Calls Tryz.prog 60 #[.pointer (some ⟨h.g, 0, none⟩), .string l] w fun e w' => ∃ ok, e = .returned (.bool ok) ∧ ((ok = true ∧ ∃ st' vN' vE', lineS lastAt st l = some st' ∧ Rdr w' h vN' vE' st') ∨ (ok = false ∧ lineS lastAt st l = none)) ∧ Chg h w w' := by
  cases hs : skipS l with
  | true =>
    refine (take_skip _ l w hs).mono ?_
    rintro e w' ⟨rfl, rfl⟩
    refine ⟨_, rfl, .inl ⟨rfl, st, vN, vE, ?_, K.r⟩, Chg.refl _ _⟩
    unfold lineS; rw [hs]; rfl
  | false =>
    refine (take_line K l hl hs).mono ?_
    rintro e w' (⟨st', h1, rfl, ⟨v, u, h2⟩, h3⟩ | ⟨h1, rfl, h3⟩)
    · exact ⟨_, rfl, .inl ⟨rfl, st', v, u, h1, h2⟩, h3⟩
    · exact ⟨_, rfl, .inr ⟨rfl, h1⟩, h3⟩
theorem lineS_more {lk : List Nd → ByteArray → Option Int} {st st' : St} {l : ByteArray} (h : lineS lk st l = some st') : st'.1.length ≤ st.1.length + 1 ∧ st'.2.length ≤ st.2.length + 1 ∧ ((∀ n ∈ st.1, n.name.size ≤ maxLen) → ∀ n ∈ st'.1, n.name.size ≤ maxLen) := by
  unfold lineS at h
  split at h
  · cases h; exact ⟨by omega, by omega, fun h => h⟩
  · split at h
    · split at h
      · rw [Option.map_eq_some_iff] at h
        obtain ⟨nd, h1, rfl⟩ := h
        refine ⟨by simp, by simp, fun hh n hn => ?_⟩
        simp at hn
        rcases hn with hn | rfl
        · exact hh n hn
        · obtain ⟨b, c, _, h2, _⟩ := nodeS_form h1
          unfold nameB at h2
          have := (of_decide_eq_true h2).2.1
          unfold maxLen; omega
      · split at h
        · rw [Option.map_eq_some_iff] at h
          obtain ⟨nd, h1, rfl⟩ := h
          exact ⟨by simp, by simp, fun h => h⟩
        · cases h
    · cases h
theorem own_cap {α : Type} {E : El Tryz.prog α} {w : World} {B : Nat} {a : Option Addr} {n c : Nat} {xs : List α} (h : E.Own w B (.slice a n c) xs) : xs.length ≤ c := by
  rcases h.2 with ⟨h1, h2⟩ | ⟨g, cap, cur, h1, _, _, h4, _⟩
  · omega
  · simp only [Value.slice.injEq] at h1
    obtain ⟨_, _, rfl⟩ := h1
    exact h4
theorem linesS_step (lk : List Nd → ByteArray → Option Int) (k : Nat) (st : St) (ls : List ByteArray) (l : ByteArray) (hl : ls[k]? = some l) : linesS lk k st (ls.drop k) = match lineS lk st l with
    | some st' => linesS lk (k + 1) st' (ls.drop (k + 1))
    | none => .inr (k + 1) := by
  have hk : k < ls.length := by
    rcases Nat.lt_or_ge k ls.length with h' | h'
    · exact h'
    · rw [List.getElem?_eq_none h'] at hl; cases hl
  rw [List.getElem?_eq_getElem hk] at hl
  cases hl
  rw [← List.getElem_cons_drop hk]
  rfl
theorem Kept.new (w : World) (C : Array Value) (L : Laid w) : Kept (((w.alloc (.cells C 25)).alloc (.map #[] 0)).alloc (.cells #[.slice none 0 0, .slice none 0 0, .map (some (w.heap.size + 1))] 127)) ⟨w.heap.size + 1 + 1, w.heap.size + 1, w.heap.size + 1⟩ (.slice none 0 0) (.slice none 0 0) ([], []) where
  r := {
    box := by
      show (((w.alloc (.cells C 25)).alloc (.map #[] 0)).heap.push _)[w.heap.size + 1 + 1]? = _
      rw [show w.heap.size + 1 + 1 = ((w.alloc (.cells C 25)).alloc (.map #[] 0)).heap.size by simp]
      exact Array.getElem?_push_size
    ns := El.Own.nil _ _ _
    es := El.Own.nil _ _ _
    map := by
      have := Mp.made (w.alloc (.cells C 25))
      have e : (w.alloc (.cells C 25)).heap.size = w.heap.size + 1 := by simp
      rw [e] at this
      exact this.keep (Below.heap_alloc _ _ _ (by simp))
    hg := by simp
    hb := by simp }
  l := L.keep L.size (((Below.refl _ _).alloc (Nat.le_refl _) _).alloc (by simp) _ |>.alloc (by simp; omega) _)
  b := by simp
  b5 := by have := L.size; simp; omega
  n1 := by simp
  n2 := by simp
set_option maxRecDepth 100000 in
set_option maxHeartbeats 4000000 in
theorem lparse_any (text : ByteArray) (w : World) (L : Laid w) (hs : text.size ≤ 4096) :
    Calls Tryz.prog 19 #[.string text] w fun e w' => ∃ vN vE, e = .returned (.tuple #[.agg #[vN, vE], .int .i64 (parseS lastAt text).2.1, .int .i64 (parseS lastAt text).2.2]) ∧ ndE.Own w' w.heap.size vN (parseS lastAt text).1.1 ∧ edE.Own w' w.heap.size vE (parseS lastAt text).1.2 ∧ Below w.heap.size w w' := by
  have h1 : ¬ (4096 : Int) < text.size := by omega
  have pS : Hid (parseS lastAt text = match linesS lastAt 0 ([], []) (pieces 10 text) with
    | .inr n => (([], []), n, 60)
    | .inl st => if good st.1 st.2 = true then (st, 0, 0) else (([], []), 0, 61)) := hide (by unfold parseS; rw [if_neg (by omega)]; rfl)
  generalize parseS lastAt text = res at *
  have K0 := Kept.new w #[.slice none 0 0, .slice none 0 0] L
  have hk : ∀ t W, (Instr.makeMap t none).run Tryz.prog W = .ok (.map (some W.heap.size)) (W.alloc (.map #[] 0)) := fun t W => run_makeMap t W
  obtain ⟨W0, hW0⟩ : ∃ W0, ((w.alloc (.cells #[.slice none 0 0, .slice none 0 0] 25)).alloc (.map #[] 0)).alloc (.cells #[.slice none 0 0, .slice none 0 0, .map (some (w.heap.size + 1))] 127) = W0 := ⟨_, rfl⟩
  rw [hW0] at K0
  have hr0 : W0.heap[w.heap.size]? = some (.cells #[.slice none 0 0, .slice none 0 0] 25) := by
    rw [← hW0, Below.heap_alloc _ _ _ (by simp; omega), Below.heap_alloc _ _ _ (by simp)]
    exact heap_new _ _
  have b0 : Below w.heap.size w W0 := by rw [← hW0]; exact ((Below.refl _ _).alloc (Nat.le_refl _) _).alloc (by simp) _ |>.alloc (by simp; omega) _
  have K28 := hide (split_any 10 text ⟨#[10]⟩ rfl W0 (by omega) K0.l.m)
  have hpl : (pieces 10 text).length ≤ 4097 := by
    unfold pieces
    rw [List.length_map]
    have := pieces_len_le 10 text.data.toList
    have hb2 : text.data.toList.length = text.size := rfl
    omega
  have hps : Hid (∀ x ∈ pieces 10 text, x.size ≤ 5000) := hide (fun x hx => by
    unfold pieces at hx
    obtain ⟨y, hy, rfl⟩ := List.mem_map.1 hx
    have := piece_small 10 _ y hy
    have hb2 : text.data.toList.length = text.size := rfl
    rw [strU_size]; omega)
  generalize pieces 10 text = ls at *
  obtain ⟨n, hn⟩ : ∃ n, ls.length = n := ⟨_, rfl⟩
  rw [hn] at K28 hpl
  have Hn := hide hn
  have Hpl := hide hpl
  have HK0 := hide K0
  have Hr0 := hide hr0
  have Hb0 := hide b0
  have HW0 := hide hW0
  have i0 : (n : Int) ≤ 4097 := by omega
  have i1 : (0 : Int) ≤ (n : Int) := by omega
  clear hn hpl K0 hr0 b0 hW0 hs L
  go_enter Tryz.func19, Tryz.ntmps19
  go_upto_region 4 with fail
  rw [HW0.out]
  obtain ⟨N, hN⟩ : ∃ N, w.heap.size = N := ⟨_, rfl⟩
  rw [hN] at HK0 Hr0 Hb0 ⊢
  have HN := hide hN
  clear hN HW0 hk
  go_wp2_with (go_at_call 59; refine (K28.out).mono ?_; rintro e W1 ⟨rfl, ho1, hb1⟩; have Ho1 := hide ho1; have Hb1 := hide hb1; clear ho1 hb1)
  have B0 : Hid (∀ W, Chg ⟨N + 1 + 1, N + 1, N + 1⟩ W0 W → W.heap[N]? = some (.cells #[.slice none 0 0, .slice none 0 0] 25) ∧ Below N w W) := hide (fun W hc => ⟨by rw [hc.below.block _ (by show N < N + 1; omega)]; exact Hr0.out, Hb0.out.trans (hc.below.mono (by show N ≤ N + 1; omega))⟩)
  obtain ⟨h, hh⟩ : ∃ h : Hd, (⟨N + 1 + 1, N + 1, N + 1⟩ : Hd) = h := ⟨_, rfl⟩
  have hg : h.g = N + 1 + 1 := by rw [← hh]
  have hB : h.B = N + 1 := by rw [← hh]
  rw [hh] at HK0 B0
  have HhB := hide hB
  have C1 : Hid (Chg h W0 W1) := hide (Chg.of HK0.out.b Hb1.out)
  have HK1 := hide (HK0.out.keep Hb1.out)
  rw [← hg]
  have Hhg := hide hg
  clear hh hB hg Hb1 HK0 K28
  generalize W0.heap.size = G at *
  go_loopw [18] (fun v18 wr => ∃ (k : Nat) (vN vE : Value) (st : St), k ≤ n ∧ v18 = .int .i64 k ∧ Hid (Kept wr h vN vE st) ∧ Hid (st.1.length ≤ k ∧ st.2.length ≤ k ∧ ∀ m ∈ st.1, m.name.size ≤ maxLen) ∧ Hid (strE.Own wr G (.slice (some ⟨G, 0, none⟩) n n) ls) ∧ Hid (linesS lastAt 0 ([], []) ls = linesS lastAt k st (ls.drop k)) ∧ Hid (Chg h W0 wr)) (fun v18 _ => n - (intOf v18).toNat)
  case atStart => exact ⟨0, _, _, _, by omega, rfl, HK1, hide (by simp), Ho1, hide rfl, C1⟩
  case round =>
    clear HK1 Ho1 C1
    obtain ⟨k, vN, vE, st, hk, rfl, HK, HS, HL, HE, HC⟩ := hrel
    by_cases hlt : k < n
    · obtain ⟨l, hl⟩ : ∃ l, ls[k]? = some l := ⟨_, List.getElem?_eq_getElem (by rw [Hn.out]; exact hlt)⟩
      obtain ⟨bb, off, e, c0⟩ := cell_of_get HL.out.rd k l hl
      cases e
      rw [Nat.zero_add] at c0
      have j0 : (0 : Int) ≤ (k : Int) := by omega
      have j1 : (k : Int) < (n : Int) := by omega
      have K29 := hide (take_any HK.out l (hps.out l (List.mem_of_getElem? hl)))
      have Hl := hide hl
      have Hst := hide (linesS_step lastAt k st ls l hl)
      clear hl
      go_upto_region 7 with fail
      go_wp2_with (go_at_call 60; refine (K29.out).mono ?_; rintro e W2 ⟨ok, rfl, hp, hc⟩; have hP := hide hp; have HC2 := hide hc; clear hp hc; refine Hid.out ?_)
      refine hide ?_
      have HCC := hide (HC.out.trans HC2.out)
      rcases hP.out with ⟨rfl, st', vN', vE', h2, h3⟩ | ⟨rfl, h2⟩
      · have HR := hide h3
        have H2 := hide h2
        have HL2 := hide (rd_strs HL.out HC2.out)
        have HM := hide (lineS_more h2)
        clear h2 h3 hP c0
        have HK2 : Hid (Kept W2 h vN' vE' st') := hide ⟨HR.out, HK.out.l.keep HK.out.b5 HC2.out.below, Nat.le_trans HK.out.b HC2.out.below.size, HK.out.b5, by have := HM.out.1; have := HS.out.1; have := Hpl.out; omega, by have := HM.out.2.1; have := HS.out.2.1; have := Hpl.out; omega⟩
        have HS2 : Hid (st'.1.length ≤ k + 1 ∧ st'.2.length ≤ k + 1 ∧ ∀ m ∈ st'.1, m.name.size ≤ maxLen) := hide ⟨by have := HM.out.1; have := HS.out.1; omega, by have := HM.out.2.1; have := HS.out.2.1; omega, HM.out.2.2 HS.out.2.2⟩
        have HE2 : Hid (linesS lastAt 0 ([], []) ls = linesS lastAt (k + 1) st' (ls.drop (k + 1))) := hide (by rw [HE.out, Hst.out, H2.out])
        go_wp2_with fail
        go_roundw
        case rel => exact ⟨k + 1, vN', vE', st', by omega, by go_num, HK2, HS2, HL2, HE2, HCC⟩
        case measure => simp [intOf]; omega
      · have H2 := hide h2
        obtain ⟨z0, z1⟩ := B0.out _ HCC.out
        have y0 := (cells_at z0 0).1
        have y1 := (cells_at z0 1).1
        have f0 := (cells_at z0 0).2
        have f1 := (cells_at z0 1).2
        simp at y0 y1
        have Hz := hide z1
        have rE : res = (([], []), k + 1, 60) := by rw [pS.out, HE.out, Hst.out, H2.out]
        subst rE
        have fin : Hid (Below w.heap.size w ((W2.setCell ⟨N, 0, none⟩ (.slice none 0 0)).setCell ⟨N, 1, none⟩ (.slice none 0 0))) := hide (by
          rw [HN.out]
          exact (z1.setCell (p := ⟨N, 0, none⟩) (Nat.le_refl _) _).setCell (p := ⟨N, 1, none⟩) (Nat.le_refl _) _)
        have hb2 := (heap_put (i := 1) (heap_put (i := 0) z0 (.slice none 0 0)) (.slice none 0 0))
        have q0 := (cells_at hb2 0).1
        have q1 := (cells_at hb2 1).1
        simp at q0 q1
        clear h2 hP c0 z1 z0 hb2
        go_wp2_with fail
        refine bodyPost_ret (v := .tuple #[.agg #[.slice none 0 0, .slice none 0 0], .int .i64 ((k + 1 : Nat) : Int), .int .i64 60]) (by simp [results, Tryz.results19, go_sem, q0, q1]) rfl ?_
        exact ⟨_, _, rfl, El.Own.nil _ _ _, El.Own.nil _ _ _, fin.out⟩
    · obtain rfl : k = n := by omega
      have j1 : ¬ (k : Int) < (k : Int) := by omega
      have hE : linesS lastAt 0 ([], []) ls = .inl st := by rw [HE.out, List.drop_of_length_le (by rw [Hn.out]; omega)]; rfl
      obtain ⟨z0, z1⟩ := B0.out _ HC.out
      have HKr := HK.out.r
      obtain ⟨aN, cN, rfl⟩ := HKr.ns.rd.form
      obtain ⟨aE, cE, rfl⟩ := HKr.es.rd.form
      have bx := HKr.box
      have b0 := (cells_at bx 0).1
      have b1 := (cells_at bx 1).1
      simp at b0 b1
      have K13 := hide (check_any aN aE cN cE st.1 st.2 wr HKr.ns.rd HKr.es.rd (own_cap HKr.es) HS.out.2.2)
      have pR : res = if good st.1 st.2 = true then (st, 0, 0) else (([], []), 0, 61) := by rw [pS.out, hE]
      have Hz0 := hide z0
      have Hz1 := hide z1
      have HR := hide HKr
      have glt : h.g < wr.heap.size := heap_lt bx
      have nlt : N < wr.heap.size := heap_lt z0
      obtain ⟨n1, hn1⟩ : ∃ n1, st.1.length = n1 := ⟨_, rfl⟩
      obtain ⟨n2, hn2⟩ : ∃ n2, st.2.length = n2 := ⟨_, rfl⟩
      rw [hn1, hn2] at K13
      rw [hn1] at b0
      rw [hn2] at b1
      have Hn1 := hide hn1
      have Hn2 := hide hn2
      have HBx := hide bx
      have Hlt := hide (And.intro glt nlt)
      clear hE z0 z1 HKr bx glt nlt hn1 hn2
      have X : Hid (∀ W, Below wr.heap.size wr W → W.heap[N]? = some (.cells #[.slice none 0 0, .slice none 0 0] 25) ∧ W.heap[h.g]? = wr.heap[h.g]? ∧ Below N w W ∧ Rdr W h (.slice aN st.1.length cN) (.slice aE st.2.length cE) st) := hide (fun W hb => ⟨by rw [hb.block _ Hlt.out.2]; exact Hz0.out, hb.block _ Hlt.out.1, Hz1.out.trans (hb.mono (Nat.le_of_lt Hlt.out.2)), HR.out.keep hb⟩)
      cases hgd : good st.1 st.2 with
      | false =>
        rw [hgd] at K13 pR
        simp only [Bool.false_eq_true, if_false] at K13 pR
        subst pR
        go_wp2_with (go_at_call 23; refine (K13.out).mono ?_; rintro e W3 ⟨rfl, hb3⟩; have ⟨z0, _, z1, _⟩ := X.out _ hb3; have y0 := (cells_at z0 0).1; have y1 := (cells_at z0 1).1; have f0 := (cells_at z0 0).2; have f1 := (cells_at z0 1).2; simp at y0 y1; have hb2 := (heap_put (i := 1) (heap_put (i := 0) z0 (.slice none 0 0)) (.slice none 0 0)); have q0 := (cells_at hb2 0).1; have q1 := (cells_at hb2 1).1; simp at q0 q1; have Hz := hide z1; clear hb3 z0 z1 hb2)
        have fin : Hid (Below w.heap.size w ((W3.setCell ⟨N, 0, none⟩ (.slice none 0 0)).setCell ⟨N, 1, none⟩ (.slice none 0 0))) := hide (by
          rw [HN.out]
          exact (Hz.out.setCell (p := ⟨N, 0, none⟩) (Nat.le_refl _) _).setCell (p := ⟨N, 1, none⟩) (Nat.le_refl _) _)
        refine bodyPost_ret (v := .tuple #[.agg #[.slice none 0 0, .slice none 0 0], .int .i64 0, .int .i64 61]) (by simp [results, Tryz.results19, go_sem, q0, q1]) rfl ?_
        exact ⟨_, _, rfl, El.Own.nil _ _ _, El.Own.nil _ _ _, fin.out⟩
      | true =>
        rw [hgd] at K13 pR
        simp only [if_true] at K13 pR
        subst pR
        go_wp2_with (go_at_call 23; refine (K13.out).mono ?_; rintro e W3 ⟨rfl, hb3⟩; have ⟨z0, z2, z1, z3⟩ := X.out _ hb3; rw [HBx.out] at z2; have b2 := (cells_at z2 0).1; have b3 := (cells_at z2 1).1; simp at b2 b3; rw [Hn1.out] at b2; rw [Hn2.out] at b3; have y0 := (cells_at z0 0).1; have y1 := (cells_at z0 1).1; have f0 := (cells_at z0 0).2; have f1 := (cells_at z0 1).2; simp at y0 y1; have hb2 := (heap_put (i := 1) (heap_put (i := 0) z0 (.slice aN n1 cN)) (.slice aE n2 cE)); have q0 := (cells_at hb2 0).1; have q1 := (cells_at hb2 1).1; simp at q0 q1; have Hz := hide z1; have Hz3 := hide z3; have Hz0 := hide z0; clear hb3 z0 z1 hb2 z2 z3)
        have fin : Hid (Below w.heap.size w ((W3.setCell ⟨N, 0, none⟩ (.slice aN n1 cN)).setCell ⟨N, 1, none⟩ (.slice aE n2 cE))) := hide (by
          rw [HN.out]
          exact (Hz.out.setCell (p := ⟨N, 0, none⟩) (Nat.le_refl _) _).setCell (p := ⟨N, 1, none⟩) (Nat.le_refl _) _)
        have ns4 : Hid (ndE.Own ((W3.setCell ⟨N, 0, none⟩ (.slice aN n1 cN)).setCell ⟨N, 1, none⟩ (.slice aE n2 cE)) w.heap.size (.slice aN n1 cN) st.1) := hide (by
          have h0 := Hz3.out.ns
          rw [Hn1.out] at h0
          refine (own_chg h0 fun q cur _ hq => ?_).mono (by rw [HN.out, HhB.out]; omega)
          have ne : q ≠ N := fun e => by subst e; rw [Hz0.out] at hq; simp only [Option.some.injEq, Obj.cells.injEq] at hq; exact absurd hq.2.1 (by decide)
          rw [Below.heap_setCell _ _ _ _ ne, Below.heap_setCell _ _ _ _ ne])
        have es4 : Hid (edE.Own ((W3.setCell ⟨N, 0, none⟩ (.slice aN n1 cN)).setCell ⟨N, 1, none⟩ (.slice aE n2 cE)) w.heap.size (.slice aE n2 cE) st.2) := hide (by
          have h0 := Hz3.out.es
          rw [Hn2.out] at h0
          refine (own_chg h0 fun q cur _ hq => ?_).mono (by rw [HN.out, HhB.out]; omega)
          have ne : q ≠ N := fun e => by subst e; rw [Hz0.out] at hq; simp only [Option.some.injEq, Obj.cells.injEq] at hq; exact absurd hq.2.1 (by decide)
          rw [Below.heap_setCell _ _ _ _ ne, Below.heap_setCell _ _ _ _ ne])
        refine bodyPost_ret (v := .tuple #[.agg #[.slice aN n1 cN, .slice aE n2 cE], .int .i64 0, .int .i64 0]) (by simp [results, Tryz.results19, go_sem, q0, q1]) rfl ?_
        exact ⟨_, _, rfl, ns4.out, es4.out, fin.out⟩
end Go.Proofs.YtocmngpoemfpkabGreatDoor

namespace Go.Proofs.YtocmngpoemfpkabGreatDoor
open Go.RowKit
def awT : ByteArray := ⟨#[110, 111, 100, 101, 32, 97, 32, 116, 114, 97, 99, 107, 32, 48, 10, 110, 111, 100, 101, 32, 115, 32, 115, 108, 111, 116, 32, 48, 10, 110, 111, 100, 101, 32, 112, 32, 115, 116, 97, 116, 105, 111, 110, 32, 48, 10, 101, 100, 103, 101, 32, 115, 32, 97, 10, 101, 100, 103, 101, 32, 97, 32, 112, 10]⟩
def awN : List Nd := [⟨strU [97], 1, 0⟩, ⟨strU [115], 2, 0⟩, ⟨strU [112], 3, 0⟩]
def awE : List Ed := [(1, 0), (0, 2)]
theorem aw_parse : parseS lastAt awT = ((awN, awE), 0, 0) := by decide +kernel
def awEv (gt : Nat) : Ev := ⟨awN, awE, 3, gt⟩
def aw0 : Ct := ct1 2 (Tp.nw.rep []).2.2 (Mr.nw 3 awE) Bk.new
theorem aw_opn : opn awN awE 3 Tp.nw [] [] = (0, (Tp.nw.rep []).2.2, some (Mr.nw 3 awE, Bk.new)) := by kernel_rfl
def aw1 : Ct := (aw0.put (awEv 0) 5 1).2
theorem aw_put : (aw0.put (awEv 0) 5 1).1 = 0 := by kernel_rfl
def aw2 : Ct := (aw1.note ⟨2, 7, 2, 5⟩).2
theorem aw_eg0 {u v : Nat} {cl : List Bool} (h : Eg awE cl 0 u v) : (u = 1 ∧ v = 0) ∨ (u = 0 ∧ v = 2) := by
  obtain ⟨i, _, h⟩ := h
  rcases i with _ | _ | i
  · simp [awE] at h; omega
  · simp [awE] at h; omega
  · simp [awE] at h
theorem aw_eg1 {u v : Nat} {cl : List Bool} (h : Eg awE cl 1 u v) : (u = 0 ∧ v = 1) ∨ (u = 2 ∧ v = 0) := by
  obtain ⟨i, _, h⟩ := h
  rcases i with _ | _ | i
  · simp [awE] at h; omega
  · simp [awE] at h; omega
  · simp [awE] at h
theorem aw_far0 : Far (Eg awE (clo 2 []) 0) (Tk awN) 1 3 [1, 0, 2] := by
  have e10 : Eg awE (clo 2 []) 0 1 0 := ⟨0, by rfl, by rfl⟩
  have e02 : Eg awE (clo 2 []) 0 0 2 := ⟨1, by rfl, by rfl⟩
  have t0 : Tk awN 0 := by unfold Tk; decide +kernel
  have F : Fnd (Eg awE (clo 2 []) 0) (Tk awN) 1 3 [1, 0, 2] := by
    refine ⟨rfl, by omega, rfl, fun v => ?_, fun v k hk => ?_⟩
    · rcases v with _ | _ | _ | v <;> simp [va]
    · rcases v with _ | _ | _ | v
      · obtain rfl : k = 1 := by simp [va] at hk; omega
        exact .step .here (.inl rfl) e10
      · obtain rfl : k = 0 := by simp [va] at hk; omega
        exact .here
      · obtain rfl : k = 2 := by simp [va] at hk; omega
        exact .step (.step .here (.inl rfl) e10) (.inr t0) e02
      · simp [va] at hk
  refine F.far fun u v h _ _ => ?_
  rcases aw_eg0 h with ⟨rfl, rfl⟩ | ⟨rfl, rfl⟩ <;> (unfold Don va; decide)
theorem aw_far1 : Far (Eg awE (clo 2 []) 1) (Tk awN) 2 3 [1, 2, 0] := by
  have e20 : Eg awE (clo 2 []) 1 2 0 := ⟨1, by rfl, by rfl⟩
  have e01 : Eg awE (clo 2 []) 1 0 1 := ⟨0, by rfl, by rfl⟩
  have t0 : Tk awN 0 := by unfold Tk; decide +kernel
  have F : Fnd (Eg awE (clo 2 []) 1) (Tk awN) 2 3 [1, 2, 0] := by
    refine ⟨rfl, by omega, rfl, fun v => ?_, fun v k hk => ?_⟩
    · rcases v with _ | _ | _ | v <;> simp [va]
    · rcases v with _ | _ | _ | v
      · obtain rfl : k = 1 := by simp [va] at hk; omega
        exact .step .here (.inl rfl) e20
      · obtain rfl : k = 2 := by simp [va] at hk; omega
        exact .step (.step .here (.inl rfl) e20) (.inr t0) e01
      · obtain rfl : k = 0 := by simp [va] at hk; omega
        exact .here
      · simp [va] at hk
  refine F.far fun u v h _ _ => ?_
  rcases aw_eg1 h with ⟨rfl, rfl⟩ | ⟨rfl, rfl⟩ <;> (unfold Don va; decide)
theorem aw_frm : frmF (awEv 0) 1 = [1, 0, 2] := frmF_of (E := awEv 0) aw_far0
theorem aw_gr : Gr awN awE [] [1, 2, 0] 2 3 := by
  refine ⟨fun e he => ?_, aw_far1, by omega⟩
  have he' : e = (1, 0) ∨ e = (0, 2) := by simpa [awE] using he
  rcases he' with rfl | rfl <;> decide
theorem aw_order : aw1.order (awEv 0) ⟨7, 2, 5⟩ = (true, 0, aw2) := by
  have h1 : aw1.dead = false := by kernel_rfl
  have h2 : aw1.K.sta 7 = 0 := by kernel_rfl
  have h3 : stN (awEv 0) 2 = true := by kernel_rfl
  have h4 : aw1.S.whr 5 = 1 := by kernel_rfl
  have h5 : (aw1.note ⟨2, 7, 2, 5⟩).1 = 0 := by kernel_rfl
  unfold Ct.order
  rw [if_neg (by rw [h1]; simp), if_neg (by decide), if_neg (by show ¬ aw1.K.sta 7 ≠ 0; rw [h2]; simp), if_neg (by show ¬ stN (awEv 0) 2 = false; rw [h3]; simp), if_neg (by show ¬ aw1.S.whr 5 = -1; rw [h4]; decide)]
  show (if va (frmF (awEv 0) (aw1.S.whr 5).toNat) 2 < 0 then _ else _) = _
  rw [h4, show ((1 : Int)).toNat = 1 from rfl, aw_frm, if_neg (by decide)]
  show (decide ((aw1.note ⟨2, 7, 2, 5⟩).1 = 0), (aw1.note ⟨2, 7, 2, 5⟩).1, (aw1.note ⟨2, 7, 2, 5⟩).2) = _
  rw [h5]
  rfl
def aw3 : Ct := aw2.setJ 5 [1, 2]
theorem aw_way : aw2.wayF (awEv 0) 5 2 [] = [1, 2] := by
  have h1 : aw2.S.down = [] := by kernel_rfl
  have h2 : aw2.S.whr 5 = ((1 : Nat) : Int) := by kernel_rfl
  have h3 : ([] : List Int) ++ shut awE ((2 : Nat) : Int) [] = [] := by kernel_rfl
  unfold Ct.wayF
  rw [if_neg (by simp), h1, h2]
  have := pathF_some (E := awEv 0) (ms := []) (fs := []) (l := [1, 2, 0]) (u := 1) (t := 2) (k := 2) (by decide) (by decide) (by show Gr awN awE ([] ++ shut awE ((2 : Nat) : Int) []) [1, 2, 0] 2 3; rw [h3]; exact aw_gr) (by rfl)
  refine Eq.trans this ?_
  kernel_rfl
theorem aw_fetch : Ct.fetch (awEv 0) aw2 = aw3 := by
  have h1 : ops aw2.K.all = [⟨7, 2, 5⟩] := by kernel_rfl
  have h2 : (aw2.isF ⟨7, 2, 5⟩ && aw2.rests 5) = true := by kernel_rfl
  have h3 : aw2.fullL (awEv 0) 5 = [] := by kernel_rfl
  unfold Ct.fetch
  rw [h1]
  show Ct.fetch1 (awEv 0) aw2 ⟨7, 2, 5⟩ = _
  unfold Ct.fetch1
  rw [if_pos h2]
  show aw2.setJ 5 (aw2.wayF (awEv 0) 5 2 (aw2.fullL (awEv 0) 5)) = _
  rw [h3, aw_way]
  rfl
theorem aw_away : Ct.away (awEv 0) aw3 30 = aw3 := by
  have h : ∀ t ∈ (List.range 30).map (fun i : Nat => (i : Int) + 1), (!aw3.rests t || aw3.hasR t) = true := by
    have : ((List.range 30).map (fun i : Nat => (i : Int) + 1)).all (fun t => !aw3.rests t || aw3.hasR t) = true := by kernel_rfl
    exact fun t ht => List.all_eq_true.1 this t ht
  unfold Ct.away
  generalize (List.range 30).map (fun i : Nat => (i : Int) + 1) = l at *
  induction l with
  | nil => rfl
  | cons t l ih =>
    show List.foldl _ (Ct.away1 (awEv 0) aw3 t) l = _
    have : Ct.away1 (awEv 0) aw3 t = aw3 := by
      unfold Ct.away1
      rw [if_pos (h t (by simp))]
    rw [this]
    exact ih fun x hx => h x (by simp [hx])
def aw4 : Ct := (Ct.tell aw3 31).2.1
theorem aw_tell : (Ct.tell aw3 31).1 = 0 ∧ (Ct.tell aw3 31).2.2 = [1] := ⟨by kernel_rfl, by kernel_rfl⟩
def aw5 : Ct := (Ct.due 3 [1] aw4 2).1
theorem aw_due : (Ct.due 3 [1] aw4 2).2 = [1] := by kernel_rfl
theorem aw_tick : Ct.tick (awEv 0) aw2 = (0, aw5, [1]) := by
  have h1 : aw2.dead = false := by kernel_rfl
  have h2 : Ct.serve ((ops aw2.K.all).length + 1) aw2 = (0, aw2) := by kernel_rfl
  unfold Ct.tick
  rw [if_neg (by rw [h1]; simp), h2]
  dsimp only
  rw [if_neg (by simp), aw_fetch, aw_away, if_neg (by rw [aw_tell.1]; simp), aw_tell.2]
  show (0, (Ct.due 3 [1] aw4 2).1, (Ct.due 3 [1] aw4 2).2) = _
  rw [aw_due]
  rfl
theorem aw_mov : aw5.movT 1 = ⟨1, 1, 0, 5, 0⟩ := by kernel_rfl
theorem aw_sta : aw5.K.sta 7 = 1 := by kernel_rfl
theorem put_gt (c : Ct) (ns : List Nd) (es : List Ed) (p : Int) (g g' : Nat) (t x : Int) : c.put ⟨ns, es, p, g⟩ t x = c.put ⟨ns, es, p, g'⟩ t x := rfl
theorem order_gt (c : Ct) (ns : List Nd) (es : List Ed) (p : Int) (g g' : Nat) (r : Rq) : c.order ⟨ns, es, p, g⟩ r = c.order ⟨ns, es, p, g'⟩ r := rfl
theorem fetch_gt (ns : List Nd) (es : List Ed) (p : Int) (g g' : Nat) : Ct.fetch ⟨ns, es, p, g⟩ = Ct.fetch ⟨ns, es, p, g'⟩ := rfl
theorem away_gt (ns : List Nd) (es : List Ed) (p : Int) (g g' : Nat) : Ct.away ⟨ns, es, p, g⟩ = Ct.away ⟨ns, es, p, g'⟩ := rfl
theorem tick_gt (c : Ct) (ns : List Nd) (es : List Ed) (p : Int) (g g' : Nat) : Ct.tick ⟨ns, es, p, g⟩ c = Ct.tick ⟨ns, es, p, g'⟩ c := by
  unfold Ct.tick
  rw [fetch_gt ns es p g g', away_gt ns es p g g']
theorem aw_put' (gt : Nat) : aw0.put (awEv gt) 5 1 = (0, aw1) := by
  have : aw0.put (awEv gt) 5 1 = aw0.put (awEv 0) 5 1 := put_gt _ _ _ _ _ _ _ _
  rw [this]
  exact Prod.ext aw_put rfl
theorem aw_order' (gt : Nat) : aw1.order (awEv gt) ⟨7, 2, 5⟩ = (true, 0, aw2) := by
  have : aw1.order (awEv gt) ⟨7, 2, 5⟩ = aw1.order (awEv 0) ⟨7, 2, 5⟩ := order_gt _ _ _ _ _ _ _
  rw [this, aw_order]
theorem aw_tick' (gt : Nat) : Ct.tick (awEv gt) aw2 = (0, aw5, [1]) := by
  have : Ct.tick (awEv gt) aw2 = Ct.tick (awEv 0) aw2 := tick_gt _ _ _ _ _ _
  rw [this, aw_tick]
theorem aw_fit : Fit aw0 0 := by
  refine ⟨⟨fun t => by simp [aw0, ct1], fun _ => ⟨[], ?_, Nat.le_refl _, Nat.le_refl _, Nat.le_refl _⟩⟩, fun d => ?_, ?_⟩
  · show NRds [] [] []
    exact rds_all (ns := []) (fun n hn => by cases hn)
  · show 0 ≤ ((List.replicate 3 (0 : Int))[d.toNat]?).getD 0 ∧ ((List.replicate 3 (0 : Int))[d.toNat]?).getD 0 ≤ 1000
    rw [List.getElem?_replicate]
    split <;> simp
  · intro D hD
    have : D ∈ awE.map mkD := hD
    simp [awE] at this
    rcases this with rfl | rfl <;> exact ⟨by decide, by decide⟩
end Go.Proofs.YtocmngpoemfpkabGreatDoor

namespace Go.Proofs.YtocmngpoemfpkabGreatDoor
open Go.ChangeShapes Go.WideShapes Go.ChangeAt Go.RowKit
theorem own_new (w : World) (B : Nat) (hB : B ≤ w.heap.size) (C : Array Value) (l : List Int) (hC : C.toList = l.map (Value.int .u8)) (hm : l.length ≤ 1000) (n m c : Nat) (hn : n = w.heap.size) (hl : m = l.length) (hc : c = l.length) :
    Ow (w.alloc (.cells C 5)) B (.slice (some ⟨n, 0, none⟩) m c) l := by
  subst hn hl hc
  have hs : C.size = l.length := by have := congrArg List.length hC; simpa using this
  refine ⟨by simp, .inr ⟨w.heap.size, l.length, C, rfl, hB, ?_, Nat.le_refl _, by unfold maxLen; omega, by omega, ?_⟩⟩
  · show (w.heap.push (.cells C 5))[w.heap.size]? = _
    simp
  · rw [hC, List.take_of_length_le (by simp)]
theorem q8 (x : Int) (h : 0 ≤ x ∧ x ≤ 65535) : IntKind.u16.wrap (x.tdiv 256) % 256 = x / 256 := by
  rw [Int.tdiv_eq_ediv_of_nonneg h.1]
  simp only [IntKind.wrap, IntKind.bits, IntKind.signed]
  simp
  omega
set_option maxHeartbeats 2000000 in
theorem tl_bytes_any (k d s a b : Int) (w : World) (hin : Tl.In ⟨k, d, s, a, b⟩) :
    Calls Tryz.prog 20 #[.agg #[.int .u8 k, .int .u16 d, .int .u16 s, .int .u16 a, .int .u16 b]] w fun e w' => ∃ v, e = .returned v ∧ Ow w' w.heap.size v (enc ⟨k, d, s, a, b⟩) ∧ Below w.heap.size w w' := by
  have Hin := hide hin
  obtain ⟨⟨k0, k1⟩, ⟨d0, d1⟩, ⟨s0, s1⟩, ⟨a0, a1⟩, ⟨b0, b1⟩⟩ := hin
  simp only at k0 k1 d0 d1 s0 s1 a0 a1 b0 b1
  have hb1 : ∀ o o', Below w.heap.size w ((w.alloc o).alloc o') := fun o o' => ((Below.refl _ _).alloc (Nat.le_refl _) o).alloc (by simp) o'
  have hb2 : ∀ o o' o'', Below w.heap.size w (((w.alloc o).alloc o').alloc o'') := fun o o' o'' => (hb1 o o').alloc (hb1 o o').size o''
  have hown : ∀ o, Ow ((w.alloc o).alloc (.cells #[.int .u8 165, .int .u8 k, .int .u8 (IntKind.u16.wrap (d.tdiv 256) % 256), .int .u8 (d % 256), .int .u8 (IntKind.u16.wrap (s.tdiv 256) % 256), .int .u8 (s % 256), .int .u8 (IntKind.u16.wrap (a.tdiv 256) % 256), .int .u8 (a % 256), .int .u8 (IntKind.u16.wrap (b.tdiv 256) % 256), .int .u8 (b % 256)] 5)) w.heap.size (.slice (some ⟨w.heap.size + 1, 0, none⟩) 10 10) (body ⟨k, d, s, a, b⟩) :=
    fun o => own_new _ _ (by simp) _ _ (by rw [q8 d ⟨d0, d1⟩, q8 s ⟨s0, s1⟩, q8 a ⟨a0, a1⟩, q8 b ⟨b0, b1⟩]; rfl) (by rw [tl_body_len]; omega) _ _ _ (by simp) (by rw [tl_body_len]) (by rw [tl_body_len])
  have hl : Hid ((body ⟨k, d, s, a, b⟩).length ≤ 10) := hide (Nat.le_refl _)
  obtain ⟨y, hy, y0, y1⟩ : ∃ y, uv (sm 0xFFFF#16 (body ⟨k, d, s, a, b⟩)) = y ∧ 0 ≤ y ∧ y ≤ 65535 := ⟨_, rfl, uv_lo _, uv_hi _⟩
  have Hy : Hid (enc ⟨k, d, s, a, b⟩ = body ⟨k, d, s, a, b⟩ ++ [y / 256, y % 256]) := hide (by unfold enc; rw [hy]; rfl)
  have kb := fun o => rsum_bs (Bs.own (hown o)) (pre_in _ Hin.out _) (by have := hl.out; omega)
  rw [hy] at kb
  have Kb := hide kb
  clear kb hy
  go_enter Tryz.func20, Tryz.ntmps20
  go_wp2_with (first | (go_at_call 61; refine (Kb.out _).mono ?_; rintro e w' ⟨rfl, rfl⟩) | (at_builtin; refine wpList_app (hb2 _ _ _) (by rfl) _ _ rfl _ _ rfl rfl (body ⟨k, d, s, a, b⟩) [IntKind.u16.wrap (y.tdiv 256) % 256, y % 256] (World.ownsRow.alloc (hown _) _) (bs_two _ _ _ _ (by simp)) (by simp; have := hl.out; omega) ?_; intro v1 w1 hown1 hb1; refine Hid.out ?_))
  refine hide ?_
  rw [q8 _ ⟨y0, y1⟩] at hown1
  go_wp2_with fail
  go_ret
  exact ⟨_, rfl, by rw [Hy.out]; exact hown1, hb1⟩
end Go.Proofs.YtocmngpoemfpkabGreatDoor
