/- The closure that visits a holder: it finds a ring, or the holder is safe. -/
import Derived.Test.YtmmkfcmbmecleaaZvs
import Derived.Laws.Cover3
namespace Go.Proofs.Ytmmkfcmbmecleaa
open Go.RowKit
set_option linter.unusedVariables false

/-- what visit tells: nothing, and the holder is safe; or a ring -/
def VP (hs : List Hl) (br gs n : Nat) (W1 : World) (r : List Nat) (sn : List Bool) (x : Nat) (u : Value) (w' : World) : Prop :=
  (u = .slice none 0 0 ∧ ∃ v sn', Vst br gs n W1 w' v r sn' ∧ Df hs r sn' ∧ sn'.count false ≤ sn.count false ∧ Safe hs x) ∨
  (∃ y m k l, u = .slice (some y) m k ∧ intE.Own w' W1.heap.size u (ints l) ∧ IsRing hs l ∧ Kp br gs W1 w')

theorem own_form {w : World} {B : Nat} {v : Value} {r : List Nat} (h : intE.Own w B v (ints r)) : ∃ a c, v = .slice a r.length c := by
  obtain ⟨a, c, h⟩ := h.rd.form
  exact ⟨a, c, by rw [h, ints_len]⟩
theorem ints_mem {r : List Nat} {x : Nat} (h : (x : Int) ∈ ints r) : x ∈ r := by
  unfold ints at h
  obtain ⟨y, hy, e⟩ := List.mem_map.1 h
  have : y = x := by have := e; simp at this; omega
  rw [← this]; exact hy
theorem ints_get {r : List Nat} {x i : Nat} (h : (ints r)[i]? = some (x : Int)) : r[i]? = some x := by
  unfold ints at h
  rw [List.getElem?_map] at h
  obtain ⟨y, hy, e⟩ := Option.map_eq_some_iff.1 h
  have : y = x := by have := e; simp at this; omega
  rw [← this]; exact hy
theorem df_small {hs : List Hl} {r : List Nat} {sn : List Bool} (h : Df hs r sn) : r.length ≤ hs.length := by
  have h1 : r ⊆ List.range hs.length := fun x hx => List.mem_range.2 (h.lt x hx)
  have := (List.nodup_iff_count.1 h.nd)
  have h2 := List.Nodup.length_le_of_subset h.nd h1
  simpa using h2

set_option maxRecDepth 100000 in
set_option maxHeartbeats 4000000 in
theorem visit_step (a : Option Addr) (c n : Nat) (hs : List Hl) (ls : Nat → List Int) (bh bo bs br bv gs : Nat) (W1 : World) (F : Vfix a c n hs ls bh bo bs br bv gs W1)
    (x : Nat) (r : List Nat) (sn : List Bool) (v : Value) (w : World) (hV : Vst br gs n W1 w v r sn) (hD : Df hs r sn) (hc : Comes hs r x)
    (IH : ∀ (x' : Nat) (r' : List Nat) (sn' : List Bool) (v' : Value) (w' : World), sn'.count false < sn.count false → Vst br gs n W1 w' v' r' sn' → Df hs r' sn' → Comes hs r' x' →
      Calls Try.prog 48 #[.int .i64 (x' : Int), .pointer (some ⟨br, 0, none⟩), .pointer (some ⟨bs, 0, none⟩), .pointer (some ⟨bh, 0, none⟩), .pointer (some ⟨bo, 0, none⟩), .pointer (some ⟨bv, 0, none⟩)] w' fun e w2 => ∃ u, e = .returned u ∧ VP hs br gs n W1 r' sn' x' u w2) :
    Calls Try.prog 48 #[.int .i64 (x : Int), .pointer (some ⟨br, 0, none⟩), .pointer (some ⟨bs, 0, none⟩), .pointer (some ⟨bh, 0, none⟩), .pointer (some ⟨bo, 0, none⟩), .pointer (some ⟨bv, 0, none⟩)] w fun e w2 => ∃ u, e = .returned u ∧ VP hs br gs n W1 r sn x u w2 := by
  have n40 := F.n40
  have hlen := F.len
  have hrn : r.length ≤ 40 := by have := df_small hD; omega
  obtain ⟨ra, rc, rfl⟩ := own_form hV.row
  have K49 := hide (idxat_any ra rc r.length (ints r) (x : Int) w (ints_len r) hV.row.rd (by omega))
  have c0 := hV.cell.1
  have hxn : x < n := by have := hc.1; omega
  obtain ⟨p, hp⟩ : ∃ p, hs[x]? = some p := ⟨_, List.getElem?_eq_getElem hc.1⟩
  have HF := hide F
  have HV := hide hV
  have HD := hide hD
  have HC := hide hc
  have Hp := hide hp
  have HIH := hide IH
  have Hlen := hide hlen
  have n40' : (n : Int) ≤ 40 := by omega
  have x0 : (0 : Int) ≤ (x : Int) := by omega
  have x1 : (x : Int) < (n : Int) := by omega
  by_cases hin : x ∈ r
  · -- the row comes back to it
    obtain ⟨f0, hf0⟩ := List.getElem?_of_mem hin
    obtain ⟨g, cap, hv, hcap, hmax⟩ := hV.row.some (by intro e; rw [← List.length_eq_zero_iff, ints_len] at e; have := idx_lt hf0; omega)
    rw [ints_len] at hv hcap
    simp only [Value.slice.injEq] at hv
    obtain ⟨rfl, _, rfl⟩ := hv
    obtain ⟨rl, hrl⟩ : ∃ rl, r.length = rl := ⟨_, rfl⟩
    rw [hrl] at K49 c0 hcap hrn
    have KC : Hid (∀ f : Nat, (ints r)[f]? = some (x : Int) → Calls Try.prog 50 #[.slice (some ⟨g, f, none⟩) (rl - f) (rc - f)] w fun e w' => (∃ v, e = .returned v ∧ intE.Own w' w.heap.size v (ints (r.drop f))) ∧ Below w.heap.size w w') := hide (fun f hf => by
      have hfl := idx_lt hf
      rw [ints_len, hrl] at hfl
      have hd := (hV.row.rd).drop (cap' := rc - f) f (rl - f) (by rw [ints_len, hrl]) (by rw [ints_len, hrl]; omega)
      rw [show (ints r).drop f = ints (r.drop f) by simp [ints, List.map_drop]] at hd
      have := zclone_any ⟨g, f, none⟩ (rc - f) (rl - f) (ints (r.drop f)) w (by rw [ints_len, List.length_drop, hrl]) (by simpa [intE] using hd) (by omega)
      exact this)
    have r40 : (rl : Int) ≤ 40 := by omega
    have rcap : (rl : Int) ≤ (rc : Int) := by omega
    have rmax : (rc : Int) ≤ 9223372036854775807 := by unfold maxLen at hmax; omega
    have Hrl := hide hrl
    have Hnin : Hid ((x : Int) ∉ ints r → False) := hide (fun h => h (by unfold ints; exact List.mem_map.2 ⟨x, hin, rfl⟩))
    clear hV hD hc hp IH hlen hin hf0 F n40 hrn hrl hcap hmax
    go_enter Try.func48, Try.ntmps48
    go_upto_region 2 with (go_at_call 49; refine (K49.out).mono ?_; rintro e W2 ⟨h, hW⟩; have hW' := hW.symm; clear hW; subst hW'; obtain ⟨f, rfl, hf⟩ : ∃ f : Nat, e = .returned (.int .i64 (f : Int)) ∧ (ints r)[f]? = some (x : Int) := (by rcases h with h | ⟨_, h⟩; exact h; exact (Hnin.out h).elim); have Hf := hide hf; clear hf h)
    have f2 : f < rl := by have := idx_lt Hf.out; rw [ints_len, Hrl.out] at this; exact this
    have y0 : (0 : Int) ≤ (f : Int) := by omega
    have y1 : (f : Int) ≤ (rl : Int) := by omega
    have y2 : (f : Int) < (rc : Int) := by omega
    have Hfin : Hid (∀ u W2, intE.Own W2 w.heap.size u (ints (r.drop f)) → Below w.heap.size w W2 → VP hs br gs n W1 r sn x u W2) := hide (fun u W2 ho hb => by
      have hr := HD.out.ring HC.out (ints_get Hf.out)
      obtain ⟨g', cap', hu, _, _⟩ := ho.some (by intro e; rw [← List.length_eq_zero_iff, ints_len] at e; have := hr.pos; omega)
      exact .inr ⟨⟨g', 0, none⟩, _, _, _, hu, ho.mono HV.out.kp.size, hr, HV.out.kp.keep hb⟩)
    go_wp2_with (go_at_call 50; refine (KC.out f Hf.out).mono ?_; rintro e W2 ⟨⟨u, rfl, ho⟩, hb⟩; have HR := hide (Hfin.out u W2 ho hb); clear ho hb)
    go_ret
    exact ⟨_, rfl, HR.out⟩
  · -- it is new to the row
    have Hnin : Hid (x ∉ r) := hide hin
    obtain ⟨sb, hsb⟩ : ∃ sb, sn[x]? = some sb := ⟨_, List.getElem?_eq_getElem (by rw [hD.len]; exact hc.1)⟩
    obtain ⟨d0, d1⟩ := hV.seen.at1 Value.bool (fun _ => rfl) rfl x sb hsb
    have e0 := F.s w hV.kp
    have e1 := F.h w hV.kp
    obtain ⟨b, off, ha, e2⟩ := F.want w hV.kp x p hp
    subst ha
    have Hin : Hid (∀ i : Nat, (ints r)[i]? = some (x : Int) → False) := hide (fun i h => hin (ints_mem (List.mem_of_getElem? h)))
    have Hsb := hide hsb
    obtain ⟨u, hu⟩ : ∃ u, p.want = u := ⟨_, rfl⟩
    have hwant : -1 ≤ u ∧ u < 8 := by
      have := List.all_eq_true.1 F.ok p (List.mem_of_getElem? hp)
      unfold okH at this
      rw [Bool.and_eq_true] at this
      have := of_decide_eq_true this.2
      rw [← hu]; exact this
    rw [hu] at e2
    have Hu := hide hu
    obtain ⟨rl, hrl⟩ : ∃ rl, r.length = rl := ⟨_, rfl⟩
    rw [hrl] at K49 c0 hrn HV
    have Hrl := hide hrl
    have r40 : (rl : Int) ≤ 40 := by omega
    clear hV hD hc hp IH hlen hin F n40 hrn hrl hsb hu
    cases sb with
    | true =>
      have Hfin : Hid (VP hs br gs n W1 r sn x (.slice none 0 0) w) := hide (.inl ⟨rfl, _, sn, HV.out, HD.out, Nat.le_refl _, HD.out.safe x Hsb.out Hnin.out⟩)
      go_enter Try.func48, Try.ntmps48
      go_upto_region 2 with (go_at_call 49; refine (K49.out).mono ?_; rintro e W2 ⟨h, hW⟩; have hW' := hW.symm; clear hW; subst hW'; obtain rfl : e = .returned (.int .i64 (-1)) := (by rcases h with ⟨i, _, h⟩ | h; exact (Hin.out i h).elim; exact h.1); clear h)
      go_wp2_with fail
      go_ret
      exact ⟨_, rfl, Hfin.out⟩
    | false =>
      by_cases hm : u = -1
      · subst hm
        have Hfin : Hid (VP hs br gs n W1 r sn x (.slice none 0 0) w) := hide (.inl ⟨rfl, _, sn, HV.out, HD.out, Nat.le_refl _, safe_none Hp.out (by rw [Hu.out]; decide)⟩)
        go_enter Try.func48, Try.ntmps48
        go_upto_region 2 with (go_at_call 49; refine (K49.out).mono ?_; rintro e W2 ⟨h, hW⟩; have hW' := hW.symm; clear hW; subst hW'; obtain rfl : e = .returned (.int .i64 (-1)) := (by rcases h with ⟨i, _, h⟩ | h; exact (Hin.out i h).elim; exact h.1); clear h)
        go_wp2_with fail
        go_ret
        exact ⟨_, rfl, Hfin.out⟩
      · obtain ⟨z, rfl⟩ : ∃ z : Nat, u = (z : Int) := ⟨u.toNat, by omega⟩
        have hz : z < 8 := by omega
        have hm1 : ((z : Int) == -1) = false := beq_eq_false_iff_ne.2 (by omega)
        have hm2 : ¬ ((z : Int) = -1) := hm
        have z0 : (0 : Int) ≤ (z : Int) := by omega
        have z1 : (z : Int) < 8 := by omega
        clear hm hwant
        have HV1 := hide (HV.out.mark x HF.out.gslt)
        have HD1 := hide (HD.out.push HC.out Hnin.out)
        have hcnt := count_set Hsb.out
        have Hcnt := hide hcnt
        clear hcnt
        go_enter Try.func48, Try.ntmps48
        go_upto_region 2 with (go_at_call 49; refine (K49.out).mono ?_; rintro e W2 ⟨h, hW⟩; have hW' := hW.symm; clear hW; subst hW'; obtain rfl : e = .returned (.int .i64 (-1)) := (by rcases h with ⟨i, _, h⟩ | h; exact (Hin.out i h).elim; exact h.1); clear h)
        go_upto_region 7 with fail
        obtain ⟨w1, hw1⟩ : ∃ W, w.setCell ⟨gs, x, none⟩ (.bool true) = W := ⟨_, rfl⟩
        rw [hw1] at HV1
        rw [hw1]
        clear hw1 c0 d0 d1 e0 e1 e2
        have c1 := HV1.out.cell.1
        have Hba : Hid (∀ (o : Obj), Below w1.heap.size w1 (w1.alloc o)) := hide (fun o => (Below.refl _ _).alloc (Nat.le_refl _) o)
        have HV1a : Hid (∀ (o : Obj), Vst br gs n W1 (w1.alloc o) (.slice ra rl rc) r (sn.set x true)) := hide (fun o => HV1.out.keep (Hba.out o))
        have Hl2 : Hid ((ints r).length + [(x : Int)].length ≤ 1000000) := hide (by rw [ints_len, Hrl.out]; simp; omega)
        go_upto_region 8 with (at_builtin; refine intE.wpB (B := W1.heap.size) (HV1a.out _).kp.size (by rfl) _ _ rfl _ _ rfl rfl (ints r) [(x : Int)] (HV1a.out _).row (int_new w1 _ _ rfl) Hl2.out ?_; intro v2 w2 ho2 hg2 hs2; obtain ⟨q0, q1, hV3⟩ := (HV1a.out _).app HF.out.brlt ho2 hg2; have HV3 := hide hV3; obtain ⟨pa, pl, pc, rfl⟩ : ∃ a l c, v2 = .slice a l c := (by obtain ⟨a, c, h⟩ := ho2.rd.form; exact ⟨_, _, _, h⟩); clear ho2 hg2 hs2 hV3)
        obtain ⟨w3, hw3⟩ : ∃ W, w2.setCell ⟨br, 0, none⟩ (.slice pa pl pc) = W := ⟨_, rfl⟩
        rw [hw3] at HV3
        rw [hw3]
        clear hw3 c1 q0 q1 HV1 HV1a Hba
        have e1 := HF.out.h w3 HV3.out.kp
        obtain ⟨b', off', hab, e2⟩ := HF.out.want w3 HV3.out.kp x p Hp.out
        simp only [Option.some.injEq, Addr.mk.injEq] at hab
        obtain ⟨rfl, rfl, _⟩ := hab
        rw [Hu.out] at e2
        obtain ⟨oa, oc, ho⟩ := HF.out.o z hz
        have e3 := (ho w3 HV3.out.kp).1
        obtain ⟨m, hm⟩ : ∃ m, (ls z).length = m := ⟨_, rfl⟩
        rw [hm] at e3 ho
        have HO := hide ho
        have Hm := hide hm
        have HW : Hid (∀ (j : Nat) (y : Int), (ls z)[j]? = some y → ∃ i : Nat, y = (i : Int) ∧ Wt hs x i) := hide (fun j y hy => by
          obtain ⟨i, q, rfl, hq, h⟩ := ((HF.out.hin z hz).2 y).1 (List.mem_of_getElem? hy)
          refine ⟨i, rfl, p, q, Hp.out, hq, by rw [Hu.out]; omega, ?_⟩
          rw [Hu.out]
          rcases h with h | h
          · exact h.2
          · exact List.mem_of_mem_take h.2)
        have HWb : Hid (∀ k : Nat, Wt hs x k → (k : Int) ∈ ls z) := hide (fun k hk => by
          obtain ⟨p', q, hp', hq, _, hin⟩ := hk
          rw [Hp.out] at hp'
          cases hp'
          rw [Hu.out] at hin
          exact ((HF.out.hin z hz).2 _).2 ⟨k, q, rfl, hq, .inl ⟨by have := idx_lt hq; rw [Hlen.out] at this; exact this, hin⟩⟩)
        have hm2000 : m ≤ 2000 := by have := (HF.out.hin z hz).1; omega
        have m2 : (m : Int) ≤ 2000 := by omega
        clear ho hm hm2000
        go_upto_region 9 with fail
        clear e1 e2 e3
        go_loopw [48] (fun v48 wr => ∃ (j : Nat) (v' : Value) (sn' : List Bool), j ≤ m ∧ v48 = .int .i64 j ∧ Hid (Vst br gs n W1 wr v' (r ++ [x]) sn') ∧ Hid (Df hs (r ++ [x]) sn') ∧ Hid (sn'.count false < sn.count false) ∧ Hid (∀ (i k : Nat), i < j → (ls z)[i]? = some (k : Int) → Safe hs k)) (fun v48 _ => m - (intOf v48).toNat)
        case atStart => exact ⟨0, _, _, Nat.zero_le _, rfl, HV3, HD1, hide (by have := Hcnt.out; omega), hide (fun i k hi => by omega)⟩
        case round =>
          clear HV3 HD1 Hcnt
          obtain ⟨j, v', sn', hj, rfl, HV3, HD1, Hcnt, HS1⟩ := hrel
          by_cases hjl : j < m
          · obtain ⟨y, hy⟩ : ∃ y, (ls z)[j]? = some y := ⟨_, List.getElem?_eq_getElem (by rw [Hm.out]; exact hjl)⟩
            obtain ⟨k, rfl, hwt⟩ := HW.out j y hy
            obtain ⟨b2, off2, rfl, e3⟩ := int_at (HO.out wr HV3.out.kp).2 j _ hy
            have e4 := HF.out.v wr HV3.out.kp
            unfold visF at e4
            have KV := hide (HIH.out k (r ++ [x]) sn' v' wr Hcnt.out HV3.out HD1.out (comes_push hwt))
            have Hy := hide hy
            have g0 : (0 : Int) ≤ (j : Int) := by omega
            have g1 : (j : Int) < (m : Int) := by omega
            clear hy hwt
            go_upto_region 12 with (go_at_call 48; refine (KV.out).mono ?_; rintro e W2 ⟨u2, rfl, hP⟩; have HP := hide hP; clear hP)
            rcases HP.out with ⟨rfl, v2, sn2, hV2, hD2, hc2, hsafe⟩ | ⟨y2, m2', k2, l2, rfl, ho, hr, hk⟩
            · have HV4 := hide hV2
              have HD4 := hide hD2
              have Hc4 : Hid (sn2.count false < sn.count false) := hide (by have := Hcnt.out; omega)
              have HS2 : Hid (∀ (i k : Nat), i < j + 1 → (ls z)[i]? = some (k : Int) → Safe hs k) := hide (fun i k' hi h => by
                rcases Nat.lt_or_ge i j with g | g
                · exact HS1.out i k' g h
                · obtain rfl : i = j := by omega
                  rw [Hy.out] at h
                  simp only [Option.some.injEq] at h
                  obtain rfl : k = k' := by omega
                  exact hsafe)
              clear hV2 hD2 hc2 hsafe HP
              go_wp2_with fail
              go_roundw
              case rel => exact ⟨j + 1, v2, sn2, by omega, by go_num, HV4, HD4, Hc4, HS2⟩
              case measure => simp [intOf]; omega
            · have Hfin : Hid (VP hs br gs n W1 r sn x (.slice (some y2) m2' k2) W2) := hide (.inr ⟨y2, m2', k2, l2, rfl, ho, hr, hk⟩)
              clear ho hr hk HP
              go_wp2_with fail
              go_ret
              exact ⟨_, rfl, Hfin.out⟩
          · obtain rfl : j = m := by omega
            have g1 : ¬ (j : Int) < (j : Int) := by omega
            have HSx : Hid (Safe hs x) := hide (safe_all fun k hk => by
              obtain ⟨i, hi⟩ := List.getElem?_of_mem (HWb.out k hk)
              exact HS1.out i k (by have := idx_lt hi; rw [Hm.out] at this; exact this) hi)
            obtain ⟨ga, gc, hv', hgc, hgm⟩ := HV3.out.row.some (by simp [ints])
            have hl1 : (ints (r ++ [x])).length = rl + 1 := by rw [ints_len, List.length_append, Hrl.out]; rfl
            rw [hl1] at hv' hgc
            subst hv'
            obtain ⟨q0, q1⟩ := HV3.out.cell
            have HVp := hide (HV3.out.pop rl Hrl.out.symm)
            have HDp := hide (HD1.out.pop HSx.out)
            have Hfin : Hid (VP hs br gs n W1 r sn x (.slice none 0 0) (wr.setCell ⟨br, 0, none⟩ (.slice (some ⟨ga, 0, none⟩) rl gc))) := hide (.inl ⟨rfl, _, sn', HVp.out, HDp.out, Nat.le_of_lt Hcnt.out, HSx.out⟩)
            have g2 : (rl : Int) ≤ (gc : Int) := by omega
            have g3 : (gc : Int) ≤ 9223372036854775807 := by unfold maxLen at hgm; omega
            have g4 : (rl : Int) + 1 - 1 = (rl : Int) := by omega
            have g5 : (0 : Int) ≤ (rl : Int) := by omega
            clear hl1 hgc hgm HVp HDp
            go_wp2_with fail
            go_ret
            exact ⟨_, rfl, Hfin.out⟩

theorem visit_any (a : Option Addr) (c n : Nat) (hs : List Hl) (ls : Nat → List Int) (bh bo bs br bv gs : Nat) (W1 : World) (F : Vfix a c n hs ls bh bo bs br bv gs W1) :
    ∀ (t : Nat) (x : Nat) (r : List Nat) (sn : List Bool) (v : Value) (w : World), sn.count false < t → Vst br gs n W1 w v r sn → Df hs r sn → Comes hs r x →
    Calls Try.prog 48 #[.int .i64 (x : Int), .pointer (some ⟨br, 0, none⟩), .pointer (some ⟨bs, 0, none⟩), .pointer (some ⟨bh, 0, none⟩), .pointer (some ⟨bo, 0, none⟩), .pointer (some ⟨bv, 0, none⟩)] w fun e w2 => ∃ u, e = .returned u ∧ VP hs br gs n W1 r sn x u w2 := by
  intro t
  induction t with
  | zero => intro x r sn v w h; omega
  | succ t ih => intro x r sn v w ht hV hD hc; exact visit_step a c n hs ls bh bo bs br bv gs W1 F x r sn v w hV hD hc (fun x' r' sn' v' w' hlt => ih x' r' sn' v' w' (by omega))
end Go.Proofs.Ytmmkfcmbmecleaa
