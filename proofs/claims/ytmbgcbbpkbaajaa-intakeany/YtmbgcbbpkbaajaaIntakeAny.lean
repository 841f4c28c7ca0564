/- For every number of 16 bits and every slice of numbers the law IntakeAny answers true: whatever the order in which the pieces of a window come, the same are got; no conditions. -/
import Derived.Test.YtmbgcbbpkbaajaaAnyM
import Derived.Test.YtmbgcbbpkbaajaaRowz
namespace Go.Proofs.Ytmbgcbbpkbaajaa.intakeAny
open Go.ChangeShapes Go.WideShapes Go.ChangeAt Go.RowKit
set_option linter.unusedVariables false

theorem own : ownKnob Try.prog.godebug = none := by kernel_rfl
theorem laidOut : laidOutB Try.prog = true := by kernel_rfl

theorem w16 (a : Int) : IntKind.u16.wrap a = a % 65536 := by unfold IntKind.wrap; simp [IntKind.bits, IntKind.signed]
theorem w8 (a : Int) (h0 : 0 ≤ a) (h1 : a ≤ 255) : IntKind.u8.wrap a = a := by unfold IntKind.wrap; simp [IntKind.bits, IntKind.signed]; omega
theorem pick_in (c : Int) (k : Nat) (hk : k ≤ 40) : ∃ r : Nat, wrap64 ((IntKind.u64.wrap c).tmod ((k : Int) + 1)) = (r : Int) ∧ r ≤ k := by
  have h0 : 0 ≤ IntKind.u64.wrap c := by simp [IntKind.wrap, IntKind.bits, IntKind.signed]; omega
  rw [Int.tmod_eq_emod_of_nonneg h0]
  generalize IntKind.u64.wrap c = b at h0
  have h1 := Int.emod_nonneg b (by omega : ((k : Int) + 1) ≠ 0)
  have h2 := Int.emod_lt_of_pos b (by omega : (0 : Int) < (k : Int) + 1)
  generalize b % ((k : Int) + 1) = c at *
  refine ⟨c.toNat, ?_, by omega⟩
  unfold wrap64
  omega
theorem ints_at {w W : World} {a : Option Addr} {len cap : Nat} {zs : List Int} (h : IsRow .i64 w a len cap zs) (i : Nat) (hi : i < len) (hb : Below w.heap.size w W) : ∃ b off, a = some ⟨b, off, none⟩ ∧ b < w.heap.size ∧ W.cell? ⟨b, off + i, none⟩ = some (.int .i64 (zs.getD i 0)) := by
  rcases h with ⟨rfl, rfl, rfl, rfl⟩ | ⟨x, rfl, hl, hm, hz, hc, hw⟩
  · omega
  · obtain ⟨b, off, spot⟩ := x
    have hspot : spot = none := by simpa [Addr.add] using World.cell?_spot (hc 0 (by omega))
    subst hspot
    have := hc i (by omega)
    rw [add_plain] at this
    refine ⟨b, off, rfl, cell_lt this, ?_⟩
    rw [hb.cell (cell_lt this)]
    exact this

/-- the first k are the numbers below k in some order -/
def Prm (xs : List Int) (n k : Nat) : Prop := xs.length = n ∧ (xs.take k).Perm ((List.range k).map Int.ofNat)
theorem prm0 (n : Nat) : Prm (List.replicate n 0) n 0 := ⟨by simp, by simp⟩
theorem prm_next {xs : List Int} {n k j : Nat} (h : Prm xs n k) (hk : k < n) (hj : j ≤ k) (a b : Int) (ha : (xs.set k (k : Int))[k]? = some a) (hb : (xs.set k (k : Int))[j]? = some b) : Prm (((xs.set k (k : Int)).set k b).set j a) n (k + 1) := by
  have hl : (xs.set k (k : Int)).length = n := by rw [List.length_set]; exact h.1
  refine ⟨by simp [h.1], ?_⟩
  have e1 : (xs.set k (k : Int)).take (k + 1) = xs.take k ++ [(k : Int)] := by
    rw [List.take_add_one, List.getElem?_set_self (by rw [h.1]; exact hk), List.take_set_of_le (Nat.le_refl _)]
    rfl
  have e2 : (((xs.set k (k : Int)).set k b).set j a).take (k + 1) = (((xs.set k (k : Int)).take (k + 1)).set k b).set j a := by
    rw [List.take_set, List.take_set]
  have hlt : ((xs.set k (k : Int)).take (k + 1)).length = k + 1 := by rw [List.length_take, hl]; omega
  have eb : ((xs.set k (k : Int)).take (k + 1))[j]'(by omega) = b := by
    have : ((xs.set k (k : Int)).take (k + 1))[j]? = some b := by rw [List.getElem?_take_of_lt (by omega)]; exact hb
    rw [List.getElem?_eq_getElem (by omega)] at this
    exact Option.some.inj this
  have ea : ((xs.set k (k : Int)).take (k + 1))[k]'(by omega) = a := by
    have : ((xs.set k (k : Int)).take (k + 1))[k]? = some a := by rw [List.getElem?_take_of_lt (by omega)]; exact ha
    rw [List.getElem?_eq_getElem (by omega)] at this
    exact Option.some.inj this
  rw [e2]
  have hp := @List.set_set_perm _ ((xs.set k (k : Int)).take (k + 1)) k j (by omega) (by omega)
  rw [eb, ea] at hp
  refine hp.trans ?_
  rw [e1, List.range_succ, List.map_append]
  exact h.2.append (List.Perm.refl _)

theorem prm_all {xs : List Int} {n : Nat} (h : Prm xs n n) : xs.Perm ((List.range n).map Int.ofNat) := by
  have := h.2
  rw [List.take_of_length_le (by rw [h.1]; exact Nat.le_refl _)] at this
  exact this
theorem prm_at {xs : List Int} {n i : Nat} (h : Prm xs n n) (hi : i < n) (v : Int) (hv : xs[i]? = some v) : v ∉ xs.take i ∧ 0 ≤ v ∧ v < n ∧ xs.take (i + 1) = xs.take i ++ [v] := by
  have hp := prm_all h
  have hnd : xs.Nodup := by
    rw [hp.nodup_iff]
    unfold List.Nodup
    rw [List.pairwise_map]
    refine (List.pairwise_lt_range (n := n)).imp ?_
    intro a b hab e
    have : (a : Int) = b := e
    omega
  have hl : i < xs.length := by rw [h.1]; exact hi
  have ev : xs[i] = v := by rw [List.getElem?_eq_getElem hl] at hv; exact Option.some.inj hv
  have hmem : v ∈ xs := by rw [← ev]; exact List.getElem_mem hl
  obtain ⟨a, ha, e⟩ := List.mem_map.1 (hp.mem_iff.1 hmem)
  have ha' := List.mem_range.1 ha
  have e' : (a : Int) = v := e
  refine ⟨fun hin => ?_, by omega, by omega, ?_⟩
  · obtain ⟨j, hj, ej⟩ := List.mem_iff_getElem.1 hin
    have hj' : j < i := by rw [List.length_take] at hj; omega
    have h1 : xs[j]'(by omega) = v := by rw [← ej]; simp
    have := (List.pairwise_iff_getElem.1 hnd) j i (by omega) hl hj'
    exact this (h1.trans ev.symm)
  · rw [List.take_add_one, hv]; rfl

theorem has_write {W : World} {h : Hd} {win f : Int} {B go n cap : Nat} {xs : List Int} (H : Has W h (Ik.new win f)) (ho : intsE.Own W B (.slice (some ⟨go, 0, none⟩) n cap) xs) (i : Nat) (u : Value) : Has (W.setCell ⟨go, i, none⟩ u) h (Ik.new win f) := by
  obtain ⟨h1, h2, h3⟩ := H.off (show intsE.e ≠ 58 by decide) ho go rfl
  refine H.stay fun k _ hk => ?_
  rcases hk with rfl | rfl | rfl | ⟨p, hp, _⟩ | ⟨x, p, hp, _⟩
  · exact Below.heap_setCell _ _ _ _ h1.symm
  · exact Below.heap_setCell _ _ _ _ h2.symm
  · exact Below.heap_setCell _ _ _ _ h3.symm
  · cases hp
  · cases hp

set_option maxHeartbeats 4000000 in
set_option maxRecDepth 100000 in
theorem walk (n0 : Int) (a1 : Option Addr) (len1 cap1 : Nat) (z1 : List Int) (w : World) (h0 : 0 ≤ n0 ∧ n0 ≤ 65535) (h1 : IsRow .i64 w a1 len1 cap1 z1) (s1 : cap1 * Try.prog.bytesOf 3 ≤ 140737488351232) :
    Calls Try.prog 8 #[.int .u16 n0, .slice a1 len1 cap1] w fun e w' => e = .returned (.bool true) ∧ Below w.heap.size w w' := by
  obtain ⟨f0, f1⟩ := h0
  have hl : len1 ≤ 9223372036854775807 := by
    rcases h1 with ⟨_, h, _, _⟩ | ⟨_, _, h, h', _⟩
    · omega
    · unfold maxLen at h'; omega
  have H1 := hide h1
  clear h1 s1
  obtain ⟨n, hn⟩ : ∃ n : Nat, min (len1 : Int) 40 = (n : Int) := ⟨min len1 40, by omega⟩
  have n1 : (n : Int) ≤ 40 := by omega
  have n2 : (n : Int) ≤ (len1 : Int) := by omega
  have n3 : (0 : Int) ≤ (n : Int) := by omega
  have j0 : (len1 : Int) ≤ 9223372036854775807 := by omega
  go_enter Try.func8, Try.ntmps8
  go_upto_region 3 with (go_at_call 9; refine (awake_any _).mono ?_; rintro e wa ⟨rfl, Ba⟩)
  obtain ⟨g0, gg1, gg2⟩ := hd_ge wa.heap.size
  go_upto_region 6 with (go_at_call 10; refine (new_ok 64 n0 _ (by omega) (by omega) (by omega) (by omega)).mono ?_; rintro e w1 ⟨rfl, I1, B1, Z1⟩)
  obtain ⟨h, hh⟩ : ∃ h, hdAt wa.heap.size = h := ⟨_, rfl⟩
  have hg : wa.heap.size + 2 = h.g := by rw [← hh]; rfl
  rw [hh] at I1 g0 gg1 gg2
  rw [hg]
  have q0 : w.heap.size ≤ h.g := Nat.le_trans Ba.size g0
  have q1 : w.heap.size ≤ h.mb := Nat.le_trans Ba.size gg1
  have q2 : w.heap.size ≤ h.c := Nat.le_trans Ba.size gg2
  have HB1 := hide (Ba.trans (B1.mono Ba.size))
  have HH1 := hide I1
  obtain ⟨w2, hmk, ho2, hb2, hz2⟩ := make_ints w1 n (by omega)
  have HB2 := hide (HB1.out.trans (hb2.mono HB1.out.size))
  have HH2 := hide (HH1.out.keep hb2)
  have HO2 := hide ho2
  obtain ⟨go, hgo⟩ : ∃ go, w1.heap.size = go := ⟨_, rfl⟩
  have hgo1 : w.heap.size ≤ go := by rw [← hgo]; exact HB1.out.size
  rw [hgo] at HO2 hmk
  clear I1 B1 Z1 Ba hh hg g0 gg1 gg2 ho2 hb2 hz2 HH1 HB1
  go_upto_region 9 with fail
  have hi1 : ∀ x, intsE.enc x = [Value.int .i64 x] := fun _ => rfl
  have hi2 : intsE.k = 1 := rfl
  go_loopw [36] (fun v36 wr => ∃ (k : Nat) (xs : List Int), k ≤ n ∧ v36 = .int .i64 (k : Int) ∧ Hid (Prm xs n k) ∧ Hid (intsE.Own wr go (.slice (some ⟨go, 0, none⟩) n n) xs) ∧ Hid (Has wr h (Ik.new 64 n0)) ∧ Hid (Below w.heap.size w wr)) (fun v36 _ => (40 - intOf v36).toNat)
  case atStart => exact ⟨0, _, by omega, rfl, hide (prm0 n), HO2, HH2, HB2⟩
  case round =>
    clear HO2 HH2 HB2
    obtain ⟨k, xs, hk, rfl, HP, HO, HH, HB⟩ := hrel
    have k0 : (0 : Int) ≤ (k : Int) := by omega
    have k1 : (k : Int) ≤ (n : Int) := by omega
    by_cases hkn : k < n
    · have k2 : (k : Int) < (n : Int) := by omega
      have hxl : k < xs.length := by have := HP.out.1; omega
      obtain ⟨s0, s1⟩ := HO.out.at1 (Value.int .i64) hi1 hi2 k hxl
      go_upto_region 12 with fail
      have HO1 := hide (HO.out.set (Value.int .i64) hi1 hi2 k (k : Int))
      have HH1 := hide (has_write HH.out HO.out k (.int .i64 (k : Int)))
      have HB1 := hide (HB.out.setCell (p := ⟨go, k, none⟩) hgo1 (.int .i64 (k : Int)))
      generalize wr.setCell ⟨go, k, none⟩ (.int .i64 (k : Int)) = W1 at *
      obtain ⟨b1, off1, rfl, hb1, hcell⟩ := ints_at H1.out k (by omega) HB1.out
      generalize z1.getD k 0 = c at hcell
      obtain ⟨r, hr, hr1⟩ := pick_in c k (by omega)
      have r0 : (0 : Int) ≤ (r : Int) := by omega
      have r1 : (r : Int) < (n : Int) := by omega
      go_upto_region 13 with fail
      rw [hr]
      generalize (IntKind.u64.wrap c).tmod ((k : Int) + 1) = gg1
      generalize IntKind.u64.wrap c = gg2
      have hxl' : k < (xs.set k (k : Int)).length := by rw [List.length_set]; exact hxl
      have hxr' : r < (xs.set k (k : Int)).length := by omega
      obtain ⟨t0, t1⟩ := HO1.out.at1 (Value.int .i64) hi1 hi2 k hxl'
      obtain ⟨u0, u1⟩ := HO1.out.at1 (Value.int .i64) hi1 hi2 r hxr'
      obtain ⟨av, hav⟩ : ∃ a, (xs.set k (k : Int))[k] = a := ⟨_, rfl⟩
      obtain ⟨bv, hbv⟩ : ∃ b, (xs.set k (k : Int))[r] = b := ⟨_, rfl⟩
      have HP1 := hide (prm_next HP.out hkn hr1 av bv (by rw [List.getElem?_eq_getElem hxl', hav]) (by rw [List.getElem?_eq_getElem hxr', hbv]))
      rw [hav] at t0
      rw [hbv] at u0
      have HO3 : Hid (∀ W, intsE.Own W go (.slice (some ⟨go, 0, none⟩) n n) (xs.set k (k : Int)) → intsE.Own ((W.setCell ⟨go, k, none⟩ (.int .i64 bv)).setCell ⟨go, r, none⟩ (.int .i64 av)) go (.slice (some ⟨go, 0, none⟩) n n) (((xs.set k (k : Int)).set k bv).set r av)) := hide (fun W hW => (hW.set (Value.int .i64) hi1 hi2 k bv).set (Value.int .i64) hi1 hi2 r av)
      clear hav hbv hr hxl' hxr'
      have v0 : (W1.setCell ⟨go, k, none⟩ (.int .i64 bv)).cell? ⟨go, r, none⟩ = some (.int .i64 bv) := by
        by_cases e : r = k
        · subst e; exact World.cell?_setCell_same W1 _ _ t0
        · exact (World.cell?_setCell_other W1 _ _ _ (by simp only [ne_eq, Addr.mk.injEq, not_and]; omega)).trans u0
      have v1 : (W1.setCell ⟨go, k, none⟩ (.int .i64 bv)).frozen? ⟨go, r, none⟩ = false := by rw [World.frozen?_setCell]; exact u1
      go_region
      all_goals
        have HO4 := hide (HO3.out W1 HO1.out)
        have HH4 := hide (has_write (has_write HH1.out HO1.out k (.int .i64 bv)) (HO1.out.set (Value.int .i64) hi1 hi2 k bv) r (.int .i64 av))
        have HB4 := hide ((HB1.out.setCell (p := ⟨go, k, none⟩) hgo1 (.int .i64 bv)).setCell (p := ⟨go, r, none⟩) hgo1 (.int .i64 av))
        generalize (W1.setCell ⟨go, k, none⟩ (.int .i64 bv)).setCell ⟨go, r, none⟩ (.int .i64 av) = W4 at *
        clear HO3 v0 v1 t0 t1 u0 u1
        have HO5 : Hid (intsE.Own W4.drew go (.slice (some ⟨go, 0, none⟩) n n) _) := HO4
        have HH5 : Hid (Has W4.drew h _) := hide (HH4.out.drewN 1)
        have HB5 : Hid (Below w.heap.size w W4.drew) := hide HB4.out.drew
        go_wp2_with fail
        go_roundw
        case rel => exact ⟨k + 1, _, by omega, by go_num, HP1, HO5, HH5, HB5⟩
        case measure => simp [intOf]; omega
    · have hkn' : k = n := by omega
      subst hkn'
      go_wp2_with fail
      go_loopw [70] (fun v70 wr => ∃ (i m : Nat) (S : Ik), i ≤ k ∧ v70 = .int .i64 (i : Int) ∧ Hid (Came n0 (xs.take i) m S) ∧ Hid (intsE.Own wr go (.slice (some ⟨go, 0, none⟩) k k) xs) ∧ Hid (Has wr h S) ∧ Hid (Below w.heap.size w wr)) (fun v70 _ => (40 - intOf v70).toNat)
      case atStart => exact ⟨0, 0, _, by omega, rfl, hide (came_new n0 ⟨f0, f1⟩), HO, HH, HB⟩
      case round =>
        clear HO HH HB
        obtain ⟨i, m, S, hi, rfl, HC, HO, HH, HB⟩ := hrel
        have i0 : (0 : Int) ≤ (i : Int) := by omega
        by_cases hin : i < k
        · have i1 : (i : Int) < (k : Int) := by omega
          have hxl : i < xs.length := by have := HP.out.1; omega
          obtain ⟨s0, s1⟩ := HO.out.at1 (Value.int .i64) hi1 hi2 i hxl
          obtain ⟨v, hv⟩ : ∃ v, xs[i] = v := ⟨_, rfl⟩
          rw [hv] at s0
          obtain ⟨hvn, v0, v1, hvt⟩ := prm_at HP.out hin v (by rw [List.getElem?_eq_getElem hxl, hv])
          have v2 : v < 40 := by omega
          have K12 : Hid (∀ o, o = Obj.cells #[.int .u8 v] 5 → _) := hide (fun o ho => take_ok (HH.out.keep ((Below.refl _ _).alloc (Nat.le_refl _) o)) HC.out.inw (by have := HC.out.cnt; have := HP.out.1; rw [List.length_take] at *; omega) (l := [v]) (ho ▸ rd_new wr _ [v] rfl (0, 0) wr.heap.size 1 1 rfl rfl) ((n0 + v) % 65536) (by omega) (by omega) (came_code HC.out hvn v0 v2))
          have ew : IntKind.u16.wrap (n0 + v) = (n0 + v) % 65536 := w16 _
          have ewa : IntKind.u16.wrap v = v := by rw [w16]; omega
          have ew8 : IntKind.u8.wrap v = v := w8 _ (by omega) (by omega)
          obtain ⟨x, hx⟩ : ∃ x, (n0 + v) % 65536 = x := ⟨_, rfl⟩
          rw [hx] at K12 ew
          have Hx := hide hx
          have Hvn := hide hvn
          have Hvt := hide hvt
          clear hv hx hvn hvt
          go_wp2_with (go_at_call 12; refine (K12.out _ rfl).mono ?_; rintro e w3 ⟨rfl, p, j, hp, _, jj1, jj2, H3, I3, O3⟩)
          have HH3 := hide H3
          have HB3 := hide (O3.below (HB.out.alloc HB.out.size _) (HB.out.alloc HB.out.size _).size q0 q1 q2)
          have HO3 := hide ((HH.out.keep ((Below.refl _ _).alloc (Nat.le_refl _) (Obj.cells #[.int .u8 v] 5))).row (show intsE.e ≠ 58 by decide) (HO.out.keep ((Below.refl _ _).alloc (Nat.le_refl _) (Obj.cells #[.int .u8 v] 5))) O3)
          have HC3 : Hid (Came n0 (xs.take (i + 1)) (m + j) ((S.put x p).go j)) := hide (by
            rw [Hvt.out]
            rw [← Hx.out] at jj1 jj2 I3 ⊢
            exact came_take HC.out Hvn.out v0 v2 p hp jj1 jj2 I3)
          clear H3 O3 I3 jj1 jj2 K12
          go_wp2_with fail
          go_roundw
          case rel => exact ⟨i + 1, m + j, _, by omega, by go_num, HC3, HO3, HH3, HB3⟩
          case measure => simp [intOf]; omega
        · have hik : i = k := by omega
          subst hik
          have HOut : Hid (Out n0 i 0 S) := hide (by
            have h1 := HC.out
            rw [List.take_of_length_le (by rw [HP.out.1]; exact Nat.le_refl _)] at h1
            exact came_all h1 (prm_all HP.out) (by omega))
          clear HO HC
          go_wp2_with fail
          go_loopw [13] (fun v13 wr => ∃ (k : Nat) (S : Ik), k ≤ i ∧ v13 = .int .i64 (k : Int) ∧ Hid (Out n0 i k S) ∧ Hid (Has wr h S) ∧ Hid (Below w.heap.size w wr)) (fun v13 _ => (40 - intOf v13).toNat)
          case atStart => exact ⟨0, S, by omega, rfl, HOut, HH, HB⟩
          case round =>
            clear HOut HH HB
            obtain ⟨k, S, hk, rfl, HOut, HH, HB⟩ := hrel
            have k0 : (0 : Int) ≤ (k : Int) := by omega
            by_cases hki : k < i
            · have k1 : (k : Int) < (i : Int) := by omega
              obtain ⟨p, rr, hq, hp, hout⟩ := out_get HOut.out hki
              have K11 := hide (get_some HH.out hq)
              have HOut' := hide hout
              clear hq hout
              go_upto_region 25 with (go_at_call 11; refine K11.out.mono ?_; rintro e w5 ⟨v5, rfl, D5, H5, O5, Z5⟩)
              obtain ⟨g5, cap5, rfl, hc5⟩ := D5.form (by rw [hp]; simp)
              have c50 := hc5 0 (by rw [hp]; simp)
              rw [hp, show ([(k : Int)] : List Int)[0]?.getD 0 = (k : Int) from rfl] at c50
              rw [hp, show ([(k : Int)] : List Int).length = 1 from rfl]
              have HH5 := hide H5
              have HB5 := hide (O5.below HB.out HB.out.size q0 q1 q2)
              clear hc5 D5 H5 O5 Z5 hp
              go_wp2_with fail
              go_roundw
              case rel => exact ⟨k + 1, _, by omega, by go_num, HOut', HH5, HB5⟩
              case measure => simp [intOf]; omega
            · have hk' : k = i := by omega
              subst hk'
              have hq : S.q.length = 0 := by have := HOut.out.ql; omega
              have K15 := hide (ready_any HH.out)
              rw [hq] at K15
              have K17 := hide (waiting_any HH.out (by have := HOut.out.cnt; omega))
              have ew : IntKind.u16.wrap (n0 + (k : Int)) = (n0 + k) % 65536 := w16 _
              have ewa : IntKind.u16.wrap (k : Int) = (k : Int) := by rw [w16]; omega
              obtain ⟨x, hx⟩ : ∃ x, (n0 + (k : Int)) % 65536 = x := ⟨_, rfl⟩
              have K16 : Hid (∀ W, Below wr.heap.size wr W → Calls Try.prog 16 #[.pointer (some ⟨h.g, 0, none⟩)] W fun e w' => e = .returned (.int .u16 x) ∧ w' = W) := hide (fun W hW => by
                have := next_any (HH.out.keep hW)
                rw [HOut.out.nx, hx] at this
                exact this)
              rw [hx] at ew
              clear hx hq
              go_wp2_with (first
                | (go_at_call 15; refine K15.out.mono ?_; rintro e w5 ⟨rfl, rfl⟩)
                | (go_at_call 17; refine K17.out.mono ?_; rintro e w5 ⟨v5, r5, rfl, ho5, hw5, hb5⟩; obtain ⟨a5, cap5, rfl⟩ := (Bs.own ho5).form; have hr5 := out_waits HOut.out hw5; subst hr5; have HB5 := hide (HB.out.trans (hb5.mono HB.out.size)); have k16 := K16.out _ hb5; have K16' := hide k16; clear ho5 hw5 hb5 k16)
                | (go_at_call 16; refine K16'.out.mono ?_; rintro e w6 ⟨rfl, rfl⟩))
              go_ret
              exact ⟨rfl, HB5.out⟩

set_option maxRecDepth 100000 in
theorem lifted (os : Os) (started : os.Started) (H : Type) (enc : TypeId × Value → H) :
    ReturnsInHanded {} Try.checked os 8 .any (Rows.intakeAnySpec.pre6 enc Try.prog Try.f8 Rows.intakeAnyRow.domain false) (Rows.intakeAnySpec.post enc Try.prog Try.f8 false true false false) := by
  refine returnsInHanded_of_change_sized (C := Try.checked) own started (by kernel_rfl) Try.func8
    (ChangeSpec.witness6 (enc := enc) (C := Try.checked) false ⟨#[], #[.int .u16 0, .slice none 0 0], []⟩ 8 (by kernel_rfl) (by kernel_rfl) (by kernel_rfl) (by kernel_rfl)) ?_
  intro W base args ds gs before hval0 hW hcnd hsz0 _
  have hval : ∀ (j : Nat) t v, Try.f8.params[j]? = some t → args[j]? = some v → Value.okWide Try.prog W .any base t v := hval0
  have hsz : (DataW.weightsEach Try.prog (Try.f8.params.toList ++ Rows.intakeAnySpec.plain.varTypes Try.prog) (ds ++ gs)).all (· ≤ reachBytes) = true := hsz0
  have hW' := hW
  obtain ⟨p, q, hA0, hV, rfl, hfz, hnd⟩ := hW
  have hA : DataW.TrodAll enc Try.prog W 0 (fun _ => true) true Try.f8.params.toList args.toList ds p := hA0
  rw [Try.params8] at hA hval hsz
  obtain ⟨v0, vs0, d0, ds0, p0, q0, hargs, rfl, rfl, h0, r0⟩ := trodAll_cons hA
  obtain ⟨v1, vs1, d1, ds1, p1, q1, rfl, rfl, rfl, h1, r1⟩ := trodAll_cons r0
  obtain ⟨rfl, rfl, rfl⟩ := trodAll_nil r1
  obtain rfl : args = #[v0, v1] := by cases args; simp_all
  obtain ⟨rfl, rfl⟩ := trodVars_none hV
  have k0 := h0
  have lt0 : ∀ x ∈ p0, x.block < W.heap.size := by obtain ⟨m, hm⟩ := k0; exact DataW.trod_lt m _ _ _ hm
  obtain ⟨n0, rfl⟩ := okWide_int Try.underlying22 (hval 0 22 v0 rfl rfl)
  have w0 : (Lit.int .u16 n0).wf = true := by
    obtain ⟨fuel, hf⟩ := h0
    obtain ⟨m, e, _, hw⟩ := DataW.trod_int Try.underlying22 hf
    simp [Value.cells] at e
    rw [e]; exact hw
  obtain ⟨a1, len1, cap1, rfl⟩ := okWide_slice Try.underlying43 (hval 1 43 v1 rfl rfl)
  have k1 := h1
  have lt1 : ∀ x ∈ p1, x.block < W.heap.size := by obtain ⟨m, hm⟩ := k1; exact DataW.trod_lt m _ _ _ hm
  obtain ⟨z1, w1⟩ : ∃ zs, IsRow .i64 W a1 len1 cap1 zs := by
    obtain ⟨fuel, hf⟩ := h1
    rcases open_ints Try.underlying43 Try.underlying3 (by kernel_rfl) hf with ⟨hcs, _⟩ | ⟨x, l, c, zs, hcs, _, hl, hm, hz, _, hcell, hwz⟩
    · simp [Value.cells] at hcs
      obtain ⟨rfl, rfl, rfl⟩ := hcs
      exact ⟨[], .inl ⟨rfl, rfl, rfl, rfl⟩⟩
    · simp [Value.cells] at hcs
      obtain ⟨rfl, rfl, rfl⟩ := hcs
      exact ⟨zs, .inr ⟨_, rfl, hl, hm, by simpa using hz, hcell, hwz⟩⟩
  have s1 : cap1 * Try.prog.bytesOf 3 ≤ 140737488351232 := by
    obtain ⟨fuel, hf⟩ := k1
    rcases open_ints Try.underlying43 Try.underlying3 (by kernel_rfl) hf with ⟨hcs, _⟩ | ⟨x, l, c, zs, hcs, _, hl, hm, hz, hx, _, _⟩
    · simp [Value.cells] at hcs
      rw [hcs.2.2]; omega
    · simp [Value.cells] at hcs
      obtain ⟨rfl, rfl, rfl⟩ := hcs
      have hd : d1 = _ := congrArg Prod.fst hx
      have := sized_slice hsz (j := 1) (t := 43) (e := 3) rfl (by rw [hd]; rfl) Try.underlying43
      simp only [lits, List.length_map, List.length_take, List.length_drop, reachBytes] at this
      simp only [if_true] at hz
      rw [hz, Nat.min_eq_left hl, Nat.add_sub_cancel' hl] at this
      exact this
  clear hA0 hval0
  refine (walk n0 a1 len1 cap1 z1 W (bounds_u16 w0) w1 s1).mono fun e W' ⟨he, bel⟩ => ?_
  subst he
  exact ⟨_, rfl, _, _, _, [], _, [], hW', trodAll_mk1 (shut_bool Try.underlying4 _), (trodAll_cons_mk (Below.trod laidOut (by kernel_rfl) (of_decide_eq_true (by kernel_rfl)) k0 bel lt0) (trodAll_cons_mk (Below.trod laidOut (by kernel_rfl) (of_decide_eq_true (by kernel_rfl)) k1 bel lt1) trodAll_mk0)), rfl, bel.frame _, fun h => by cases h⟩

theorem over : Rows.intakeAnyRow.holds Try.pinned (OpenSpec.ofChange Rows.intakeAnySpec) :=
  OpenClaim.holds_of_wide 8 Try.f8 rfl rfl rfl rfl rfl rfl rfl ⟨rfl, rfl, rfl, rfl, rfl⟩ rfl rfl rfl rfl rfl (by kernel_rfl) Try.func8 (by kernel_rfl)
    (of_decide_eq_true (by kernel_rfl)) (by unfold Func.isWrapper; first | (rw [if_pos (by decide +kernel)]; kernel_rfl) | (rw [if_neg (by decide +kernel)]; exact ⟨rfl, rfl⟩))
    (fun os started H enc _ => lifted os started H enc)

theorem proved : Rows.IntakeAnySaid := over
end Go.Proofs.Ytmbgcbbpkbaajaa.intakeAny
