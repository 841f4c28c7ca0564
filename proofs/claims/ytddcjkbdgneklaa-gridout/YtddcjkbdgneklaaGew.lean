/- GridEven, the walk. -/
import Derived.Test.YtddcjkbdgneklaaGfm
import Derived.Deep.CutBlock
namespace Go.Proofs.Ytddcjkbdgneklaa
open Go.RowKit
set_option linter.unusedVariables false

/-- lanes of one depth, filled evenly: the first j hold one more -/
structure Ev (R : Rack) (n D h j : Nat) : Prop where
  len : R.length = n
  jn : j < n
  at' : ∀ (i : Nat) (l : Nat × List Int), R[i]? = some l → l.1 = D ∧ l.2.length = if i < j then h + 1 else h
  hD : h ≤ D
  jD : 0 < j → h + 1 ≤ D
theorem Ev.put {R : Rack} {n D h j : Nat} (e : Ev R n D h j) (t : Int) : ∃ h' j', Ev (putR R t) n D h' j' := by
  rcases put_form R t with ⟨_, e', _⟩ | ⟨_, k, l, _, hl, hlt, e', _, _, hb⟩
  · rw [e']; exact ⟨h, j, e⟩
  · have hkn := idx_lt hl
    have hkl := e.at' k l hl
    obtain ⟨lj, hlj⟩ : ∃ lj, R[j]? = some lj := ⟨_, List.getElem?_eq_getElem (by rw [e.len]; exact e.jn)⟩
    have hj := e.at' j lj hlj
    rw [if_neg (Nat.lt_irrefl _)] at hj
    have hD := e.hD
    have hjD := e.jD
    have hh : h < D := by
      by_cases g : k < j
      · rw [if_pos g] at hkl; omega
      · rw [if_neg g] at hkl; omega
    have hkj : k = j := by
      rcases hb with ⟨hx, _⟩ | ⟨k', l', hk', _, hl', _, hr, hmin⟩
      · omega
      · obtain rfl : k = k' := by omega
        rw [lds_at hl] at hl'
        cases hl'
        have := hmin j _ (by rw [e.len]; exact e.jn) (lds_at hlj) (by omega) (by simp only; omega)
        simp only at this
        by_cases g : k < j
        · rw [if_pos g] at hkl; omega
        · rw [if_neg g] at hkl
          rcases Nat.lt_or_ge j k with g' | g'
          · have := this.2 g'; omega
          · omega
    subst hkj
    rw [e']
    rw [if_neg (Nat.lt_irrefl _)] at hkl
    have hset : ∀ (i : Nat) (m : Nat × List Int), (R.set k (l.1, l.2 ++ [t]))[i]? = some m → m.1 = D ∧ m.2.length = if i < k + 1 then h + 1 else h := fun i m hi => by
      by_cases g : k = i
      · subst g
        rw [set_at hl] at hi
        cases hi
        refine ⟨hkl.1, ?_⟩
        rw [if_pos (by omega)]; simp; omega
      · rw [set_off g] at hi
        have := e.at' i m hi
        by_cases g' : i < k
        · rw [if_pos g'] at this; rw [if_pos (by omega)]; exact this
        · rw [if_neg g'] at this; rw [if_neg (by omega)]; exact this
    rcases Nat.lt_or_ge (k + 1) n with g | g
    · exact ⟨h, k + 1, by rw [List.length_set]; exact e.len, g, hset, hD, fun _ => hh⟩
    · refine ⟨h + 1, 0, by rw [List.length_set]; exact e.len, by have := e.jn; omega, fun i m hi => ?_, hh, fun h => by omega⟩
      have h1 := hset i m hi
      have h2 := idx_lt hi
      rw [List.length_set, e.len] at h2
      rw [if_pos (by omega)] at h1
      rw [if_neg (by omega)]; exact h1
theorem fld_ev {n D : Nat} (hn : 1 ≤ n) {R : Rack} (h : Fld (List.replicate n (D : Int)) R) : ∃ h' j', Ev R n D h' j' := by
  induction h with
  | nil =>
    refine ⟨0, 0, by simp [mk], hn, fun i l hi => ?_, Nat.zero_le _, fun h => by omega⟩
    unfold mk at hi
    rw [List.map_replicate] at hi
    have := List.eq_of_mem_replicate (List.mem_of_getElem? hi)
    subst this
    simp
  | put t _ ih =>
    obtain ⟨h', j', e⟩ := ih
    exact e.put t
/-- how many a lane holds -/
theorem Ev.hgt {R : Rack} {n D h j : Nat} (e : Ev R n D h j) (i : Nat) (hi : i < n) : (lnx R (i : Int)).length = if i < j then h + 1 else h := by
  obtain ⟨l, hl⟩ : ∃ l, R[i]? = some l := ⟨_, List.getElem?_eq_getElem (by rw [e.len]; exact hi)⟩
  unfold lnx
  rw [if_pos (by rw [e.len]; omega), Int.toNat_natCast, ln_at hl]
  exact (e.at' i l hl).2

theorem rep_set (n k : Nat) (D : Int) (hk : k < n) : (List.replicate k D ++ List.replicate (n - k) 0).set k D = List.replicate (k + 1) D ++ List.replicate (n - (k + 1)) 0 := by
  obtain ⟨m, rfl⟩ : ∃ m, n = k + 1 + m := ⟨n - k - 1, by omega⟩
  rw [show k + 1 + m - k = m + 1 by omega, show k + 1 + m - (k + 1) = m by omega, List.set_append_right _ _ (by simp), List.length_replicate, Nat.sub_self, List.replicate_succ (n := m), List.set_cons_zero, List.replicate_succ' (n := k), List.append_assoc]
  rfl
theorem rep_at (n k : Nat) (D : Int) (hk : k < n) : (List.replicate k D ++ List.replicate (n - k) 0)[k]? = some 0 := by
  rw [List.getElem?_append_right (by simp), List.length_replicate, Nat.sub_self]
  obtain ⟨m, hm⟩ : ∃ m, n - k = m + 1 := ⟨n - k - 1, by omega⟩
  rw [hm, List.replicate_succ]
  rfl

set_option maxRecDepth 100000 in
set_option maxHeartbeats 8000000 in
theorem even_walk (n0 n1 : Int) (a : Option Addr) (m c : Nat) (ts : List Int) (w : World) (hm : ts.length = m) (hv : intE.Rd w (.slice a m c) ts) :
    Calls Try.prog 5 #[.int .i64 n0, .int .i64 n1, .slice a m c] w fun e w' => e = .returned (.bool true) ∧ Below w.heap.size w w' := by
  obtain ⟨w0, rfl⟩ : ∃ w0, w0 = w := ⟨_, rfl⟩
  have KA := hide awake_any
  obtain ⟨k0, hk0, hk0'⟩ := few n0 8 (by omega)
  obtain ⟨k1, hk1, hk1'⟩ := few n1 8 (by omega)
  obtain ⟨N, hN⟩ : ∃ N : Nat, (k0 : Int) + 1 = (N : Int) := ⟨k0 + 1, by omega⟩
  obtain ⟨D, hD⟩ : ∃ D : Nat, (k1 : Int) + 1 = (D : Int) := ⟨k1 + 1, by omega⟩
  have hN1 : 1 ≤ N := by omega
  have hN2 : N ≤ 8 := by omega
  have hD1 : 1 ≤ D := by omega
  have hD2 : D ≤ 8 := by omega
  have Hm := hide hm
  have HV := hide hv
  clear hm hv
  go_enter Try.func5, Try.ntmps5
  go_upto_region 4 with (go_at_call 9; refine (KA.out _).mono ?_; rintro e W1 ⟨rfl, hb1⟩; have HB := hide hb1; clear hb1)
  try rw [hN]
  try rw [hD]
  generalize wrap64 ((IntKind.u64.wrap n0).tmod 8) = y1 at *
  generalize (IntKind.u64.wrap n0).tmod 8 = y2 at *
  generalize IntKind.u64.wrap n0 = y3 at *
  generalize wrap64 ((IntKind.u64.wrap n1).tmod 8) = x1 at *
  generalize (IntKind.u64.wrap n1).tmod 8 = x2 at *
  generalize IntKind.u64.wrap n1 = x3 at *
  clear hk0 hk0' hk1 hk1' hN hD KA
  obtain ⟨g, hg⟩ : ∃ g, W1.heap.size = g := ⟨_, rfl⟩
  obtain ⟨WM, hrun, hown, hbm, hlt⟩ := made_ints W1 N (by omega)
  rw [hg] at hrun hown hbm hlt
  have HO0 : Hid (intE.Own WM w0.heap.size (.slice (some ⟨g, 0, none⟩) N N) (List.replicate 0 (D : Int) ++ List.replicate (N - 0) 0)) := hide (by
    have := HB.out.size
    exact hown.mono (by omega))
  have HB0 : Hid (Below w0.heap.size w0 WM) := hide (HB.out.trans (hbm.mono (by have := HB.out.size; omega)))
  have Hg : Hid (w0.heap.size ≤ g) := hide (by have := HB.out.size; omega)
  clear hown hbm hlt hg
  have i0 : (N : Int) ≤ 8 := by omega
  have i1 : (0 : Int) ≤ (N : Int) := by omega
  go_wp2_with fail
  go_loopw [29] (fun v29 wr => ∃ k : Nat, v29 = .int .i64 k ∧ k ≤ N ∧ Hid (Below w0.heap.size w0 wr) ∧ Hid (intE.Own wr w0.heap.size (.slice (some ⟨g, 0, none⟩) N N) (List.replicate k (D : Int) ++ List.replicate (N - k) 0))) (fun v29 _ => N - (intOf v29).toNat)
  case atStart => exact ⟨0, rfl, Nat.zero_le _, HB0, HO0⟩
  case round =>
    obtain ⟨k, rfl, hk, HB1, HO1⟩ := hrel
    by_cases hlt : k < N
    · obtain ⟨c1, f1⟩ := HO1.out.at1 (Value.int .i64) (fun _ => rfl) rfl k 0 (rep_at N k D hlt)
      have j0 : (0 : Int) ≤ (k : Int) := by omega
      have j1 : (k : Int) < (N : Int) := by omega
      have HO2 : Hid (intE.Own (wr.setCell ⟨g, k, none⟩ (.int .i64 D)) w0.heap.size (.slice (some ⟨g, 0, none⟩) N N) (List.replicate (k + 1) (D : Int) ++ List.replicate (N - (k + 1)) 0)) := hide (by
        have := El.Own.set (Value.int .i64) (fun _ => rfl) rfl HO1.out k (D : Int)
        rwa [rep_set N k D hlt] at this)
      have HB2 : Hid (Below w0.heap.size w0 (wr.setCell ⟨g, k, none⟩ (.int .i64 D))) := hide (HB1.out.setCell Hg.out _)
      go_wp2_with fail
      go_roundw
      case rel => exact ⟨k + 1, by go_num, by omega, HB2, HO2⟩
      case measure => simp [intOf]; omega
    · obtain rfl : k = N := by omega
      have j1 : ¬ (k : Int) < (k : Int) := by omega
      have HV1 : Hid (intE.Rd wr (.slice (some ⟨g, 0, none⟩) k k) (List.replicate k (D : Int))) := hide (by
        have := HO1.out.rd
        rwa [Nat.sub_self, List.replicate_zero, List.append_nil] at this)
      have hokd : Okd (List.replicate k (D : Int)) := ⟨by rw [List.length_replicate]; omega, fun d hd => by rw [List.eq_of_mem_replicate hd]; omega⟩
      have K21 : Hid (Calls Try.prog 21 #[.slice (some ⟨g, 0, none⟩) k k, .slice a m c] wr fun e w' => ∃ r a c gs R, e = .returned (.pointer (some ⟨r, 0, none⟩)) ∧ RW w0 wr.heap.size r a c gs R w' ∧ Fld (List.replicate k (D : Int)) R) := hide ((filled_any (w0 := w0) _ _ _ _ _ _ (List.replicate k (D : Int)) ts wr HB1.out (by simp) Hm.out HV1.out HV.out).mono (by
        rintro e w' (⟨h, _⟩ | ⟨_, r, a, c, gs, R, h1, h2, h3, _⟩)
        · exact absurd hokd h
        · exact ⟨r, a, c, gs, R, h1, h2, h3⟩))
      clear hlt hokd hrun
      go_upto_region 13 with (go_at_call 21; refine K21.out.mono ?_; rintro e W2 ⟨r, a2, c2, gs, R, rfl, hr, hf⟩; have HR := hide hr; have HF := hide hf; clear hr hf)
      obtain ⟨BB, hBB⟩ : ∃ b, wr.heap.size = b := ⟨_, rfl⟩
      rw [hBB] at HR
      obtain ⟨h, j, hE⟩ := fld_ev hN1 HF.out
      have HE := hide hE
      obtain ⟨hg', hhg⟩ : ∃ hg' : Int → Nat, ∀ i, hg' i = (lnx R i).length := ⟨_, fun _ => rfl⟩
      have K23 : Hid (∀ (W : World) (i : Int), RW w0 BB r a2 c2 gs R W → Calls Try.prog 23 #[.pointer (some ⟨r, 0, none⟩), .int .i64 i] W fun e w' => ∃ a' c', e = .returned (.slice a' (hg' i) c') ∧ RW w0 BB r a2 c2 gs R w') := hide (fun W i hW => (hW.lane i).mono (by
        rintro e w' ⟨a', c', rfl, _, h1, _⟩
        exact ⟨a', c', by rw [hhg], h1⟩))
      have HG : Hid (∀ i : Nat, i < k → hg' (i : Int) = if i < j then h + 1 else h) := hide (fun i hi => by rw [hhg]; exact hE.hgt i hi)
      have hh8 : h ≤ 8 := by have := hE.hD; omega
      have hjk : j < k := hE.jn
      clear hE hhg hBB HF K21 HV1
      go_wp2_with fail
      go_loopw [10] (fun v10 wx => ∃ i : Nat, v10 = .int .i64 i ∧ i < k ∧ Hid (RW w0 BB r a2 c2 gs R wx)) (fun v10 _ => k - (intOf v10).toNat)
      case atStart => exact ⟨0, rfl, by omega, HR⟩
      case round =>
        obtain ⟨i, rfl, hi, HRx⟩ := hrel
        by_cases hlt : i + 1 < k
        · have q0 : (i : Int) + 1 < (k : Int) := by omega
          have b0 := HG.out i (by omega)
          have b1 := HG.out (i + 1) hlt
          have b1' : hg' ((i : Int) + 1) = if i + 1 < j then h + 1 else h := b1
          have b2 := HG.out 0 (by omega)
          have b2' : hg' 0 = if 0 < j then h + 1 else h := b2
          have b3 := HG.out (k - 1) (by omega)
          have b3' : hg' ((k : Int) - 1) = h := by
            have e : ((k - 1 : Nat) : Int) = (k : Int) - 1 := by omega
            rw [← e, b3, if_neg (by omega)]
          clear b1 b2 b3
          by_cases hij : i < j
          · by_cases hij1 : i + 1 < j
            · rw [if_pos hij] at b0
              rw [if_pos hij1] at b1'
              have j2 : (((h + 1 : Nat) : Int) != ((h + 1 : Nat) : Int)) = false := bne_self_eq_false _
              have j3 : ¬ ((h : Int) + 1 > (h : Int) + 1) := by omega
              have j4 : ¬ ((h : Int) + 1 > (h : Int) + 1 + 1) := by omega
              clear b2' b3'
              go_wp2_with (go_at_call 23; refine (K23.out _ _ HRx.out).mono ?_; rintro e W3 ⟨a3, c3, rfl, hr⟩; have HRx := hide hr; clear hr)
              go_roundw
              case rel => exact ⟨i + 1, by go_num, by omega, HRx⟩
              case measure => simp [intOf]; omega
            · rw [if_pos hij] at b0
              rw [if_neg hij1] at b1'
              rw [if_pos (by omega)] at b2'
              have j2 : (((h : Int) + 1) != (h : Int)) = true := bne_iff_ne.2 (by omega)
              have j2' : (((h : Int) + 1) != ((h : Int) + 1)) = false := bne_self_eq_false _
              have j3 : ¬ ((h : Int) > (h : Int) + 1) := by omega
              have j4 : ¬ ((h : Int) + 1 > (h : Int) + 1) := by omega
              go_wp2_with (go_at_call 23; refine (K23.out _ _ HRx.out).mono ?_; rintro e W3 ⟨a3, c3, rfl, hr⟩; have HRx := hide hr; clear hr)
              go_roundw
              case rel => exact ⟨i + 1, by go_num, by omega, HRx⟩
              case measure => simp [intOf]; omega
          · rw [if_neg hij] at b0
            rw [if_neg (by omega)] at b1'
            have j2 : ((h : Int) != (h : Int)) = false := bne_self_eq_false _
            have j3 : ¬ ((h : Int) > (h : Int)) := by omega
            have j4 : ¬ ((h : Int) > (h : Int) + 1) := by omega
            clear b2' b3'
            go_wp2_with (go_at_call 23; refine (K23.out _ _ HRx.out).mono ?_; rintro e W3 ⟨a3, c3, rfl, hr⟩; have HRx := hide hr; clear hr)
            go_roundw
            case rel => exact ⟨i + 1, by go_num, by omega, HRx⟩
            case measure => simp [intOf]; omega
        · have q0 : ¬ (i : Int) + 1 < (k : Int) := by omega
          go_wp2_with fail
          go_ret
          exact ⟨rfl, HRx.out.bel⟩
end Go.Proofs.Ytddcjkbdgneklaa
