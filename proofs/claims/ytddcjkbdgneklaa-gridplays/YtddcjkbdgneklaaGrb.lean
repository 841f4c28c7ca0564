/- loads, best, Put. -/
import Derived.Test.YtddcjkbdgneklaaGra
namespace Go.Proofs.Ytddcjkbdgneklaa
open Go.RowKit
set_option linter.unusedVariables false

def ldE : El Try.prog (Nat × Nat) where
  t := 77
  e := 87
  k := 2
  by' := 16
  z := .agg #[.int .i64 0, .int .i64 0]
  enc l := [.int .i64 l.1, .int .i64 l.2]
  ht := Try.underlying77
  info := by kernel_rfl
  zc := rfl
  kpos := by omega
  bsm := by omega
  len _ := rfl
  one x v hv := by simp at hv; rcases hv with rfl | rfl <;> rfl
theorem ld_at {w : World} {a : Option Addr} {n c : Nat} {L : List (Nat × Nat)} (h : ldE.Rd w (.slice a n c) L) (i : Nat) (l : Nat × Nat) (hp : L[i]? = some l) : ∃ b off, a = some ⟨b, off, none⟩ ∧ w.cell? ⟨b, off + i * 2, none⟩ = some (.int .i64 l.1) ∧ w.cell? ⟨b, off + i * 2 + 1, none⟩ = some (.int .i64 l.2) := by
  obtain ⟨b, off, e, hc⟩ := El.Rd.at h i l hp
  exact ⟨b, off, e, hc 0 (by decide), hc 1 (by decide)⟩
theorem ld_new (w : World) (x y : Int) (l : Nat × Nat) (h1 : x = (l.1 : Int)) (h2 : y = (l.2 : Int)) (g : Nat) (hg : g = w.heap.size) : ldE.Rd (w.alloc (.cells #[.int .i64 x, .int .i64 y] 87)) (.slice (some ⟨g, 0, none⟩) 1 1) [l] := by
  subst h1 h2
  exact (El.Own.new ldE w w.heap.size (Nat.le_refl _) _ [l] rfl (by simp) _ _ _ hg rfl rfl).rd

section
variable {B r : Nat} {a : Option Addr} {c : Nat} {gs : List Nat} {R : Rack}
set_option maxRecDepth 100000 in
set_option maxHeartbeats 4000000 in
theorem loads_any (w : World) (h : Rk w B r a c gs R) :
    Calls Try.prog 27 #[.pointer (some ⟨r, 0, none⟩)] w fun e w' => ∃ a' c', e = .returned (.slice a' R.length c') ∧ ldE.Own w' w.heap.size (.slice a' R.length c') (lds R) ∧ Below w.heap.size w w' := by
  obtain ⟨w0, rfl⟩ : ∃ w0, w0 = w := ⟨_, rfl⟩
  have c0 := h.cell
  have h32 : R.length ≤ 32 := by rw [← h.len]; exact h.n32
  have H := hide h
  obtain ⟨n, hn⟩ : ∃ n, R.length = n := ⟨_, rfl⟩
  have Hn := hide hn
  rw [hn] at c0 h32 ⊢
  have i0 : (n : Int) ≤ 32 := by omega
  clear h hn
  go_enter Try.func27, Try.ntmps27
  go_wp2_with fail
  go_loopw [3, 11] (fun v3 v11 wr => ∃ k : Nat, v11 = .int .i64 k ∧ k ≤ n ∧ Hid (Below w0.heap.size w0 wr) ∧ Hid (ldE.Own wr w0.heap.size v3 (lds (R.take k)))) (fun v3 v11 _ => n - (intOf v11).toNat)
  case atStart => exact ⟨0, rfl, Nat.zero_le _, hide (Below.refl _ _), hide (El.Own.nil _ _ _)⟩
  case round =>
    obtain ⟨k, rfl, hk, HB, HO⟩ := hrel
    by_cases hlt : k < n
    · obtain ⟨l, hl⟩ : ∃ l, R[k]? = some l := ⟨_, List.getElem?_eq_getElem (by rw [Hn.out]; exact hlt)⟩
      have H1 := H.out.keep HB.out
      obtain ⟨g, b, off, _, rfl, c1, hL, _⟩ := H1.lane hl
      have e1 : lds (R.take (k + 1)) = lds (R.take k) ++ [(l.2.length, l.1 - l.2.length)] := by unfold lds; rw [List.take_add_one, hl]; simp
      have He1 := hide e1
      have hle := hL.le
      have HL := hide hL
      have K40 : Hid (Calls Try.prog 40 #[.pointer (some ⟨g, 0, none⟩)] wr fun e w' => ∃ a c, e = .returned (.slice a l.2.length c) ∧ Ln w' g l.1 l.2 ∧ Below wr.heap.size wr w') := hide ((totes_any wr hL).mono (by
        rintro e w' ⟨v, rfl, ho, hb⟩
        obtain ⟨a, c, rfl⟩ := ho.rd.form
        exact ⟨a, c, rfl, hL.keep hb, hb⟩))
      have K36 : Hid (∀ W, Ln W g l.1 l.2 → _) := hide (fun W h => room_any W h)
      obtain ⟨x, hx⟩ : ∃ x, l.2.length = x := ⟨_, rfl⟩
      obtain ⟨y, hy⟩ : ∃ y, l.1 - x = y := ⟨_, rfl⟩
      rw [hx] at K40 He1 hle
      simp only [hx, hy] at K36 He1
      have HLn : Hid ((lds (R.take k)).length + [(x, y)].length ≤ 1000000) := hide (by rw [lds_len]; simp; omega)
      have j0 : (0 : Int) ≤ (k : Int) := by omega
      have j1 : (k : Int) < (n : Int) := by omega
      have j2 : (x : Int) ≤ 8 := by omega
      have j3 : (y : Int) ≤ 8 := by omega
      have HNw : Hid (∀ W : World, ldE.Rd (W.alloc (.cells #[.int .i64 x, .int .i64 y] 87)) (.slice (some ⟨W.heap.size, 0, none⟩) 1 1) [(x, y)]) := hide (fun W => ld_new _ _ _ _ rfl rfl _ rfl)
      have Hba : Hid (∀ (W : World) (o : Obj), Below w0.heap.size w0 W → Below w0.heap.size w0 (W.alloc o) ∧ Below W.heap.size W (W.alloc o)) := hide (fun W o h => ⟨h.alloc h.size o, (Below.refl _ _).alloc (Nat.le_refl _) o⟩)
      clear hl hL hle hx hy e1 H1
      go_wp2_with (first
        | (go_at_call 40; refine K40.out.mono ?_; rintro e W1 ⟨a1, c1', rfl, hL1, hb1⟩; have HL1 := hide hL1; have HB1 := hide (HB.out.trans (hb1.mono HB.out.size)); have HO1 := hide (HO.out.keep hb1); clear hL1 hb1)
        | (go_at_call 36; refine (K36.out _ HL1.out).mono ?_; rintro e W2 ⟨rfl, q, rfl⟩; have HB2 := hide (HB1.out.trans ((below_drewN W1 q).mono HB1.out.size)); have HO2 := hide (HO1.out.keep (below_drewN W1 q)))
        | (at_builtin; refine ldE.wp (w0 := w0) (Hba.out _ _ HB2.out).1 (by rfl) _ _ rfl _ _ rfl rfl _ [(x, y)] (HO2.out.keep (Hba.out _ _ HB2.out).2) (HNw.out _) HLn.out ?_; intro v' w' ho hg hs hb; have HO3 := hide ho; have HB3 := hide hb; clear ho hg hs hb))
      go_roundw
      case rel => exact ⟨k + 1, by go_num, by omega, HB3, hide (by rw [He1.out]; exact HO3.out)⟩
      case measure => simp [intOf]; omega
    · obtain rfl : k = n := by omega
      have j1 : ¬ (k : Int) < (k : Int) := by omega
      have HO' : ldE.Own wr w0.heap.size u3 (lds R) := by have := HO.out; rwa [← Hn.out, List.take_length] at this
      obtain ⟨a', c', hv⟩ := HO'.rd.form
      rw [lds_len, Hn.out] at hv
      subst hv
      have HO1 := hide HO'
      clear HO'
      go_wp2_with fail
      go_ret
      exact ⟨_, _, rfl, HO1.out, HB.out⟩
end

theorem bstG_succ {L : List (Nat × Nat)} {but : Int} {n : Nat} {l : Nat × Nat} (h : L[n]? = some l) : bstG L but (n + 1) = if (n : Int) = but ∨ l.2 = 0 then bstG L but n else if bstG L but n = -1 ∨ l.1 < (L[(bstG L but n).toNat]?.getD (0, 0)).1 then (n : Int) else bstG L but n := by
  rw [bstG, h]

set_option maxRecDepth 100000 in
set_option maxHeartbeats 4000000 in
theorem best_any (a : Option Addr) (n c : Nat) (L : List (Nat × Nat)) (but : Int) (w : World) (hn : L.length = n) (h32 : n ≤ 32) (hv : ldE.Rd w (.slice a n c) L) :
    Calls Try.prog 26 #[.slice a n c, .int .i64 but] w fun e w' => e = .returned (.int .i64 (bst L but)) ∧ Below w.heap.size w w' := by
  obtain ⟨w0, rfl⟩ : ∃ w0, w0 = w := ⟨_, rfl⟩
  have Hn := hide hn
  have HV := hide hv
  have i0 : (n : Int) ≤ 32 := by omega
  obtain ⟨res, hres⟩ : ∃ res, bst L but = res := ⟨_, rfl⟩
  have Hres : Hid (bstG L but n = res) := hide (by rw [← hn]; exact hres)
  rw [hres]
  clear hv hn hres
  go_enter Try.func26, Try.ntmps26
  go_wp2_with fail
  go_loopw [5, 10] (fun v5 v10 wr => ∃ (k : Nat) (f : Int), v10 = .int .i64 k ∧ k ≤ n ∧ v5 = .int .i64 f ∧ Hid (bstG L but k = f) ∧ Hid (Below w0.heap.size w0 wr)) (fun v5 v10 _ => n - (intOf v10).toNat)
  case atStart => exact ⟨0, -1, rfl, Nat.zero_le _, rfl, hide rfl, hide (Below.refl _ _)⟩
  case round =>
    obtain ⟨k, f, rfl, hk, rfl, HF, HB⟩ := hrel
    by_cases hlt : k < n
    · obtain ⟨l, hl⟩ : ∃ l, L[k]? = some l := ⟨_, List.getElem?_eq_getElem (by rw [Hn.out]; exact hlt)⟩
      obtain ⟨b, off, rfl, c0, c1⟩ := ld_at (HV.out.keep HB.out) k l hl
      have Hnx := bstG_succ (but := but) hl
      rw [HF.out] at Hnx
      have j0 : (0 : Int) ≤ (k : Int) := by omega
      have j1 : (k : Int) < (n : Int) := by omega
      obtain ⟨x, y⟩ := l
      simp only at c0 c1 Hnx
      have HBa : Hid (∀ o : Obj, Below w0.heap.size w0 (wr.alloc o)) := hide (fun o => HB.out.alloc HB.out.size o)
      by_cases hbut : (k : Int) = but
      · have jb : ((k : Int) == but) = true := beq_iff_eq.2 hbut
        have Hnx1 : Hid (bstG L but (k + 1) = f) := hide (by rw [Hnx, if_pos (.inl hbut)])
        clear Hnx hl hbut
        go_wp2_with fail
        go_roundw
        case rel => exact ⟨k + 1, f, by go_num, by omega, rfl, Hnx1, hide (HBa.out _)⟩
        case measure => simp [intOf]; omega
      have jb : ((k : Int) == but) = false := beq_eq_false_iff_ne.2 hbut
      by_cases hy : y = 0
      · subst hy
        have Hnx1 : Hid (bstG L but (k + 1) = f) := hide (by rw [Hnx, if_pos (.inr rfl)])
        clear Hnx hl hbut
        go_wp2_with fail
        go_roundw
        case rel => exact ⟨k + 1, f, by go_num, by omega, rfl, Hnx1, hide (HBa.out _)⟩
        case measure => simp [intOf]; omega
      have jy : ((y : Int) == 0) = false := beq_eq_false_iff_ne.2 (by omega)
      rw [if_neg (by rintro (h | h); exact hbut h; exact hy h)] at Hnx
      have hB := bstG_is L but k (by rw [Hn.out]; omega)
      rw [HF.out] at hB
      rcases hB with ⟨hf, hrst⟩ | ⟨j, m, hf, hj, hm, hrst⟩ <;> clear hrst
      · subst hf
        have Hnx1 : Hid (bstG L but (k + 1) = k) := hide (by rw [Hnx, if_pos (.inl rfl)])
        clear Hnx hl hbut hy
        go_upto_region 6 with fail
        go_quiet (fail)
        go_wp2_with fail
        go_roundw
        case rel => exact ⟨k + 1, k, by go_num, by omega, rfl, Hnx1, hide ⟨(HBa.out (.cells #[.int .i64 x, .int .i64 y] 87)).os, (HBa.out (.cells #[.int .i64 x, .int .i64 y] 87)).tape, (HBa.out (.cells #[.int .i64 x, .int .i64 y] 87)).output, (HBa.out (.cells #[.int .i64 x, .int .i64 y] 87)).size, (HBa.out (.cells #[.int .i64 x, .int .i64 y] 87)).block⟩⟩
        case measure => simp [intOf]; omega
      · subst hf
        rw [Int.toNat_natCast, hm] at Hnx
        simp only [Option.getD_some] at Hnx
        obtain ⟨b', off', e', c2, c3⟩ := ld_at (HV.out.keep (HBa.out (.cells #[.int .i64 x, .int .i64 y] 87))) j m hm
        cases e'
        obtain ⟨p, q⟩ := m
        simp only at c2 Hnx
        have q0 : ((j : Int) == -1) = false := beq_eq_false_iff_ne.2 (by omega)
        have q1 : (0 : Int) ≤ (j : Int) := by omega
        have q2 : (j : Int) < (n : Int) := by omega
        by_cases hlt2 : x < p
        · have Hnx1 : Hid (bstG L but (k + 1) = k) := hide (by rw [Hnx, if_pos (.inr hlt2)])
          have q3 : decide ((x : Int) < (p : Int)) = true := decide_eq_true (by omega)
          clear Hnx hl hbut hy hm c3
          go_upto_region 6 with fail
          go_quiet (fail)
          go_wp2_with fail
          go_roundw
          case rel => exact ⟨k + 1, k, by go_num, by omega, rfl, Hnx1, hide ⟨(HBa.out (.cells #[.int .i64 x, .int .i64 y] 87)).os, (HBa.out (.cells #[.int .i64 x, .int .i64 y] 87)).tape, (HBa.out (.cells #[.int .i64 x, .int .i64 y] 87)).output, (HBa.out (.cells #[.int .i64 x, .int .i64 y] 87)).size, (HBa.out (.cells #[.int .i64 x, .int .i64 y] 87)).block⟩⟩
          case measure => simp [intOf]; omega
        · have Hnx1 : Hid (bstG L but (k + 1) = j) := hide (by rw [Hnx, if_neg (by rintro (h | h) <;> omega)])
          have q3 : decide ((x : Int) < (p : Int)) = false := decide_eq_false (by omega)
          clear Hnx hl hbut hy hm c3
          go_upto_region 6 with fail
          go_quiet (fail)
          go_wp2_with fail
          go_roundw
          case rel => exact ⟨k + 1, j, by go_num, by omega, rfl, Hnx1, hide ⟨(HBa.out (.cells #[.int .i64 x, .int .i64 y] 87)).os, (HBa.out (.cells #[.int .i64 x, .int .i64 y] 87)).tape, (HBa.out (.cells #[.int .i64 x, .int .i64 y] 87)).output, (HBa.out (.cells #[.int .i64 x, .int .i64 y] 87)).size, (HBa.out (.cells #[.int .i64 x, .int .i64 y] 87)).block⟩⟩
          case measure => simp [intOf]; omega
    · obtain rfl : k = n := by omega
      have j1 : ¬ (k : Int) < (k : Int) := by omega
      have e1 : f = res := by rw [← HF.out]; exact Hres.out
      subst e1
      go_wp2_with fail
      go_ret
      exact ⟨rfl, HB.out⟩
end Go.Proofs.Ytddcjkbdgneklaa
