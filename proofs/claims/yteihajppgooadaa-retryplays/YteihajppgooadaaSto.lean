/- AckTo. -/
import Derived.Test.YteihajppgooadaaSack
namespace Go.Proofs.Yteihajppgooadaa
open Go.RowKit
set_option linter.unusedVariables false

set_option maxHeartbeats 1000000 in
theorem to_dead {w : World} {g B : Nat} {S : Sd} (H : Snd w g B S) (hd : S.dead = true) (x : Int) : Calls Try.prog 19 #[.pointer (some ⟨g, 0, none⟩), .int .u16 x] w fun e w' => e = .returned (.tuple #[.int .i64 0, .int .i64 190]) ∧ w' = w := by
  obtain ⟨c0, c1, c2, c3, c4, c5⟩ := H.cells
  rw [hd] at c5
  clear H hd
  go_enter Try.func19, Try.ntmps19
  go_wp2_with fail
  go_ret2
  exact ⟨rfl, rfl⟩

set_option maxHeartbeats 1000000 in
theorem to_none {w : World} {g B : Nat} {S : Sd} (H : Snd w g B S) (hO : S.Ok) (hd : S.dead = false) (x : Int) (hx : ¬ up (sq S.first S.lo) x < S.count - S.lo + 1) : Calls Try.prog 19 #[.pointer (some ⟨g, 0, none⟩), .int .u16 x] w fun e w' => e = .returned (.tuple #[.int .i64 0, .int .i64 4]) ∧ ∃ n, w' = w.drewN n := by
  obtain ⟨c0, c1, c2, c3, c4, c5⟩ := H.cells
  rw [hd] at c5
  have hlen := hO.len H.lim.win.1
  have hw := H.lim.win
  have K39 := hide (first_any H (by omega))
  have K30 := hide (numbers_any H hO)
  have K38 := hide (fun W => within_any x (sq S.first S.lo) (S.count - S.lo + 1) W)
  rw [decide_eq_false hx] at K38
  generalize S.count - S.lo + 1 = d at *
  generalize sq S.first S.lo = s at *
  clear H hd hO hlen hw c0 c1 c2 c3 c4 hx
  go_enter Try.func19, Try.ntmps19
  go_wp2_with (first
    | (go_at_call 39; refine K39.out.mono ?_; rintro e w1 ⟨rfl, rfl⟩)
    | (go_at_call 30; refine K30.out.mono ?_; rintro e w2 ⟨rfl, n2, rfl⟩)
    | (go_at_call 38; refine (K38.out _).mono ?_; rintro e w3 ⟨rfl, rfl⟩))
  go_ret2
  exact ⟨rfl, n2, rfl⟩

/-- how many pieces are ahead of a number -/
def pre (m : Int) (ps : List Pc) : Nat := (ps.takeWhile (fun p => decide (p.n < m))).length
theorem pre_le (m : Int) (ps : List Pc) : pre m ps ≤ ps.length := (List.takeWhile_prefix _).length_le
theorem pre_at : ∀ (m : Int) (ps : List Pc) (i : Nat) (p : Pc), (∀ j q, j < i → ps[j]? = some q → q.n < m) → ps[i]? = some p → ¬ p.n < m → pre m ps = i
  | m, [], i, p, _, h, _ => by simp at h
  | m, q :: ps, 0, p, _, h, hn => by
    simp at h
    subst h
    simp [pre, hn]
  | m, q :: ps, i + 1, p, hj, h, hn => by
    have hq : q.n < m := hj 0 q (by omega) rfl
    have := pre_at m ps i p (fun j q' hj' hq' => hj (j + 1) q' (by omega) (by simpa using hq')) (by simpa using h) hn
    unfold pre at this ⊢
    rw [List.takeWhile_cons, if_pos (by simpa using hq), List.length_cons, this]
theorem pre_all : ∀ (m : Int) (ps : List Pc), (∀ p ∈ ps, p.n < m) → pre m ps = ps.length
  | m, [], _ => rfl
  | m, q :: ps, h => by
    have := pre_all m ps (fun p hp => h p (by simp [hp]))
    unfold pre at this ⊢
    rw [List.takeWhile_cons, if_pos (by simpa using h q (by simp)), List.length_cons, this, List.length_cons]

theorem dst_sq2 (first a b : Int) (h0 : -30000 ≤ b - a) (h1 : b - a ≤ 30000) : dst (sq first a) (sq first b) = b - a := by unfold dst up sq; split <;> omega

set_option maxRecDepth 100000 in
set_option maxHeartbeats 4000000 in
theorem to_ok {w : World} {g B : Nat} {S : Sd} (H : Snd w g B S) (hO : S.Ok) (hd : S.dead = false) (m : Int) (hm : S.lo ≤ m ∧ m ≤ S.count) : Calls Try.prog 19 #[.pointer (some ⟨g, 0, none⟩), .int .u16 (sq S.first m)] w fun e w' => e = .returned (.tuple #[.int .i64 (pre m S.ps), .int .i64 0]) ∧ ∃ v', Snd w' g B (S.cut v' 0 (pre m S.ps)) ∧ Chg g S.v w w' ∧ v'.ownBlock = S.v.ownBlock := by
  obtain ⟨c0, c1, c2, c3, c4, c5⟩ := H.cells
  rw [hd] at c5
  have hlen := hO.len H.lim.win.1
  have hw := H.lim.win
  have hlo := hO.lo hw.1
  have K39 := hide (first_any H (by omega))
  have K30 := hide (numbers_any H hO)
  have K38 := hide (fun W => within_any (sq S.first m) (sq S.first S.lo) (S.count - S.lo + 1) W)
  have hup : up (sq S.first S.lo) (sq S.first m) < S.count - S.lo + 1 := by unfold up sq; omega
  rw [decide_eq_true hup] at K38
  have K40 : Hid (∀ p ∈ S.ps, ∀ W, Calls Try.prog 40 #[.int .u16 (sq S.first p.n), .int .u16 (sq S.first m)] W fun e w' => e = .returned (.bool (decide (p.n < m))) ∧ w' = W) := hide (fun p hp W => by
    have hn := hO.num p hp
    have := behind_any (sq S.first p.n) (sq S.first m) W
    rw [dst_sq2 _ _ _ (by omega) (by omega)] at this
    have e : decide (0 < m - p.n) = decide (p.n < m) := by
      by_cases h : p.n < m
      · rw [decide_eq_true h, decide_eq_true (by omega)]
      · rw [decide_eq_false h, decide_eq_false (by omega)]
    rw [e] at this
    exact this)
  have HH := hide H
  have Hl : Hid (S.ps.length ≤ 1000) := hide (by omega)
  generalize S.count - S.lo + 1 = d at *
  generalize sq S.first S.lo = s at *
  obtain ⟨xm, hxm⟩ : ∃ xm, sq S.first m = xm := ⟨_, rfl⟩
  rw [hxm] at K38 K40 ⊢
  clear hd hO hlen hw c0 c1 c2 c3 hup hm hlo H hxm
  go_enter Try.func19, Try.ntmps19
  go_upto_region 6 with (first
    | (go_at_call 39; refine K39.out.mono ?_; rintro e w1 ⟨rfl, rfl⟩)
    | (go_at_call 30; refine K30.out.mono ?_; rintro e w2 ⟨rfl, n2, rfl⟩)
    | (go_at_call 38; refine (K38.out _).mono ?_; rintro e w3 ⟨rfl, rfl⟩))
  have H2 := HH.out.drewN n2
  have HB2 : Hid (Below w1.heap.size w1 (w1.drewN n2)) := hide ⟨rfl, rfl, rfl, Nat.le_refl _, fun _ _ => rfl⟩
  generalize w1.drewN n2 = W at *
  clear c4 c5 K39 K30 K38
  have HH2 := hide H2
  clear H2
  obtain ⟨a, c, hv, _, _, _, hax⟩ := HH2.out.lies.form
  obtain ⟨n, hn⟩ : ∃ n, S.ps.length = n := ⟨_, rfl⟩
  rw [hn] at hv
  have Hn := hide hn
  have Hv := hide hv
  have i0 : (n : Int) ≤ 1000 := by have := Hl.out; omega
  clear hn
  have d4 : W.cell? ⟨g, 4, none⟩ = some (.slice a n c) := by rw [← hv]; exact HH2.out.cells.2.2.2.2.1
  clear hv
  go_loopw [6] (fun v6 wr => ∃ k : Nat, k ≤ n ∧ v6 = .int .i64 k ∧ wr = W ∧ Hid (∀ j q, j < k → S.ps[j]? = some q → q.n < m)) (fun v6 _ => n - (intOf v6).toNat)
  case atStart => exact ⟨0, by omega, rfl, rfl, hide (fun j q h => by omega)⟩
  case round =>
    obtain ⟨k, hk, rfl, rfl, Hlt⟩ := hrel
    have last : pre m S.ps = k → Calls Try.prog 37 #[.slice a n c, .int .i64 0, .int .i64 k] wr fun e w' => ∃ v', e = .returned v' ∧ Lies w' B S.first v' (S.ps.take 0 ++ S.ps.drop k) ∧ wr.grownBy w' (Value.slice a n c).ownBlock ∧ v'.ownBlock = (Value.slice a n c).ownBlock := fun h => by
      have := delete_any HH2.out.lies 0 k (by omega) (by rw [Hn.out]; exact hk) Hl.out
      rw [Hv.out] at this
      exact this
    have hne : Hid (some g ≠ (Value.slice a n c).ownBlock) := hide (fun e => by
      rw [← Hv.out] at e
      obtain ⟨cur, hc, _⟩ := own_cells HH2.out.lies.row g e.symm
      rw [HH2.out.box] at hc; simp only [Option.some.injEq, Obj.cells.injEq] at hc; exact absurd hc.2.1 (show ¬ (79 : TypeId) = 83 by decide))
    by_cases hlt : k < n
    · obtain ⟨p, hp⟩ : ∃ p, S.ps[k]? = some p := ⟨_, List.getElem?_eq_getElem (by rw [Hn.out]; exact hlt)⟩
      have hL := HH2.out.lies
      obtain ⟨b, c', hv', _⟩ := hL.full (by rw [Hn.out]; omega)
      have hv'' := hv'
      rw [Hv.out] at hv''
      simp only [Value.slice.injEq] at hv''
      obtain ⟨rfl, hnn, rfl⟩ := hv''
      clear hnn
      rw [hv'] at hL
      obtain ⟨e0, _⟩ := hL.at k p hp
      have K := K40.out p (List.mem_of_getElem? hp)
      have j0 : (0 : Int) ≤ (k : Int) := by omega
      have j1 : (k : Int) < (n : Int) := by omega
      have Hp := hide hp
      clear hL hp hv'
      by_cases hpm : p.n < m
      · rw [decide_eq_true hpm] at K
        have KK := hide K
        have Hpm := hide hpm
        generalize sq S.first p.n = sp at *
        clear K hpm last
        go_wp2_with (go_at_call 40; refine (KK.out _).mono ?_; rintro e w5 ⟨rfl, rfl⟩)
        go_roundw
        case rel =>
          refine ⟨k + 1, by omega, by go_num, by first | rfl | trivial, hide (fun j q hj hq => ?_)⟩
          by_cases e : j = k
          · subst e
            rw [Hp.out] at hq
            cases hq
            exact Hpm.out
          · exact Hlt.out j q (by omega) hq
        case measure => simp [intOf]; omega
      · rw [decide_eq_false hpm] at K
        have hpre := pre_at m S.ps k p Hlt.out Hp.out hpm
        have KK := hide K
        have K37 := hide (last hpre)
        have Hpre := hide hpre
        generalize sq S.first p.n = sp at *
        clear K hpm last hpre
        go_upto_region 8 with (go_at_call 40; refine (KK.out _).mono ?_; rintro e w5 ⟨rfl, rfl⟩)
        go_wp2_with (go_at_call 37; refine K37.out.mono ?_; rintro e w3 ⟨v3, rfl, L3, G3, O3⟩; have hg3 : w3.heap[g]? = w5.heap[g]? := (G3.block g (heap_lt HH2.out.box) hne.out); obtain ⟨a3, n3, rfl⟩ := L3.row.rd.form; have x4 : w3.cell? ⟨g, 4, none⟩ = some (.slice (some ⟨b, 0, none⟩) n c) := (by rw [World.cell?_of_block (w := w5) hg3]; exact d4); have x5 : w3.frozen? ⟨g, 4, none⟩ = false := (by rw [World.frozen?_of_block (w := w5) hg3]; exact HH2.out.cold 4); have HR := hide (cut_snd HH.out HB2.out L3 (by rw [Hv.out]; exact G3) (by rw [Hv.out]; exact O3)); have HO := hide O3; generalize (List.take 0 S.ps ++ List.drop k S.ps).length = n4 at *; clear L3 G3 O3 hg3)
        go_ret2
        rw [Hpre.out]
        exact ⟨rfl, _, HR.out.1, HR.out.2, by rw [Hv.out]; exact HO.out⟩
    · have hkn : k = n := by omega
      have hpre : pre m S.ps = k := by
        rw [pre_all m S.ps (fun p hp => by
          obtain ⟨j, hj, rfl⟩ := List.mem_iff_getElem.1 hp
          exact Hlt.out j _ (by have := Hn.out; omega) (List.getElem?_eq_getElem hj)), Hn.out, hkn]
      have j1 : ¬ (k : Int) < (n : Int) := by omega
      have j2 : (k : Int) ≤ 1000 := by omega
      have K37 := hide (last hpre)
      have Hpre := hide hpre
      clear last hpre hkn
      go_upto_region 8 with fail
      go_wp2_with (go_at_call 37; refine K37.out.mono ?_; rintro e w3 ⟨v3, rfl, L3, G3, O3⟩; have hg3 : w3.heap[g]? = wr.heap[g]? := (G3.block g (heap_lt HH2.out.box) hne.out); obtain ⟨a3, n3, rfl⟩ := L3.row.rd.form; have x4 : w3.cell? ⟨g, 4, none⟩ = some (.slice a n c) := (by rw [World.cell?_of_block (w := wr) hg3]; exact d4); have x5 : w3.frozen? ⟨g, 4, none⟩ = false := (by rw [World.frozen?_of_block (w := wr) hg3]; exact HH2.out.cold 4); have HR := hide (cut_snd HH.out HB2.out L3 (by rw [Hv.out]; exact G3) (by rw [Hv.out]; exact O3)); have HO := hide O3; generalize (List.take 0 S.ps ++ List.drop k S.ps).length = n4 at *; clear L3 G3 O3 hg3)
      go_ret2
      rw [Hpre.out]
      exact ⟨rfl, _, HR.out.1, HR.out.2, by rw [Hv.out]; exact HO.out⟩
end Go.Proofs.Yteihajppgooadaa
