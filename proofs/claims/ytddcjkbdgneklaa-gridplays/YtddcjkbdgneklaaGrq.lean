/- The law's tells: the program's rack and the document's, told alike. -/
import Derived.Test.YtddcjkbdgneklaaGrp
namespace Go.Proofs.Ytddcjkbdgneklaa
open Go.RowKit
set_option linter.unusedVariables false

/-- the world of tells -/
structure TW (w0 Wi : World) (BB r : Nat) (a1 : Option Addr) (c1 : Nat) (gs : List Nat) (R : Rack) (B2 : Nat) (a2 : Option Addr) (n c2 : Nat) (es : List LnV) (h : Nat) (V : World) : Prop where
  bel : Below h Wi V
  rw' : RW w0 BB r a1 c1 gs R V
  dr : DR V B2 a2 n c2 es R
  bx : V.heap[h]? = some (.cells #[.slice a2 n c2] 31)
section
variable {w0 Wi V V' : World} {BB r : Nat} {a1 : Option Addr} {c1 : Nat} {gs : List Nat} {R : Rack} {B2 : Nat} {a2 : Option Addr} {n c2 : Nat} {es : List LnV} {h : Nat}
theorem TW.keep (t : TW w0 Wi BB r a1 c1 gs R B2 a2 n c2 es h V) (hb : Below V.heap.size V V') : TW w0 Wi BB r a1 c1 gs R B2 a2 n c2 es h V' :=
  ⟨t.bel.trans (hb.mono (Nat.le_of_lt (heap_lt t.bx))), t.rw'.keep hb, t.dr.keep hb, (hb.block _ (heap_lt t.bx)).trans t.bx⟩
theorem TW.cell (t : TW w0 Wi BB r a1 c1 gs R B2 a2 n c2 es h V) : V.cell? ⟨h, 0, none⟩ = some (.slice a2 n c2) := (cells_at t.bx 0).1

set_option maxRecDepth 100000 in
set_option maxHeartbeats 16000000 in
theorem tells_any (W : World) (hr : RW w0 BB r a1 c1 gs R W) (hd : DR W B2 a2 n c2 es R) :
    Calls Try.prog 20 #[.pointer (some ⟨r, 0, none⟩), .agg #[.slice a2 n c2]] W fun e w' => e = .returned (.bool true) ∧ Below W.heap.size W w' := by
  obtain ⟨Wi, rfl⟩ : ∃ Wi, Wi = W := ⟨_, rfl⟩
  obtain ⟨h, hh⟩ : ∃ h, Wi.heap.size = h := ⟨_, rfl⟩
  have HT0 : Hid (TW w0 Wi BB r a1 c1 gs R B2 a2 n c2 es h (Wi.alloc (.cells #[.slice a2 n c2] 31))) := hide (by
    have hb : Below Wi.heap.size Wi (Wi.alloc (.cells #[.slice a2 n c2] 31)) := (Below.refl _ _).alloc (Nat.le_refl _) _
    have hn := heap_new Wi (.cells #[.slice a2 n c2] 31)
    rw [hh] at hn
    exact ⟨by rw [← hh]; exact hb, hr.keep hb, hd.keep hb, hn⟩)
  have Hrn := hide hd.rn
  have n32 := hd.n32
  have i0 : (n : Int) ≤ 32 := by omega
  have hrm := hr.room_le
  have Hbd := hide hd.bd
  rw [hh]
  have Hh := hide hh
  clear hr hd hh
  have KL : Hid (∀ (V : World) (i : Int), TW w0 Wi BB r a1 c1 gs R B2 a2 n c2 es h V → Calls Try.prog 23 #[.pointer (some ⟨r, 0, none⟩), .int .i64 i] V fun e w' => ∃ a' c', e = .returned (.slice a' (lnx R i).length c') ∧ intE.Rd w' (.slice a' (lnx R i).length c') (lnx R i) ∧ TW w0 Wi BB r a1 c1 gs R B2 a2 n c2 es h w') := hide (fun V i t => (t.rw'.lane i).mono (by
    rintro e w' ⟨a', c', rfl, h1, _, h2⟩
    exact ⟨a', c', rfl, h1.rd, t.keep h2⟩))
  go_enter Try.func20, Try.ntmps20
  go_upto_region 1 with fail
  rw [Hh.out]
  generalize Wi.alloc (.cells #[.slice a2 n c2] 31) = W1 at *
  have x0 := HT0.out.cell
  go_wp2_with fail
  go_loopw [10] (fun v10 wr => ∃ k : Nat, v10 = .int .i64 k ∧ k ≤ n ∧ Hid (TW w0 Wi BB r a1 c1 gs R B2 a2 n c2 es h wr)) (fun v10 _ => n - (intOf v10).toNat)
  case atStart => exact ⟨0, rfl, Nat.zero_le _, HT0⟩
  case round =>
    clear x0
    obtain ⟨k, rfl, hk, HT⟩ := hrel
    obtain ⟨Wa, hWa⟩ : ∃ Wa, Wa = wr := ⟨_, rfl⟩
    rw [← hWa] at HT ⊢
    clear hWa
    have HTd := hide (HT.out.keep (below_drewN Wa 1))
    by_cases hlt : k < n
    · obtain ⟨l, hl⟩ : ∃ l, R[k]? = some l := ⟨_, List.getElem?_eq_getElem (by rw [Hrn.out]; exact hlt)⟩
      obtain ⟨b, off, a', c', rfl, he, z0, z1, ho, _⟩ := HT.out.dr.lane hl
      have hbl := Hbd.out k l hl
      have elx : lnx R (k : Int) = l.2 := by unfold lnx; rw [if_pos (by rw [Hrn.out]; omega), Int.toNat_natCast, ln_at hl]
      obtain ⟨m, hm⟩ : ∃ m, l.2.length = m := ⟨_, rfl⟩
      have K23 : Hid (∀ V : World, TW w0 Wi BB r a1 c1 gs R B2 (some ⟨b, off, none⟩) n c2 es h V → Calls Try.prog 23 #[.pointer (some ⟨r, 0, none⟩), .int .i64 k] V fun e w' => ∃ a9 c9, e = .returned (.slice a9 m c9) ∧ intE.Rd w' (.slice a9 m c9) l.2 ∧ TW w0 Wi BB r a1 c1 gs R B2 (some ⟨b, off, none⟩) n c2 es h w') := hide (fun V t => by
        have := KL.out V (k : Int) t
        rw [elx, hm] at this
        exact this)
      have K12 : Hid (∀ (V : World) (a9 : Option Addr) (c9 : Nat), TW w0 Wi BB r a1 c1 gs R B2 (some ⟨b, off, none⟩) n c2 es h V → intE.Rd V (.slice a9 m c9) l.2 → Calls Try.prog 12 #[.slice a9 m c9, .slice a' m c'] V fun e w' => e = .returned (.bool true) ∧ ∃ q, w' = V.drewN q) := hide (fun V a9 c9 t h1 => ints_same a9 a' c9 c' m l.2 V hm h1 (by
        have := (t.dr.at' k _ l he hl).2.2.rd
        simp only at this
        rw [hm] at this
        exact this) (by omega))
      rw [hm] at z1
      obtain ⟨S0, hS0⟩ : ∃ S : World → Prop, ∀ V, S V ↔ (V.cell? ⟨h, 0, none⟩ = some (.slice (some ⟨b, off, none⟩) n c2) ∧ V.cell? ⟨b, off + k * 2 + 1, none⟩ = some (.slice a' m c')) := ⟨_, fun _ => Iff.rfl⟩
      have SD : Hid (∀ V, S0 V → V.cell? ⟨h, 0, none⟩ = some (.slice (some ⟨b, off, none⟩) n c2) ∧ V.cell? ⟨b, off + k * 2 + 1, none⟩ = some (.slice a' m c')) := hide (fun V h => (hS0 V).1 h)
      have SI : Hid (∀ V, TW w0 Wi BB r a1 c1 gs R B2 (some ⟨b, off, none⟩) n c2 es h V → S0 V) := hide (fun V t => (hS0 V).2 ⟨t.cell, by
        obtain ⟨b2, off2, a3, c3, e1, e2, g1, g2, _⟩ := t.dr.lane hl
        cases e1
        rw [he] at e2
        cases e2
        rw [hm] at g2
        exact g2⟩)
      have q0 : (0 : Int) ≤ (k : Int) := by omega
      have q1 : (k : Int) < (n : Int) := by omega
      clear hl he ho hbl elx hm z0 z1 hS0
      go_upto_region 4 with fail
      refine wp_region_held_drew (S := S0) (by kernel_rfl) (SI.out _ HTd.out) (fun hS0 => ?_)
      refine wpAnyH_take (i := 0) (v := .pointer (some ⟨r, 0, none⟩)) rfl (by kernel_rfl) (by kernel_rfl) (by kernel_rfl) (fun _ _ _ h => h) (Or.inl ⟨by kernel_rfl, fun W' hW => by go_simp⟩) hS0 ?_
      refine wpAnyH_take (i := 1) (v := .int .i64 k) rfl (by kernel_rfl) (by kernel_rfl) (by kernel_rfl) (fun _ _ _ h => h) (Or.inl ⟨by kernel_rfl, fun W' hW => by go_simp⟩) hS0 ?_
      refine wpAnyH_take (i := 3) (v := .pointer (some ⟨h, 0, none⟩)) rfl (by kernel_rfl) (by kernel_rfl) (by kernel_rfl) (fun _ _ _ h => h) (Or.inl ⟨by kernel_rfl, fun W' hW => by go_simp⟩) hS0 ?_
      refine wpAnyH_take (i := 4) (v := .slice (some ⟨b, off, none⟩) n c2) rfl (by kernel_rfl) (by kernel_rfl) (by kernel_rfl) (fun _ _ _ h => h) (Or.inl ⟨by kernel_rfl, fun W' hW => by have z0 := SD.out W' hW; go_simp⟩) hS0 ?_
      refine wpAnyH_take (i := 5) (v := .int .i64 k) rfl (by kernel_rfl) (by kernel_rfl) (by kernel_rfl) (fun _ _ _ h => h) (Or.inl ⟨by kernel_rfl, fun W' hW => by go_simp⟩) hS0 ?_
      refine wpAnyH_take (i := 6) (v := .pointer (some ⟨b, off + k * 2, none⟩)) rfl (by kernel_rfl) (by kernel_rfl) (by kernel_rfl) (fun _ _ _ h => h) (Or.inl ⟨by kernel_rfl, fun W' hW => by go_simp⟩) hS0 ?_
      refine wpAnyH_take (i := 7) (v := .pointer (some ⟨b, off + k * 2 + 1, none⟩)) rfl (by kernel_rfl) (by kernel_rfl) (by kernel_rfl) (fun _ _ _ h => h) (Or.inl ⟨by kernel_rfl, fun W' hW => by go_simp⟩) hS0 ?_
      refine wpAnyH_take (i := 8) (v := .slice a' m c') rfl (by kernel_rfl) (by kernel_rfl) (by kernel_rfl) (fun _ _ _ h => h) (Or.inl ⟨by kernel_rfl, fun W' hW => by have z0 := SD.out W' hW; go_simp⟩) hS0 ?_
      refine wpAnyH_ready (rs := [2]) (by kernel_rfl) (by simp) ?_
      refine AllReadyH.cons rfl (fun K hK => ?_) AllReadyH.nil
      go_simp
      go_at_call 23
      refine (K23.out _ HTd.out).mono ?_
      rintro e W9 ⟨a9, c9, rfl, ho, ht⟩
      have HT9 := hide ht; have HO9 := hide ho; clear ht ho
      go_simp
      refine hK.out _ _ (SI.out _ HT9.out) (fun _ => ?_)
      clear hK K
      refine wpAnyH_ready (rs := [9]) (by kernel_rfl) (by simp) ?_
      refine AllReadyH.cons rfl (fun K hK => ?_) AllReadyH.nil
      go_simp
      go_at_call 12
      refine (K12.out _ _ _ HT9.out HO9.out).mono ?_
      rintro e W10 ⟨rfl, qq, rfl⟩
      have HT10 := hide (HT9.out.keep (below_drewN W9 qq))
      go_simp
      refine hK.out _ _ (SI.out _ HT10.out) (fun _ => ?_)
      clear hK K
      refine wpAnyH_ready (rs := [10]) (by kernel_rfl) (by simp) ?_
      refine AllReadyH.cons rfl (fun K hK => ?_) AllReadyH.nil
      go_simp
      refine hK.out _ _ (SI.out _ HT10.out) (fun _ => ?_)
      clear hK K
      refine wpAnyH_done (by kernel_rfl) ?_ _
      go_wp2_with fail
      go_roundw
      case rel => exact ⟨k + 1, by go_num, by omega, HT10⟩
      case measure => simp [intOf]; omega
    · obtain rfl : k = n := by omega
      have q1 : ¬ (k : Int) < (k : Int) := by omega
      clear hlt
      obtain ⟨S0, hS0⟩ : ∃ S : World → Prop, ∀ V, S V ↔ V.cell? ⟨h, 0, none⟩ = some (.slice a2 k c2) := ⟨_, fun _ => Iff.rfl⟩
      have SD : Hid (∀ V, S0 V → V.cell? ⟨h, 0, none⟩ = some (.slice a2 k c2)) := hide (fun V h => (hS0 V).1 h)
      have SI : Hid (∀ V, TW w0 Wi BB r a1 c1 gs R B2 a2 k c2 es h V → S0 V) := hide (fun V t => (hS0 V).2 t.cell)
      clear hS0 HT0 HTd
      go_upto_region 7 with fail
      go_wp2_with fail
      go_loopw [6] (fun v6 wr => ∃ y : Int, v6 = .int .i64 y ∧ -1 ≤ y ∧ y ≤ 32 ∧ Hid (TW w0 Wi BB r a1 c1 gs R B2 a2 k c2 es h wr)) (fun v6 _ => (32 - intOf v6).toNat)
      case atStart => exact ⟨-1, rfl, by omega, by omega, HT⟩
      case round =>
        clear HT
        obtain ⟨y, rfl, hy1, hy2, HT⟩ := hrel
        obtain ⟨Wb, hWb⟩ : ∃ Wb, Wb = wr := ⟨_, rfl⟩
        rw [← hWb] at HT ⊢
        clear hWb
        have HTd := hide (HT.out.keep (below_drewN Wb 1))
        by_cases hy : y ≤ 31
        · have K22 : Hid (∀ V : World, TW w0 Wi BB r a1 c1 gs R B2 a2 k c2 es h V → Calls Try.prog 22 #[.pointer (some ⟨r, 0, none⟩), .int .i64 y] V fun e w' => e = .returned (.int .i64 (whr R y)) ∧ TW w0 Wi BB r a1 c1 gs R B2 a2 k c2 es h w') := hide (fun V t => (t.rw'.whr y).mono (by
            rintro e w' ⟨rfl, _, h2⟩
            exact ⟨rfl, t.keep h2⟩))
          have K29 : Hid (∀ V : World, TW w0 Wi BB r a1 c1 gs R B2 a2 k c2 es h V → Calls Try.prog 29 #[.agg #[.slice a2 k c2], .int .i64 y] V fun e w' => e = .returned (.int .i64 (whr R y)) ∧ TW w0 Wi BB r a1 c1 gs R B2 a2 k c2 es h w') := hide (fun V t => (rwhere_any y V t.dr).mono (by
            rintro e w' ⟨rfl, h2⟩
            exact ⟨rfl, t.keep h2⟩))
          generalize whr R y = wy at *
          have q2 : (wy != wy) = false := bne_self_eq_false _
          go_upto_region 10 with fail
          refine wp_region_held_drew (S := S0) (by kernel_rfl) (SI.out _ HTd.out) (fun hS0 => ?_)
          refine wpAnyH_take (i := 0) (v := .pointer (some ⟨r, 0, none⟩)) rfl (by kernel_rfl) (by kernel_rfl) (by kernel_rfl) (fun _ _ _ h => h) (Or.inl ⟨by kernel_rfl, fun W' hW => by go_simp⟩) hS0 ?_
          refine wpAnyH_take (i := 1) (v := .int .i64 y) rfl (by kernel_rfl) (by kernel_rfl) (by kernel_rfl) (fun _ _ _ h => h) (Or.inl ⟨by kernel_rfl, fun W' hW => by go_simp⟩) hS0 ?_
          refine wpAnyH_take (i := 3) (v := .agg #[.slice a2 k c2]) rfl (by kernel_rfl) (by kernel_rfl) (by kernel_rfl) (fun _ _ _ h => h) (Or.inl ⟨by kernel_rfl, fun W' hW => by have z0 := SD.out W' hW; go_simp⟩) hS0 ?_
          refine wpAnyH_take (i := 4) (v := .int .i64 y) rfl (by kernel_rfl) (by kernel_rfl) (by kernel_rfl) (fun _ _ _ h => h) (Or.inl ⟨by kernel_rfl, fun W' hW => by go_simp⟩) hS0 ?_
          refine wpAnyH_ready (rs := [2]) (by kernel_rfl) (by simp) ?_
          refine AllReadyH.cons rfl (fun K hK => ?_) AllReadyH.nil
          go_simp
          go_at_call 22
          refine (K22.out _ HTd.out).mono ?_
          rintro e W9 ⟨rfl, ht⟩
          have HT9 := hide ht; clear ht
          go_simp
          refine hK.out _ _ (SI.out _ HT9.out) (fun _ => ?_)
          clear hK K
          refine wpAnyH_ready (rs := [5]) (by kernel_rfl) (by simp) ?_
          refine AllReadyH.cons rfl (fun K hK => ?_) AllReadyH.nil
          go_simp
          go_at_call 29
          refine (K29.out _ HT9.out).mono ?_
          rintro e W10 ⟨rfl, ht⟩
          have HT10 := hide ht; clear ht
          go_simp
          refine hK.out _ _ (SI.out _ HT10.out) (fun _ => ?_)
          clear hK K
          refine wpAnyH_ready (rs := [6]) (by kernel_rfl) (by simp) ?_
          refine AllReadyH.cons rfl (fun K hK => ?_) AllReadyH.nil
          go_simp
          refine hK.out _ _ (SI.out _ HT10.out) (fun _ => ?_)
          clear hK K
          refine wpAnyH_done (by kernel_rfl) ?_ _
          go_wp2_with fail
          go_roundw
          case rel => exact ⟨y + 1, by first | rfl | go_num, by omega, by omega, HT10⟩
          case measure => simp [intOf]; omega
        · obtain rfl : y = 32 := by omega
          have K24 : Hid (∀ V : World, TW w0 Wi BB r a1 c1 gs R B2 a2 k c2 es h V → Calls Try.prog 24 #[.pointer (some ⟨r, 0, none⟩)] V fun e w' => e = .returned (.int .i64 (rm R : Int)) ∧ TW w0 Wi BB r a1 c1 gs R B2 a2 k c2 es h w') := hide (fun V t => t.rw'.room.mono (by
            rintro e w' ⟨rfl, _, q, rfl⟩
            exact ⟨rfl, t.keep (below_drewN V q)⟩))
          have K39 : Hid (∀ V : World, TW w0 Wi BB r a1 c1 gs R B2 a2 k c2 es h V → Calls Try.prog 39 #[.agg #[.slice a2 k c2]] V fun e w' => e = .returned (.int .i64 (rm R : Int)) ∧ TW w0 Wi BB r a1 c1 gs R B2 a2 k c2 es h w') := hide (fun V t => (rroom_any V t.dr).mono (by
            rintro e w' ⟨rfl, h2⟩
            exact ⟨rfl, t.keep h2⟩))
          have K23a : Hid (∀ V : World, TW w0 Wi BB r a1 c1 gs R B2 a2 k c2 es h V → Calls Try.prog 23 #[.pointer (some ⟨r, 0, none⟩), .int .i64 (-1)] V fun e w' => ∃ a' c', e = .returned (.slice a' 0 c') ∧ TW w0 Wi BB r a1 c1 gs R B2 a2 k c2 es h w') := hide (fun V t => (KL.out V (-1) t).mono (by
            rintro e w' ⟨a', c', rfl, _, h2⟩
            have : lnx R (-1) = [] := if_neg (by omega)
            exact ⟨a', c', by rw [this]; rfl, h2⟩))
          have K23b : Hid (∀ V : World, TW w0 Wi BB r a1 c1 gs R B2 a2 k c2 es h V → Calls Try.prog 23 #[.pointer (some ⟨r, 0, none⟩), .int .i64 k] V fun e w' => ∃ a' c', e = .returned (.slice a' 0 c') ∧ TW w0 Wi BB r a1 c1 gs R B2 a2 k c2 es h w') := hide (fun V t => (KL.out V k t).mono (by
            rintro e w' ⟨a', c', rfl, _, h2⟩
            have : lnx R (k : Int) = [] := if_neg (by rw [Hrn.out]; omega)
            exact ⟨a', c', by rw [this]; rfl, h2⟩))
          generalize rm R = rr at *
          have q2 : ((rr : Int) == (rr : Int)) = true := beq_self_eq_true _
          go_upto_region 12 with fail
          refine wp_region_held_drew (S := S0) (by kernel_rfl) (SI.out _ HTd.out) (fun hS0 => ?_)
          refine wpAnyH_take (i := 0) (v := .pointer (some ⟨r, 0, none⟩)) rfl (by kernel_rfl) (by kernel_rfl) (by kernel_rfl) (fun _ _ _ h => h) (Or.inl ⟨by kernel_rfl, fun W' hW => by go_simp⟩) hS0 ?_
          refine wpAnyH_take (i := 2) (v := .agg #[.slice a2 k c2]) rfl (by kernel_rfl) (by kernel_rfl) (by kernel_rfl) (fun _ _ _ h => h) (Or.inl ⟨by kernel_rfl, fun W' hW => by have z0 := SD.out W' hW; go_simp⟩) hS0 ?_
          refine wpAnyH_ready (rs := [1]) (by kernel_rfl) (by simp) ?_
          refine AllReadyH.cons rfl (fun K hK => ?_) AllReadyH.nil
          go_simp
          go_at_call 24
          refine (K24.out _ HTd.out).mono ?_
          rintro e W9 ⟨rfl, ht⟩
          have HT9 := hide ht; clear ht
          go_simp
          refine hK.out _ _ (SI.out _ HT9.out) (fun _ => ?_)
          clear hK K
          refine wpAnyH_ready (rs := [3]) (by kernel_rfl) (by simp) ?_
          refine AllReadyH.cons rfl (fun K hK => ?_) AllReadyH.nil
          go_simp
          go_at_call 39
          refine (K39.out _ HT9.out).mono ?_
          rintro e W10 ⟨rfl, ht⟩
          have HT10 := hide ht; clear ht
          go_simp
          refine hK.out _ _ (SI.out _ HT10.out) (fun _ => ?_)
          clear hK K
          refine wpAnyH_ready (rs := [4]) (by kernel_rfl) (by simp) ?_
          refine AllReadyH.cons rfl (fun K hK => ?_) AllReadyH.nil
          go_simp
          refine hK.out _ _ (SI.out _ HT10.out) (fun _ => ?_)
          clear hK K
          refine wpAnyH_ready (rs := [5]) (by kernel_rfl) (by simp) ?_
          refine AllReadyH.cons rfl (fun K hK => ?_) AllReadyH.nil
          go_simp
          refine hK.out _ _ (SI.out _ HT10.out) (fun _ => ?_)
          clear hK K
          refine wpAnyH_ready (rs := [6]) (by kernel_rfl) (by simp) ?_
          refine AllReadyH.cons rfl (fun K hK => ?_) AllReadyH.nil
          go_simp
          refine hK.out _ _ (SI.out _ HT10.out) (fun _ => ?_)
          clear hK K
          refine wpAnyH_ready (rs := [7]) (by kernel_rfl) (by simp) ?_
          refine AllReadyH.cons rfl (fun K hK => ?_) AllReadyH.nil
          go_simp
          go_at_call 23
          refine (K23a.out _ HT10.out).mono ?_
          rintro e W11 ⟨a11, c11, rfl, ht⟩
          have HT11 := hide ht; clear ht
          go_simp
          refine hK.out _ _ (SI.out _ HT11.out) (fun _ => ?_)
          clear hK K
          refine wpAnyH_ready (rs := [8]) (by kernel_rfl) (by simp) ?_
          refine AllReadyH.cons rfl (fun K hK => ?_) AllReadyH.nil
          go_simp
          refine hK.out _ _ (SI.out _ HT11.out) (fun _ => ?_)
          clear hK K
          refine wpAnyH_ready (rs := [9]) (by kernel_rfl) (by simp) ?_
          refine AllReadyH.cons rfl (fun K hK => ?_) AllReadyH.nil
          go_simp
          refine hK.out _ _ (SI.out _ HT11.out) (fun _ => ?_)
          clear hK K
          refine wpAnyH_ready (rs := [10]) (by kernel_rfl) (by simp) ?_
          refine AllReadyH.cons rfl (fun K hK => ?_) AllReadyH.nil
          go_simp
          refine hK.out _ _ (SI.out _ HT11.out) (fun _ => ?_)
          clear hK K
          refine wpAnyH_ready (rs := [11]) (by kernel_rfl) (by simp) ?_
          refine AllReadyH.cons rfl (fun K hK => ?_) AllReadyH.nil
          go_simp
          refine hK.out _ _ (SI.out _ HT11.out) (fun _ => ?_)
          clear hK K
          refine wpAnyH_take (i := 12) (v := .pointer (some ⟨r, 0, none⟩)) rfl (by kernel_rfl) (by kernel_rfl) (by kernel_rfl) (fun _ _ _ h => h) (Or.inl ⟨by kernel_rfl, fun W' hW => by go_simp⟩) (SI.out _ HT11.out) ?_
          refine wpAnyH_take (i := 13) (v := .pointer (some ⟨h, 0, none⟩)) rfl (by kernel_rfl) (by kernel_rfl) (by kernel_rfl) (fun _ _ _ h => h) (Or.inl ⟨by kernel_rfl, fun W' hW => by go_simp⟩) (SI.out _ HT11.out) ?_
          refine wpAnyH_take (i := 14) (v := .slice a2 k c2) rfl (by kernel_rfl) (by kernel_rfl) (by kernel_rfl) (fun _ _ _ h => h) (Or.inl ⟨by kernel_rfl, fun W' hW => by have z0 := SD.out W' hW; go_simp⟩) (SI.out _ HT11.out) ?_
          refine wpAnyH_ready (rs := [15]) (by kernel_rfl) (by simp) ?_
          refine AllReadyH.cons rfl (fun K hK => ?_) AllReadyH.nil
          go_simp
          refine hK.out _ _ (SI.out _ HT11.out) (fun _ => ?_)
          clear hK K
          refine wpAnyH_ready (rs := [16]) (by kernel_rfl) (by simp) ?_
          refine AllReadyH.cons rfl (fun K hK => ?_) AllReadyH.nil
          go_simp
          go_at_call 23
          refine (K23b.out _ HT11.out).mono ?_
          rintro e W12 ⟨a12, c12, rfl, ht⟩
          have HT12 := hide ht; clear ht
          go_simp
          refine hK.out _ _ (SI.out _ HT12.out) (fun _ => ?_)
          clear hK K
          refine wpAnyH_ready (rs := [17]) (by kernel_rfl) (by simp) ?_
          refine AllReadyH.cons rfl (fun K hK => ?_) AllReadyH.nil
          go_simp
          refine hK.out _ _ (SI.out _ HT12.out) (fun _ => ?_)
          clear hK K
          refine wpAnyH_ready (rs := [18]) (by kernel_rfl) (by simp) ?_
          refine AllReadyH.cons rfl (fun K hK => ?_) AllReadyH.nil
          go_simp
          refine hK.out _ _ (SI.out _ HT12.out) (fun _ => ?_)
          clear hK K
          refine wpAnyH_ready (rs := [19]) (by kernel_rfl) (by simp) ?_
          refine AllReadyH.cons rfl (fun K hK => ?_) AllReadyH.nil
          go_simp
          refine hK.out _ _ (SI.out _ HT12.out) (fun _ => ?_)
          clear hK K
          refine wpAnyH_ready (rs := [20]) (by kernel_rfl) (by simp) ?_
          refine AllReadyH.cons rfl (fun K hK => ?_) AllReadyH.nil
          go_simp
          refine hK.out _ _ (SI.out _ HT12.out) (fun _ => ?_)
          clear hK K
          refine wpAnyH_done (by kernel_rfl) ?_ _
          go_wp2_with fail
          go_ret
          exact ⟨rfl, HT12.out.bel⟩
end
end Go.Proofs.Ytddcjkbdgneklaa
