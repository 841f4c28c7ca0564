/- Put, Plan. -/
import Derived.Test.YtddcjkbdgneklaaGrc
namespace Go.Proofs.Ytddcjkbdgneklaa
open Go.RowKit
set_option linter.unusedVariables false

section
variable {B r : Nat} {a : Option Addr} {c : Nat} {gs : List Nat} {R : Rack}
set_option maxRecDepth 100000 in
set_option maxHeartbeats 4000000 in
theorem put_rk (t : Int) (w : World) (h : Rk w B r a c gs R) :
    Calls Try.prog 13 #[.pointer (some ⟨r, 0, none⟩), .int .i64 t] w fun e w' => e = .returned (.tuple #[.int .i64 (putN R t), .int .i64 (putC R t)]) ∧ Rk w' B r a c gs (putR R t) ∧ Fr B w w' := by
  obtain ⟨w0, rfl⟩ : ∃ w0, w0 = w := ⟨_, rfl⟩
  have H := hide h
  by_cases ht : t < 1 ∨ 30 < t
  · have e1 : putC R t = 1 := if_pos ht
    have e2 : putN R t = 0 := if_neg (by rw [e1]; decide)
    have e3 : putR R t = R := if_neg (by rw [e1]; decide)
    rw [e1, e2, e3]
    clear e1 e2 e3 h
    rcases ht with ht | ht
    · go_enter Try.func13, Try.ntmps13
      go_wp2_with fail
      go_ret2
      exact ⟨rfl, H.out, .refl _ _⟩
    · have h1 : ¬ t < 1 := by omega
      have h2 : t > 30 := ht
      go_enter Try.func13, Try.ntmps13
      go_wp2_with fail
      go_ret2
      exact ⟨rfl, H.out, .refl _ _⟩
  have h1 : ¬ t < 1 := by omega
  have h2 : ¬ t > 30 := by omega
  have K22 := hide (where_any t w0 h)
  by_cases hw : whr R t ≠ -1
  · have e1 : putC R t = 2 := (if_neg ht).trans (if_pos hw)
    have e2 : putN R t = 0 := if_neg (by rw [e1]; decide)
    have e3 : putR R t = R := if_neg (by rw [e1]; decide)
    rw [e1, e2, e3]
    have j0 : (whr R t != -1) = true := bne_iff_ne.2 hw
    generalize whr R t = x at *
    clear e1 e2 e3 h ht hw
    go_enter Try.func13, Try.ntmps13
    go_wp2_with (go_at_call 22; refine K22.out.mono ?_; rintro e W1 ⟨rfl, hb⟩; have HB := hide hb; clear hb)
    go_ret2
    exact ⟨rfl, H.out.keep HB.out, Fr.of_below HB.out⟩
  have hw' : whr R t = -1 := Decidable.not_not.1 hw
  rw [hw'] at K22
  have h32 : R.length ≤ 32 := by rw [← h.len]; exact h.n32
  have K27 : Hid (∀ W, Below w0.heap.size w0 W → Calls Try.prog 27 #[.pointer (some ⟨r, 0, none⟩)] W fun e w' => ∃ a' c', e = .returned (.slice a' R.length c') ∧ ldE.Rd w' (.slice a' R.length c') (lds R) ∧ Below w0.heap.size w0 w') := hide (fun W hb => (loads_any W (H.out.keep hb)).mono (by
    rintro e w' ⟨a', c', rfl, ho, hb'⟩
    exact ⟨a', c', rfl, ho.rd, hb.trans (hb'.mono hb.size)⟩))
  have K26 : Hid (∀ (W : World) (a' : Option Addr) (c' : Nat), ldE.Rd W (.slice a' R.length c') (lds R) → Below w0.heap.size w0 W → Calls Try.prog 26 #[.slice a' R.length c', .int .i64 (-1)] W fun e w' => e = .returned (.int .i64 (bst (lds R) (-1))) ∧ Below w0.heap.size w0 w') := hide (fun W a' c' hr hb => (best_any a' _ c' (lds R) (-1) W (lds_len R) h32 hr).mono (by
    rintro e w' ⟨rfl, hb'⟩
    exact ⟨rfl, hb.trans (hb'.mono hb.size)⟩))
  have hB := bst_is (lds R) (-1)
  by_cases hb : bst (lds R) (-1) = -1
  · have e1 : putC R t = 5 := (if_neg ht).trans ((if_neg hw).trans (if_pos hb))
    have e2 : putN R t = 0 := if_neg (by rw [e1]; decide)
    have e3 : putR R t = R := if_neg (by rw [e1]; decide)
    rw [e1, e2, e3]
    rw [hb] at K26
    generalize R.length = n at *
    clear e1 e2 e3 h ht hw hw' hB hb
    go_enter Try.func13, Try.ntmps13
    go_wp2_with (first
      | (go_at_call 22; refine K22.out.mono ?_; rintro e W1 ⟨rfl, hb⟩; have HB := hide hb; clear hb)
      | (go_at_call 27; refine (K27.out _ HB.out).mono ?_; rintro e W2 ⟨a', c', rfl, hr, hb⟩; have HR := hide hr; have HB2 := hide hb; clear hr hb)
      | (go_at_call 26; refine (K26.out _ _ _ HR.out HB2.out).mono ?_; rintro e W3 ⟨rfl, hb⟩; have HB3 := hide hb; clear hb))
    go_ret2
    exact ⟨rfl, H.out.keep HB3.out, Fr.of_below HB3.out⟩
  rcases hB with ⟨hx, _⟩ | ⟨k, l, hk, hkl, hl, _, hl2, _⟩
  · exact absurd hx hb
  rw [lds_len] at hkl
  obtain ⟨L, hL⟩ : ∃ L, R[k]? = some L := ⟨_, List.getElem?_eq_getElem hkl⟩
  rw [lds_at hL] at hl
  cases hl
  simp only at hl2
  have e1 : putC R t = 0 := (if_neg ht).trans ((if_neg hw).trans (if_neg hb))
  have e2 : putN R t = k := (if_pos e1).trans hk
  have e3 : putR R t = R.set k (L.1, L.2 ++ [t]) := by
    unfold putR; rw [if_pos e1, hk, Int.toNat_natCast]; unfold addAt; rw [ln_at hL]
  rw [e1, e2, e3]
  rw [hk] at K26
  have hm : t ∉ L.2 := by
    rcases whr_form R t with ⟨_, h'⟩ | ⟨i, _, h', _⟩
    · exact h' k L hL
    · rw [h'] at hw'; omega
  have hp1 : pushC L.1 L.2 t = 0 := (if_neg ht).trans ((if_neg hm).trans (if_neg (by omega)))
  have hp2 : pushL L.1 L.2 t = L.2 ++ [t] := if_pos hp1
  obtain ⟨g, b, off, hg, rfl, _, _, _⟩ := h.lane hL
  have HX : Hid (∀ W, Below w0.heap.size w0 W → W.cell? ⟨r, 0, none⟩ = some (.slice (some ⟨b, off, none⟩) R.length c) ∧ W.cell? ⟨b, off + k, none⟩ = some (.pointer (some ⟨g, 0, none⟩)) ∧ Calls Try.prog 28 #[.pointer (some ⟨g, 0, none⟩), .int .i64 t] W fun e w' => e = .returned (.int .i64 0) ∧ Rk w' B r (some ⟨b, off, none⟩) c gs (R.set k (L.1, L.2 ++ [t])) ∧ Fr B w0 w') := hide (fun W hb => by
    have h' := H.out.keep hb
    obtain ⟨g', b', off', hg', e', c1, hLn, _⟩ := h'.lane hL
    cases e'
    rw [hg] at hg'
    cases hg'
    refine ⟨h'.cell, c1, (push_any t W hLn).mono ?_⟩
    rintro e w' ⟨rfl, hn, hgr⟩
    rw [hp2] at hn
    obtain ⟨h1, h2⟩ := h'.put hL hg hn hgr
    exact ⟨by rw [hp1], h1, (Fr.of_below hb).trans h2⟩)
  have q0 : ((k : Int) == -1) = false := beq_eq_false_iff_ne.2 (by omega)
  have q1 : (0 : Int) ≤ (k : Int) := by omega
  have q2 : (k : Int) < (R.length : Int) := by omega
  generalize R.length = n at *
  generalize R.set k (L.1, L.2 ++ [t]) = R' at *
  clear e1 e2 e3 h ht hw hw' hk hl2 hL hb hm hp1 hp2 hg H
  go_enter Try.func13, Try.ntmps13
  go_upto_region 8 with (first
    | (go_at_call 22; refine K22.out.mono ?_; rintro e W1 ⟨rfl, hb⟩; have HB := hide hb; clear hb)
    | (go_at_call 27; refine (K27.out _ HB.out).mono ?_; rintro e W2 ⟨a', c', rfl, hr, hb⟩; have HR := hide hr; have HB2 := hide hb; clear hr hb)
    | (go_at_call 26; refine (K26.out _ _ _ HR.out HB2.out).mono ?_; rintro e W3 ⟨rfl, hb⟩; have HB3 := hide hb; clear hb))
  obtain ⟨c0, c1, K28'⟩ := HX.out W3 HB3.out
  have K28 := hide K28'
  clear K28'
  go_wp2_with (go_at_call 28; refine K28.out.mono ?_; rintro e W4 ⟨rfl, hR, hF⟩; have HR4 := hide hR; have HF4 := hide hF; clear hR hF)
  go_ret2
  exact ⟨rfl, HR4.out, HF4.out⟩
end

def mvE : El Try.prog Mv where
  t := 41
  e := 50
  k := 3
  by' := 24
  z := .agg #[.int .i64 0, .int .i64 0, .int .i64 0]
  enc m := [.int .i64 m.t, .int .i64 m.f, .int .i64 m.o]
  ht := Try.underlying41
  info := by kernel_rfl
  zc := rfl
  kpos := by omega
  bsm := by omega
  len _ := rfl
  one x v hv := by simp at hv; rcases hv with rfl | rfl | rfl <;> rfl
theorem mv_at {w : World} {a : Option Addr} {n c : Nat} {ms : List Mv} (h : mvE.Rd w (.slice a n c) ms) (i : Nat) (m : Mv) (hp : ms[i]? = some m) : ∃ b off, a = some ⟨b, off, none⟩ ∧ w.cell? ⟨b, off + i * 3, none⟩ = some (.int .i64 m.t) ∧ w.cell? ⟨b, off + i * 3 + 1, none⟩ = some (.int .i64 m.f) ∧ w.cell? ⟨b, off + i * 3 + 2, none⟩ = some (.int .i64 m.o) := by
  obtain ⟨b, off, e, hc⟩ := El.Rd.at h i m hp
  exact ⟨b, off, e, hc 0 (by decide), hc 1 (by decide), hc 2 (by decide)⟩
theorem mv_new (w : World) (t f o : Int) (g : Nat) (hg : g = w.heap.size) : mvE.Rd (w.alloc (.cells #[.int .i64 t, .int .i64 f, .int .i64 o] 50)) (.slice (some ⟨g, 0, none⟩) 1 1) [⟨t, f, o⟩] :=
  (El.Own.new mvE w w.heap.size (Nat.le_refl _) _ [⟨t, f, o⟩] rfl (by simp) _ _ _ hg rfl rfl).rd
end Go.Proofs.Ytddcjkbdgneklaa
