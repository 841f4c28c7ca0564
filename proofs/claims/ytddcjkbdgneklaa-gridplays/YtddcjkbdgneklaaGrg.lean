/- Do, behind its checks of the places. -/
import Derived.Test.YtddcjkbdgneklaaGrf
namespace Go.Proofs.Ytddcjkbdgneklaa
open Go.RowKit
set_option linter.unusedVariables false

section
variable {B r : Nat} {b off : Nat} {c : Nat} {gs : List Nat} {R : Rack}
/-- the cells that Do reads -/
def DoS (r b off n c gm i g : Nat) (t f o : Int) (W : World) : Prop := W.cell? ⟨r, 0, none⟩ = some (.slice (some ⟨b, off, none⟩) n c) ∧ W.cell? ⟨gm, 0, none⟩ = some (.int .i64 t) ∧ W.cell? ⟨gm, 1, none⟩ = some (.int .i64 f) ∧ W.cell? ⟨gm, 2, none⟩ = some (.int .i64 o) ∧ W.cell? ⟨b, off + i, none⟩ = some (.pointer (some ⟨g, 0, none⟩))

theorem DoW.dos {w W : World} {gm : Nat} {t f o : Int} (h : DoW w B r (some ⟨b, off, none⟩) c gs R gm t f o W) {i n g : Nat} {l : Nat × List Int} (hl : R[i]? = some l) (hg : gs[i]? = some g) (hn : R.length = n) : DoS r b off n c gm i g t f o W ∧ Ln W g l.1 l.2 := by
  obtain ⟨c0, c1, c2, c3⟩ := h.cells
  obtain ⟨g', b', off', hg', e', c4, hL, _⟩ := h.rk.lane hl
  cases e'
  rw [hg] at hg'
  cases hg'
  rw [hn] at c3
  exact ⟨⟨c3, c0, c1, c2, c4⟩, hL⟩
/-- a lane of the rack changes -/
theorem DoW.put {w W W' : World} {a : Option Addr} {gm : Nat} {t f o : Int} (h : DoW w B r a c gs R gm t f o W) {i g : Nat} {l : Nat × List Int} {ys : List Int} (hl : R[i]? = some l) (hg : gs[i]? = some g) (hn : Ln W' g l.1 ys) (hb : W.grownBy W' (some g)) : DoW w B r a c gs (R.set i (l.1, ys)) gm t f o W' := by
  obtain ⟨h1, h2⟩ := h.rk.put hl hg hn hb
  exact ⟨h.fr.trans h2, h1, h2.other h.bx (by decide)⟩

set_option maxRecDepth 100000 in
set_option maxHeartbeats 8000000 in
theorem do_tote (t o : Int) (i : Nat) (l : Nat × List Int) (w : World) (h : Rk w B r (some ⟨b, off, none⟩) c gs R) (hl : R[i]? = some l) (ho : o = -1 ∨ (0 ≤ o ∧ o < (R.length : Int) ∧ (i : Int) ≠ o)) (ht : l.2.getLast? ≠ some t) :
    Calls Try.prog 18 #[.pointer (some ⟨r, 0, none⟩), .agg #[.int .i64 t, .int .i64 i, .int .i64 o]] w fun e w' => e = .returned (.int .i64 160) ∧ Rk w' B r (some ⟨b, off, none⟩) c gs R ∧ Fr B w w' := by
  obtain ⟨w0, rfl⟩ : ∃ w0, w0 = w := ⟨_, rfl⟩
  have HD := hide (dow_new w0 h t i o)
  obtain ⟨g, hg⟩ : ∃ g, gs[i]? = some g := ⟨_, List.getElem?_eq_getElem (by rw [h.len]; exact idx_lt hl)⟩
  obtain ⟨n, hn⟩ : ∃ n, R.length = n := ⟨_, rfl⟩
  obtain ⟨hs, hhs⟩ : ∃ hs : Int → Bool, ∀ i, hs i = decide (0 ≤ i ∧ i < (R.length : Int)) := ⟨_, fun _ => rfl⟩
  obtain ⟨gm, hgm⟩ : ∃ gm, w0.heap.size = gm := ⟨_, rfl⟩
  rw [hgm] at HD
  have K35 : Hid (∀ (W : World) (i' : Int), DoW w0 B r (some ⟨b, off, none⟩) c gs R gm t i o W → Calls Try.prog 35 #[.pointer (some ⟨r, 0, none⟩), .int .i64 i'] W fun e w' => e = .returned (.bool (hs i')) ∧ w' = W) := hide (fun W i h => by rw [hhs]; exact has_any i W h.rk)
  have hil : i < n := by rw [← hn]; exact idx_lt hl
  have b1 : hs (i : Int) = true := by rw [hhs]; exact decide_eq_true ⟨by omega, by omega⟩
  obtain ⟨c3, c0, c1, c2, c4⟩ := (HD.out.dos hl hg hn).1
  have SI : Hid (∀ W, DoW w0 B r (some ⟨b, off, none⟩) c gs R gm t i o W → DoS r b off n c gm i g t i o W) := hide (fun W h => (h.dos hl hg hn).1)
  have SD : Hid (∀ W, DoS r b off n c gm i g t i o W → W.cell? ⟨r, 0, none⟩ = some (.slice (some ⟨b, off, none⟩) n c) ∧ W.cell? ⟨gm, 0, none⟩ = some (.int .i64 t) ∧ W.cell? ⟨gm, 1, none⟩ = some (.int .i64 i) ∧ W.cell? ⟨gm, 2, none⟩ = some (.int .i64 o) ∧ W.cell? ⟨b, off + i, none⟩ = some (.pointer (some ⟨g, 0, none⟩))) := hide (fun W h => h)
  have K33 : Hid (∀ W, DoW w0 B r (some ⟨b, off, none⟩) c gs R gm t i o W → Calls Try.prog 33 #[.pointer (some ⟨g, 0, none⟩), .int .i64 t] W fun e w' => ∃ a' c', e = .returned (.tuple #[.slice a' (ahN l.2 t) c', .int .i64 (ahC l.2 t)]) ∧ DoW w0 B r (some ⟨b, off, none⟩) c gs R gm t i o w') := hide (fun W h => (ahead_any t W (h.dos hl hg hn).2).mono (by
    rintro e w' ⟨a', c', rfl, hb⟩
    exact ⟨a', c', rfl, h.keep hb⟩))
  have q0 : (0 : Int) ≤ (i : Int) := by omega
  have q1 : (i : Int) < (n : Int) := by omega
  have hoo : (o != -1) = false ∨ (o != -1) = true ∧ hs o = true ∧ ((i : Int) == o) = false := by
    rcases ho with ho | ⟨h1, h2, h3⟩
    · left; rw [ho]; rfl
    · right; exact ⟨bne_iff_ne.2 (by omega), by rw [hhs]; exact decide_eq_true ⟨h1, h2⟩, beq_eq_false_iff_ne.2 h3⟩
  have hio : ((i : Int) == o) = false := by
    rcases ho with ho | ⟨h1, h2, h3⟩
    · rw [ho]; exact beq_eq_false_iff_ne.2 (by omega)
    · exact beq_eq_false_iff_ne.2 h3
  have hah := ah_no ht
  generalize ahC l.2 t = ac at *
  generalize ahN l.2 t = an at *
  have hac : (ac != 0) = true ∨ (ac != 0) = false ∧ (an : Int) > 0 := by
    by_cases e : ac = 0
    · right; subst e; exact ⟨rfl, by rcases hah with h | h; exact absurd rfl h; omega⟩
    · left; exact bne_iff_ne.2 e
  clear h hl ho ht hg hn hhs hil hah
  obtain ⟨S0, hS0⟩ : ∃ S : World → Prop, S = DoS r b off n c gm i g t i o := ⟨_, rfl⟩
  rw [← hS0] at SI SD
  clear hS0
  go_enter Try.func18, Try.ntmps18
  go_upto_region 1 with fail
  try rw [hgm]
  clear hgm
  generalize w0.alloc (.cells #[.int .i64 t, .int .i64 i, .int .i64 o] 50) = W1 at *
  rcases hoo with hoo | ⟨hoo, ho2, _⟩
  all_goals
    go_upto_region 3 with (go_at_call 35; refine (K35.out _ _ HD.out).mono ?_; rintro e W2 ⟨rfl, rfl⟩)
    refine wp_region_held_drew (S := S0) (by kernel_rfl) (SI.out _ (HD.out.drewN 1)) (fun hS0 => ?_)
    refine wpAnyH_take (i := 0) (v := .pointer (some ⟨r, 0, none⟩)) rfl (by kernel_rfl) (by kernel_rfl) (by kernel_rfl) (fun _ _ _ h => h) (Or.inl ⟨by rfl, fun W' hW => by go_simp⟩) hS0 ?_
    refine wpAnyH_take (i := 1) (v := .pointer (some ⟨r, 0, none⟩)) rfl (by kernel_rfl) (by kernel_rfl) (by kernel_rfl) (fun _ _ _ h => h) (Or.inl ⟨by rfl, fun W' hW => by go_simp⟩) hS0 ?_
    refine wpAnyH_take (i := 2) (v := .pointer (some ⟨r, 0, none⟩)) rfl (by kernel_rfl) (by kernel_rfl) (by kernel_rfl) (fun _ _ _ h => h) (Or.inl ⟨by rfl, fun W' hW => by go_simp⟩) hS0 ?_
    refine wpAnyH_take (i := 3) (v := .slice (some ⟨b, off, none⟩) n c) rfl (by kernel_rfl) (by kernel_rfl) (by kernel_rfl) (fun _ _ _ h => h) (Or.inl ⟨by rfl, fun W' hW => by have z0 := SD.out W' hW; go_simp⟩) hS0 ?_
    refine wpAnyH_take (i := 4) (v := .pointer (some ⟨gm, 1, none⟩)) rfl (by kernel_rfl) (by kernel_rfl) (by kernel_rfl) (fun _ _ _ h => h) (Or.inl ⟨by rfl, fun W' hW => by go_simp⟩) hS0 ?_
    refine wpAnyH_take (i := 5) (v := .int .i64 (i : Int)) rfl (by kernel_rfl) (by kernel_rfl) (by kernel_rfl) (fun _ _ _ h => h) (Or.inl ⟨by rfl, fun W' hW => by have z0 := SD.out W' hW; go_simp⟩) hS0 ?_
    refine wpAnyH_take (i := 6) (v := .pointer (some ⟨b, off + i, none⟩)) rfl (by kernel_rfl) (by kernel_rfl) (by kernel_rfl) (fun _ _ _ h => h) (Or.inl ⟨by rfl, fun W' hW => by go_simp⟩) hS0 ?_
    refine wpAnyH_take (i := 7) (v := .pointer (some ⟨g, 0, none⟩)) rfl (by kernel_rfl) (by kernel_rfl) (by kernel_rfl) (fun _ _ _ h => h) (Or.inl ⟨by rfl, fun W' hW => by have z0 := SD.out W' hW; go_simp⟩) hS0 ?_
    refine wpAnyH_take (i := 8) (v := .pointer (some ⟨gm, 0, none⟩)) rfl (by kernel_rfl) (by kernel_rfl) (by kernel_rfl) (fun _ _ _ h => h) (Or.inl ⟨by rfl, fun W' hW => by go_simp⟩) hS0 ?_
    refine wpAnyH_take (i := 9) (v := .int .i64 t) rfl (by kernel_rfl) (by kernel_rfl) (by kernel_rfl) (fun _ _ _ h => h) (Or.inl ⟨by rfl, fun W' hW => by have z0 := SD.out W' hW; go_simp⟩) hS0 ?_
    refine wpAnyH_ready (rs := [10]) (by kernel_rfl) (by simp) ?_
    refine AllReadyH.cons rfl (fun K hK => ?_) AllReadyH.nil
    go_simp
    go_at_call 33
    refine (K33.out _ (HD.out.drewN 1)).mono ?_
    rintro e W4 ⟨a', c', rfl, hd⟩
    have HD4 := hide hd; clear hd
    go_simp
    refine hK.out _ _ (SI.out _ HD4.out) (fun _ => ?_)
    clear hK K
    refine wpAnyH_ready (rs := [11]) (by kernel_rfl) (by simp) ?_
    refine AllReadyH.cons rfl (fun K hK => ?_) AllReadyH.nil
    go_simp
    refine hK.out _ _ (SI.out _ HD4.out) (fun _ => ?_)
    clear hK K
    refine wpAnyH_take (i := 12) (v := .slice a' an c') rfl (by kernel_rfl) (by kernel_rfl) (by kernel_rfl) (fun _ _ _ h => h) (Or.inl ⟨by rfl, fun W' hW => by go_simp⟩) (SI.out _ HD4.out) ?_
    refine wpAnyH_take (i := 13) (v := .int .i64 ac) rfl (by kernel_rfl) (by kernel_rfl) (by kernel_rfl) (fun _ _ _ h => h) (Or.inl ⟨by rfl, fun W' hW => by go_simp⟩) (SI.out _ HD4.out) ?_
    refine wpAnyH_take (i := 14) (v := .slice a' an c') rfl (by kernel_rfl) (by kernel_rfl) (by kernel_rfl) (fun _ _ _ h => h) (Or.inl ⟨by rfl, fun W' hW => by go_simp⟩) (SI.out _ HD4.out) ?_
    refine wpAnyH_take (i := 15) (v := .int .i64 ac) rfl (by kernel_rfl) (by kernel_rfl) (by kernel_rfl) (fun _ _ _ h => h) (Or.inl ⟨by rfl, fun W' hW => by go_simp⟩) (SI.out _ HD4.out) ?_
    refine wpAnyH_done (by kernel_rfl) ?_ _
    rcases hac with hac | ⟨hac, hac2⟩
    all_goals
      go_wp2_with fail
      go_ret
      exact ⟨rfl, HD4.out.rk, HD4.out.fr⟩

set_option maxRecDepth 100000 in
set_option maxHeartbeats 8000000 in
theorem do_out (t : Int) (i : Nat) (l : Nat × List Int) (w : World) (h : Rk w B r (some ⟨b, off, none⟩) c gs R) (hl : R[i]? = some l) (ht : l.2.getLast? = some t) (hnd : l.2.Nodup) :
    Calls Try.prog 18 #[.pointer (some ⟨r, 0, none⟩), .agg #[.int .i64 t, .int .i64 i, .int .i64 (-1)]] w fun e w' => e = .returned (.int .i64 0) ∧ Rk w' B r (some ⟨b, off, none⟩) c gs (R.set i (l.1, l.2.dropLast)) ∧ Fr B w w' := by
  obtain ⟨o, ho0⟩ : ∃ o : Int, o = -1 := ⟨_, rfl⟩
  have ho : o = -1 ∨ (0 ≤ o ∧ o < (R.length : Int) ∧ (i : Int) ≠ o) := .inl ho0
  rw [← ho0]
  obtain ⟨w0, rfl⟩ : ∃ w0, w0 = w := ⟨_, rfl⟩
  have HD := hide (dow_new w0 h t i o)
  obtain ⟨g, hg⟩ : ∃ g, gs[i]? = some g := ⟨_, List.getElem?_eq_getElem (by rw [h.len]; exact idx_lt hl)⟩
  obtain ⟨n, hn⟩ : ∃ n, R.length = n := ⟨_, rfl⟩
  obtain ⟨hs, hhs⟩ : ∃ hs : Int → Bool, ∀ i, hs i = decide (0 ≤ i ∧ i < (R.length : Int)) := ⟨_, fun _ => rfl⟩
  obtain ⟨gm, hgm⟩ : ∃ gm, w0.heap.size = gm := ⟨_, rfl⟩
  rw [hgm] at HD
  have K35 : Hid (∀ (W : World) (i' : Int), DoW w0 B r (some ⟨b, off, none⟩) c gs R gm t i o W → Calls Try.prog 35 #[.pointer (some ⟨r, 0, none⟩), .int .i64 i'] W fun e w' => e = .returned (.bool (hs i')) ∧ w' = W) := hide (fun W i h => by rw [hhs]; exact has_any i W h.rk)
  have hil : i < n := by rw [← hn]; exact idx_lt hl
  have b1 : hs (i : Int) = true := by rw [hhs]; exact decide_eq_true ⟨by omega, by omega⟩
  obtain ⟨c3, c0, c1, c2, c4⟩ := (HD.out.dos hl hg hn).1
  have SI : Hid (∀ W, DoW w0 B r (some ⟨b, off, none⟩) c gs R gm t i o W → DoS r b off n c gm i g t i o W) := hide (fun W h => (h.dos hl hg hn).1)
  have SD : Hid (∀ W, DoS r b off n c gm i g t i o W → W.cell? ⟨r, 0, none⟩ = some (.slice (some ⟨b, off, none⟩) n c) ∧ W.cell? ⟨gm, 0, none⟩ = some (.int .i64 t) ∧ W.cell? ⟨gm, 1, none⟩ = some (.int .i64 i) ∧ W.cell? ⟨gm, 2, none⟩ = some (.int .i64 o) ∧ W.cell? ⟨b, off + i, none⟩ = some (.pointer (some ⟨g, 0, none⟩))) := hide (fun W h => h)
  have K33 : Hid (∀ W, DoW w0 B r (some ⟨b, off, none⟩) c gs R gm t i o W → Calls Try.prog 33 #[.pointer (some ⟨g, 0, none⟩), .int .i64 t] W fun e w' => ∃ a' c', e = .returned (.tuple #[.slice a' (ahN l.2 t) c', .int .i64 (ahC l.2 t)]) ∧ DoW w0 B r (some ⟨b, off, none⟩) c gs R gm t i o w') := hide (fun W h => (ahead_any t W (h.dos hl hg hn).2).mono (by
    rintro e w' ⟨a', c', rfl, hb⟩
    exact ⟨a', c', rfl, h.keep hb⟩))
  have q0 : (0 : Int) ≤ (i : Int) := by omega
  have q1 : (i : Int) < (n : Int) := by omega
  have hoo : (o != -1) = false ∨ (o != -1) = true ∧ hs o = true ∧ ((i : Int) == o) = false := by
    rcases ho with ho | ⟨h1, h2, h3⟩
    · left; rw [ho]; rfl
    · right; exact ⟨bne_iff_ne.2 (by omega), by rw [hhs]; exact decide_eq_true ⟨h1, h2⟩, beq_eq_false_iff_ne.2 h3⟩
  have hio : ((i : Int) == o) = false := by
    rcases ho with ho | ⟨h1, h2, h3⟩
    · rw [ho]; exact beq_eq_false_iff_ne.2 (by omega)
    · exact beq_eq_false_iff_ne.2 h3
  have hah := ah_mouth hnd ht
  obtain ⟨hm, hloc⟩ := loc_last hnd ht
  have htk : takeC l.2 t = 0 := (if_neg (fun h => h hm)).trans (if_neg (fun h => h hloc))
  have htl : takeL l.2 t = l.2.dropLast := if_pos htk
  rw [hah.1, hah.2] at K33
  have K37 : Hid (∀ W, DoW w0 B r (some ⟨b, off, none⟩) c gs R gm t i o W → Calls Try.prog 37 #[.pointer (some ⟨g, 0, none⟩), .int .i64 t] W fun e w' => e = .returned (.int .i64 0) ∧ DoW w0 B r (some ⟨b, off, none⟩) c gs (R.set i (l.1, l.2.dropLast)) gm t i o w') := hide (fun W h => (take_any t W (h.dos hl hg hn).2).mono (by
    rintro e w' ⟨rfl, h1, h2⟩
    rw [htl] at h1
    exact ⟨by rw [htk], h.put hl hg h1 h2⟩))
  have hset : (R.set i (l.1, l.2.dropLast))[i]? = some (l.1, l.2.dropLast) := set_at hl
  have SI2 : Hid (∀ W, DoW w0 B r (some ⟨b, off, none⟩) c gs (R.set i (l.1, l.2.dropLast)) gm t i o W → DoS r b off n c gm i g t i o W) := hide (fun W h => (h.dos hset hg (by rw [List.length_set]; exact hn)).1)
  have hoo1 : (o != -1) = false := by rw [ho0]; rfl
  generalize R.set i (l.1, l.2.dropLast) = R' at *
  clear h hl ho ht hg hn hhs hil hah hoo hm hloc htk htl hnd hset ho0
  obtain ⟨S0, hS0⟩ : ∃ S : World → Prop, S = DoS r b off n c gm i g t i o := ⟨_, rfl⟩
  rw [← hS0] at SI SD SI2
  clear hS0
  go_enter Try.func18, Try.ntmps18
  go_upto_region 1 with fail
  try rw [hgm]
  clear hgm
  generalize w0.alloc (.cells #[.int .i64 t, .int .i64 i, .int .i64 o] 50) = W1 at *
  go_upto_region 3 with (go_at_call 35; refine (K35.out _ _ HD.out).mono ?_; rintro e W2 ⟨rfl, rfl⟩)
  refine wp_region_held_drew (S := S0) (by kernel_rfl) (SI.out _ (HD.out.drewN 1)) (fun hS0 => ?_)
  refine wpAnyH_take (i := 0) (v := .pointer (some ⟨r, 0, none⟩)) rfl (by kernel_rfl) (by kernel_rfl) (by kernel_rfl) (fun _ _ _ h => h) (Or.inl ⟨by rfl, fun W' hW => by go_simp⟩) hS0 ?_
  refine wpAnyH_take (i := 1) (v := .pointer (some ⟨r, 0, none⟩)) rfl (by kernel_rfl) (by kernel_rfl) (by kernel_rfl) (fun _ _ _ h => h) (Or.inl ⟨by rfl, fun W' hW => by go_simp⟩) hS0 ?_
  refine wpAnyH_take (i := 2) (v := .pointer (some ⟨r, 0, none⟩)) rfl (by kernel_rfl) (by kernel_rfl) (by kernel_rfl) (fun _ _ _ h => h) (Or.inl ⟨by rfl, fun W' hW => by go_simp⟩) hS0 ?_
  refine wpAnyH_take (i := 3) (v := .slice (some ⟨b, off, none⟩) n c) rfl (by kernel_rfl) (by kernel_rfl) (by kernel_rfl) (fun _ _ _ h => h) (Or.inl ⟨by rfl, fun W' hW => by have z0 := SD.out W' hW; go_simp⟩) hS0 ?_
  refine wpAnyH_take (i := 4) (v := .pointer (some ⟨gm, 1, none⟩)) rfl (by kernel_rfl) (by kernel_rfl) (by kernel_rfl) (fun _ _ _ h => h) (Or.inl ⟨by rfl, fun W' hW => by go_simp⟩) hS0 ?_
  refine wpAnyH_take (i := 5) (v := .int .i64 (i : Int)) rfl (by kernel_rfl) (by kernel_rfl) (by kernel_rfl) (fun _ _ _ h => h) (Or.inl ⟨by rfl, fun W' hW => by have z0 := SD.out W' hW; go_simp⟩) hS0 ?_
  refine wpAnyH_take (i := 6) (v := .pointer (some ⟨b, off + i, none⟩)) rfl (by kernel_rfl) (by kernel_rfl) (by kernel_rfl) (fun _ _ _ h => h) (Or.inl ⟨by rfl, fun W' hW => by go_simp⟩) hS0 ?_
  refine wpAnyH_take (i := 7) (v := .pointer (some ⟨g, 0, none⟩)) rfl (by kernel_rfl) (by kernel_rfl) (by kernel_rfl) (fun _ _ _ h => h) (Or.inl ⟨by rfl, fun W' hW => by have z0 := SD.out W' hW; go_simp⟩) hS0 ?_
  refine wpAnyH_take (i := 8) (v := .pointer (some ⟨gm, 0, none⟩)) rfl (by kernel_rfl) (by kernel_rfl) (by kernel_rfl) (fun _ _ _ h => h) (Or.inl ⟨by rfl, fun W' hW => by go_simp⟩) hS0 ?_
  refine wpAnyH_take (i := 9) (v := .int .i64 t) rfl (by kernel_rfl) (by kernel_rfl) (by kernel_rfl) (fun _ _ _ h => h) (Or.inl ⟨by rfl, fun W' hW => by have z0 := SD.out W' hW; go_simp⟩) hS0 ?_
  refine wpAnyH_ready (rs := [10]) (by kernel_rfl) (by simp) ?_
  refine AllReadyH.cons rfl (fun K hK => ?_) AllReadyH.nil
  go_simp
  go_at_call 33
  refine (K33.out _ (HD.out.drewN 1)).mono ?_
  rintro e W4 ⟨a', c', rfl, hd⟩
  have HD4 := hide hd; clear hd
  go_simp
  refine hK.out _ _ (SI.out _ HD4.out) (fun _ => ?_)
  clear hK K
  refine wpAnyH_ready (rs := [11]) (by kernel_rfl) (by simp) ?_
  refine AllReadyH.cons rfl (fun K hK => ?_) AllReadyH.nil
  go_simp
  refine hK.out _ _ (SI.out _ HD4.out) (fun _ => ?_)
  clear hK K
  refine wpAnyH_take (i := 12) (v := .slice a' 0 c') rfl (by kernel_rfl) (by kernel_rfl) (by kernel_rfl) (fun _ _ _ h => h) (Or.inl ⟨by rfl, fun W' hW => by go_simp⟩) (SI.out _ HD4.out) ?_
  refine wpAnyH_take (i := 13) (v := .int .i64 0) rfl (by kernel_rfl) (by kernel_rfl) (by kernel_rfl) (fun _ _ _ h => h) (Or.inl ⟨by rfl, fun W' hW => by go_simp⟩) (SI.out _ HD4.out) ?_
  refine wpAnyH_take (i := 14) (v := .slice a' 0 c') rfl (by kernel_rfl) (by kernel_rfl) (by kernel_rfl) (fun _ _ _ h => h) (Or.inl ⟨by rfl, fun W' hW => by go_simp⟩) (SI.out _ HD4.out) ?_
  refine wpAnyH_take (i := 15) (v := .int .i64 0) rfl (by kernel_rfl) (by kernel_rfl) (by kernel_rfl) (fun _ _ _ h => h) (Or.inl ⟨by rfl, fun W' hW => by go_simp⟩) (SI.out _ HD4.out) ?_
  refine wpAnyH_done (by kernel_rfl) ?_ _
  obtain ⟨d3, d0, d1, d2, d4⟩ := SD.out _ (SI.out _ HD4.out)
  go_upto_region 6 with fail
  go_quiet (fail)
  obtain ⟨q6, hq6⟩ : ∃ q : Nat, q = nq := ⟨_, rfl⟩
  have HD5 := hide (HD4.out.drewN nq)
  obtain ⟨e3, e0, e1, e2, e4⟩ := SD.out _ (SI.out _ HD5.out)
  clear hq6
  go_upto_region 8 with fail
  refine wp_region_held_drew (S := S0) (by kernel_rfl) (SI.out _ (HD5.out.drewN 1)) (fun hS0 => ?_)
  refine wpAnyH_take (i := 0) (v := .pointer (some ⟨r, 0, none⟩)) rfl (by kernel_rfl) (by kernel_rfl) (by kernel_rfl) (fun _ _ _ h => h) (Or.inl ⟨by rfl, fun W' hW => by go_simp⟩) hS0 ?_
  refine wpAnyH_take (i := 1) (v := .pointer (some ⟨r, 0, none⟩)) rfl (by kernel_rfl) (by kernel_rfl) (by kernel_rfl) (fun _ _ _ h => h) (Or.inl ⟨by rfl, fun W' hW => by go_simp⟩) hS0 ?_
  refine wpAnyH_take (i := 2) (v := .pointer (some ⟨r, 0, none⟩)) rfl (by kernel_rfl) (by kernel_rfl) (by kernel_rfl) (fun _ _ _ h => h) (Or.inl ⟨by rfl, fun W' hW => by go_simp⟩) hS0 ?_
  refine wpAnyH_take (i := 3) (v := .slice (some ⟨b, off, none⟩) n c) rfl (by kernel_rfl) (by kernel_rfl) (by kernel_rfl) (fun _ _ _ h => h) (Or.inl ⟨by rfl, fun W' hW => by have z0 := SD.out W' hW; go_simp⟩) hS0 ?_
  refine wpAnyH_take (i := 4) (v := .pointer (some ⟨gm, 1, none⟩)) rfl (by kernel_rfl) (by kernel_rfl) (by kernel_rfl) (fun _ _ _ h => h) (Or.inl ⟨by rfl, fun W' hW => by go_simp⟩) hS0 ?_
  refine wpAnyH_take (i := 5) (v := .int .i64 (i : Int)) rfl (by kernel_rfl) (by kernel_rfl) (by kernel_rfl) (fun _ _ _ h => h) (Or.inl ⟨by rfl, fun W' hW => by have z0 := SD.out W' hW; go_simp⟩) hS0 ?_
  refine wpAnyH_take (i := 6) (v := .pointer (some ⟨b, off + i, none⟩)) rfl (by kernel_rfl) (by kernel_rfl) (by kernel_rfl) (fun _ _ _ h => h) (Or.inl ⟨by rfl, fun W' hW => by go_simp⟩) hS0 ?_
  refine wpAnyH_take (i := 7) (v := .pointer (some ⟨g, 0, none⟩)) rfl (by kernel_rfl) (by kernel_rfl) (by kernel_rfl) (fun _ _ _ h => h) (Or.inl ⟨by rfl, fun W' hW => by have z0 := SD.out W' hW; go_simp⟩) hS0 ?_
  refine wpAnyH_take (i := 8) (v := .pointer (some ⟨gm, 0, none⟩)) rfl (by kernel_rfl) (by kernel_rfl) (by kernel_rfl) (fun _ _ _ h => h) (Or.inl ⟨by rfl, fun W' hW => by go_simp⟩) hS0 ?_
  refine wpAnyH_take (i := 9) (v := .int .i64 t) rfl (by kernel_rfl) (by kernel_rfl) (by kernel_rfl) (fun _ _ _ h => h) (Or.inl ⟨by rfl, fun W' hW => by have z0 := SD.out W' hW; go_simp⟩) hS0 ?_
  refine wpAnyH_ready (rs := [10]) (by kernel_rfl) (by simp) ?_
  refine AllReadyH.cons rfl (fun K hK => ?_) AllReadyH.nil
  go_simp
  go_at_call 37
  refine (K37.out _ (HD5.out.drewN 1)).mono ?_
  rintro e W6 ⟨rfl, hd⟩
  have HD6 := hide hd; clear hd
  go_simp
  refine hK.out _ _ (SI2.out _ HD6.out) (fun _ => ?_)
  clear hK K
  refine wpAnyH_done (by kernel_rfl) ?_ _
  obtain ⟨x3, x0, x1, x2, x4⟩ := SD.out _ (SI2.out _ HD6.out)
  go_wp2_with fail
  go_ret
  exact ⟨rfl, HD6.out.rk, HD6.out.fr⟩

set_option maxRecDepth 100000 in
set_option maxHeartbeats 8000000 in
theorem do_full (t : Int) (i j : Nat) (l m : Nat × List Int) (w : World) (h : Rk w B r (some ⟨b, off, none⟩) c gs R) (hl : R[i]? = some l) (hj : R[j]? = some m) (hij : i ≠ j) (ht : l.2.getLast? = some t) (hnd : l.2.Nodup) (hm2 : m.1 ≤ m.2.length) :
    Calls Try.prog 18 #[.pointer (some ⟨r, 0, none⟩), .agg #[.int .i64 t, .int .i64 i, .int .i64 j]] w fun e w' => e = .returned (.int .i64 5) ∧ Rk w' B r (some ⟨b, off, none⟩) c gs R ∧ Fr B w w' := by
  obtain ⟨o, ho0⟩ : ∃ o : Int, o = (j : Int) := ⟨_, rfl⟩
  have ho : o = -1 ∨ (0 ≤ o ∧ o < (R.length : Int) ∧ (i : Int) ≠ o) := .inr (by have := idx_lt hj; omega)
  rw [← ho0]
  obtain ⟨w0, rfl⟩ : ∃ w0, w0 = w := ⟨_, rfl⟩
  have HD := hide (dow_new w0 h t i o)
  obtain ⟨g, hg⟩ : ∃ g, gs[i]? = some g := ⟨_, List.getElem?_eq_getElem (by rw [h.len]; exact idx_lt hl)⟩
  obtain ⟨n, hn⟩ : ∃ n, R.length = n := ⟨_, rfl⟩
  obtain ⟨hs, hhs⟩ : ∃ hs : Int → Bool, ∀ i, hs i = decide (0 ≤ i ∧ i < (R.length : Int)) := ⟨_, fun _ => rfl⟩
  obtain ⟨gm, hgm⟩ : ∃ gm, w0.heap.size = gm := ⟨_, rfl⟩
  rw [hgm] at HD
  have K35 : Hid (∀ (W : World) (i' : Int), DoW w0 B r (some ⟨b, off, none⟩) c gs R gm t i o W → Calls Try.prog 35 #[.pointer (some ⟨r, 0, none⟩), .int .i64 i'] W fun e w' => e = .returned (.bool (hs i')) ∧ w' = W) := hide (fun W i h => by rw [hhs]; exact has_any i W h.rk)
  have hil : i < n := by rw [← hn]; exact idx_lt hl
  have b1 : hs (i : Int) = true := by rw [hhs]; exact decide_eq_true ⟨by omega, by omega⟩
  obtain ⟨c3, c0, c1, c2, c4⟩ := (HD.out.dos hl hg hn).1
  have SI : Hid (∀ W, DoW w0 B r (some ⟨b, off, none⟩) c gs R gm t i o W → DoS r b off n c gm i g t i o W) := hide (fun W h => (h.dos hl hg hn).1)
  have SD : Hid (∀ W, DoS r b off n c gm i g t i o W → W.cell? ⟨r, 0, none⟩ = some (.slice (some ⟨b, off, none⟩) n c) ∧ W.cell? ⟨gm, 0, none⟩ = some (.int .i64 t) ∧ W.cell? ⟨gm, 1, none⟩ = some (.int .i64 i) ∧ W.cell? ⟨gm, 2, none⟩ = some (.int .i64 o) ∧ W.cell? ⟨b, off + i, none⟩ = some (.pointer (some ⟨g, 0, none⟩))) := hide (fun W h => h)
  have K33 : Hid (∀ W, DoW w0 B r (some ⟨b, off, none⟩) c gs R gm t i o W → Calls Try.prog 33 #[.pointer (some ⟨g, 0, none⟩), .int .i64 t] W fun e w' => ∃ a' c', e = .returned (.tuple #[.slice a' (ahN l.2 t) c', .int .i64 (ahC l.2 t)]) ∧ DoW w0 B r (some ⟨b, off, none⟩) c gs R gm t i o w') := hide (fun W h => (ahead_any t W (h.dos hl hg hn).2).mono (by
    rintro e w' ⟨a', c', rfl, hb⟩
    exact ⟨a', c', rfl, h.keep hb⟩))
  have q0 : (0 : Int) ≤ (i : Int) := by omega
  have q1 : (i : Int) < (n : Int) := by omega
  have hoo : (o != -1) = false ∨ (o != -1) = true ∧ hs o = true ∧ ((i : Int) == o) = false := by
    rcases ho with ho | ⟨h1, h2, h3⟩
    · left; rw [ho]; rfl
    · right; exact ⟨bne_iff_ne.2 (by omega), by rw [hhs]; exact decide_eq_true ⟨h1, h2⟩, beq_eq_false_iff_ne.2 h3⟩
  have hio : ((i : Int) == o) = false := by
    rcases ho with ho | ⟨h1, h2, h3⟩
    · rw [ho]; exact beq_eq_false_iff_ne.2 (by omega)
    · exact beq_eq_false_iff_ne.2 h3
  obtain ⟨g2, hg2⟩ : ∃ g, gs[j]? = some g := ⟨_, List.getElem?_eq_getElem (by rw [h.len]; exact idx_lt hj)⟩
  have hah := ah_mouth hnd ht
  rw [hah.1, hah.2] at K33
  have hoo2 : (o != -1) = true ∧ hs o = true := by
    have := idx_lt hj
    exact ⟨bne_iff_ne.2 (by omega), by rw [hhs]; exact decide_eq_true ⟨by omega, by omega⟩⟩
  obtain ⟨hoo1, ho2⟩ := hoo2
  have q2 : (0 : Int) ≤ (j : Int) := by omega
  have q3 : (j : Int) < (n : Int) := by have := idx_lt hj; omega
  have SJ : Hid (∀ W, DoW w0 B r (some ⟨b, off, none⟩) c gs R gm t i o W → W.cell? ⟨b, off + j, none⟩ = some (.pointer (some ⟨g2, 0, none⟩))) := hide (fun W h => (h.dos hj hg2 hn).1.2.2.2.2)
  have K36 : Hid (∀ W, DoW w0 B r (some ⟨b, off, none⟩) c gs R gm t i o W → Calls Try.prog 36 #[.pointer (some ⟨g2, 0, none⟩)] W fun e w' => e = .returned (.int .i64 0) ∧ ∃ q, w' = W.drewN q) := hide (fun W h => (room_any W (h.dos hj hg2 hn).2).mono (by
    rintro e w' ⟨rfl, hq⟩
    exact ⟨by rw [Nat.sub_eq_zero_of_le hm2]; rfl, hq⟩))
  clear h hl ho ht hg hn hhs hil hah hoo hnd hij hj hm2 hg2
  obtain ⟨S0, hS0⟩ : ∃ S : World → Prop, S = DoS r b off n c gm i g t i o := ⟨_, rfl⟩
  rw [← hS0] at SI SD
  clear hS0
  subst ho0
  go_enter Try.func18, Try.ntmps18
  go_upto_region 1 with fail
  try rw [hgm]
  clear hgm
  generalize w0.alloc (.cells #[.int .i64 t, .int .i64 i, .int .i64 (j : Int)] 50) = W1 at *
  go_upto_region 3 with (go_at_call 35; refine (K35.out _ _ HD.out).mono ?_; rintro e W2 ⟨rfl, rfl⟩)
  refine wp_region_held_drew (S := S0) (by kernel_rfl) (SI.out _ (HD.out.drewN 1)) (fun hS0 => ?_)
  refine wpAnyH_take (i := 0) (v := .pointer (some ⟨r, 0, none⟩)) rfl (by kernel_rfl) (by kernel_rfl) (by kernel_rfl) (fun _ _ _ h => h) (Or.inl ⟨by rfl, fun W' hW => by go_simp⟩) hS0 ?_
  refine wpAnyH_take (i := 1) (v := .pointer (some ⟨r, 0, none⟩)) rfl (by kernel_rfl) (by kernel_rfl) (by kernel_rfl) (fun _ _ _ h => h) (Or.inl ⟨by rfl, fun W' hW => by go_simp⟩) hS0 ?_
  refine wpAnyH_take (i := 2) (v := .pointer (some ⟨r, 0, none⟩)) rfl (by kernel_rfl) (by kernel_rfl) (by kernel_rfl) (fun _ _ _ h => h) (Or.inl ⟨by rfl, fun W' hW => by go_simp⟩) hS0 ?_
  refine wpAnyH_take (i := 3) (v := .slice (some ⟨b, off, none⟩) n c) rfl (by kernel_rfl) (by kernel_rfl) (by kernel_rfl) (fun _ _ _ h => h) (Or.inl ⟨by rfl, fun W' hW => by have z0 := SD.out W' hW; go_simp⟩) hS0 ?_
  refine wpAnyH_take (i := 4) (v := .pointer (some ⟨gm, 1, none⟩)) rfl (by kernel_rfl) (by kernel_rfl) (by kernel_rfl) (fun _ _ _ h => h) (Or.inl ⟨by rfl, fun W' hW => by go_simp⟩) hS0 ?_
  refine wpAnyH_take (i := 5) (v := .int .i64 (i : Int)) rfl (by kernel_rfl) (by kernel_rfl) (by kernel_rfl) (fun _ _ _ h => h) (Or.inl ⟨by rfl, fun W' hW => by have z0 := SD.out W' hW; go_simp⟩) hS0 ?_
  refine wpAnyH_take (i := 6) (v := .pointer (some ⟨b, off + i, none⟩)) rfl (by kernel_rfl) (by kernel_rfl) (by kernel_rfl) (fun _ _ _ h => h) (Or.inl ⟨by rfl, fun W' hW => by go_simp⟩) hS0 ?_
  refine wpAnyH_take (i := 7) (v := .pointer (some ⟨g, 0, none⟩)) rfl (by kernel_rfl) (by kernel_rfl) (by kernel_rfl) (fun _ _ _ h => h) (Or.inl ⟨by rfl, fun W' hW => by have z0 := SD.out W' hW; go_simp⟩) hS0 ?_
  refine wpAnyH_take (i := 8) (v := .pointer (some ⟨gm, 0, none⟩)) rfl (by kernel_rfl) (by kernel_rfl) (by kernel_rfl) (fun _ _ _ h => h) (Or.inl ⟨by rfl, fun W' hW => by go_simp⟩) hS0 ?_
  refine wpAnyH_take (i := 9) (v := .int .i64 t) rfl (by kernel_rfl) (by kernel_rfl) (by kernel_rfl) (fun _ _ _ h => h) (Or.inl ⟨by rfl, fun W' hW => by have z0 := SD.out W' hW; go_simp⟩) hS0 ?_
  refine wpAnyH_ready (rs := [10]) (by kernel_rfl) (by simp) ?_
  refine AllReadyH.cons rfl (fun K hK => ?_) AllReadyH.nil
  go_simp
  go_at_call 33
  refine (K33.out _ (HD.out.drewN 1)).mono ?_
  rintro e W4 ⟨a', c', rfl, hd⟩
  have HD4 := hide hd; clear hd
  go_simp
  refine hK.out _ _ (SI.out _ HD4.out) (fun _ => ?_)
  clear hK K
  refine wpAnyH_ready (rs := [11]) (by kernel_rfl) (by simp) ?_
  refine AllReadyH.cons rfl (fun K hK => ?_) AllReadyH.nil
  go_simp
  refine hK.out _ _ (SI.out _ HD4.out) (fun _ => ?_)
  clear hK K
  refine wpAnyH_take (i := 12) (v := .slice a' 0 c') rfl (by kernel_rfl) (by kernel_rfl) (by kernel_rfl) (fun _ _ _ h => h) (Or.inl ⟨by rfl, fun W' hW => by go_simp⟩) (SI.out _ HD4.out) ?_
  refine wpAnyH_take (i := 13) (v := .int .i64 0) rfl (by kernel_rfl) (by kernel_rfl) (by kernel_rfl) (fun _ _ _ h => h) (Or.inl ⟨by rfl, fun W' hW => by go_simp⟩) (SI.out _ HD4.out) ?_
  refine wpAnyH_take (i := 14) (v := .slice a' 0 c') rfl (by kernel_rfl) (by kernel_rfl) (by kernel_rfl) (fun _ _ _ h => h) (Or.inl ⟨by rfl, fun W' hW => by go_simp⟩) (SI.out _ HD4.out) ?_
  refine wpAnyH_take (i := 15) (v := .int .i64 0) rfl (by kernel_rfl) (by kernel_rfl) (by kernel_rfl) (fun _ _ _ h => h) (Or.inl ⟨by rfl, fun W' hW => by go_simp⟩) (SI.out _ HD4.out) ?_
  refine wpAnyH_done (by kernel_rfl) ?_ _
  obtain ⟨d3, d0, d1, d2, d4⟩ := SD.out _ (SI.out _ HD4.out)
  have d5 := SJ.out _ HD4.out
  go_upto_region 6 with fail
  have K36' : Hid (∀ q, Calls Try.prog 36 #[.pointer (some ⟨g2, 0, none⟩)] (W4.drewN q) fun e w' => _ ∧ ∃ q', w' = (W4.drewN q).drewN q') := hide (fun q => K36.out _ (HD4.out.drewN q))
  go_quiet ((go_at_call 36; exact Calls.quiet_of (K36'.out _)))
  have HD5 := hide (HD4.out.drewN nq)
  obtain ⟨e3, e0, e1, e2, e4⟩ := SD.out _ (SI.out _ HD5.out)
  go_wp2_with fail
  go_ret
  exact ⟨rfl, HD5.out.rk, HD5.out.fr⟩

set_option maxRecDepth 100000 in
set_option maxHeartbeats 8000000 in
theorem do_to (t : Int) (i j : Nat) (l m : Nat × List Int) (w : World) (h : Rk w B r (some ⟨b, off, none⟩) c gs R) (hl : R[i]? = some l) (hj : R[j]? = some m) (hij : i ≠ j) (ht : l.2.getLast? = some t) (hnd : l.2.Nodup) (hm2 : m.2.length < m.1) (htm : t ∉ m.2) (htr : 1 ≤ t ∧ t ≤ 30) :
    Calls Try.prog 18 #[.pointer (some ⟨r, 0, none⟩), .agg #[.int .i64 t, .int .i64 i, .int .i64 j]] w fun e w' => e = .returned (.int .i64 0) ∧ Rk w' B r (some ⟨b, off, none⟩) c gs ((R.set i (l.1, l.2.dropLast)).set j (m.1, m.2 ++ [t])) ∧ Fr B w w' := by
  obtain ⟨o, ho0⟩ : ∃ o : Int, o = (j : Int) := ⟨_, rfl⟩
  have ho : o = -1 ∨ (0 ≤ o ∧ o < (R.length : Int) ∧ (i : Int) ≠ o) := .inr (by have := idx_lt hj; omega)
  rw [← ho0]
  obtain ⟨w0, rfl⟩ : ∃ w0, w0 = w := ⟨_, rfl⟩
  have HD := hide (dow_new w0 h t i o)
  obtain ⟨g, hg⟩ : ∃ g, gs[i]? = some g := ⟨_, List.getElem?_eq_getElem (by rw [h.len]; exact idx_lt hl)⟩
  obtain ⟨n, hn⟩ : ∃ n, R.length = n := ⟨_, rfl⟩
  obtain ⟨hs, hhs⟩ : ∃ hs : Int → Bool, ∀ i, hs i = decide (0 ≤ i ∧ i < (R.length : Int)) := ⟨_, fun _ => rfl⟩
  obtain ⟨gm, hgm⟩ : ∃ gm, w0.heap.size = gm := ⟨_, rfl⟩
  rw [hgm] at HD
  have K35 : Hid (∀ (W : World) (i' : Int), DoW w0 B r (some ⟨b, off, none⟩) c gs R gm t i o W → Calls Try.prog 35 #[.pointer (some ⟨r, 0, none⟩), .int .i64 i'] W fun e w' => e = .returned (.bool (hs i')) ∧ w' = W) := hide (fun W i h => by rw [hhs]; exact has_any i W h.rk)
  have hil : i < n := by rw [← hn]; exact idx_lt hl
  have b1 : hs (i : Int) = true := by rw [hhs]; exact decide_eq_true ⟨by omega, by omega⟩
  obtain ⟨c3, c0, c1, c2, c4⟩ := (HD.out.dos hl hg hn).1
  have SI : Hid (∀ W, DoW w0 B r (some ⟨b, off, none⟩) c gs R gm t i o W → DoS r b off n c gm i g t i o W) := hide (fun W h => (h.dos hl hg hn).1)
  have SD : Hid (∀ W, DoS r b off n c gm i g t i o W → W.cell? ⟨r, 0, none⟩ = some (.slice (some ⟨b, off, none⟩) n c) ∧ W.cell? ⟨gm, 0, none⟩ = some (.int .i64 t) ∧ W.cell? ⟨gm, 1, none⟩ = some (.int .i64 i) ∧ W.cell? ⟨gm, 2, none⟩ = some (.int .i64 o) ∧ W.cell? ⟨b, off + i, none⟩ = some (.pointer (some ⟨g, 0, none⟩))) := hide (fun W h => h)
  have K33 : Hid (∀ W, DoW w0 B r (some ⟨b, off, none⟩) c gs R gm t i o W → Calls Try.prog 33 #[.pointer (some ⟨g, 0, none⟩), .int .i64 t] W fun e w' => ∃ a' c', e = .returned (.tuple #[.slice a' (ahN l.2 t) c', .int .i64 (ahC l.2 t)]) ∧ DoW w0 B r (some ⟨b, off, none⟩) c gs R gm t i o w') := hide (fun W h => (ahead_any t W (h.dos hl hg hn).2).mono (by
    rintro e w' ⟨a', c', rfl, hb⟩
    exact ⟨a', c', rfl, h.keep hb⟩))
  have q0 : (0 : Int) ≤ (i : Int) := by omega
  have q1 : (i : Int) < (n : Int) := by omega
  have hoo : (o != -1) = false ∨ (o != -1) = true ∧ hs o = true ∧ ((i : Int) == o) = false := by
    rcases ho with ho | ⟨h1, h2, h3⟩
    · left; rw [ho]; rfl
    · right; exact ⟨bne_iff_ne.2 (by omega), by rw [hhs]; exact decide_eq_true ⟨h1, h2⟩, beq_eq_false_iff_ne.2 h3⟩
  have hio : ((i : Int) == o) = false := by
    rcases ho with ho | ⟨h1, h2, h3⟩
    · rw [ho]; exact beq_eq_false_iff_ne.2 (by omega)
    · exact beq_eq_false_iff_ne.2 h3
  obtain ⟨g2, hg2⟩ : ∃ g, gs[j]? = some g := ⟨_, List.getElem?_eq_getElem (by rw [h.len]; exact idx_lt hj)⟩
  have hah := ah_mouth hnd ht
  rw [hah.1, hah.2] at K33
  have hoo2 : (o != -1) = true ∧ hs o = true := by
    have := idx_lt hj
    exact ⟨bne_iff_ne.2 (by omega), by rw [hhs]; exact decide_eq_true ⟨by omega, by omega⟩⟩
  obtain ⟨hoo1, ho2⟩ := hoo2
  have q2 : (0 : Int) ≤ (j : Int) := by omega
  have q3 : (j : Int) < (n : Int) := by have := idx_lt hj; omega
  have SJ : Hid (∀ W, DoW w0 B r (some ⟨b, off, none⟩) c gs R gm t i o W → W.cell? ⟨b, off + j, none⟩ = some (.pointer (some ⟨g2, 0, none⟩))) := hide (fun W h => (h.dos hj hg2 hn).1.2.2.2.2)
  obtain ⟨y, hy⟩ : ∃ y, m.1 - m.2.length = y := ⟨_, rfl⟩
  have hy0 : ((y : Int) == 0) = false := beq_eq_false_iff_ne.2 (by omega)
  have K36 : Hid (∀ W, DoW w0 B r (some ⟨b, off, none⟩) c gs R gm t i o W → Calls Try.prog 36 #[.pointer (some ⟨g2, 0, none⟩)] W fun e w' => e = .returned (.int .i64 y) ∧ ∃ q, w' = W.drewN q) := hide (fun W h => (room_any W (h.dos hj hg2 hn).2).mono (by
    rintro e w' ⟨rfl, hq⟩
    exact ⟨by rw [hy], hq⟩))
  obtain ⟨hm, hloc⟩ := loc_last hnd ht
  have htk : takeC l.2 t = 0 := (if_neg (fun h => h hm)).trans (if_neg (fun h => h hloc))
  have htl : takeL l.2 t = l.2.dropLast := if_pos htk
  have hp1 : pushC m.1 m.2 t = 0 := (if_neg (by omega)).trans ((if_neg htm).trans (if_neg (by omega)))
  have hp2 : pushL m.1 m.2 t = m.2 ++ [t] := if_pos hp1
  have K37 : Hid (∀ W, DoW w0 B r (some ⟨b, off, none⟩) c gs R gm t i o W → Calls Try.prog 37 #[.pointer (some ⟨g, 0, none⟩), .int .i64 t] W fun e w' => e = .returned (.int .i64 0) ∧ DoW w0 B r (some ⟨b, off, none⟩) c gs (R.set i (l.1, l.2.dropLast)) gm t i o w') := hide (fun W h => (take_any t W (h.dos hl hg hn).2).mono (by
    rintro e w' ⟨rfl, h1, h2⟩
    rw [htl] at h1
    exact ⟨by rw [htk], h.put hl hg h1 h2⟩))
  have hset : (R.set i (l.1, l.2.dropLast))[i]? = some (l.1, l.2.dropLast) := set_at hl
  have hset2 : (R.set i (l.1, l.2.dropLast))[j]? = some m := by rw [set_off hij]; exact hj
  have hset3 : ((R.set i (l.1, l.2.dropLast)).set j (m.1, m.2 ++ [t]))[j]? = some (m.1, m.2 ++ [t]) := set_at hset2
  have hn2 : (R.set i (l.1, l.2.dropLast)).length = n := by rw [List.length_set]; exact hn
  have SI2 : Hid (∀ W, DoW w0 B r (some ⟨b, off, none⟩) c gs (R.set i (l.1, l.2.dropLast)) gm t i o W → DoS r b off n c gm i g t i o W) := hide (fun W h => (h.dos hset hg hn2).1)
  have SI3 : Hid (∀ W, DoW w0 B r (some ⟨b, off, none⟩) c gs (R.set i (l.1, l.2.dropLast)) gm t i o W → DoS r b off n c gm j g2 t i o W) := hide (fun W h => (h.dos hset2 hg2 hn2).1)
  have SI4 : Hid (∀ W, DoW w0 B r (some ⟨b, off, none⟩) c gs ((R.set i (l.1, l.2.dropLast)).set j (m.1, m.2 ++ [t])) gm t i o W → DoS r b off n c gm j g2 t i o W) := hide (fun W h => (h.dos hset3 hg2 (by rw [List.length_set]; exact hn2)).1)
  have SD2 : Hid (∀ W, DoS r b off n c gm j g2 t i o W → W.cell? ⟨r, 0, none⟩ = some (.slice (some ⟨b, off, none⟩) n c) ∧ W.cell? ⟨gm, 0, none⟩ = some (.int .i64 t) ∧ W.cell? ⟨gm, 1, none⟩ = some (.int .i64 i) ∧ W.cell? ⟨gm, 2, none⟩ = some (.int .i64 j) ∧ W.cell? ⟨b, off + j, none⟩ = some (.pointer (some ⟨g2, 0, none⟩))) := hide (fun W h => by rw [← ho0]; exact h)
  have K28 : Hid (∀ W, DoW w0 B r (some ⟨b, off, none⟩) c gs (R.set i (l.1, l.2.dropLast)) gm t i o W → Calls Try.prog 28 #[.pointer (some ⟨g2, 0, none⟩), .int .i64 t] W fun e w' => e = .returned (.int .i64 0) ∧ DoW w0 B r (some ⟨b, off, none⟩) c gs ((R.set i (l.1, l.2.dropLast)).set j (m.1, m.2 ++ [t])) gm t i o w') := hide (fun W h => (push_any t W (h.dos hset2 hg2 hn2).2).mono (by
    rintro e w' ⟨rfl, h1, h2⟩
    rw [hp2] at h1
    exact ⟨by rw [hp1], h.put hset2 hg2 h1 h2⟩))
  generalize (R.set i (l.1, l.2.dropLast)).set j (m.1, m.2 ++ [t]) = R'' at *
  generalize R.set i (l.1, l.2.dropLast) = R' at *
  obtain ⟨S1, hS1⟩ : ∃ S : World → Prop, S = DoS r b off n c gm j g2 t i o := ⟨_, rfl⟩
  rw [← hS1] at SI3 SI4 SD2
  clear h hl ho ht hg hn hhs hil hah hoo hm hloc htk htl hnd hset hij hj hm2 hg2 hy hp1 hp2 hset2 hset3 hn2 htm htr hS1
  obtain ⟨S0, hS0⟩ : ∃ S : World → Prop, S = DoS r b off n c gm i g t i o := ⟨_, rfl⟩
  rw [← hS0] at SI SD SI2
  clear hS0
  subst ho0
  go_enter Try.func18, Try.ntmps18
  go_upto_region 1 with fail
  try rw [hgm]
  clear hgm
  generalize w0.alloc (.cells #[.int .i64 t, .int .i64 i, .int .i64 (j : Int)] 50) = W1 at *
  go_upto_region 3 with (go_at_call 35; refine (K35.out _ _ HD.out).mono ?_; rintro e W2 ⟨rfl, rfl⟩)
  refine wp_region_held_drew (S := S0) (by kernel_rfl) (SI.out _ (HD.out.drewN 1)) (fun hS0 => ?_)
  refine wpAnyH_take (i := 0) (v := .pointer (some ⟨r, 0, none⟩)) rfl (by kernel_rfl) (by kernel_rfl) (by kernel_rfl) (fun _ _ _ h => h) (Or.inl ⟨by rfl, fun W' hW => by go_simp⟩) hS0 ?_
  refine wpAnyH_take (i := 1) (v := .pointer (some ⟨r, 0, none⟩)) rfl (by kernel_rfl) (by kernel_rfl) (by kernel_rfl) (fun _ _ _ h => h) (Or.inl ⟨by rfl, fun W' hW => by go_simp⟩) hS0 ?_
  refine wpAnyH_take (i := 2) (v := .pointer (some ⟨r, 0, none⟩)) rfl (by kernel_rfl) (by kernel_rfl) (by kernel_rfl) (fun _ _ _ h => h) (Or.inl ⟨by rfl, fun W' hW => by go_simp⟩) hS0 ?_
  refine wpAnyH_take (i := 3) (v := .slice (some ⟨b, off, none⟩) n c) rfl (by kernel_rfl) (by kernel_rfl) (by kernel_rfl) (fun _ _ _ h => h) (Or.inl ⟨by rfl, fun W' hW => by have z0 := SD.out W' hW; go_simp⟩) hS0 ?_
  refine wpAnyH_take (i := 4) (v := .pointer (some ⟨gm, 1, none⟩)) rfl (by kernel_rfl) (by kernel_rfl) (by kernel_rfl) (fun _ _ _ h => h) (Or.inl ⟨by rfl, fun W' hW => by go_simp⟩) hS0 ?_
  refine wpAnyH_take (i := 5) (v := .int .i64 (i : Int)) rfl (by kernel_rfl) (by kernel_rfl) (by kernel_rfl) (fun _ _ _ h => h) (Or.inl ⟨by rfl, fun W' hW => by have z0 := SD.out W' hW; go_simp⟩) hS0 ?_
  refine wpAnyH_take (i := 6) (v := .pointer (some ⟨b, off + i, none⟩)) rfl (by kernel_rfl) (by kernel_rfl) (by kernel_rfl) (fun _ _ _ h => h) (Or.inl ⟨by rfl, fun W' hW => by go_simp⟩) hS0 ?_
  refine wpAnyH_take (i := 7) (v := .pointer (some ⟨g, 0, none⟩)) rfl (by kernel_rfl) (by kernel_rfl) (by kernel_rfl) (fun _ _ _ h => h) (Or.inl ⟨by rfl, fun W' hW => by have z0 := SD.out W' hW; go_simp⟩) hS0 ?_
  refine wpAnyH_take (i := 8) (v := .pointer (some ⟨gm, 0, none⟩)) rfl (by kernel_rfl) (by kernel_rfl) (by kernel_rfl) (fun _ _ _ h => h) (Or.inl ⟨by rfl, fun W' hW => by go_simp⟩) hS0 ?_
  refine wpAnyH_take (i := 9) (v := .int .i64 t) rfl (by kernel_rfl) (by kernel_rfl) (by kernel_rfl) (fun _ _ _ h => h) (Or.inl ⟨by rfl, fun W' hW => by have z0 := SD.out W' hW; go_simp⟩) hS0 ?_
  refine wpAnyH_ready (rs := [10]) (by kernel_rfl) (by simp) ?_
  refine AllReadyH.cons rfl (fun K hK => ?_) AllReadyH.nil
  go_simp
  go_at_call 33
  refine (K33.out _ (HD.out.drewN 1)).mono ?_
  rintro e W4 ⟨a', c', rfl, hd⟩
  have HD4 := hide hd; clear hd
  go_simp
  refine hK.out _ _ (SI.out _ HD4.out) (fun _ => ?_)
  clear hK K
  refine wpAnyH_ready (rs := [11]) (by kernel_rfl) (by simp) ?_
  refine AllReadyH.cons rfl (fun K hK => ?_) AllReadyH.nil
  go_simp
  refine hK.out _ _ (SI.out _ HD4.out) (fun _ => ?_)
  clear hK K
  refine wpAnyH_take (i := 12) (v := .slice a' 0 c') rfl (by kernel_rfl) (by kernel_rfl) (by kernel_rfl) (fun _ _ _ h => h) (Or.inl ⟨by rfl, fun W' hW => by go_simp⟩) (SI.out _ HD4.out) ?_
  refine wpAnyH_take (i := 13) (v := .int .i64 0) rfl (by kernel_rfl) (by kernel_rfl) (by kernel_rfl) (fun _ _ _ h => h) (Or.inl ⟨by rfl, fun W' hW => by go_simp⟩) (SI.out _ HD4.out) ?_
  refine wpAnyH_take (i := 14) (v := .slice a' 0 c') rfl (by kernel_rfl) (by kernel_rfl) (by kernel_rfl) (fun _ _ _ h => h) (Or.inl ⟨by rfl, fun W' hW => by go_simp⟩) (SI.out _ HD4.out) ?_
  refine wpAnyH_take (i := 15) (v := .int .i64 0) rfl (by kernel_rfl) (by kernel_rfl) (by kernel_rfl) (fun _ _ _ h => h) (Or.inl ⟨by rfl, fun W' hW => by go_simp⟩) (SI.out _ HD4.out) ?_
  refine wpAnyH_done (by kernel_rfl) ?_ _
  obtain ⟨d3, d0, d1, d2, d4⟩ := SD.out _ (SI.out _ HD4.out)
  have d5 := SJ.out _ HD4.out
  go_upto_region 6 with fail
  have K36' : Hid (∀ q, Calls Try.prog 36 #[.pointer (some ⟨g2, 0, none⟩)] (W4.drewN q) fun e w' => _ ∧ ∃ q', w' = (W4.drewN q).drewN q') := hide (fun q => K36.out _ (HD4.out.drewN q))
  go_quiet ((go_at_call 36; exact Calls.quiet_of (K36'.out _)))
  have HD5 := hide (HD4.out.drewN nq)
  obtain ⟨e3, e0, e1, e2, e4⟩ := SD.out _ (SI.out _ HD5.out)
  go_upto_region 8 with fail
  refine wp_region_held_drew (S := S0) (by kernel_rfl) (SI.out _ (HD5.out.drewN 1)) (fun hS0 => ?_)
  refine wpAnyH_take (i := 0) (v := .pointer (some ⟨r, 0, none⟩)) rfl (by kernel_rfl) (by kernel_rfl) (by kernel_rfl) (fun _ _ _ h => h) (Or.inl ⟨by rfl, fun W' hW => by go_simp⟩) hS0 ?_
  refine wpAnyH_take (i := 1) (v := .pointer (some ⟨r, 0, none⟩)) rfl (by kernel_rfl) (by kernel_rfl) (by kernel_rfl) (fun _ _ _ h => h) (Or.inl ⟨by rfl, fun W' hW => by go_simp⟩) hS0 ?_
  refine wpAnyH_take (i := 2) (v := .pointer (some ⟨r, 0, none⟩)) rfl (by kernel_rfl) (by kernel_rfl) (by kernel_rfl) (fun _ _ _ h => h) (Or.inl ⟨by rfl, fun W' hW => by go_simp⟩) hS0 ?_
  refine wpAnyH_take (i := 3) (v := .slice (some ⟨b, off, none⟩) n c) rfl (by kernel_rfl) (by kernel_rfl) (by kernel_rfl) (fun _ _ _ h => h) (Or.inl ⟨by rfl, fun W' hW => by have z0 := SD.out W' hW; go_simp⟩) hS0 ?_
  refine wpAnyH_take (i := 4) (v := .pointer (some ⟨gm, 1, none⟩)) rfl (by kernel_rfl) (by kernel_rfl) (by kernel_rfl) (fun _ _ _ h => h) (Or.inl ⟨by rfl, fun W' hW => by go_simp⟩) hS0 ?_
  refine wpAnyH_take (i := 5) (v := .int .i64 (i : Int)) rfl (by kernel_rfl) (by kernel_rfl) (by kernel_rfl) (fun _ _ _ h => h) (Or.inl ⟨by rfl, fun W' hW => by have z0 := SD.out W' hW; go_simp⟩) hS0 ?_
  refine wpAnyH_take (i := 6) (v := .pointer (some ⟨b, off + i, none⟩)) rfl (by kernel_rfl) (by kernel_rfl) (by kernel_rfl) (fun _ _ _ h => h) (Or.inl ⟨by rfl, fun W' hW => by go_simp⟩) hS0 ?_
  refine wpAnyH_take (i := 7) (v := .pointer (some ⟨g, 0, none⟩)) rfl (by kernel_rfl) (by kernel_rfl) (by kernel_rfl) (fun _ _ _ h => h) (Or.inl ⟨by rfl, fun W' hW => by have z0 := SD.out W' hW; go_simp⟩) hS0 ?_
  refine wpAnyH_take (i := 8) (v := .pointer (some ⟨gm, 0, none⟩)) rfl (by kernel_rfl) (by kernel_rfl) (by kernel_rfl) (fun _ _ _ h => h) (Or.inl ⟨by rfl, fun W' hW => by go_simp⟩) hS0 ?_
  refine wpAnyH_take (i := 9) (v := .int .i64 t) rfl (by kernel_rfl) (by kernel_rfl) (by kernel_rfl) (fun _ _ _ h => h) (Or.inl ⟨by rfl, fun W' hW => by have z0 := SD.out W' hW; go_simp⟩) hS0 ?_
  refine wpAnyH_ready (rs := [10]) (by kernel_rfl) (by simp) ?_
  refine AllReadyH.cons rfl (fun K hK => ?_) AllReadyH.nil
  go_simp
  go_at_call 37
  refine (K37.out _ (HD5.out.drewN 1)).mono ?_
  rintro e W6 ⟨rfl, hd⟩
  have HD6 := hide hd; clear hd
  go_simp
  refine hK.out _ _ (SI2.out _ HD6.out) (fun _ => ?_)
  clear hK K
  refine wpAnyH_done (by kernel_rfl) ?_ _
  obtain ⟨x3, x0, x1, x2, x4⟩ := SD2.out _ (SI3.out _ HD6.out)
  go_upto_region 10 with fail
  refine wp_region_held_drew (S := S1) (by kernel_rfl) (SI3.out _ (HD6.out.drewN 1)) (fun hS0 => ?_)
  refine wpAnyH_take (i := 0) (v := .pointer (some ⟨r, 0, none⟩)) rfl (by kernel_rfl) (by kernel_rfl) (by kernel_rfl) (fun _ _ _ h => h) (Or.inl ⟨by rfl, fun W' hW => by go_simp⟩) hS0 ?_
  refine wpAnyH_take (i := 1) (v := .pointer (some ⟨r, 0, none⟩)) rfl (by kernel_rfl) (by kernel_rfl) (by kernel_rfl) (fun _ _ _ h => h) (Or.inl ⟨by rfl, fun W' hW => by go_simp⟩) hS0 ?_
  refine wpAnyH_take (i := 2) (v := .pointer (some ⟨r, 0, none⟩)) rfl (by kernel_rfl) (by kernel_rfl) (by kernel_rfl) (fun _ _ _ h => h) (Or.inl ⟨by rfl, fun W' hW => by go_simp⟩) hS0 ?_
  refine wpAnyH_take (i := 3) (v := .slice (some ⟨b, off, none⟩) n c) rfl (by kernel_rfl) (by kernel_rfl) (by kernel_rfl) (fun _ _ _ h => h) (Or.inl ⟨by rfl, fun W' hW => by have z0 := SD2.out W' hW; go_simp⟩) hS0 ?_
  refine wpAnyH_take (i := 4) (v := .pointer (some ⟨gm, 2, none⟩)) rfl (by kernel_rfl) (by kernel_rfl) (by kernel_rfl) (fun _ _ _ h => h) (Or.inl ⟨by rfl, fun W' hW => by go_simp⟩) hS0 ?_
  refine wpAnyH_take (i := 5) (v := .int .i64 (j : Int)) rfl (by kernel_rfl) (by kernel_rfl) (by kernel_rfl) (fun _ _ _ h => h) (Or.inl ⟨by rfl, fun W' hW => by have z0 := SD2.out W' hW; go_simp⟩) hS0 ?_
  refine wpAnyH_take (i := 6) (v := .pointer (some ⟨b, off + j, none⟩)) rfl (by kernel_rfl) (by kernel_rfl) (by kernel_rfl) (fun _ _ _ h => h) (Or.inl ⟨by rfl, fun W' hW => by go_simp⟩) hS0 ?_
  refine wpAnyH_take (i := 7) (v := .pointer (some ⟨g2, 0, none⟩)) rfl (by kernel_rfl) (by kernel_rfl) (by kernel_rfl) (fun _ _ _ h => h) (Or.inl ⟨by rfl, fun W' hW => by have z0 := SD2.out W' hW; go_simp⟩) hS0 ?_
  refine wpAnyH_take (i := 8) (v := .pointer (some ⟨gm, 0, none⟩)) rfl (by kernel_rfl) (by kernel_rfl) (by kernel_rfl) (fun _ _ _ h => h) (Or.inl ⟨by rfl, fun W' hW => by go_simp⟩) hS0 ?_
  refine wpAnyH_take (i := 9) (v := .int .i64 t) rfl (by kernel_rfl) (by kernel_rfl) (by kernel_rfl) (fun _ _ _ h => h) (Or.inl ⟨by rfl, fun W' hW => by have z0 := SD2.out W' hW; go_simp⟩) hS0 ?_
  refine wpAnyH_ready (rs := [10]) (by kernel_rfl) (by simp) ?_
  refine AllReadyH.cons rfl (fun K hK => ?_) AllReadyH.nil
  go_simp
  go_at_call 28
  refine (K28.out _ (HD6.out.drewN 1)).mono ?_
  rintro e W7 ⟨rfl, hd⟩
  have HD7 := hide hd; clear hd
  go_simp
  refine hK.out _ _ (SI4.out _ HD7.out) (fun _ => ?_)
  clear hK K
  refine wpAnyH_done (by kernel_rfl) ?_ _
  go_wp2_with fail
  go_ret
  exact ⟨rfl, HD7.out.rk, HD7.out.fr⟩
end
end Go.Proofs.Ytddcjkbdgneklaa
