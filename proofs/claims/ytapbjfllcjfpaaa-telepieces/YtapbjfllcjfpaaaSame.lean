/- The document's Same on two lists that read alike. -/
import Derived.Test.YtapbjfllcjfpaaaTls
namespace Go.Proofs.Ytapbjfllcjfpaaa
open Go.ChangeShapes Go.WideShapes Go.ChangeAt Go.RowKit

theorem Rt.form {w : World} {v : Value} {ts : List Tl} (h : Rt w v ts) : ∃ a cap, v = .slice a ts.length cap := by
  rcases h with ⟨h, rfl⟩ | ⟨b, off, cap, h, _⟩
  · exact ⟨_, _, h⟩
  · exact ⟨_, _, h⟩
theorem Rt.at {w : World} {a : Option Addr} {n cap : Nat} {ts : List Tl} (h : Rt w (.slice a n cap) ts) (i : Nat) (t : Tl) (ht : ts[i]? = some t) :
    ∃ b off, a = some ⟨b, off, none⟩ ∧ w.cell? ⟨b, off + i * 5, none⟩ = some (.int .u8 t.k) ∧ w.cell? ⟨b, off + i * 5 + 1, none⟩ = some (.int .u16 t.d) ∧ w.cell? ⟨b, off + i * 5 + 2, none⟩ = some (.int .u16 t.s) ∧ w.cell? ⟨b, off + i * 5 + 3, none⟩ = some (.int .u16 t.a) ∧ w.cell? ⟨b, off + i * 5 + 4, none⟩ = some (.int .u16 t.b) := by
  have hi : i < ts.length := by
    rcases Nat.lt_or_ge i ts.length with h' | h'
    · exact h'
    · rw [List.getElem?_eq_none h'] at ht; cases ht
  rcases h with ⟨_, rfl⟩ | ⟨b, off, c, h1, h2⟩
  · simp at hi
  · simp only [Value.slice.injEq] at h1
    refine ⟨b, off, h1.1, ?_, ?_, ?_, ?_, ?_⟩
    · have := h2 (i * 5 + 0) (by omega); rw [fl_at ts i 0 t ht (by omega)] at this; exact this
    · have := h2 (i * 5 + 1) (by omega); rw [fl_at ts i 1 t ht (by omega), ← Nat.add_assoc] at this; exact this
    · have := h2 (i * 5 + 2) (by omega); rw [fl_at ts i 2 t ht (by omega), ← Nat.add_assoc] at this; exact this
    · have := h2 (i * 5 + 3) (by omega); rw [fl_at ts i 3 t ht (by omega), ← Nat.add_assoc] at this; exact this
    · have := h2 (i * 5 + 4) (by omega); rw [fl_at ts i 4 t ht (by omega), ← Nat.add_assoc] at this; exact this


set_option maxHeartbeats 2000000 in
theorem same_eq {w : World} {v u : Value} {ts : List Tl} (hv : Rt w v ts) (hu : Rt w u ts) (hm : ts.length ≤ 10000) :
    Calls Try.prog 7 #[v, u] w fun e w' => e = .returned (.bool true) ∧ ∃ n, w' = w.drewN n := by
  obtain ⟨a, ca, rfl⟩ := hv.form
  obtain ⟨a', cb, rfl⟩ := hu.form
  have Hv := hide hv
  have Hu := hide hu
  clear hv hu
  obtain ⟨n, hn⟩ : ∃ n, ts.length = n := ⟨_, rfl⟩
  rw [hn] at hm Hv Hu ⊢
  have Hn := hide hn
  clear hn
  have i0 : (n : Int) ≤ 10000 := by omega
  go_enter Try.func7, Try.ntmps7
  go_wp2_with fail
  go_loopw [13] (fun i wr => ∃ k q : Nat, k ≤ n ∧ i = .int .i64 k ∧ wr = w.drewN q) (fun i _ => n - (intOf i).toNat)
  case atStart => exact ⟨0, 0, by omega, rfl, rfl⟩
  case round =>
    obtain ⟨k, q, hk, rfl, rfl⟩ := hrel
    by_cases hlt : k < n
    · obtain ⟨t, ht⟩ : ∃ t, ts[k]? = some t := ⟨_, List.getElem?_eq_getElem (by rw [Hn.out]; exact hlt)⟩
      obtain ⟨b1, o1, rfl, x0, x1, x2, x3, x4⟩ := Hv.out.at k t ht
      obtain ⟨b2, o2, rfl, y0, y1, y2, y3, y4⟩ := Hu.out.at k t ht
      obtain ⟨tk, td, tss, ta, tb⟩ := t
      have j0 : (0 : Int) ≤ (k : Int) := by omega
      have j1 : (k : Int) < (n : Int) := by omega
      clear ht
      go_wp2_with fail
      go_quiet (fail)
      go_wp2_with fail
      go_roundw
      case rel => exact ⟨k + 1, _, by omega, by go_num, rfl⟩
      case measure => simp [intOf]; omega
    · have : k = n := by omega
      subst this
      go_wp2_with fail
      go_ret
      exact ⟨rfl, _, rfl⟩

end Go.Proofs.Ytapbjfllcjfpaaa
