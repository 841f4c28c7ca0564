/- The document's intake: at. -/
import Derived.Test.YtmbgcbbpkbaajaaEls
import Derived.Deep.CutRange
import Derived.Deep.DeepCutAuto
import Derived.Deep.QuietTactic
import Derived.BigQuiet
import Derived.Deep.RegionHeld3
import Derived.Deep.RegionWith
namespace Go.Proofs.Ytmbgcbbpkbaajaa
open Go.RowKit

abbrev Pc := Int × ByteArray
/-- the place of a number among pieces -/
def idx : List Pc → Int → Int
  | [], _ => -1
  | p :: ps, s => if p.1 = s then 0 else if idx ps s < 0 then -1 else idx ps s + 1

theorem idx_ge (ps : List Pc) (s : Int) : -1 ≤ idx ps s ∧ idx ps s < ps.length := by
  induction ps with
  | nil => simp [idx]
  | cons p ps ih =>
    simp only [idx, List.length_cons]
    split
    · omega
    · split <;> omega
theorem idx_found (ps : List Pc) (s : Int) (k : Nat) (p : Pc) (hk : ps[k]? = some p) (hp : p.1 = s) (h : ∀ j q, j < k → ps[j]? = some q → q.1 ≠ s) : idx ps s = k := by
  induction ps generalizing k with
  | nil => simp at hk
  | cons q ps ih =>
    cases k with
    | zero => simp at hk; subst hk; simp [idx, hp]
    | succ k =>
      have hq : q.1 ≠ s := h 0 q (by omega) (by simp)
      have := ih k (by simpa using hk) (fun j r hj hr => h (j + 1) r (by omega) (by simpa using hr))
      simp only [idx, if_neg hq, this]
      rw [if_neg (by omega)]; simp
theorem idx_none (ps : List Pc) (s : Int) (h : ∀ j q, j < ps.length → ps[j]? = some q → q.1 ≠ s) : idx ps s = -1 := by
  induction ps with
  | nil => rfl
  | cons q ps ih =>
    have hq : q.1 ≠ s := h 0 q (by simp) (by simp)
    have := ih (fun j r hj hr => h (j + 1) r (by simp; omega) (by simpa using hr))
    simp [idx, hq, this]

set_option maxHeartbeats 1000000 in
theorem rat_any {w : World} {v : Value} {ps : List Pc} (hv : piecesE.Rd w v ps) (s : Int) (hm : ps.length ≤ 100000) :
    Calls Try.prog 22 #[v, .int .u16 s] w fun e w' => e = .returned (.int .i64 (idx ps s)) ∧ w' = w := by
  obtain ⟨a, ca, rfl⟩ := hv.form
  have Hv := hide hv
  clear hv
  obtain ⟨n, hn⟩ : ∃ n, ps.length = n := ⟨_, rfl⟩
  rw [hn] at hm Hv ⊢
  have Hn := hide hn
  clear hn
  have i0 : (n : Int) ≤ 100000 := by omega
  obtain ⟨res, hres⟩ : ∃ r, idx ps s = r := ⟨_, rfl⟩
  rw [hres]
  have Hres := hide hres
  clear hres
  go_enter Try.func22, Try.ntmps22
  go_wp2_with fail
  go_loopw [8] (fun i wr => ∃ k : Nat, k ≤ n ∧ i = .int .i64 k ∧ wr = w ∧ Hid (∀ j q, j < k → ps[j]? = some q → q.1 ≠ s)) (fun i _ => n - (intOf i).toNat)
  case atStart => exact ⟨0, by omega, rfl, rfl, hide (fun j q h => by omega)⟩
  case round =>
    obtain ⟨k, hk, rfl, rfl, Hno⟩ := hrel
    by_cases hlt : k < n
    · obtain ⟨p, hp⟩ : ∃ p, ps[k]? = some p := ⟨_, List.getElem?_eq_getElem (by rw [Hn.out]; exact hlt)⟩
      obtain ⟨b, off, rfl, hcell⟩ := Hv.out.at k p hp
      have c0 : wr.cell? ⟨b, off + k * 2, none⟩ = some (.int .u16 p.1) := hcell 0 (by decide)
      have Hp := hide hp
      clear hcell hp
      have j0 : (0 : Int) ≤ (k : Int) := by omega
      have j1 : (k : Int) < (n : Int) := by omega
      obtain ⟨x, d⟩ := p
      simp only at c0
      by_cases hx : x = s
      · have Hr := hide (idx_found ps s k (x, d) Hp.out hx Hno.out)
        rw [Hres.out] at Hr
        subst hx
        go_wp2_with fail
        go_ret
        exact ⟨by rw [Hr.out]; rfl, rfl⟩
      · go_wp2_with fail
        go_roundw
        case rel =>
          refine ⟨k + 1, by omega, by go_num, by first | rfl | trivial, hide (fun j q hj hq => ?_)⟩
          by_cases e : j = k
          · subst e
            rw [Hp.out] at hq
            cases hq
            exact hx
          · exact Hno.out j q (by omega) hq
        case measure => simp [intOf]; omega
    · have : k = n := by omega
      subst this
      have Hr := hide (idx_none ps s (fun j q hj hq => Hno.out j q (by rw [← Hn.out]; exact hj) hq))
      rw [Hres.out] at Hr
      go_wp2_with fail
      go_ret
      exact ⟨by rw [Hr.out]; rfl, rfl⟩
end Go.Proofs.Ytmbgcbbpkbaajaa
