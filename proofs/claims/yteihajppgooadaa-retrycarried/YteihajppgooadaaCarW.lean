/- Tick, Take and Ack as they are called in turn. -/
import Derived.Test.YteihajppgooadaaCarS
import Derived.Deep.CutBlock
namespace Go.Proofs.Yteihajppgooadaa
open Go.RowKit
set_option linter.unusedVariables false

/-- what is sent: numbers of pieces that are put -/
def OsOk (first : Int) (c : Nat) (os : List Ot) : Prop := ∀ (k : Nat) (o : Ot), os[k]? = some o → ∃ m : Nat, o.s = sq first m ∧ o.d = [(m : Int)] ∧ m < c ∧ c ≤ m + 8

theorem tick_car {w : World} {g B : Nat} {S : Sd} {first : Int} {n r c ni : Nat} {I : Ik} (H : Snd w g B S) (hB : B ≤ w.heap.size) (hS : CS first n r c S) (hL : Lk first c ni S I) (hf : c = n ∨ S.win < S.count - S.lo + 1) :
    Calls Try.prog 14 #[.pointer (some ⟨g, 0, none⟩)] w fun e w' => ∃ v code os S', e = .returned (.tuple #[v, .int .i64 code]) ∧ Snd w' g B S' ∧ outE.Own w' B v os ∧ (∀ o ∈ os, bytesE.Own w' B o.v o.d) ∧ os.length ≤ 8 ∧ Chg g S.v w w' ∧
      ((S'.dead = true ∧ os = []) ∨ (CS first n (r + 1) c S' ∧ Lk first c ni S' I ∧ Erl n (r + 1) c ∧ OsOk first c os)) := by
  refine (tick_any H hS.fit.ok hS.fit.short hS.dead).mono ?_
  rintro e w' ⟨hC, ⟨hd, v, os, rfl, H', ho, he, hdat⟩ | ⟨hd, rfl, ps', H'⟩⟩
  · obtain ⟨h1, h2⟩ := hS.outs he
    exact ⟨v, 0, os, S.tick, rfl, H', ho.mono hB, fun o h => (hdat o h).mono hB, h1, hC, .inr ⟨hS.tick H.lim hd, hL.tick, hS.erl hd hf, h2⟩⟩
  · exact ⟨_, 190, [], _, rfl, H', El.Own.nil _ _ _, (fun o h => by cases h), by simp, hC, .inl ⟨rfl, rfl⟩⟩

theorem take_car {w : World} {h : Hd} {I : Ik} {S : Sd} {first : Int} {c ni got m n r : Nat} (H : Has w h I) (hI : CI first ni got I) (hL : Lk first c ni S I) (hS : CS first n r c S) (hn : I.n ≤ 1000000) (hm : m < c) (hm8 : c ≤ m + 8) {v : Value} (hv : bytesE.Rd w v [(m : Int)]) :
    Calls Try.prog 27 #[.pointer (some ⟨h.g, 0, none⟩), .int .u16 (sq first m), v] w fun e w' => ∃ code ni' I', e = .returned (.int .i64 code) ∧ Has w' h I' ∧ CI first ni' got I' ∧ I'.n ≤ I.n + 1 ∧ Lk first c ni' S I' ∧ ((code = 0 ∨ code = 2) → Tkn first ni' I' m) ∧ Only h w w' := by
  obtain ⟨hlo, hc8⟩ := hS.lo_le hL hI
  have hnic := hL.nic
  have hr := sq_in first (m : Int)
  by_cases hc : I.code (sq first m) [(m : Int)].length = 0
  · rcases hI.code (m := m) (by omega) (by omega) (.inl hc) with ⟨_, hge⟩ | ⟨h2, _⟩
    · refine (take_ok H hI.inw hn hv (sq first m) hr.1 hr.2 hc).mono ?_
      rintro e w' ⟨rfl, p, j, hp, _, j1, j2, H', I', O'⟩
      have h2 : m < ni + 8 := by omega
      exact ⟨0, ni + j, _, rfl, H', hI.go hge h2 hp j1 j2 I', Nat.le_refl _, hL.take hI hc8 hge h2 hm j1, fun _ => hI.tkn hge h2 j1 m h2 (.inr rfl), O'⟩
    · have hc' : I.code (sq first m) 1 = 0 := hc
      rw [hc'] at h2; cases h2
  · refine (take_no H hv (sq first m) hr.1 hr.2 (by simp) hc).mono ?_
    rintro e w' ⟨rfl, q, rfl⟩
    refine ⟨_, ni, I, rfl, H.drewN q, hI, by omega, hL, fun h2 => ?_, ⟨rfl, rfl, rfl, Nat.le_refl _, fun _ _ _ _ _ => rfl⟩⟩
    rcases hI.code (m := m) (by omega) (by omega) h2 with ⟨h3, _⟩ | ⟨_, h3⟩
    · exact absurd h3 hc
    · exact h3

theorem ack_car {w : World} {g B : Nat} {I : Ik} {S : Sd} {first : Int} {c ni m n r : Nat} (H : Snd w g B S) (hS : CS first n r c S) (hL : Lk first c ni S I) (hm : m < c) (hm8 : c ≤ m + 8) (ht : Tkn first ni I m) :
    Calls Try.prog 17 #[.pointer (some ⟨g, 0, none⟩), .int .u16 (sq first m)] w fun e w' => ∃ code S', e = .returned (.int .i64 code) ∧ Snd w' g B S' ∧ CS first n r c S' ∧ Lk first c ni S' I ∧ Chg g S.v w w' := by
  have hlen := hS.fit.ok.len (by rw [hS.win]; omega)
  rw [hS.win] at hlen
  by_cases hx : pix S.first (sq first m) S.ps < S.ps.length
  · refine (ack_ok H (by omega) hS.dead (sq first m) hx).mono ?_
    rintro e w' ⟨rfl, v', H', C', _⟩
    exact ⟨0, _, rfl, H', hS.cut v' _, hL.cut hS v' hm hm8 ht hx, C'⟩
  · refine (ack_none H (by omega) hS.dead (sq first m) (by unfold pixI; rw [if_neg hx]; decide)).mono ?_
    rintro e w' ⟨rfl, hb⟩
    exact ⟨4, S, rfl, H.keep hb, hS, hL, Chg.of_below hb⟩

theorem lossy_at {w : World} {a : Option Addr} {len cap : Nat} (hw : IsBools w a len) (hm : len ≤ maxLen) (x : Int) (h0 : 0 ≤ x) (h1 : x ≤ 100000) : ∃ t, ∀ W, Below w.heap.size w W → Calls Try.prog 26 #[.slice a len cap, .int .i64 x] W fun e w' => e = .returned (.bool t) ∧ w' = W := by
  have hm' : (len : Int) ≤ 9223372036854775807 := by unfold maxLen at hm; omega
  by_cases hz : len = 0
  · refine ⟨false, fun W _ => ?_⟩
    obtain ⟨t, ht⟩ := lossy_any (w := W) (a := a) (len := len) (cap := cap) (fun i hi => by omega) hm 0 (by omega)
    subst hz
    clear ht
    go_enter Try.func26, Try.ntmps26
    go_wp2_with fail
    go_ret
    exact ⟨rfl, rfl⟩
  · obtain ⟨b, off, t, rfl, hb, hc⟩ := hw (x.toNat % len) (Nat.mod_lt _ (by omega))
    refine ⟨t, fun W hW => ?_⟩
    have hc' : W.cell? ⟨b, off + x.toNat % len, none⟩ = some (.bool t) := by rw [hW.cell hb]; exact hc
    have i0 : (0 : Int) < (len : Int) := by omega
    have i1 : ¬ (len : Int) = 0 := by omega
    have e : Int.tmod x (len : Int) = ((x.toNat % len : Nat) : Int) := by
      rw [Int.tmod_eq_emod_of_nonneg (by omega), Int.natCast_emod, Int.toNat_of_nonneg h0]
    have i2 : ((x.toNat % len : Nat) : Int) < (len : Int) := by have := Nat.mod_lt x.toNat (show 0 < len by omega); omega
    have i3 : (0 : Int) ≤ ((x.toNat % len : Nat) : Int) := by omega
    generalize x.toNat % len = j at *
    clear hw hm hc
    go_enter Try.func26, Try.ntmps26
    go_wp2_with fail
    go_ret
    exact ⟨rfl, rfl⟩

theorem hd_ge (n : Nat) : n ≤ (hdAt n).g ∧ n ≤ (hdAt n).mb ∧ n ≤ (hdAt n).c := ⟨by simp [hdAt], by simp [hdAt], by simp [hdAt]⟩
end Go.Proofs.Yteihajppgooadaa
