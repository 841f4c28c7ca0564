/- The ring: a tote goes round. Knows no program. -/
import Derived.Test.YthcdfclhenmleaaPag
import Derived.Test.YthcdfclhenmleaaPmu
import Derived.Test.YthcdfclhenmleaaPtm
namespace Go.Proofs.Ythcdfclhenmleaa
set_option linter.unusedVariables false
set_option linter.unusedSectionVars false
def rgNd (i : Nat) : Nd := ⟨⟨#[110, UInt8.ofNat (97 + i)]⟩, 1, 0⟩
def rgN (n : Nat) : List Nd := (List.range n).map rgNd
def rgEd (n i : Nat) : Ed := ((i : Int), (((i + 1) % n : Nat) : Int))
def rgE (n : Nat) : List Ed := (List.range n).map (rgEd n)
set_option maxRecDepth 100000 in
theorem rg_good {n : Nat} (h : 2 ≤ n ∧ n ≤ 7) : good (rgN n) (rgE n) = true := by
  rcases (show n = 2 ∨ n = 3 ∨ n = 4 ∨ n = 5 ∨ n = 6 ∨ n = 7 by omega) with rfl | rfl | rfl | rfl | rfl | rfl <;> decide +kernel
theorem mod9 {n : Nat} (h : 2 ≤ n ∧ n ≤ 7) (i : Nat) : i % n < n ∧ (i + 1) % n = if i % n + 1 = n then 0 else i % n + 1 := by
  rcases (show n = 2 ∨ n = 3 ∨ n = 4 ∨ n = 5 ∨ n = 6 ∨ n = 7 by omega) with rfl | rfl | rfl | rfl | rfl | rfl <;> (refine ⟨by omega, ?_⟩; split <;> omega)
theorem mod8 {n : Nat} (h : 2 ≤ n ∧ n ≤ 7) {i j : Nat} (h1 : j < i + 1) (h2 : i + 1 ≤ j + n) (h3 : j % n = i % n) : j = i := by
  rcases (show n = 2 ∨ n = 3 ∨ n = 4 ∨ n = 5 ∨ n = 6 ∨ n = 7 by omega) with rfl | rfl | rfl | rfl | rfl | rfl <;> omega
def sq9 (f : Int) (j : Nat) : Int := (f + j) % 65536
structure Ring (n : Nat) (f : Int) (i : Nat) (S : Pl) : Prop where
  ok : S.Ok n (rgE n)
  ats : ∀ x : Nat, x < n → S.att (x : Int) = if x = i % n then 1 else 0
  mv : S.mv = i
  bk : ∀ k : Nat, k < n → (S.dev ((k : Int) + 1)).bk = false
  nv : ∀ k : Nat, k < n → i ≤ k → (S.dev ((k : Int) + 1)).tt = 0
  la : ∀ k j : Nat, k < n → j < i → i ≤ j + n → j % n = k → (S.dev ((k : Int) + 1)).sq = sq9 f j ∧ (S.dev ((k : Int) + 1)).tt = 1
section
variable {n : Nat} {f : Int} {i : Nat} {S : Pl} (hn : 2 ≤ n ∧ n ≤ 7) (hf : 0 ≤ f ∧ f ≤ 65535)
include hn
theorem Ring.isN (H : Ring n f i S) {x : Nat} (hx : x < n) : S.isN (x : Int) = true := Pl.isN_iff.2 (by have := H.ok.ln; omega)
theorem Ring.isD (H : Ring n f i S) {k : Nat} (hk : k < n) : S.isD ((k : Int) + 1) = true := Pl.isD_iff.2 (by have := H.ok.len; have hl : (rgE n).length = n := (by simp [rgE]); omega)
theorem Ring.ends (H : Ring n f i S) {k : Nat} (hk : k < n) : (S.dev ((k : Int) + 1)).fr = (k : Int) ∧ (S.dev ((k : Int) + 1)).en = (((k + 1) % n : Nat) : Int) := by
  have h := H.ok.edge (H.isD hn hk)
  rw [show ((k : Int) + 1 - 1).toNat = k by omega] at h
  unfold rgE at h
  rw [rmap_at _ hk] at h
  unfold rgEd at h
  have h1 := Option.some.inj h
  simp only [Prod.mk.injEq] at h1
  exact ⟨h1.1.symm, h1.2.symm⟩
theorem Ring.wrk (H : Ring n f i S) {k : Nat} (hk : k < n) : S.wrk ((k : Int) + 1) = true := by
  unfold Pl.wrk; rw [H.isD hn hk, H.bk k hk]; rfl
theorem Ring.whr (H : Ring n f i S) : S.whr 1 = ((i % n : Nat) : Int) := by
  have hk := (mod9 hn i).1
  exact whr_of H.ok (by decide) (H.isN hn hk) (by rw [H.ats _ hk, if_pos rfl])
include hf
theorem Ring.step (H : Ring n f i S) : S.hear ⟨1, ((i % n : Nat) : Int) + 1, sq9 f i, 1, 0⟩ = ((⟨2, ((i % n : Nat) : Int) + 1, sq9 f i, 1, 0⟩, true), S.go ⟨1, ((i % n : Nat) : Int) + 1, sq9 f i, 1, 0⟩) ∧ Ring n f (i + 1) (S.go ⟨1, ((i % n : Nat) : Int) + 1, sq9 f i, 1, 0⟩) := by
  obtain ⟨hk, hm⟩ := mod9 hn i
  have hm8 := fun j => mod8 (i := i) (j := j) hn
  have hm7 := fun k : Nat => mod9 hn k
  have hw := H.whr hn
  have hla := fun j => H.la (i % n) j hk
  have hnv := H.nv (i % n) hk
  have hin : n ≤ i → (i - n) % n = i % n := fun h => by rw [Nat.mod_eq_sub_mod h]
  have hlt : i < n → i % n = i := fun h => Nat.mod_eq_of_lt h
  generalize hkk : i % n = k at *
  have hD := H.isD hn hk
  obtain ⟨e1, e2⟩ := H.ends hn hk
  have hmk : (k + 1) % n = (i + 1) % n := by rw [← hkk, Nat.mod_add_mod]
  rw [hmk] at e2
  have ht : Tl.In ⟨1, (k : Int) + 1, sq9 f i, 1, 0⟩ := by
    unfold Tl.In sq9
    refine ⟨⟨?_, ?_⟩, ⟨?_, ?_⟩, ⟨?_, ?_⟩, ⟨?_, ?_⟩, ⟨?_, ?_⟩⟩ <;> dsimp only <;> omega
  have key : Pl.jst (S.dev ((k : Int) + 1)) ⟨1, (k : Int) + 1, sq9 f i, 1, 0⟩ = false ∧ Pl.lte (S.dev ((k : Int) + 1)) ⟨1, (k : Int) + 1, sq9 f i, 1, 0⟩ = false := by
    unfold Pl.jst Pl.lte
    by_cases h : i < n
    · rw [hnv (by have := hlt h; omega)]
      exact ⟨rfl, rfl⟩
    · obtain ⟨q1, q2⟩ := hla (i - n) (by omega) (by omega) (hin (by omega))
      rw [q1, q2]
      unfold sq9 dst up
      dsimp only
      rw [show decide ((f + ((i - n : Nat) : Int)) % 65536 = (f + (i : Int)) % 65536) = false from decide_eq_false (by omega), show decide (0 < if ((f + (i : Int)) % 65536 - (f + ((i - n : Nat) : Int)) % 65536) % 65536 < 32768 then ((f + (i : Int)) % 65536 - (f + ((i - n : Nat) : Int)) % 65536) % 65536 else ((f + (i : Int)) % 65536 - (f + ((i - n : Nat) : Int)) % 65536) % 65536 - 65536) = true from decide_eq_true (by split <;> omega)]
      exact ⟨rfl, rfl⟩
  have hen : ((i + 1) % n) < n := (hm7 (i + 1)).1
  have hne : (i + 1) % n ≠ k := by rw [hm]; split <;> omega
  refine ⟨?_, ?_⟩
  · unfold Pl.hear
    dsimp only
    rw [H.wrk hn hk, if_neg (show ¬ (true = false) by simp), if_pos rfl]
    unfold Pl.mov
    dsimp only
    rw [key.1, key.2, if_neg (show ¬ (false = true) by simp), if_neg (show ¬ (false = true) by simp), hw, e1, if_neg (show ¬ ((k : Int) ≠ (k : Int)) by simp), e2, H.ats _ hen, hkk, if_neg hne, if_neg (show ¬ ((0 : Int) ≠ 0) by simp)]
    rfl
  · have hat := go_att H.ok (t := ⟨1, (k : Int) + 1, sq9 f i, 1, 0⟩) hD
    have hdv := fun d hd => go_dev (S := S) (t := ⟨1, (k : Int) + 1, sq9 f i, 1, 0⟩) (d := d) hD hd
    have hok := H.ok.go ht hD (by rw [e1]; exact hw)
    refine ⟨hok, fun x hx => ?_, ?_, fun k' hk' => ?_, fun k' hk' h => ?_, fun k' j hk' h1 h2 h3 => ?_⟩
    · rw [hat]
      dsimp only
      rw [e1, e2]
      by_cases a1 : x = (i + 1) % n
      · rw [if_pos (by rw [a1]), if_pos a1]
      · rw [if_neg (fun z => a1 (by exact_mod_cast z)), if_neg a1]
        by_cases a2 : x = k
        · rw [if_pos (by rw [a2])]
        · rw [if_neg (fun z => a2 (by exact_mod_cast z)), H.ats x hx, if_neg (by rw [hkk]; exact a2)]
    · show S.mv + 1 = _
      rw [H.mv]; push_cast; rfl
    · rw [hdv _ (H.isD hn hk')]
      split
      · exact H.bk k hk
      · exact H.bk k' hk'
    · rw [hdv _ (H.isD hn hk')]
      dsimp only
      rw [if_neg (show ¬ ((k' : Int) + 1 = (k : Int) + 1) from fun z => by have := Nat.mod_le i n; omega)]
      exact H.nv k' hk' (by omega)
    · rw [hdv _ (H.isD hn hk')]
      dsimp only
      by_cases a : k' = k
      · subst a
        rw [if_pos rfl]
        have := hm8 j h1 h2 (by rw [h3])
        subst this
        exact ⟨rfl, rfl⟩
      · rw [if_neg (show ¬ ((k' : Int) + 1 = (k : Int) + 1) by omega)]
        exact H.la k' j hk' (by rcases Nat.lt_or_ge j i with q | q; exact q; have : j = i := by omega
                                subst this; rw [hkk] at h3; omega) (by omega) h3
theorem Ring.late (H : Ring n f (i + 1) S) (hi : n ≤ i) : S.hear ⟨1, ((i % n : Nat) : Int) + 1, (f + (i : Int) - (n : Int)) % 65536, 1, 0⟩ = ((tz, false), S) := by
  obtain ⟨hk, hm⟩ := mod9 hn i
  obtain ⟨q1, q2⟩ := H.la (i % n) i hk (by omega) (by omega) rfl
  unfold Pl.hear
  dsimp only
  rw [H.wrk hn hk, if_neg (show ¬ (true = false) by simp), if_pos rfl]
  unfold Pl.mov
  dsimp only
  have key : Pl.jst (S.dev (((i % n : Nat) : Int) + 1)) ⟨1, ((i % n : Nat) : Int) + 1, (f + (i : Int) - (n : Int)) % 65536, 1, 0⟩ = false ∧ Pl.lte (S.dev (((i % n : Nat) : Int) + 1)) ⟨1, ((i % n : Nat) : Int) + 1, (f + (i : Int) - (n : Int)) % 65536, 1, 0⟩ = true := by
    unfold Pl.jst Pl.lte
    rw [q1, q2]
    unfold sq9 dst up
    dsimp only
    rw [show decide ((f + (i : Int)) % 65536 = (f + (i : Int) - (n : Int)) % 65536) = false from decide_eq_false (by omega), show decide (0 < if ((f + (i : Int) - (n : Int)) % 65536 - (f + (i : Int)) % 65536) % 65536 < 32768 then ((f + (i : Int) - (n : Int)) % 65536 - (f + (i : Int)) % 65536) % 65536 else ((f + (i : Int) - (n : Int)) % 65536 - (f + (i : Int)) % 65536) % 65536 - 65536) = false from decide_eq_false (by split <;> omega)]
    exact ⟨rfl, rfl⟩
  rw [key.1, key.2, if_neg (show ¬ (false = true) by simp), if_pos rfl]
omit hf in
theorem Ring.zero : ∃ S1, (Pl.nw n (rgE n)).put 1 0 = (0, S1) ∧ Ring n f 0 S1 := by
  have hok : (Pl.nw n (rgE n)).Ok n (rgE n) := by
    obtain ⟨g1, g2, g3⟩ := good_he (rg_good hn)
    have hl : (rgN n).length = n := by simp [rgN]
    rw [hl] at g1 g3
    exact Pl.nw_ok g1 g2 g3
  have hN : (Pl.nw n (rgE n)).isN 0 = true := Pl.isN_iff.2 (by have := hok.ln; omega)
  have hz : ∀ x, (Pl.nw n (rgE n)).att x = 0 := fun x => by
    cases q : (Pl.nw n (rgE n)).isN x with
    | false => exact Pl.att_out q
    | true => exact List.eq_of_mem_replicate (List.mem_of_getElem? (Pl.att_at q))
  have hw : (Pl.nw n (rgE n)).whr 1 = -1 := by
    unfold Pl.whr
    rw [if_pos (by decide)]
    exact loc_no (fun q => by have := List.eq_of_mem_replicate q; omega)
  have hp : (Pl.nw n (rgE n)).put 1 0 = (0, { Pl.nw n (rgE n) with ts := (Pl.nw n (rgE n)).ts.set (0 : Int).toNat 1 }) := by
    unfold Pl.put
    rw [if_neg (by rw [hN]; simp [isT]), hw, if_neg (by simp), hz, if_neg (by simp)]
  have hok1 := hok.put 1 0
  rw [hp] at hok1
  refine ⟨_, hp, hok1, fun x hx => ?_, rfl, fun k hk => ?_, fun k hk _ => ?_, fun k j hk h1 => by omega⟩
  · have := att_set (ds := (Pl.nw n (rgE n)).ds) (v := (Pl.nw n (rgE n)).mv) hN 1 (x : Int)
    rw [Nat.zero_mod]
    refine this.trans ?_
    by_cases a : x = 0
    · rw [if_pos (by omega), if_pos a]
    · rw [if_neg (by omega), if_neg a, hz]
  · have hD : (Pl.nw n (rgE n)).isD ((k : Int) + 1) = true := Pl.isD_iff.2 (by have := hok.len; have hl : (rgE n).length = n := (by simp [rgE]); omega)
    obtain ⟨e, _, he⟩ := List.mem_map.1 (Pl.dev_at hD).2
    show ((Pl.nw n (rgE n)).dev ((k : Int) + 1)).bk = false
    rw [← he]; rfl
  · have hD : (Pl.nw n (rgE n)).isD ((k : Int) + 1) = true := Pl.isD_iff.2 (by have := hok.len; have hl : (rgE n).length = n := (by simp [rgE]); omega)
    obtain ⟨e, _, he⟩ := List.mem_map.1 (Pl.dev_at hD).2
    show ((Pl.nw n (rgE n)).dev ((k : Int) + 1)).tt = 0
    rw [← he]; rfl
end
end Go.Proofs.Ythcdfclhenmleaa
