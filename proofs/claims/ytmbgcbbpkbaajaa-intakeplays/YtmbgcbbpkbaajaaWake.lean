/- How many are taken over is one number; awake answers true and makes new memory alone. -/
import Derived.Test.YtmbgcbbpkbaajaaTak2
import Derived.Lib.SlBytesConst
namespace Go.Proofs.Ytmbgcbbpkbaajaa
open Go.Conc Go.RowKit Go.Maps Go.ChangeMaps
set_option linter.unusedVariables false

theorem Ik.There.uniq {S : Ik} {j k : Nat} (h : S.There j) (hn : S.wait ((S.nx + j) % 65536) = none) (h' : S.There k) (hn' : S.wait ((S.nx + k) % 65536) = none) : j = k := by
  rcases Nat.lt_trichotomy j k with h1 | h1 | h1
  · exact absurd hn (h' j h1)
  · exact h1
  · exact absurd hn' (h k h1)
theorem Ik.there0 (S : Ik) : S.There 0 := fun i hi => by omega

theorem rd_new (w : World) (C : Array Value) (xs : List Int) (hC : C.toList = bytesE.fl xs) (fr : Nat × Nat) (g n c : Nat) (hg : g = w.heap.size) (hn : n = xs.length) : bytesE.Rd (w.alloc (.cells C 5 fr)) (.slice (some ⟨g, 0, none⟩) n c) xs := by
  subst hg hn
  refine .inr ⟨_, c, rfl, fun i hi => ?_⟩
  rw [addr_plain, Nat.zero_add]
  have e : (w.alloc (.cells C 5 fr)).heap[w.heap.size]? = some (.cells C 5 fr) := by
    show (w.heap.push (.cells C 5 fr))[w.heap.size]? = _
    simp
  unfold World.cell?
  simp only [e]
  show C[i]? = _
  rw [← hC]; simp

theorem hd_ge (n : Nat) : n ≤ (hdAt n).g ∧ n ≤ (hdAt n).mb ∧ n ≤ (hdAt n).c := ⟨by simp [hdAt], by simp [hdAt], by simp [hdAt]⟩

def s0 : Ik := Ik.new 4 65535
def s1 (p : Dt) : Ik := (s0.put 0 p).go 0
def s2 (p p' : Dt) : Ik := ((s1 p).put 65535 p').go 2

theorem s1_put (p p' : Dt) : ((s1 p).put 65535 p').There 2 ∧ ((s1 p).put 65535 p').wait ((((s1 p).put 65535 p').nx + (2 : Nat)) % 65536) = none := by
  refine ⟨fun i hi => ?_, rfl⟩
  match i, hi with
  | 0, _ => intro h; cases h
  | 1, _ => intro h; cases h

theorem s0_in : s0.Inw := fun x _ _ h => absurd rfl h
theorem s2_len (p p' : Dt) : ((s2 p p').q.length : Int) = 2 := rfl
theorem s2_nx (p p' : Dt) : (s2 p p').nx = 1 := rfl
theorem s2_two (p p' : Dt) : (s2 p p').code 65535 ([] : List Int).length = 2 := rfl
theorem s2_far (p p' : Dt) : (s2 p p').code 9 ([] : List Int).length = 40 := rfl

set_option maxHeartbeats 2000000 in
theorem awake_any (w : World) : Calls Try.prog 9 #[] w fun e w' => e = .returned (.bool true) ∧ Below w.heap.size w w' := by
  have kc := fun (w : World) (C : Array Value) (n c : Nat) => Lib.run_convert_bytes_const (P := Try.prog) w 33 5 C n c Try.underlying33 Try.underlying5
  obtain ⟨g0, g1, g2⟩ := hd_ge w.heap.size
  go_enter Try.func9, Try.ntmps9
  go_upto_region 2 with (go_at_call 10; refine (new_ok 4 65535 _ (by omega) (by omega) (by omega) (by omega)).mono ?_; rintro e w1 ⟨rfl, H1, B1, Z1⟩)
  have H1' : Has w1 (hdAt w.heap.size) s0 := H1
  have HB1 := hide B1
  clear H1 B1 Z1
  go_wp2_with fail
  refine (take_ok (h := hdAt w.heap.size) (S := s0) (l := [98]) (H1'.keep ((Below.refl _ _).alloc (Nat.le_refl _) _)) s0_in (by decide) (rd_new w1 _ [98] rfl _ _ _ _ rfl rfl) 0 (by omega) (by omega) rfl).mono ?_
  rintro e w2 ⟨rfl, p, j, _, _, j1, j2, H2, I2, O2⟩
  have ej := j1.uniq j2 (Ik.there0 _) rfl
  subst ej
  have HO2 := hide ((Only.of_below (h := hdAt w.heap.size) ((Below.refl w1.heap.size w1).alloc (Nat.le_refl _) _)).trans O2)
  clear O2 j1 j2 H1'
  go_wp2_with fail
  refine (take_ok (h := hdAt w.heap.size) (S := s1 p) (l := []) H2 I2 (show 1 ≤ 1000000 by omega) (.inl ⟨rfl, rfl⟩) 65535 (by omega) (by omega) rfl).mono ?_
  rintro e w3 ⟨rfl, p', j, _, _, j1, j2, H3, I3, O3⟩
  have ej := j1.uniq j2 (s1_put p p').1 (s1_put p p').2
  subst ej
  have HO3 := hide (HO2.out.trans O3)
  clear O3 j1 j2 H2 HO2 I2
  have H3' : Has w3 (hdAt w.heap.size) (s2 p p') := H3
  clear H3
  go_wp2_with fail
  refine (ready_any H3').mono ?_
  rintro e w4 ⟨rfl, rfl⟩
  rw [s2_len]
  go_wp2_with fail
  refine (next_any H3').mono ?_
  rintro e w5 ⟨rfl, rfl⟩
  rw [s2_nx]
  go_wp2_with fail
  refine (take_no (l := []) H3' (.inl ⟨rfl, rfl⟩) 65535 (by omega) (by omega) (by simp) (by rw [s2_two]; decide)).mono ?_
  rintro e w6 ⟨rfl, n6, rfl⟩
  rw [s2_two]
  have H6 := H3'.drewN n6
  go_wp2_with fail
  refine (take_no (l := []) H6 (.inl ⟨rfl, rfl⟩) 9 (by omega) (by omega) (by simp) (by rw [s2_far]; decide)).mono ?_
  rintro e w7 ⟨rfl, n7, rfl⟩
  rw [s2_far]
  go_wp2_with fail
  go_ret
  refine ⟨rfl, ?_⟩
  have := HO3.out.below HB1.out HB1.out.size g0 g1 g2
  exact ⟨this.os, this.tape, this.output, this.size, this.block⟩
end Go.Proofs.Ytmbgcbbpkbaajaa
